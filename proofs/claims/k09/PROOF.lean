import PyProof.Rows.All
import Wide.All
import OpenK.AllK
import Wide.FinOn
import Lean
import PyProof.EqAt
import PyProof.EqKinds
import PyProof.TupleCall
import PySem.Str
import PyProof.NeKinds
import PyProof.SetKind
import PyProof.DictStraight
import PyProof.Rows.TupIn
import PyProof.CollectIter
import PyProof.FactsAll.set
import PyProof.SetNew
import PyProof.Rows.SortShell
import PyProof.Rows.SetFrom
import KE.KSortAsk
import KE.KSortTup
import PyProof.EnumMake
import PyProof.EnumFor
import PySem.Challenge.RW_tablefolk_k09_whole_what_is_left
theorem PySem.W.Fast.tw15456978475216690492 : True := trivial
theorem PySem.W.Fast.tw2204311550687533325 : True := trivial
theorem PySem.W.Fast.tw3768930139600235483 : True := trivial
theorem PySem.W.Fast.tw15918459274204949002 : True := trivial
theorem PySem.W.Fast.tw4368137877686582219 : True := trivial
set_option Elab.async false
set_option linter.all false
set_option maxRecDepth 100000
namespace L2
open PySem PySem.Spec PyProof.Rows
noncomputable abbrev Key:=Sum Int Str
noncomputable def ZeI:Key→Value→Bool
 | .inl k,v=>Value.isInt k v
 | .inr x,v=>Value.isStrOf x v
noncomputable def keyH (w:World):Key→Int
 | .inl k=>hashInt k
 | .inr x=>hashStr w x
theorem YC:∀ {k:Key} {v:Value},ZeI k v=true→(∃ i t,k=Sum.inl i∧v=Value.int i t)∨(∃ x t,k=Sum.inr x∧v=Value.str x t)
 | .inl i,v,h=>by
  obtain ⟨t,e⟩:=Value.isInt_shape (k:=i) (v:=v) h
  exact .inl ⟨i,t,rfl,e⟩
 | .inr x,v,h=>by
  obtain ⟨t,e⟩:=Value.isStrOf_shape (x:=x) (v:=v) h
  exact .inr ⟨x,t,rfl,e⟩
theorem ZkZ (i:Int)(t:Tok):ZeI (.inl i) (.int i t)=true:=by simp [ZeI,Value.isInt]
theorem ZlT (x:Str)(t:Tok):ZeI (.inr x) (.str x t)=true:=by simp [ZeI,Value.isStrOf]
theorem Zpm (a b:Int):decide ((Sum.inl a:Key)=Sum.inl b)=(a == b):=by
 by_cases e:a=b
 ·subst e;simp
 ·have h:¬ (Sum.inl a:Key)=Sum.inl b:=fun q=>e (Sum.inl.inj q)
  rw [decide_eq_false h]
  exact (beq_eq_false_iff_ne.mpr e).symm
theorem Zo4 (a b:Str):decide ((Sum.inr a:Key)=Sum.inr b)=decide (a=b):=by
 by_cases e:a=b
 ·subst e;simp
 ·have h:¬ (Sum.inr a:Key)=Sum.inr b:=fun q=>e (Sum.inr.inj q)
  rw [decide_eq_false h,decide_eq_false e]
theorem Zpo (a:Int)(b:Str):decide ((Sum.inl a:Key)=Sum.inr b)=false:=decide_eq_false (fun q=>nomatch q)
theorem ZoO (a:Str)(b:Int):decide ((Sum.inr a:Key)=Sum.inl b)=false:=decide_eq_false (fun q=>nomatch q)
noncomputable def Yx (prog:Program) (w:World):PySem.KeyKind prog w Key where
 is:=ZeI
 hash:=keyH w
 inj:=fun v a b ha hb=>by
  rcases YC ha with ⟨i,t,rfl,rfl⟩ | ⟨x,t,rfl,rfl⟩
  ·rcases YC hb with ⟨j,u,rfl,e⟩ | ⟨y,u,rfl,e⟩
   ·injection e with e1 _;rw [e1]
   ·exact nomatch e
  ·rcases YC hb with ⟨j,u,rfl,e⟩ | ⟨y,u,rfl,e⟩
   ·exact nomatch e
   ·injection e with e1 _;rw [e1]
 byValue:=fun k v h=>by
  rcases YC h with ⟨i,t,rfl,rfl⟩ | ⟨x,t,rfl,rfl⟩ <;> rfl
 pyHash:=fun hv h=>by
  rcases YC hv with ⟨i,t,rfl,rfl⟩ | ⟨x,t,rfl,rfl⟩
  ·exact wpAny_pyHash_int h
  ·exact wpAny_pyHash_str h
 eqBool:=fun hu hv h=>by
  rcases YC hu with ⟨i,t,rfl,rfl⟩ | ⟨x,t,rfl,rfl⟩
  ·rcases YC hv with ⟨j,u,rfl,rfl⟩ | ⟨y,u,rfl,rfl⟩
   ·rw [Zpm] at h;exact wpAny_eqBool_int h
   ·rw [Zpo] at h;exact SeqAt.EqAt.int_str i t y u _ _ _ _ h
  ·rcases YC hv with ⟨j,u,rfl,rfl⟩ | ⟨y,u,rfl,rfl⟩
   ·rw [ZoO] at h;exact SeqAt.EqAt.str_int x t j u _ _ _ _ h
   ·rw [Zo4] at h;exact wpAny_eqBool_str h
 «strs»:=fun k x t v h=>by
  rcases YC h with ⟨i,u,rfl,e⟩ | ⟨y,u,rfl,e⟩
  ·exact nomatch e
  ·injection e with e1 _
   subst e1
   cases v <;> rfl
theorem Zjb (prog:Program)(w:World)(i:Int)(t:Tok):(Yx prog w).is (.inl i) (.int i t)=true:=ZkZ i t
theorem Zi5 (prog:Program)(w:World)(x:Str)(t:Tok):(Yx prog w).is (.inr x) (.str x t)=true:=ZlT x t
end L2
namespace L2
open PySem PySem.Spec PyProof.Rows
inductive V where
 | non | bl (b:Bool) | int (i:Int) | str (x:Str) | byt (b:Array UInt8) | flt (b:UInt64) | ref (a:Addr) | ty (n:String)
 deriving DecidableEq
noncomputable def RelV:V→Value→Prop
 | .non,u=>u=Value.none
 | .bl b,u=>u=Value.bool b
 | .int i,u=>∃ t,u=Value.int i t
 | .str x,u=>∃ t,u=Value.str x t
 | .byt b,u=>∃ t,u=Value.bytes b t
 | .flt b,u=>∃ t,u=Value.float b t
 | .ref a,u=>u=Value.ref a
 | .ty n,u=>u=Value.type n
noncomputable abbrev Vals:List V→List Value→Prop:=Paired RelV
theorem Vals.length {xs:List V}{us:List Value}(r:Vals xs us):xs.length=us.length:=Paired.length r
theorem Vals.get:∀ {xs:List V} {us:List Value} {i:Nat} {x:V},Vals xs us→xs[i]?=some x→∃ u,us[i]?=some u∧RelV x u
 | _,_,_,_,.nil,e=>by simp at e
 | _,_,0,_,.cons r _,e=>by simp at e;subst e;exact ⟨_,rfl,r⟩
 | _,_,i + 1,x,.cons _ t,e=>by
  obtain ⟨u,h1,h2⟩:=Vals.get (i:=i) (x:=x) t (by simpa using e)
  exact ⟨u,by simpa using h1,h2⟩
theorem Vals.set {x:V}{u:Value}(r:RelV x u):∀ {xs:List V} {us:List Value} (i:Nat),Vals xs us→Vals (xs.set i x) (us.set i u)
 | _,_,_,.nil=>.nil
 | _,_,0,.cons _ t=>.cons r t
 | _,_,i + 1,.cons q t=>.cons q (Vals.set r i t)
theorem Vals.append:∀ {xs ys:List V} {us ws:List Value},Vals xs us→Vals ys ws→Vals (xs++ys) (us++ws)
 | _,_,_,_,.nil,s=>s
 | _,_,_,_,.cons r t,s=>.cons r (Vals.append t s)
noncomputable def RelO:Option V→Option Value→Prop
 | some v,some u=>RelV v u
 | none,none=>True
 | _,_=>False
noncomputable def KV {κ:Type}:List (κ × V)→List (κ × Value)→Prop:=Paired fun (p:κ × V) (q:κ × Value)=>p.1=q.1∧RelV p.2 q.2
noncomputable def kV:Key→V
 | .inl i=>.int i
 | .inr x=>.str x
inductive HO where
 | lst (xs:List V)
 | tup (xs:List V)
 | dK (kvs:List (Key × V)) | dT (kvs:List (List Key × V))
 | set (S:Int→Bool) (n:Nat)
 | ins (C dx:Addr) (fs:List (Str × V))
 | own (x:Addr)
 | xd (fs:List (Str × V))
 | met (f x:Addr)
 | rng (lo hi:Int)
 | frz (o:Obj) (u:HO)
 | tbl (ps:Array Value)
 | ext (φ:Heap→Prop)
noncomputable abbrev Hp:=Addr→Option HO
noncomputable def upd (H:Hp) (a:Addr) (o:HO):Hp:=fun b=>if b=a then some o else H b
theorem Yc {H:Hp}{a:Addr}{o:HO}:upd H a o a=some o:=by unfold upd;rw [if_pos rfl]
theorem Jd {H:Hp}{a b:Addr}{o:HO}(h:b≠a):upd H a o b=H b:=by unfold upd;rw [if_neg h]
theorem Zpx {H:Hp}{a b:Addr}{o u:HO}(h:H a=some o)(h':H b=some u)(d:o≠u):a≠b:=by
 intro e;subst e;rw [h] at h';exact d (Option.some.inj h')
theorem Jc {H:Hp}{a b:Addr}{o:HO}(h:H a=some o)(h':H b=none):a≠b:=by
 intro e;subst e;rw [h] at h';cases h'
section
variable (P:Program) (w:World)
noncomputable def JC (H : Hp) (h : Heap) (a : Addr) : HO → Prop
  | .lst xs => xs.length ≤ sizeLine ∧ ∃ (its : List Value) (n : Nat), Vals xs its ∧ h.get? a = some { cls := .type "list", data := .seq its.toArray n }
  | .tup xs => xs.length ≤ sizeLine ∧ ∃ its : List Value, Vals xs its ∧ IsTup h a its.toArray
  | .dK kvs => kvs.length ≤ sizeLine ∧ (a == sysModules) = false ∧ ∃ vs, KV kvs vs ∧ h.DictOf (Yx P w) a vs
  | .dT kvs => kvs.length ≤ sizeLine ∧ (a == sysModules) = false ∧ ∃ xs : List (List Key × Addr × Value),
      Paired (fun (p : List Key × V) (q : List Key × Addr × Value) => p.1 = q.1 ∧ H q.2.1 = some (.tup (p.1.map kV)) ∧ RelV p.2 q.2.2) kvs xs ∧
      ∃ o es ep, h.get? a = some o ∧ o.ExactDict ∧ o.data = .dict es ep ∧ es.toList = xs.map (entryOfKey (tupleKind (Yx P w))) ∧ (xs.map (·.1)).Nodup
  | .set S n => h.SetOf (intKind P w) a S n
  | .ins C dx fs => H dx = some (.own a) ∧ fs.length ≤ 1000 ∧ dx ≠ a ∧ h.get? a = some (PySem.W.instObj C dx) ∧
      ∃ mA, h.Ns1 dx mA ∧ (∀ f, RelO (fs.lookup f) (mA f)) ∧ PySem.Within mA (fs.map (·.1))
  | .own _ => ∃ o, h.get? a = some o
  | .xd fs => ∃ mA, h.Ns1 a mA ∧ ∀ f, RelO (fs.lookup f) (mA f)
  | .rng lo hi => ∃ t u v, h.get? a = some { cls := .type "range", data := .fields #[.int lo t, .int hi u, .int 1 v] }
  | .frz o u => h.get? a = some o ∧ JC H h a u
  | .tbl ps => h.get? a = some { cls := .none, data := .fields ps }
  | .met f x => h.get? a = some (PySem.W.methodObj (.ref f) (.ref x))
  | .ext φ => φ h ∧ (∃ o, h.get? a = some o) ∧ ∀ h1 h2 : Heap, φ h1 → (∀ o, h1.get? a = some o → h2.get? a = some o) → φ h2
noncomputable def HOk (H:Hp) (h:Heap):Prop:=∀ a o,H a=some o→JC P w H h a o
end
section
variable {P:Program} {w:World} {H H':Hp} {h h':Heap} {a:Addr} {o:HO}
theorem JC.lt (x:JC P w H h a o):a < h.objs.size:=by
 cases o with
 | lst xs=>obtain ⟨_,_,_,_,e⟩:=x;exact Heap.lt_size e
 | tup xs=>obtain ⟨_,_,_,p⟩:=x;exact p.lt
 | dK kvs=>obtain ⟨_,_,_,_,o,_,_,e,_⟩:=x;exact Heap.lt_size e
 | dT kvs=>obtain ⟨_,_,_,_,o,_,_,e,_⟩:=x;exact Heap.lt_size e
 | set S n=>obtain ⟨o,_,_,_,e,_⟩:=x;exact Heap.lt_size e
 | ins C dx fs=>obtain ⟨_,_,_,e,_⟩:=x;exact Heap.lt_size e
 | own y=>obtain ⟨_,e⟩:=x;exact Heap.lt_size e
 | xd fs=>obtain ⟨_,⟨_,_,_,e,_⟩,_⟩:=x;exact Heap.lt_size e
 | rng lo hi=>obtain ⟨_,_,_,e⟩:=x;exact Heap.lt_size e
 | frz ob u=>obtain ⟨e,_⟩:=x;exact Heap.lt_size e
 | tbl ps=>exact Heap.lt_size (show h.get? a=some _ from x)
 | met f y=>exact Heap.lt_size (show h.get? a=some _ from x)
 | ext φ=>obtain ⟨_,⟨_,e⟩,_⟩:=x;exact Heap.lt_size e
theorem Paired.mapP {α β:Type}{F G:α→β→Prop}:∀ {l₁:List α} {l₂:List β},Paired F l₁ l₂→(∀ a b,F a b→G a b)→Paired G l₁ l₂
 | _,_,.nil,_=>.nil
 | _,_,.cons r t,f=>.cons (f _ _ r) (Paired.mapP t f)
theorem JC.stay (x:JC P w H h a o)(k:∀ b u,(b=a∨H b=some (.own a))→h.get? b=some u→h'.get? b=some u)
  (ho:∀ b,H b=some (.own a)→H' b=some (.own a)) (ht:∀ b xs,H b=some (.tup xs)→H' b=some (.tup xs)):JC P w H' h' a o:=by
 induction o with
 | lst xs=>obtain ⟨z,its,n,r,e⟩:=x;exact ⟨z,its,n,r,k _ _ (.inl rfl) e⟩
 | tup xs=>obtain ⟨z,its,r,ob,e,c⟩:=x;exact ⟨z,its,r,ob,k _ _ (.inl rfl) e,c⟩
 | dK kvs=>obtain ⟨z,y,vs,r,ob,es,ep,e,c⟩:=x;exact ⟨z,y,vs,r,ob,es,ep,k _ _ (.inl rfl) e,c⟩
 | dT kvs =>
  obtain ⟨z,y,xs,r,ob,es,ep,e,c⟩:=x
  exact ⟨z,y,xs,Paired.mapP r fun p q z=>⟨z.1,ht _ _ z.2.1,z.2.2⟩,ob,es,ep,k _ _ (.inl rfl) e,c⟩
 | set S n=>obtain ⟨ob,es,ep,t,e,c⟩:=x;exact ⟨ob,es,ep,t,k _ _ (.inl rfl) e,c⟩
 | ins C dx fs =>
  obtain ⟨d,z,ne,e,mA,⟨od,es,ep,e2,c⟩,r⟩:=x
  exact ⟨ho _ d,z,ne,k _ _ (.inl rfl) e,mA,⟨od,es,ep,k _ _ (.inr d) e2,c⟩,r⟩
 | own y=>obtain ⟨ob,e⟩:=x;exact ⟨ob,k _ _ (.inl rfl) e⟩
 | xd fs=>obtain ⟨mA,⟨od,es,ep,e,c⟩,r⟩:=x;exact ⟨mA,⟨od,es,ep,k _ _ (.inl rfl) e,c⟩,r⟩
 | rng lo hi=>obtain ⟨t,u,v,e⟩:=x;exact ⟨t,u,v,k _ _ (.inl rfl) e⟩
 | frz ob u ih=>obtain ⟨e,q⟩:=x;exact ⟨k _ _ (.inl rfl) e,ih q⟩
 | tbl ps =>
  have e:h.get? a=some { cls:=.none,data:=.fields ps }:=x
  show h'.get? a=some { cls:=.none,data:=.fields ps }
  exact k a _ (.inl rfl) e
 | met f y =>
  have e:h.get? a=some (PySem.W.methodObj (.ref f) (.ref y)):=x
  show h'.get? a=some (PySem.W.methodObj (.ref f) (.ref y))
  exact k a _ (.inl rfl) e
 | ext φ=>obtain ⟨p,⟨o,e⟩,st⟩:=x;exact ⟨st _ _ p fun o q=>k _ _ (.inl rfl) q,⟨o,k _ _ (.inl rfl) e⟩,st⟩
theorem HOk.lt (x:HOk P w H h)(e:H a=some o):a < h.objs.size:=(x a o e).lt
theorem HOk.fresh (x:HOk P w H h)(e:h.objs.size≤a):H a=none:=by
 cases q:H a with
 | none=>rfl
 | some u=>exact absurd (Nat.lt_of_lt_of_le (x.lt q) e) (Nat.lt_irrefl _)
theorem HOk.kept (x:HOk P w H h)(k:∀ b u,h.get? b=some u→h'.get? b=some u):HOk P w H h':=fun a o e =>
 (x a o e).stay (fun b u _ q=>k b u q) (fun _ q=>q) fun _ _ q=>q
theorem HOk.laid (x:HOk P w H h)(k:∀ b u,h.get? b=some u→h'.get? b=some u)(hp:h.objs.size≤a)(new:JC P w (upd H a o) h' a o):HOk P w (upd H a o) h':=fun b u e=>by
 have hn:=x.fresh hp
 by_cases hb:b=a
 ·subst hb;rw [Yc] at e;cases e;exact new
 ·rw [Jd hb] at e
  exact (x b u e).stay (fun c v _ q=>k c v q) (fun c q=>by rw [Jd (Jc q hn)];exact q) fun c xs q=>by rw [Jd (Jc q hn)];exact q
end
noncomputable def Rd (H:Hp) (a:Addr) (u:HO):Prop:=H a=some u∨∃ o,H a=some (.frz o u)
theorem Rd.ok {P:Program}{w:World}{H:Hp}{h:Heap}{a:Addr}{u:HO}(r:Rd H a u)(x:HOk P w H h):JC P w H h a u:=by
 rcases r with r | ⟨o,r⟩
 ·exact x a u r
 ·obtain ⟨_,q⟩:=x a _ r
  exact q
noncomputable def Mut:Option HO→Prop
 | some (.lst _)=>True
 | some (.dK _)=>True
 | some (.dT _)=>True
 | some (.set _ _)=>True
 | some (.ins _ _ _)=>True
 | some (.ext _)=>True
 | _=>False
section
variable {P:Program} {w:World} {H:Hp} {h h':Heap} {x e:Addr} {o':HO}
theorem HOk.write (ok : HOk P w H h)(mu : Mut (H x))(he : e = x ∨ H e = some (.own x))(k : ∀ b u, b ≠ e → h.get? b = some u → h'.get? b = some u)(heo : ∃ u, h'.get? e = some u)
    (new : JC P w (upd H x o') h' x o') : HOk P w (upd H x o') h' := fun b u q => by
  have nown : ∀ c y, H c = some (.own y) → c ≠ x := fun c y r z => by subst z; rw [r] at mu; exact mu
  have ntup : ∀ c xs, H c = some (.tup xs) → c ≠ x := fun c xs r z => by subst z; rw [r] at mu; exact mu
  by_cases hb : b = x
  · subst hb; rw [Yc] at q; cases q; exact new
  · rw [Jd hb] at q
    by_cases hbe : b = e
    · have q' : H b = some (.own x) := by
        rcases he with z | z
        · exact absurd (hbe.trans z) hb
        · rw [hbe]; exact z
      rw [q] at q'; cases q'
      obtain ⟨v, hv⟩ := heo
      exact ⟨v, by rw [hbe]; exact hv⟩
    · refine (ok b u q).stay (fun c v hc r => k c v ?_ r) (fun c r => by rw [Jd (nown c b r)]; exact r) fun c xs r => by rw [Jd (ntup c xs r)]; exact r
      rcases hc with rfl | hc
      · exact hbe
      · rintro rfl
        rcases he with z | z
        · exact nown c b hc z
        · rw [hc] at z; cases z; exact hb rfl
end
structure Un (fs ex:List Addr)(H H':Hp)(h h':Heap):Prop where
 keep:∀ b o,h.get? b=some o→H b=none→b ∉ fs→b ∉ ex→h'.get? b=some o
 slot:∀ b o,h.get? b=some o→H b=none→b ∈ fs→b ∉ ex→∃ sl,h'.get? b=some { o with slots:=sl }
 free:∀ b o,h.get? b=some o→H b=none→b ∉ ex→H' b=none
 there:∀ b o,h.get? b=some o→b ∉ ex→∃ o',h'.get? b=some o'
 tups:∀ b xs,H b=some (.tup xs)→H' b=some (.tup xs)
 frzs:∀ b o u,H b=some (.frz o u)→H' b=some (.frz o u)
 tbls:∀ b ps,H b=some (.tbl ps)→∃ more,H' b=some (.tbl (ps++more))
section
variable {fs fs' ex ex':List Addr} {H H1 H2:Hp} {h h1 h2 h':Heap} {a x e:Addr} {o:HO}
theorem Un.any (u:Un fs ex H H1 h h1){b:Addr}{ob:Obj}(q:h.get? b=some ob)(n:H b=none)(hx:b ∉ ex):∃ sl,h1.get? b=some { ob with slots:=sl }:=by
 by_cases hb:b ∈ fs
 ·exact u.slot b ob q n hb hx
 ·exact ⟨ob.slots,u.keep b ob q n hb hx⟩
theorem Un.kept (k:∀ b u,h.get? b=some u→h'.get? b=some u):Un fs ex H H h h' :=
 ⟨fun b ob q _ _ _=>k b ob q,fun b ob q _ _ _=>⟨ob.slots,k b ob q⟩,fun _ _ _ n _=>n,fun b ob q _=>⟨ob,k b ob q⟩,fun _ _ q=>q,fun _ _ _ q=>q,fun _ ps q=>⟨#[],by rw [q];simp⟩⟩
theorem Un.refl:Un fs ex H H h h:=Un.kept fun _ _ q=>q
theorem Un.laid (k:∀ b u,h.get? b=some u→h'.get? b=some u)(hp:h.objs.size≤a)(hn:H a=none):Un fs ex H (upd H a o) h h' where
 keep:=fun b u q _ _ _=>k b u q
 slot:=fun b u q _ _ _=>⟨u.slots,k b u q⟩
 free:=fun b u q n _=>by rw [Jd (Nat.ne_of_lt (Nat.lt_of_lt_of_le (Heap.lt_size q) hp))];exact n
 there:=fun b u q _=>⟨u,k b u q⟩
 tups:=fun b xs q=>by rw [Jd (Jc q hn)];exact q
 frzs:=fun b u xs q=>by rw [Jd (Jc q hn)];exact q
 tbls:=fun b ps q=>⟨#[],by rw [Jd (Jc q hn),q];simp⟩
theorem Un.write (mu:Mut (H x))(he:e=x∨H e=some (.own x))(k:∀ b u,b≠e→h.get? b=some u→h'.get? b=some u)(heo:∃ u,h'.get? e=some u):Un fs ex H (upd H x o) h h':=by
 have hx:∀ b,H b=none→b≠x:=fun b n z=>by subst z;rw [n] at mu;exact mu
 have hb:∀ b,H b=none→b≠e:=fun b n z=>by
  subst z
  rcases he with r | r
  ·exact hx b n r
  ·rw [n] at r;cases r
 have hm:∀ b u,H b=some u→¬ Mut (some u)→b≠x:=fun b u q nm z=>by subst z;rw [q] at mu;exact nm mu
 refine ⟨fun b u q n _ _=>k b u (hb b n) q,fun b u q n _ _=>⟨u.slots,k b u (hb b n) q⟩,fun b u q n _=>by rw [Jd (hx b n)];exact n,fun b u q _=>?_,
  fun b xs q=>by rw [Jd (hm b _ q fun z=>z)];exact q,fun b u xs q=>by rw [Jd (hm b _ q fun z=>z)];exact q,fun b ps q=>⟨#[],by rw [Jd (hm b _ q fun z=>z),q];simp⟩⟩
 by_cases hbe:b=e
 ·subst hbe;exact heo
 ·exact ⟨u,k b u hbe q⟩
end
noncomputable def trk (h:Heap) (H:Hp):List Addr:=(List.range h.objs.size).filter fun a=>(H a).isSome
noncomputable def hidT (h:Heap) (H:Hp):Heap:=PySem.W.hideAll h (trk h H)
theorem Zlf (h:Heap)(H:Hp):(hidT h H).objs.size=h.objs.size:=PySem.W.hideAll_size _ _
theorem Zmu {h:Heap}{H:Hp}{b:Addr}{o:Obj}(e:h.get? b=some o)(n:H b=none):(hidT h H).get? b=some o :=
 PySem.W.hideAll_get _ e fun hm=>by
  have q:(H b).isSome=true:=(List.mem_filter.mp hm).2
  rw [n] at q;simp at q
theorem ZnJ {h:Heap}{H:Hp}{b:Addr}{o:Obj}(e:(hidT h H).get? b=some o):h.get? b=some o∧H b=none:=by
 have e':h.get? b=some o:=PySem.W.of_hideAll (trk h H) e
 refine ⟨e',?_⟩
 cases q:H b with
 | none=>rfl
 | some x =>
  have hm:b ∈ trk h H:=List.mem_filter.mpr ⟨List.mem_range.mpr (Heap.lt_size e'),by simp [q]⟩
  have z:(hidT h H).get? b=none:=PySem.W.hideAll_none (trk h H) hm
  rw [z] at e;cases e
noncomputable def ZnK (g h:Heap) (L:Addr):List (Addr × Obj):=(List.range h.objs.size).filterMap fun a=>if a=L∨(g.get? a).isSome=true then none else (h.get? a).map fun o=>(a,o)
noncomputable def rest (g h:Heap) (L d:Addr):List (Addr × Obj):=(ZnK g h L).filter fun p=>decide (p.1≠d)
end L2
namespace L2
open PySem PySem.Spec PyProof.Rows
structure Mod (K:PySem.W.Frag)(mg:Str→Option Value)(base:Heap):Prop where
 kin:K.In base
 glob:base.Ns mainGlobals mg
 blt:∃ mb,base.Ns builtinsNs mb∧∀ x:Str,x≠"__name__"→mb x=bootBuiltins x
 nolimit:base.NoLimit
structure Cx where
 prog:Program
 w:World
 K:PySem.W.Frag
 mg:Str→Option Value
 base:Heap
 A:Around
 N:List Str
 s₀:Shared
 H₀:Hp
 env:Env
 outer:List Env
 stack:List Env
 ex:List Addr
 fn:Str→Bool
 calm:Bool
 pn:List (Addr × Obj)
 xe:Value→Shared→Prop
noncomputable def frs (l:List Env):List Addr:=l.filterMap (·.frame)
noncomputable abbrev Cx.fs (X:Cx):List Addr:=frs X.outer
noncomputable def Vis (sc:Scope) (x:Str):Prop:=sc.names.lookup x=some .local∨sc.names.lookup x=some .cell∨sc.names.lookup x=some .free
noncomputable def Loc (sc:Scope) (x:Str):Prop:=sc.names.lookup x=some .local∨sc.names.lookup x=some .cell
noncomputable def Look (env:Env) (h:Heap) (m:Str→Option Value) (x:Str) (u:Value):Prop :=
 (env.kindOf x=some .local∧m x=some u)∨((env.kindOf x=some .cell∨env.kindOf x=some .free)∧∃ c,env.cells.lookup x=some c∧h.IsCell c (some u))
structure Cx.Ok (X:Cx):Prop where
 mod:Mod X.K X.mg X.base
 kind:X.env.scope.kind=.function
 glob:X.env.globals=mainGlobals
 blt:X.env.builtins=builtinsNs
 above:X.s₀.heap.objs.size≤X.env.locals
 inj:∀ x y c,X.env.cells.lookup x=some c→X.env.cells.lookup y=some c→x=y
 has:∀ x,(X.env.kindOf x=some .cell∨X.env.kindOf x=some .free)→∃ c,X.env.cells.lookup x=some c
 cab:∀ x c,X.fn x=true→X.env.cells.lookup x=some c→X.s₀.heap.objs.size≤c
 hd:X.calm=true→X.A.handled=none
 frames:X.A.frames=some X.stack
 stk:X.stack=X.outer∨(X.stack=X.env::X.outer∧X.env.frame=some X.env.locals)
 exf:∀ b ∈ X.ex,b≠X.env.locals∧∀ x c,X.env.cells.lookup x=some c→c≠b
 bs:∀ b o,X.base.get? b=some o→X.s₀.heap.get? b=some o∧X.H₀ b=none
 bsz:X.base.objs.size≤X.s₀.heap.objs.size
 noex:∀ b o,X.base.get? b=some o→b ∉ X.ex
 exfs:∀ b ∈ X.ex,b ∉ X.fs
 funs:X.s₀.heap.FunFrames X.base X.outer
 frf:∀ b ∈ X.fs,X.H₀ b=none
structure Inv (X:Cx)(pins:List (Addr × Obj))(σ:List (Option V))(H:Hp)(s:Shared):Prop where
 ok:X.Ok
 os:s.os=X.s₀.os
 bare:AllBare s.gens
 base:Un X.fs X.ex X.H₀ H X.s₀.heap s.heap
 loc:∃ m,s.heap.Ns X.env.locals m∧∀ (i:Nat) (x:Str) (v:V),X.N[i]?=some x→σ[i]?=some (some v)→Vis X.env.scope x→∃ u,RelV v u∧Look X.env s.heap m x u
 cell:∀ x c,X.env.cells.lookup x=some c→∃ v,s.heap.IsCell c v
 free:H X.env.locals=none
 freeC:∀ x c,X.env.cells.lookup x=some c→H c=none
 pin:∀ p ∈ X.pn++pins,s.heap.get? p.1=some p.2∧H p.1=none∧p.1≠X.env.locals∧p.1 ∉ X.fs∧∀ v,p.2.data≠.cell v
 hok:HOk X.prog X.w H s.heap
 len:σ.length=X.N.length
section
variable {X:Cx} {pins:List (Addr × Obj)} {σ:List (Option V)} {H H':Hp} {s:Shared} {h':Heap}
theorem Cx.Ok.nofr (ok:X.Ok){b:Addr}{o:Obj}(e:X.base.get? b=some o):b ∉ X.fs:=fun hb=>by
 have:=(ok.funs.mem hb).1
 rw [e] at this;cases this
theorem Inv.bs (I:Inv X pins σ H s):∀ b o,X.base.get? b=some o→s.heap.get? b=some o∧H b=none:=fun b o e =>
 ⟨I.base.keep b o (I.ok.bs b o e).1 (I.ok.bs b o e).2 (I.ok.nofr e) (I.ok.noex b o e),I.base.free b o (I.ok.bs b o e).1 (I.ok.bs b o e).2 (I.ok.noex b o e)⟩
theorem Inv.bk (I:Inv X pins σ H s):∀ b o,X.base.get? b=some o→s.heap.get? b=some o:=fun b o e=>(I.bs b o e).1
theorem Inv.mod (I:Inv X pins σ H s):Mod X.K X.mg X.base:=I.ok.mod
theorem Inv.kIn (I:Inv X pins σ H s):X.K.In s.heap:=I.ok.mod.kin.keeps I.bk
theorem Inv.lt (I:Inv X pins σ H s):X.env.locals < s.heap.objs.size:=let ⟨_,hn,_⟩:=I.loc;hn.lt
theorem Inv.sz (I:Inv X pins σ H s):X.s₀.heap.objs.size≤s.heap.objs.size:=Nat.le_trans I.ok.above (Nat.le_of_lt I.lt)
theorem Inv.nofs (I:Inv X pins σ H s){a:Addr}(h:s.heap.objs.size≤a):a ∉ X.fs:=fun hb=>by
 obtain ⟨_,o,ho,_⟩:=I.ok.funs.mem hb
 exact absurd (Nat.lt_of_lt_of_le (Heap.lt_size ho) (Nat.le_trans I.sz h)) (Nat.lt_irrefl _)
theorem Inv.cne (I:Inv X pins σ H s):∀ x c,X.env.cells.lookup x=some c→c≠X.env.locals:=fun x c e z=>by
 obtain ⟨v,o,ho,hd⟩:=I.cell x c e
 obtain ⟨m,⟨o',es,ep,ho',hd',_⟩,_⟩:=I.loc
 rw [z,ho'] at ho;cases ho;rw [hd'] at hd;cases hd
theorem Inv.funs (I:Inv X pins σ H s):s.heap.FunFrames X.base X.outer:=by
 have all:∀ (l:List Env),(∀ b ∈ frs l,b ∈ X.fs)→X.s₀.heap.FunFrames X.base l→s.heap.FunFrames X.base l:=by
  intro l
  induction l with
  | nil=>intro _ _;trivial
  | cons env r ih =>
   intro hs hl
   obtain ⟨hk,⟨L,o,hf,hn,ho,hd⟩,hr⟩:=hl
   have hL:L ∈ X.fs:=hs L (by unfold frs;rw [List.filterMap_cons,hf];exact List.mem_cons_self)
   obtain ⟨sl,e⟩:=I.base.slot L o ho (I.ok.frf L hL) hL fun z=>I.ok.exfs L z hL
   exact ⟨hk,⟨L,_,hf,hn,e,hd⟩,ih (fun b hb=>hs b (by unfold frs;rw [List.filterMap_cons,hf];exact List.mem_cons_of_mem _ hb)) hr⟩
 exact all X.outer (fun _ hb=>hb) I.ok.funs
theorem Inv.stack (I:Inv X pins σ H s):s.heap.FunFrames X.base X.stack:=by
 rcases I.ok.stk with e | ⟨e,hf⟩
 ·rw [e];exact I.funs
 ·rw [e]
  obtain ⟨m,hn,_⟩:=I.loc
  refine .cons (by rw [I.ok.kind];decide) hf hn ?_ I.funs
  exact Heap.get?_none_of_le (Nat.le_trans I.ok.bsz I.ok.above)
theorem Inv.Zdi (I:Inv X pins σ H s):∀ b ∈ frs X.stack,b ∈ X.env.locals::X.fs:=fun b hb=>by
 rcases I.ok.stk with e | ⟨e,hf⟩
 ·rw [e] at hb;exact List.mem_cons_of_mem _ hb
 ·rw [e] at hb
  unfold frs at hb
  rw [List.filterMap_cons,hf] at hb
  exact hb
theorem Inv.Zjj (I:Inv X pins σ H s):∀ b ∈ frs X.stack,H b=none:=fun b hb=>by
 rcases List.mem_cons.mp (I.Zdi b hb) with e | hb
 ·rw [e];exact I.free
 ·obtain ⟨_,o,ho,_⟩:=I.ok.funs.mem hb
  exact I.base.free b o ho (I.ok.frf b hb) fun z=>I.ok.exfs b z hb
theorem Inv.step {g':Array GenState}{t':Nat}{d':Drawn}{ch:List Addr}(I:Inv X pins σ H s)
  (hch:∀ b ∈ ch,(b ∈ X.ex∨X.s₀.heap.objs.size≤b)∧b≠X.env.locals∧(∀ x c,X.env.cells.lookup x=some c→c≠b)∧∀ p ∈ X.pn++pins,p.1≠b)
  (keep:∀ b o,b≠X.env.locals→b ∉ X.fs→b ∉ ch→s.heap.get? b=some o→H b=none→h'.get? b=some o)
  (slot:∀ b o,b≠X.env.locals→b ∈ X.fs→b ∉ ch→s.heap.get? b=some o→H b=none→∃ sl,h'.get? b=some { o with slots:=sl }) (free:∀ b o,b ∉ ch→s.heap.get? b=some o→H b=none→H' b=none)
  (there:∀ b o,b ∉ ch→s.heap.get? b=some o→∃ o',h'.get? b=some o')
  (tups:∀ b xs,H b=some (.tup xs)→H' b=some (.tup xs)) (frzs:∀ b o u,H b=some (.frz o u)→H' b=some (.frz o u)) (tbls:∀ b ps,H b=some (.tbl ps)→∃ more,H' b=some (.tbl (ps++more)))
  (ns:∀ m,s.heap.Ns X.env.locals m→h'.Ns X.env.locals m) (hok:HOk X.prog X.w H' h') (hg:AllBare g') :
  Inv X pins σ H' { s with heap:=h',gens:=g',drawn:=d',toks:=t' }:=by
 have neL:∀ b o,X.s₀.heap.get? b=some o→b≠X.env.locals:=fun b o e=>Nat.ne_of_lt (Nat.lt_of_lt_of_le (Heap.lt_size e) I.ok.above)
 have neC:∀ b o,X.s₀.heap.get? b=some o→b ∉ X.ex→b ∉ ch:=fun b o e hx hb=>by
  rcases (hch b hb).1 with z | z
  ·exact hx z
  ·exact absurd (Nat.lt_of_lt_of_le (Heap.lt_size e) z) (Nat.lt_irrefl _)
 have cellK:∀ x c,X.env.cells.lookup x=some c→∀ v,s.heap.IsCell c v→h'.IsCell c v:=fun x c e v ⟨o,ho,hd⟩=>by
  have nch:c ∉ ch:=fun z=>(hch c z).2.2.1 x c e rfl
  by_cases hc:c ∈ X.fs
  ·obtain ⟨sl,q⟩:=slot c o (I.cne x c e) hc nch ho (I.freeC x c e)
   exact ⟨_,q,hd⟩
  ·exact ⟨o,keep c o (I.cne x c e) hc nch ho (I.freeC x c e),hd⟩
 refine ⟨I.ok,I.os,hg,⟨fun b o e n hb hx=>?_,fun b o e n hb hx=>?_,fun b o e n hx=>?_,fun b o e hx=>?_,fun b xs e=>tups b xs (I.base.tups b xs e),fun b o xs e=>frzs b o xs (I.base.frzs b o xs e),fun b ps e=>?_⟩,?_,fun x c e=>?_,?_,fun x c e=>?_,fun p hp=>?_,hok,I.len⟩
 ·exact keep b o (neL b o e) hb (neC b o e hx) (I.base.keep b o e n hb hx) (I.base.free b o e n hx)
 ·obtain ⟨sl,e1⟩:=I.base.slot b o e n hb hx
  obtain ⟨sl',e2⟩:=slot b _ (neL b o e) hb (neC b o e hx) e1 (I.base.free b o e n hx)
  exact ⟨sl',e2⟩
 ·obtain ⟨o',e1⟩:=I.base.there b o e hx
  exact free b o' (neC b o e hx) e1 (I.base.free b o e n hx)
 ·obtain ⟨o',e1⟩:=I.base.there b o e hx
  exact there b o' (neC b o e hx) e1
 ·obtain ⟨m1,e1⟩:=I.base.tbls b ps e
  obtain ⟨m2,e2⟩:=tbls b _ e1
  exact ⟨m1++m2,by rw [e2,Array.append_assoc]⟩
 ·obtain ⟨m,hn,hl⟩:=I.loc
  refine ⟨m,ns m hn,fun i x v e1 e2 e3=>?_⟩
  obtain ⟨u,r,l⟩:=hl i x v e1 e2 e3
  refine ⟨u,r,?_⟩
  rcases l with l | ⟨k,c,e,z⟩
  ·exact .inl l
  ·exact .inr ⟨k,c,e,cellK x c e _ z⟩
 ·obtain ⟨v,z⟩:=I.cell x c e
  exact ⟨v,cellK x c e v z⟩
 ·obtain ⟨m,⟨o,_,_,ho,_⟩,_⟩:=I.loc
  exact free _ o (fun z=>(hch _ z).2.1 rfl) ho I.free
 ·obtain ⟨v,o,ho,hd⟩:=I.cell x c e
  exact free c o (fun z=>(hch c z).2.2.1 x c e rfl) ho (I.freeC x c e)
 ·obtain ⟨e,n,ne,nf,d⟩:=I.pin p hp
  have nch:p.1 ∉ ch:=fun z=>(hch p.1 z).2.2.2 p hp rfl
  exact ⟨keep p.1 p.2 ne nf nch e n,free p.1 p.2 nch e n,ne,nf,d⟩
theorem Inv.un {t':Nat}(I:Inv X pins σ H s)(u:Un X.fs [] H H' s.heap h')(hok:HOk X.prog X.w H' h'):Inv X pins σ H' { s with heap:=h',toks:=t' }:=by
 obtain ⟨m,⟨o,es,ep,ho,r⟩,_⟩:=id I.loc
 obtain ⟨sl,hL⟩:=u.any ho I.free (by simp)
 exact I.step (g':=s.gens) (d':=s.drawn) (ch:=[]) (fun _ z=>nomatch z) (fun b o _ hb _ e n=>u.keep b o e n hb (by simp)) (fun b o _ hb _ e n=>u.slot b o e n hb (by simp)) (fun b o _ e n=>u.free b o e n (by simp)) (fun b o _ e=>u.there b o e (by simp)) u.tups u.frzs u.tbls (fun m' hm=>by
  obtain ⟨o',es',ep',ho',r'⟩:=hm
  rw [ho] at ho';cases ho'
  exact ⟨_,es',ep',hL,r'⟩) hok I.bare
theorem Inv.call {g':Array GenState}{t':Nat}{d':Drawn}{ch:List Addr}(I:Inv X pins σ H s)(u:Un (frs X.stack) ch H H' s.heap h')(hok:HOk X.prog X.w H' h')(hg:AllBare g')
  (hch:∀ b ∈ ch,(b ∈ X.ex∨X.s₀.heap.objs.size≤b)∧b≠X.env.locals∧(∀ x c,X.env.cells.lookup x=some c→c≠b)∧∀ p ∈ X.pn++pins,p.1≠b) :
  Inv X pins σ H' { s with heap:=h',gens:=g',drawn:=d',toks:=t' }:=by
 obtain ⟨m,⟨o,es,ep,ho,r⟩,_⟩:=id I.loc
 obtain ⟨sl,hL⟩:=u.any ho I.free fun z=>(hch _ z).2.1 rfl
 exact I.step (ch:=ch) hch (fun b o hL hb hc e n=>u.keep b o e n (fun z=>(List.mem_cons.mp (I.Zdi b z)).elim hL hb) hc) (fun b o _ _ hc e n=>u.any e n hc) (fun b o hc e n=>u.free b o e n hc) (fun b o hc e=>u.there b o e hc) u.tups u.frzs u.tbls (fun m' hm=>by
  obtain ⟨o',es',ep',ho',r'⟩:=hm
  rw [ho] at ho';cases ho'
  exact ⟨_,es',ep',hL,r'⟩) hok hg
theorem Inv.turned {t':Nat}{it:Addr}(I:Inv X pins σ H s)(k:∀ b o,b≠it→s.heap.get? b=some o→h'.get? b=some o)(hn:H it=none)(hL:it≠X.env.locals)
  (h1:it ∈ X.ex∨X.s₀.heap.objs.size≤it) (h2:∀ x c,X.env.cells.lookup x=some c→c≠it) (h3:∀ p ∈ X.pn++pins,p.1≠it):Inv X pins σ H { s with heap:=h',toks:=t' }:=by
 have nit:∀ b u,H b=some u→b≠it:=fun b u e z=>by rw [z,hn] at e;cases e
 refine I.step (g':=s.gens) (d':=s.drawn) (ch:=[it]) (fun b hb=>?_) (fun b o _ _ hc e _=>k b o (fun z=>hc (by simp [z])) e) (fun b o _ _ hc e _=>⟨o.slots,k b o (fun z=>hc (by simp [z])) e⟩) (fun _ _ _ _ n=>n)
  (fun b o hc e=>⟨o,k b o (fun z=>hc (by simp [z])) e⟩) (fun _ _ e=>e) (fun _ _ _ e=>e) (fun b ps e=>⟨#[],by rw [e];simp⟩) (fun m hm=>?_) (fun b u e=>?_) I.bare
 ·have e:b=it:=by simpa using hb
  subst e
  exact ⟨h1,hL,h2,h3⟩
 ·obtain ⟨o,es,ep,ho,r⟩:=hm
  exact ⟨o,es,ep,k _ o (Ne.symm hL) ho,r⟩
 ·refine (I.hok b u e).stay (fun c v hc q=>k c v ?_ q) (fun _ q=>q) fun _ _ q=>q
  rcases hc with z | z
  ·rw [z];exact nit b u e
  ·exact nit c _ z
theorem Inv.tok (I:Inv X pins σ H s)(t:Nat):Inv X pins σ H { s with toks:=t }:=I.un (h':=s.heap) (t':=t) Un.refl I.hok
theorem Inv.kept {t':Nat}(I:Inv X pins σ H s)(k:∀ b u,s.heap.get? b=some u→h'.get? b=some u):Inv X pins σ H { s with heap:=h',toks:=t' }:=I.un (Un.kept k) (I.hok.kept k)
theorem Inv.laid {a:Addr}{o:HO}{t':Nat}(I:Inv X pins σ H s)(k:∀ b u,s.heap.get? b=some u→h'.get? b=some u)(hp:s.heap.objs.size≤a)(new:JC X.prog X.w (upd H a o) h' a o) :
  Inv X pins σ (upd H a o) { s with heap:=h',toks:=t' }:=I.un (Un.laid k hp (I.hok.fresh hp)) (I.hok.laid k hp new)
theorem Inv.write {x e:Addr}{o:HO}{t':Nat}(I:Inv X pins σ H s)(mu:Mut (H x))(he:e=x∨H e=some (.own x))(k:∀ b u,b≠e→s.heap.get? b=some u→h'.get? b=some u)(heo:∃ u,h'.get? e=some u)
  (new:JC X.prog X.w (upd H x o) h' x o):Inv X pins σ (upd H x o) { s with heap:=h',toks:=t' }:=I.un (Un.write mu he k heo) (I.hok.write mu he k heo new)
theorem Inv.Zdp {pins':List (Addr × Obj)}(I:Inv X pins σ H s)(h:∀ p ∈ pins',s.heap.get? p.1=some p.2∧H p.1=none∧p.1≠X.env.locals∧p.1 ∉ X.fs∧∀ v,p.2.data≠.cell v):Inv X pins' σ H s :=
 ⟨I.ok,I.os,I.bare,I.base,I.loc,I.cell,I.free,I.freeC,fun p hp=>(List.mem_append.mp hp).elim (fun z=>I.pin p (List.mem_append_left _ z)) (h p),I.hok,I.len⟩
theorem ZfC {N:List Str}(hN:N.Nodup){i j:Nat}{x:Str}(a:N[i]?=some x)(b:N[j]?=some x):i=j:=by
 obtain ⟨h1,e1⟩:=List.getElem?_eq_some_iff.mp a
 obtain ⟨h2,e2⟩:=List.getElem?_eq_some_iff.mp b
 exact (List.getElem_inj hN).mp (e1.trans e2.symm)
theorem Zlz {M : Model}{A : Around}{E : Value → Shared → Prop}{i : Nat}{x : Str}{v : V}{u : Value}{Q : Unit → Shared → Prop}(I : Inv X pins σ H s)(hN : X.N.Nodup)(hi : X.N[i]? = some x)(hx : Loc X.env.scope x)(r : RelV v u)
    (h : ∀ s', Inv X pins (σ.set i (some v)) H s' → (∃ a, Heap.SameBut a s.heap s'.heap ∧ (a = X.env.locals ∨ X.env.cells.lookup x = some a)) → Q () s') (hf : X.fn x = true ∨ X.env.scope.names.lookup x = some .local := by first | exact .inl rfl | exact .inr rfl | assumption) : wpAny M A (storeName X.env x u) Q E s := by
  obtain ⟨m, hn, hl⟩ := id I.loc
  have hcls : (X.env.scope.kind == .class || (X.env.scope.kind == .module && X.env.locals != X.env.globals)) = false := by rw [I.ok.kind]; rfl
  have hiσ : i < σ.length := by rw [I.len]; exact (List.getElem?_eq_some_iff.mp hi).1
  have cne := I.cne
  have tracked : ∀ {a : Addr} {h' : Heap}, (∃ o, s.heap.get? a = some o ∧ H a = none) → Heap.SameBut a s.heap h' → HOk X.prog X.w H h' := fun {a h'} ha hs b ob e => by
    obtain ⟨_, _, hfree⟩ := ha
    refine (I.hok b ob e).stay (fun c w' hc q => (hs.2 c ?_).trans q) (fun _ q => q) fun _ _ q => q
    rintro rfl
    rcases hc with rfl | hc
    · rw [hfree] at e; cases e
    · rw [hfree] at hc; cases hc
  rcases hx with hk | hk
  · refine wpAny_storeName_local hk hn (fun h' hn' hs => ?_) hcls
    obtain ⟨oL, _, _, hoL, _⟩ := id hn
    refine h _ ⟨I.ok, I.os, I.bare, ⟨fun b o e n hb hx => ?_, fun b o e n hb hx => ?_, I.base.free, fun b o e hx => ?_, I.base.tups, I.base.frzs, I.base.tbls⟩, ⟨_, hn', fun j y v' e1 e2 e3 => ?_⟩, fun y c e => ?_, I.free, I.freeC, fun p hp => ?_, tracked ⟨oL, hoL, I.free⟩ hs, by simpa using I.len⟩ ⟨_, hs, .inl rfl⟩
    · exact (hs.2 b (Nat.ne_of_lt (Nat.lt_of_lt_of_le (Heap.lt_size e) I.ok.above))).trans (I.base.keep b o e n hb hx)
    · obtain ⟨sl, e1⟩ := I.base.slot b o e n hb hx
      exact ⟨sl, (hs.2 b (Nat.ne_of_lt (Nat.lt_of_lt_of_le (Heap.lt_size e) I.ok.above))).trans e1⟩
    · obtain ⟨o', e1⟩ := I.base.there b o e hx
      exact ⟨o', (hs.2 b (Nat.ne_of_lt (Nat.lt_of_lt_of_le (Heap.lt_size e) I.ok.above))).trans e1⟩
    · by_cases hj : j = i
      · subst hj
        rw [hi] at e1; cases e1
        rw [List.getElem?_set_self hiσ] at e2
        cases e2
        exact ⟨u, r, .inl ⟨hk, by simp⟩⟩
      · rw [List.getElem?_set_ne (Ne.symm hj)] at e2
        obtain ⟨u', r', q⟩ := hl j y v' e1 e2 e3
        refine ⟨u', r', ?_⟩
        rcases q with ⟨k, e⟩ | ⟨k, c, e, z⟩
        · refine .inl ⟨k, ?_⟩
          have : y ≠ x := fun e => hj (ZfC hN e1 (e ▸ hi))
          simp [this, e]
        · exact .inr ⟨k, c, e, z.sameBut hs (cne y c e)⟩
    · obtain ⟨w', z⟩ := I.cell y c e
      exact ⟨w', z.sameBut hs (cne y c e)⟩
    · obtain ⟨e, n, ne, nf, d⟩ := I.pin p hp
      exact ⟨(hs.2 p.1 ne).trans e, n, ne, nf, d⟩
  · have hfn : X.fn x = true := by
      rcases hf with z | z
      · exact z
      · rw [z] at hk; cases hk
    obtain ⟨c, hc⟩ := I.ok.has x (.inl hk)
    obtain ⟨w', z⟩ := I.cell x c hc
    refine wpAny_storeName_cell I.ok.kind hk hc z (fun h' hc' hs => ?_)
    obtain ⟨oc, hoc, hocd⟩ := id z
    refine h { s with heap := h' } ⟨I.ok, I.os, I.bare, ⟨fun b o e n hb hx => ?_, fun b o e n hb hx => ?_, I.base.free, fun b o e hx => ?_, I.base.tups, I.base.frzs, I.base.tbls⟩, ⟨m, hn.sameBut hs (Ne.symm (cne x c hc)), fun j y v' e1 e2 e3 => ?_⟩, fun y c' e => ?_, I.free, I.freeC, fun p hp => ?_, tracked ⟨oc, hoc, I.freeC x c hc⟩ hs, by simpa using I.len⟩ ⟨c, hs, .inr hc⟩
    · exact (hs.2 b (Nat.ne_of_lt (Nat.lt_of_lt_of_le (Heap.lt_size e) (I.ok.cab x c hfn hc)))).trans (I.base.keep b o e n hb hx)
    · obtain ⟨sl, e1⟩ := I.base.slot b o e n hb hx
      exact ⟨sl, (hs.2 b (Nat.ne_of_lt (Nat.lt_of_lt_of_le (Heap.lt_size e) (I.ok.cab x c hfn hc)))).trans e1⟩
    · obtain ⟨o', e1⟩ := I.base.there b o e hx
      exact ⟨o', (hs.2 b (Nat.ne_of_lt (Nat.lt_of_lt_of_le (Heap.lt_size e) (I.ok.cab x c hfn hc)))).trans e1⟩
    · by_cases hj : j = i
      · subst hj
        rw [hi] at e1; cases e1
        rw [List.getElem?_set_self hiσ] at e2
        cases e2
        exact ⟨u, r, .inr ⟨.inl hk, c, hc, hc'⟩⟩
      · rw [List.getElem?_set_ne (Ne.symm hj)] at e2
        obtain ⟨u', r', q⟩ := hl j y v' e1 e2 e3
        refine ⟨u', r', ?_⟩
        rcases q with q | ⟨k, c', e, z'⟩
        · exact .inl q
        · refine .inr ⟨k, c', e, z'.sameBut hs ?_⟩
          rintro rfl
          exact hj (ZfC hN e1 (I.ok.inj _ _ _ e hc ▸ hi))
    · by_cases hcc : c' = c
      · subst hcc; exact ⟨_, hc'⟩
      · obtain ⟨w2, z2⟩ := I.cell y c' e
        exact ⟨w2, z2.sameBut hs hcc⟩
    · obtain ⟨e, n, ne, nf, d⟩ := I.pin p hp
      refine ⟨(hs.2 p.1 ?_).trans e, n, ne, nf, d⟩
      intro q
      rw [q, hoc] at e
      have q' : oc = p.2 := Option.some.inj e
      exact d w' (by rw [← q']; exact hocd)
theorem ZfS {M:Model}{A:Around}{E:Value→Shared→Prop}{i:Nat}{x:Str}{v:V}{u:Value}{Q:Unit→Shared→Prop}(I:Inv X pins σ H s)(hN:X.N.Nodup)(hi:X.N[i]?=some x)(hx:Loc X.env.scope x)(r:RelV v u)
  (h:∀ s',Inv X pins (σ.set i (some v)) H s'→Q () s') (hf:X.fn x=true∨X.env.scope.names.lookup x=some .local:=by first | exact .inl rfl | exact .inr rfl | assumption):wpAny M A (storeName X.env x u) Q E s :=
 Zlz I hN hi hx r (fun s' I' _=>h s' I') hf
theorem Inv.call' {s':Shared}{ch:List Addr}(I:Inv X pins σ H s)(ho:s'.os=s.os)(u:Un (frs X.stack) ch H H' s.heap s'.heap)(hok:HOk X.prog X.w H' s'.heap)(hg:AllBare s'.gens)
  (hch:∀ b ∈ ch,(b ∈ X.ex∨X.s₀.heap.objs.size≤b)∧b≠X.env.locals∧(∀ x c,X.env.cells.lookup x=some c→c≠b)∧∀ p ∈ X.pn++pins,p.1≠b):Inv X pins σ H' s':=by
 obtain ⟨h',g',d',t',o'⟩:=s'
 have e:o'=s.os:=ho
 subst e
 exact I.call (g':=g') (t':=t') (d':=d') u hok hg hch
end
noncomputable abbrev XK:=Value→Option Addr→Hp→Prop
noncomputable abbrev St:=List (Option V)
noncomputable abbrev VK:=V→Hp→Prop
noncomputable abbrev TE:=St→Hp→VK→Prop
noncomputable abbrev TT:=St→Hp→(Bool→Hp→Prop)→Prop
noncomputable abbrev TA:=St→Hp→(List V→Hp→Prop)→Prop
structure Ends where
 nx:St→Hp→Prop
 rt:VK
 bk:St→Hp→Prop:=fun _ _=>False
 ct:St→Hp→Prop:=fun _ _=>False
noncomputable abbrev TS:=Ends→St→Hp→Prop
noncomputable def EP (X:Cx) (pins:List (Addr × Obj)) (σ:St) (Q:VK) (u:Value) (s':Shared):Prop:=∃ v H',Inv X pins σ H' s'∧RelV v u∧Q v H'
noncomputable def TP (X:Cx) (pins:List (Addr × Obj)) (σ:St) (Q:Bool→Hp→Prop) (b:Bool) (s':Shared):Prop:=∃ H',Inv X pins σ H' s'∧Q b H'
noncomputable def AP (X:Cx) (pins:List (Addr × Obj)) (σ:St) (Q:List V→Hp→Prop) (us:List Value) (s':Shared):Prop:=∃ vs H',Inv X pins σ H' s'∧Vals vs us∧Q vs H'
noncomputable def SP (X:Cx) (pins:List (Addr × Obj)) (D:Ends) (f:Flow) (s':Shared):Prop :=
 match f with
 | .next=>∃ σ' H',Inv X pins σ' H' s'∧D.nx σ' H'
 | .brk=>∃ σ' H',Inv X pins σ' H' s'∧D.bk σ' H'
 | .cont=>∃ σ' H',Inv X pins σ' H' s'∧D.ct σ' H'
 | .ret u=>∃ v σ' H',Inv X pins σ' H' s'∧RelV v u∧D.rt v H'
noncomputable def PE (X:Cx) (e:Expr) (t:TE):Prop :=
 ∀ (pins:List (Addr × Obj)) (s:Shared) (σ:St) (H:Hp) (Q:VK),Inv X pins σ H s→t σ H Q→wpAny (model X.prog X.w) X.A (eval e X.env) (EP X pins σ Q) X.xe s
noncomputable def PT (X:Cx) (e:Expr) (t:TT):Prop :=
 ∀ (pins:List (Addr × Obj)) (s:Shared) (σ:St) (H:Hp) (Q:Bool→Hp→Prop),Inv X pins σ H s→t σ H Q→wpAny (model X.prog X.w) X.A (isTrue e X.env (eval e X.env)) (TP X pins σ Q) X.xe s
noncomputable def PW (X:Cx) (e:Expr) (t:TT):Prop :=
 ∀ (whole:Sem Value) (pins:List (Addr × Obj)) (s:Shared) (σ:St) (H:Hp) (Q:Bool→Hp→Prop),Inv X pins σ H s→t σ H Q→wpAny (model X.prog X.w) X.A (isTrue e X.env whole) (TP X pins σ Q) X.xe s
noncomputable def PA (X:Cx) (es:List Expr) (t:TA):Prop :=
 ∀ (pos:Pos) (pins:List (Addr × Obj)) (s:Shared) (σ:St) (H:Hp) (Q:List V→Hp→Prop),Inv X pins σ H s→t σ H Q→wpAny (model X.prog X.w) X.A (spliced (backTo pos (starEach es X.env))) (AP X pins σ Q) X.xe s
noncomputable def PS (X:Cx) (st:Stmt) (t:TS):Prop :=
 ∀ (pins:List (Addr × Obj)) (s:Shared) (σ:St) (H:Hp) (D:Ends),Inv X pins σ H s→t D σ H→wpAny (model X.prog X.w) X.A (exec st X.env) (SP X pins D) X.xe s
noncomputable def PSs (X:Cx) (st:List Stmt) (t:TS):Prop :=
 ∀ (pins:List (Addr × Obj)) (s:Shared) (σ:St) (H:Hp) (D:Ends),Inv X pins σ H s→t D σ H→wpAny (model X.prog X.w) X.A (execs st X.env) (SP X pins D) X.xe s
theorem thn {α:Type}{t:Sem α}{Q Q':α→Shared→Prop}{M:Model}{A:Around}{E:Value→Shared→Prop}{s:Shared}(h:wpAny M A t Q E s)(hQ:∀ a s,Q a s→Q' a s):wpAny M A t Q' E s:=wpAny_mono h hQ fun _ _ x=>x
end L2
namespace L2
open PySem PySem.Spec PyProof.Rows
section
variable {X:Cx}
noncomputable def tVar (i:Nat):TE:=fun σ H Q=>∃ v,σ[i]?=some (some v)∧Q v H
noncomputable def tC (v:V):TE:=fun _ H Q=>Q v H
theorem Zag {i:Nat} {x:Str} {pos:Pos} (hN:X.N[i]?=some x) (hv:Vis X.env.scope x) (hd:(x == ("__debug__":Str))=false:=by decide) (hcd:(x == ("__classdict__":Str))=false:=by decide):PE X (.Name x pos) (tVar i):=by
 intro pins s σ H Q I h
 obtain ⟨v,e,h⟩:=h
 obtain ⟨m,hn,hl⟩:=I.loc
 obtain ⟨u,r,l⟩:=hl i x v hN e hv
 have fin:EP X pins σ Q u s:=⟨v,H,I,r,h⟩
 rcases l with ⟨hk,hm⟩ | ⟨hk,c,hc,hcell⟩
 ·exact wpAny_Name (wpAny_loadName_local I.ok.kind hk hn hm fin) hd
 ·rcases hk with hk | hk
  ·exact wpAny_Name (wpAny_loadName_cell I.ok.kind hk hc hcell fin) hd
  ·exact wpAny_Name (wpAny_loadName_free I.ok.kind hk hc hcell fin hcd) hd
theorem Zow {i j pos}:PE X (.Constant (.int i) j pos) (tC (.int i)):=fun _ _ _ H _ I h=>wpAny_Constant_int ⟨.int i,H,I.tok _,⟨_,rfl⟩,h⟩
theorem ZpJ {b j pos}:PE X (.Constant (.bool b) j pos) (tC (.bl b)):=fun _ _ _ H _ I h=>Constant_bool ⟨.bl b,H,I,rfl,h⟩
theorem ZlX {j pos}:PE X (.Constant .none j pos) (tC .non):=fun _ _ _ H _ I h=>Constant_none ⟨.non,H,I,rfl,h⟩
theorem ZoG {x j pos}:PE X (.Constant (.str x) j pos) (tC (.str x)):=fun _ _ _ H _ I h=>Calls.Constant_str ⟨.str x,H,I.tok _,⟨_,rfl⟩,h⟩
noncomputable def Gl (X:Cx) (x:Str):Prop:=X.env.kindOf x=some .globalImplicit
theorem Zg5 {E:Value→Shared→Prop}{pins:List (Addr × Obj)}{s:Shared}{σ:St}{H:Hp}{x:Str}{u:Value}{pos:Pos}{Q:Value→Shared→Prop}(I:Inv X pins σ H s)(hg:Gl X x)(hm:X.mg x=some u)(h:Q u s)
  (hd:(x == ("__debug__":Str))=false:=by decide):wpAny (model X.prog X.w) X.A (eval (.Name x pos) X.env) Q E s :=
 Calls.Name_function_global I.ok.kind hg (Calls.loadGlobal_global (by rw [I.ok.glob];exact I.mod.glob.keeps I.bk) hm h) hd
theorem ZbJ {E:Value→Shared→Prop}{pins:List (Addr × Obj)}{s:Shared}{σ:St}{H:Hp}{x:Str}{u:Value}{pos:Pos}{Q:Value→Shared→Prop}(I:Inv X pins σ H s)(hg:Gl X x)(hm:X.mg x=none)(hv:bootBuiltins x=some u)(h:Q u s)
  (hn:x≠"__name__":=by decide) (hd:(x == ("__debug__":Str))=false:=by decide):wpAny (model X.prog X.w) X.A (eval (.Name x pos) X.env) Q E s:=by
 obtain ⟨mb,h1,h2⟩:=I.mod.blt
 exact Calls.Name_function_global I.ok.kind hg (Calls.loadGlobal_builtin (by rw [I.ok.glob];exact I.mod.glob.keeps I.bk) hm (by rw [I.ok.blt];exact h1.keeps I.bk) ((h2 x hn).trans hv) h) hd
theorem Zjo {x:Str} {v:V} {u:Value} {pos:Pos} (hg:Gl X x) (hm:X.mg x=some u) (r:RelV v u) (hd:(x == ("__debug__":Str))=false:=by decide):PE X (.Name x pos) (tC v) :=
 fun _ _ _ H _ I h=>Zg5 I hg hm ⟨v,H,I,r,h⟩ hd
noncomputable def t2I (ta tb:TE) (k:Int→Int→Hp→Prop):St→Hp→Prop:=fun σ H=>ta σ H fun x H1=>tb σ H1 fun y H2=>∃ i j,x=.int i∧y=.int j∧k i j H2
variable {a b:Expr} {ta tb:TE} {pos:Pos}
noncomputable def PC (X:Cx) (op:CmpOp) (a b:Expr) (t:TE):Prop :=
 ∀ (pins:List (Addr × Obj)) (s:Shared) (σ:St) (H:Hp) (Q:VK),Inv X pins σ H s→t σ H Q →
  wpAny (model X.prog X.w) X.A (eval a X.env) (fun v s₁=>wpAny (model X.prog X.w) X.A (eval b X.env) (fun u s₂=>wpAny (model X.prog X.w) X.A (compareOp op v u) (EP X pins σ Q) X.xe s₂) X.xe s₁) X.xe s
noncomputable def tIsN (ta:TE):TE:=fun σ H Q=>ta σ H fun x H1=>Q (.bl (decide (x=.non))) H1
noncomputable def tB (t:TE):TT:=fun σ H Q=>t σ H fun x H1=>∃ c,x=.bl c∧Q c H1
theorem ZaV {op:CmpOp}{t:TE}(h:PC X op a b t)(h1:behindInMarks op b=false:=by first | exact nobehind _ (by decide) (by decide) | rfl):PT X (.Compare a [op] [b] pos) (tB t):=by
 intro pins s σ H Q I hw
 refine wpAny_isTrue_Compare1 (thn (h pins s σ H _ I hw) fun v s1 h1=>thn h1 fun u s2 h2=>thn h2 fun c s3 ⟨x,H1,I1,r1,q1⟩=>?_) h1
 obtain ⟨d,rfl,q⟩:=q1
 cases r1
 exact wpAny_truthy_bool ⟨H1,I1,q⟩
theorem Zpp {e:Expr}{t:TE}(h:PE X e t)(he:∀ whole,isTrue e X.env whole=(do let v ← whole;standAt e.pos;holding [v] (truthy v)):=by intro _;rfl):PT X e (tB t):=by
 intro pins s σ H Q I hw
 refine isTrue_plain (thn (h pins s σ H _ I hw) fun v s1 ⟨x,H1,I1,r1,q1⟩=>?_) (he _)
 obtain ⟨d,rfl,q⟩:=q1
 cases r1
 exact wpAny_truthy_bool ⟨H1,I1,q⟩
variable {tA tB':TT} {rest:List Expr}
noncomputable def tAnd (t u:TT):TT:=fun σ H Q=>t σ H fun c H1=>if c=true then u σ H1 Q else Q false H1
noncomputable def tOr (t u:TT):TT:=fun σ H Q=>t σ H fun c H1=>if c=true then Q true H1 else u σ H1 Q
noncomputable def tNot (t:TT):TT:=fun σ H Q=>t σ H fun c H1=>Q (!c) H1
theorem Znz (ha:PT X a tA):PW X (.BoolOp .And [a] pos) tA:=by
 intro wh pins s σ H Q I h
 refine isTrue_and (thn (ha pins s σ H Q I h) fun c s1 e=>?_)
 cases c with
 | true=>exact isTrue_and_nil e
 | false=>exact e
theorem Zpi (ha:PT X a tA):PW X (.BoolOp .Or [a] pos) tA:=by
 intro wh pins s σ H Q I h
 refine isTrue_or (thn (ha pins s σ H Q I h) fun c s1 e=>?_)
 cases c with
 | false=>exact isTrue_or_nil e
 | true=>exact e
theorem ZoP (ha:PT X a tA)(hb:PW X (.BoolOp .And (b::rest) pos) tB'):PW X (.BoolOp .And (a::b::rest) pos) (tAnd tA tB'):=by
 intro wh pins s σ H Q I h
 refine isTrue_and (thn (ha pins s σ H _ I h) fun c s1 ⟨H1,I1,q1⟩=>?_)
 cases c with
 | true=>exact hb wh pins s1 σ H1 Q I1 q1
 | false=>exact ⟨H1,I1,q1⟩
theorem ZpT (ha:PT X a tA)(hb:PW X (.BoolOp .Or (b::rest) pos) tB'):PW X (.BoolOp .Or (a::b::rest) pos) (tOr tA tB'):=by
 intro wh pins s σ H Q I h
 refine isTrue_or (thn (ha pins s σ H _ I h) fun c s1 ⟨H1,I1,q1⟩=>?_)
 cases c with
 | true=>exact ⟨H1,I1,q1⟩
 | false=>exact hb wh pins s1 σ H1 Q I1 q1
theorem ZcP (ha:PT X a tA):PT X (.UnaryOp .Not a pos) (tNot tA):=by
 intro pins s σ H Q I h
 exact isTrue_not (ha pins s σ H (fun c H1=>Q (!c) H1) I h)
noncomputable def ZpR (ta tb:TE):TE:=fun σ H Q=>ta σ H fun x H1=>∃ c,x=.bl c∧if c=true then tb σ H1 Q else Q (.bl false) H1
theorem ZoK {op}{t:TE}(h:PE X a t):PE X (.BoolOp op [a] pos) t:=fun pins s σ H Q I hw=>BoolOp_one (h pins s σ H Q I hw)
theorem ZoX (ha:PE X a ta)(hb:PE X (.BoolOp .And (b::rest) pos) tb):PE X (.BoolOp .And (a::b::rest) pos) (ZpR ta tb):=by
 intro pins s σ H Q I h
 refine BoolOp_and (thn (ha pins s σ H _ I h) fun v s1 ⟨x,H1,I1,r1,q1⟩=>?_)
 obtain ⟨c,rfl,q1⟩:=q1
 cases r1
 refine wpAny_truthy_bool ?_
 cases c with
 | true=>exact hb pins s1 σ H1 Q I1 q1
 | false=>exact ⟨.bl false,H1,I1,rfl,q1⟩
end
end L2
namespace L2
open PySem PySem.Spec PyProof.Rows
noncomputable def SqL (K:PySem.W.Frag) (H:Hp) (a:Addr) (xs:List V):Prop :=
 Rd H a (.lst xs) ∨
  ∃ (o:Obj) (its:Array Value) (n:Nat),K.lookup a=some o∧o.cls=.type "list"∧o.dict=none∧o.data=.seq its n∧its.size≤sizeLine∧Vals xs its.toList
noncomputable def SqT (K:PySem.W.Frag) (H:Hp) (a:Addr) (xs:List V):Prop :=
 Rd H a (.tup xs) ∨
  ∃ (o:Obj) (its:Array Value) (n:Nat),K.lookup a=some o∧o.cls=.type "tuple"∧o.data=.seq its n∧its.size≤sizeLine∧Vals xs its.toList
noncomputable def absV:Value→Option V
 | .none=>some .non
 | .bool b=>some (.bl b)
 | .int i _=>some (.int i)
 | .str x _=>some (.str x)
 | .bytes b _=>some (.byt b)
 | .float b _=>some (.flt b)
 | .ref a=>some (.ref a)
 | .type n=>some (.ty n)
 | _=>none
theorem RelV.abs {x:V}{u:Value}(r:RelV x u):absV u=some x:=by
 cases x with
 | non=>cases r;rfl
 | bl _=>cases r;rfl
 | int _=>obtain ⟨t,rfl⟩:=r;rfl
 | str _=>obtain ⟨t,rfl⟩:=r;rfl
 | byt _=>obtain ⟨t,rfl⟩:=r;rfl
 | flt _=>obtain ⟨t,rfl⟩:=r;rfl
 | ref _=>cases r;rfl
 | ty _=>cases r;rfl
theorem RelV.inj {x y:V}{u:Value}(r:RelV x u)(q:RelV y u):x=y:=Option.some.inj (r.abs.symm.trans q.abs)
theorem Vals.inj:∀ {xs ys:List V} {us:List Value},Vals xs us→Vals ys us→xs=ys
 | _,_,_,.nil,.nil=>rfl
 | _,_,_,.cons r t,.cons r' t'=>by rw [r.inj r',Vals.inj t t']
section
variable {X:Cx} {pins:List (Addr × Obj)} {σ:St} {H:Hp} {s:Shared} {a:Addr} {xs ys:List V}
theorem Inv.list (I:Inv X pins σ H s)(h:SqL X.K H a xs):∃ its:List Value,Vals xs its∧PlainL s.heap a its.toArray∧xs.length≤sizeLine:=by
 rcases h with h | ⟨o,its,n,hk,hc,hd,hs,hz,r⟩
 ·obtain ⟨z,its,n,r,e⟩:=h.ok I.hok
  exact ⟨its,r,⟨_,n,e,rfl,rfl,rfl⟩,z⟩
 ·refine ⟨its.toList,r,⟨o,n,I.kIn a o hk,hc,hd,by simpa using hs⟩,?_⟩
  have e:=r.length
  simp only [Array.length_toList] at e
  omega
theorem Inv.tuple (I:Inv X pins σ H s)(h:SqT X.K H a xs):∃ its:List Value,Vals xs its∧IsTup s.heap a its.toArray∧xs.length≤sizeLine:=by
 rcases h with h | ⟨o,its,n,hk,hc,hs,hz,r⟩
 ·obtain ⟨z,its,r,p⟩:=h.ok I.hok
  exact ⟨its,r,p,z⟩
 ·refine ⟨its.toList,r,⟨o,I.kIn a o hk,hc,n,by simpa using hs⟩,?_⟩
  have e:=r.length
  simp only [Array.length_toList] at e
  omega
theorem Inv.Zh9 (I:Inv X pins σ H s)(h:SqL X.K H a xs)(h':SqL X.K H a ys):xs=ys:=by
 obtain ⟨its,r,⟨o,n,e,_,_,d⟩,_⟩:=I.list h
 obtain ⟨its',r',⟨o',n',e',_,_,d'⟩,_⟩:=I.list h'
 rw [e] at e';cases e'
 rw [d] at d'
 injection d' with d1 _
 have:its=its':=by simpa using congrArg Array.toList d1
 subst this
 exact r.inj r'
theorem Inv.ZkK (I:Inv X pins σ H s)(h:SqT X.K H a xs)(h':SqT X.K H a ys):xs=ys:=by
 obtain ⟨its,r,⟨o,e,_,n,d⟩,_⟩:=I.tuple h
 obtain ⟨its',r',⟨o',e',_,n',d'⟩,_⟩:=I.tuple h'
 rw [e] at e';cases e'
 rw [d] at d'
 injection d' with d1 _
 have:its=its':=by simpa using congrArg Array.toList d1
 subst this
 exact r.inj r'
end
noncomputable abbrev Cx.wish (X:Cx) (E:Value→Shared→Prop):Cx:={ X with xe:=E }
noncomputable abbrev Cx.nox (X:Cx):Cx:=X.wish fun _ _=>False
theorem Cx.Ok.wish {X:Cx}(ok:X.Ok)(E:Value→Shared→Prop):(X.wish E).Ok :=
 ⟨ok.mod,ok.kind,ok.glob,ok.blt,ok.above,ok.inj,ok.has,ok.cab,ok.hd,ok.frames,ok.stk,ok.exf,ok.bs,ok.bsz,ok.noex,ok.exfs,ok.funs,ok.frf⟩
theorem Cx.Ok.Zb5 {X:Cx}{E:Value→Shared→Prop}(ok:(X.wish E).Ok):X.Ok :=
 ⟨ok.mod,ok.kind,ok.glob,ok.blt,ok.above,ok.inj,ok.has,ok.cab,ok.hd,ok.frames,ok.stk,ok.exf,ok.bs,ok.bsz,ok.noex,ok.exfs,ok.funs,ok.frf⟩
section
variable {X:Cx} {pins:List (Addr × Obj)} {σ:St} {H:Hp} {s:Shared} {E:Value→Shared→Prop}
theorem Inv.wish (I:Inv X pins σ H s)(E:Value→Shared→Prop):Inv (X.wish E) pins σ H s:=⟨I.ok.wish E,I.os,I.bare,I.base,I.loc,I.cell,I.free,I.freeC,I.pin,I.hok,I.len⟩
theorem Inv.Zb5 (I:Inv (X.wish E) pins σ H s):Inv X pins σ H s:=⟨I.ok.Zb5,I.os,I.bare,I.base,I.loc,I.cell,I.free,I.freeC,I.pin,I.hok,I.len⟩
theorem SP.Zb5 {D:Ends}{f:Flow}{s':Shared}(h:SP (X.wish E) pins D f s'):SP X pins D f s':=by
 cases f with
 | next=>obtain ⟨σ',H',I,q⟩:=h;exact ⟨σ',H',I.Zb5,q⟩
 | brk=>obtain ⟨σ',H',I,q⟩:=h;exact ⟨σ',H',I.Zb5,q⟩
 | cont=>obtain ⟨σ',H',I,q⟩:=h;exact ⟨σ',H',I.Zb5,q⟩
 | ret u=>obtain ⟨v,σ',H',I,r,q⟩:=h;exact ⟨v,σ',H',I.Zb5,r,q⟩
theorem PSs.nox {st:List Stmt}{t:TS}(h:PSs X.nox st t):PSs X st t:=fun pins s σ H D I hw =>
 wpAny_mono (h pins s σ H D (I.wish _) hw) (fun _ _ q=>q.Zb5) fun _ _ z=>False.elim z
end
section
variable {X:Cx} {st:Stmt} {rest:List Stmt} {t u:TS} {e:Expr} {te:TE} {pos:Pos}
noncomputable def ZpA:TS:=fun D σ H=>D.nx σ H
noncomputable def tSeq (t u:TS):TS:=fun D σ H=>t { D with nx:=u D } σ H
theorem Znt:PSs X [] ZpA:=fun _ _ σ H _ I h=>wpAny_execs_nil ⟨σ,H,I,h⟩
theorem Zmi (h1:PS X st t)(h2:PSs X rest u):PSs X (st::rest) (tSeq t u):=by
 intro pins s σ H D I h
 refine wpAny_execs_cons (thn (h1 pins s σ H { D with nx:=u D } I h) fun f s1 q=>?_)
 cases f with
 | next =>
  obtain ⟨σ',H',I',q⟩:=q
  exact h2 pins s1 σ' H' D I' q
 | ret v=>exact q
 | brk=>exact q
 | cont=>exact q
theorem ZnC (h1:PS X st t):PSs X [st] t:=by
 intro pins s σ H D I h
 refine wpAny_execs_cons (thn (h1 pins s σ H D I h) fun f s1 q=>?_)
 cases f with
 | next=>exact wpAny_execs_nil q
 | ret v=>exact q
 | brk=>exact q
 | cont=>exact q
theorem Inv.quiet {pins:List (Addr × Obj)}{σ:St}{H:Hp}{s:Shared}(I:Inv X pins σ H s):interactive X.env=false:=by simp [interactive,I.ok.kind]
noncomputable def ZpW (te:TE):TS:=fun D σ H=>te σ H fun _ H1=>D.nx σ H1
theorem Zc6 (he:PE X e te)(hs:swapsWith e none pos.line X.env=pure false:=by rfl):PS X (.Expr e pos) (ZpW te):=by
 intro pins s σ H D I h
 exact wpAny_Expr_any (thn (he pins s σ H _ I h) fun v s1 ⟨x,H1,I1,r1,q1⟩=>⟨σ,H1,I1,q1⟩) I.quiet hs
noncomputable def tRet (te:TE):TS:=fun D σ H=>te σ H D.rt
theorem Zgp (he:PE X e te):PS X (.Return (some e) pos) (tRet te):=by
 intro pins s σ H D I h
 exact wpAny_Return_some (thn (he pins s σ H _ I h) fun v s1 ⟨x,H1,I1,r1,q1⟩=>⟨x,σ,H1,I1,r1,q1⟩)
noncomputable def tIfS (c:TT) (t u:TS):TS:=fun D σ H=>c σ H fun b H1=>if b=true then t D σ H1 else u D σ H1
theorem ZpM {c:Expr}{a b:List Stmt}{tc:TT}(hc:PT X c tc)(ha:PSs X a t)(hb:PSs X b u):PS X (.If c a b pos) (tIfS tc t u):=by
 intro pins s σ H D I h
 refine wpAny_If (thn (hc pins s σ H _ I h) fun d s1 ⟨H1,I1,q1⟩=>?_)
 cases d with
 | true=>exact ha pins s1 σ H1 D I1 q1
 | false=>exact hb pins s1 σ H1 D I1 q1
noncomputable def ZoY:TS:=fun _ _ _=>False
theorem Zl1:PS X st ZoY:=fun _ _ _ _ _ _ h=>h.elim
end
noncomputable abbrev TG:=V→St→Hp→(St→Hp→Prop)→Prop
noncomputable abbrev TGs:=List V→St→Hp→(St→Hp→Prop)→Prop
noncomputable def PG (X:Cx) (target:Expr) (t:TG):Prop :=
 ∀ (pins:List (Addr × Obj)) (s:Shared) (σ:St) (H:Hp) (v:V) (u:Value) (Q:St→Hp→Prop),Inv X pins σ H s→RelV v u→t v σ H Q →
  wpAny (model X.prog X.w) X.A (assign target X.env u) (fun _ s'=>∃ σ' H',Inv X pins σ' H' s'∧Q σ' H') X.xe s
noncomputable def PGs (X:Cx) (ts:List Expr) (t:TGs):Prop :=
 ∀ (pins:List (Addr × Obj)) (s:Shared) (σ:St) (H:Hp) (vs:List V) (us:List Value) (Q:St→Hp→Prop),Inv X pins σ H s→Vals vs us→t vs σ H Q →
  wpAny (model X.prog X.w) X.A (assignInOrder ((assignEach ts X.env).map (·.2)) us) (fun _ s'=>∃ σ' H',Inv X pins σ' H' s'∧Q σ' H') X.xe s
noncomputable abbrev TSet:=V→V→V→Hp→(Hp→Prop)→Prop
noncomputable def PSet (X:Cx) (t:TSet):Prop :=
 ∀ (pins:List (Addr × Obj)) (s:Shared) (σ:St) (H:Hp) (o i v:V) (ov iv u:Value) (Q:Hp→Prop),Inv X pins σ H s→RelV o ov→RelV i iv→RelV v u→t o i v H Q →
  wpAny (model X.prog X.w) X.A (setItem ov iv u) (fun _ s'=>∃ H',Inv X pins σ H' s'∧Q H') X.xe s
section
variable {X:Cx} {pos:Pos}
noncomputable def Zgz (i:Nat):TG:=fun v σ H Q=>Q (σ.set i (some v)) H
theorem ZeW {i:Nat}{x:Str}(hN:X.N.Nodup)(hi:X.N[i]?=some x)(hx:Loc X.env.scope x)(hf:X.fn x=true∨X.env.scope.names.lookup x=some .local:=by first | exact .inl rfl | exact .inr rfl | assumption):PG X (.Name x pos) (Zgz i):=by
 intro pins s σ H v u Q I r h
 exact wpAny_assign_Name (ZfS I hN hi hx r (fun s' I'=>⟨_,H,I',h⟩) hf)
noncomputable def gNil:TGs:=fun vs σ H Q=>vs=[]∧Q σ H
noncomputable def Zpy (t:TG) (u:TGs):TGs:=fun vs σ H Q=>∃ v r,vs=v::r∧t v σ H fun σ' H'=>u r σ' H' Q
theorem ZnI:PGs X [] gNil:=by
 intro pins s σ H vs us Q I r h
 obtain ⟨e,h⟩:=h
 subst e
 cases r
 exact assignInOrder_nil ⟨σ,H,I,h⟩
theorem Ziu {e:Expr}{es:List Expr}{t:TG}{u:TGs}(h1:PG X e t)(h2:PGs X es u)
  (hs:(assignEach (e::es) X.env).map (·.2)=assign e X.env::(assignEach es X.env).map (·.2):=by rfl):PGs X (e::es) (Zpy t u):=by
 intro pins s σ H vs us Q I r h
 obtain ⟨v,vr,e1,h⟩:=h
 subst e1
 cases r with
 | cons r rr =>
  rw [hs]
  refine assignInOrder_cons (thn (h1 pins s σ H _ _ _ I r h) fun _ s1 ⟨σ1,H1,I1,q1⟩=>?_)
  exact h2 pins s1 σ1 H1 _ _ Q I1 rr q1
noncomputable def gTup (K:PySem.W.Frag) (n:Nat) (t:TGs):TG:=fun v σ H Q=>∃ a xs,v=.ref a∧SqT K H a xs∧xs.length=n∧t xs σ H Q
theorem Zo8 {es:List Expr}{k:Nat}{t:TGs}{n:Nat}(hc:X.calm=true)(h:PGs X es t)
  (hn:(assignEach es X.env).length=n:=by rfl) (hst:(assignEach es X.env).findIdx? (·.1)=none:=by rfl):PG X (.Tuple es k pos) (gTup X.K n t):=by
 intro pins s σ H v u Q I r hw
 obtain ⟨a,xs,e1,hq,hl,hw⟩:=hw
 subst e1
 cases r
 obtain ⟨its,rv,ht,hz⟩:=I.tuple hq
 refine assign_Tuple_tuple (I.ok.hd hc) ht (by simp [hn,← hl,rv.length]) hst fun h' hx=>?_
 have I1:Inv X pins σ H { s with heap:=h' }:=I.kept (t':=s.toks) fun b o e=>hx b o (Nat.ne_of_lt (Heap.lt_size e)) e
 exact h pins _ σ H xs _ Q I1 (by simpa using rv) hw
noncomputable def gSub (to ti:TE) (t:TSet):TG:=fun v σ H Q=>to σ H fun o H1=>ti σ H1 fun i H2=>t o i v H2 fun H3=>Q σ H3
theorem ZoU {o i:Expr}{to ti:TE}{t:TSet}(ho:PE X o to)(hi:PE X i ti)(hs:PSet X t)
  (ha:∀ v,assign (.Subscript o i pos) X.env v=(do
   let ov ← holding [v] (eval o X.env)
   let iv ← holding [v,ov] (eval i X.env)
   standAt pos
   holding [v,ov,iv] (setItem ov iv v)
   release [v,ov,iv] []):=by intro _;rfl):PG X (.Subscript o i pos) (gSub to ti t):=by
 intro pins s σ H v u Q I r h
 rw [ha]
 refine wpAny_bind (wpAny_holding (thn (ho pins s σ H _ I h) fun ov s1 ⟨x,H1,I1,r1,q1⟩=>?_))
 refine wpAny_bind (wpAny_holding (thn (hi pins s1 σ H1 _ I1 q1) fun iv s2 ⟨y,H2,I2,r2,q2⟩=>?_))
 refine wpAny_bind (wpAny_standAt (wpAny_bind (wpAny_holding (thn (hs pins s2 σ H2 x y v ov iv u _ I2 r1 r2 r q2) fun _ s3 ⟨H3,I3,q3⟩=>?_))))
 exact wpAny_release ⟨σ,H3,I3,q3⟩
noncomputable def tAsg (te:TE) (g:TG):TS:=fun D σ H=>te σ H fun x H1=>g x σ H1 D.nx
theorem ZoA {tg e:Expr}{te:TE}{g:TG}(he:PE X e te)(hg:PG X tg g)(hs:swapsWithSole [tg] e pos.line X.env=pure false:=by rfl)(hw:swappedStores [tg] e X.env=pure none:=by rfl)
  (h1:(assignEach [tg] X.env).map (·.2)=[assign tg X.env]:=by rfl):PS X (.Assign [tg] e pos) (tAsg te g):=by
 intro pins s σ H D I h
 refine wpAny_Assign_stores (thn (he pins s σ H _ I h) fun v s1 ⟨x,H1,I1,r1,q1⟩=>?_) hs hw
 rw [h1]
 exact thn (hg pins s1 σ H1 x v _ I1 r1 q1) fun _ s2 q=>q
theorem Zdy {i:Nat}{x:Str}{e:Expr}{te:TE}{pos':Pos}(hN:X.N.Nodup)(hi:X.N[i]?=some x)(hx:Loc X.env.scope x)(he:PE X e te)(hs:swapsWith e (some (.Name x pos')) pos.line X.env=pure false:=by rfl)(hf:X.fn x=true∨X.env.scope.names.lookup x=some .local:=by first | exact .inl rfl | exact .inr rfl | assumption) :
  PS X (.Assign [.Name x pos'] e pos) (tAsg te (Zgz i)):=by
 intro pins s σ H D I h
 refine wpAny_Assign_Name (thn (he pins s σ H _ I h) fun v s1 ⟨y,H1,I1,r1,q1⟩=>?_) hs
 exact ZfS I1 hN hi hx r1 (fun s2 I2=>⟨_,H1,I2,q1⟩) hf
end
section
variable {X:Cx} {pos:Pos}
noncomputable def Zox (c:TT) (tb:TS):TS:=fun D σ H=>∃ W:Nat→St→Hp→Prop,(∃ m,W m σ H)∧∀ m σ H,W m σ H →
 c σ H fun b H1=>if b=true then ∃ N:St→Hp→Prop,(∀ σ' H',N σ' H'→∃ m',m' < m∧W m' σ' H')∧tb { D with nx:=N,ct:=N,bk:=D.nx } σ H1 else D.nx σ H1
theorem ZmF {c:Expr}{body:List Stmt}{tc:TT}{tb:TS}(hp:PassesOwn (model X.prog X.w) X.A X.env X.xe)(hc:PT X c tc)(hb:PSs X body tb):PS X (.While c body [] pos) (Zox tc tb):=by
 intro pins s σ H D I h
 obtain ⟨W,⟨m0,w0⟩,turn⟩:=h
 refine wpAny_While (codeAny_whileLoop (fun n s'=>∃ σ' H',Inv X pins σ' H' s'∧W n σ' H') ?_ m0 ⟨σ,H,I,w0⟩)
 rintro n s1 ⟨σ1,H1,I1,w1⟩
 refine wpAny_passesOwn hp (thn (hc pins s1 σ1 H1 _ I1 (turn n σ1 H1 w1)) fun b s2 ⟨H2,I2,q2⟩=>?_)
 cases b with
 | true =>
  obtain ⟨N,hN,q2⟩:=q2
  rw [if_pos rfl]
  refine wpAny_passesOwn hp (thn (hb pins s2 σ1 H2 _ I2 q2) fun f s3 q3=>?_)
  cases f with
  | next =>
   obtain ⟨σ3,H3,I3,n3⟩:=q3
   obtain ⟨m',hm,w3⟩:=hN σ3 H3 n3
   exact ⟨m',hm,σ3,H3,I3,w3⟩
  | cont =>
   obtain ⟨σ3,H3,I3,n3⟩:=q3
   obtain ⟨m',hm,w3⟩:=hN σ3 H3 n3
   exact ⟨m',hm,σ3,H3,I3,w3⟩
  | brk=>exact q3
  | ret v=>exact q3
 | false =>
  rw [if_neg Bool.false_ne_true]
  exact wpAny_execs_nil ⟨σ1,H2,I2,q2⟩
end
structure It where
 go:Nat→Hp→Prop
 yld:Nat→Hp→V→Hp→Prop
 stop:Nat→Hp→Prop
noncomputable def FpOk (X:Cx) (pins:List (Addr × Obj)) (H:Hp) (b:Addr):Prop :=
 H b=none∧b≠X.env.locals∧b ∉ X.fs∧(b ∈ X.ex∨X.s₀.heap.objs.size≤b)∧(∀ x c,X.env.cells.lookup x=some c→c≠b)∧∀ p ∈ X.pn++pins,p.1≠b
theorem Inv.fpOk {X:Cx}{pins:List (Addr × Obj)}{σ:St}{H H':Hp}{s:Shared}{b:Addr}(I:Inv X pins σ H s)(hb:s.heap.objs.size≤b)(hn:H' b=none):FpOk X pins H' b:=by
 refine ⟨hn,Nat.ne_of_gt (Nat.lt_of_lt_of_le I.lt hb),I.nofs hb,.inr (Nat.le_trans I.sz hb),fun x c e z=>?_,fun p hp z=>?_⟩
 ·obtain ⟨v,q⟩:=I.cell x c e
  exact absurd (Nat.lt_of_lt_of_le q.lt (by rw [z];exact hb)) (Nat.lt_irrefl _)
 ·exact absurd (Nat.lt_of_lt_of_le (Heap.lt_size (I.pin p hp).1) (by rw [z];exact hb)) (Nat.lt_irrefl _)
structure Turn (P:Program)(w:World)(K:PySem.W.Frag)(tg:Expr)(J:It)(fp:List Addr)(it:Addr)(tn:Nat→Heap→Prop):Prop where
 mem:it ∈ fp
 obj:∀ i h,tn i h→∀ b ∈ fp,∃ o,h.get? b=some o∧∀ v,o.data≠.cell v
 keep:∀ i h h',tn i h→(∀ b ∈ fp,∀ o,h.get? b=some o→h'.get? b=some o)→tn i h'
 item:∀ (X:Cx),X.prog=P→X.w=w→X.K=K→X.calm=true→∀ (i:Nat) (pins:List (Addr × Obj)) (s:Shared) (σ:St) (H:Hp) (E:Value→Shared→Prop),Inv X pins σ H s→(∀ b ∈ fp,FpOk X pins H b)→tn i s.heap→J.go i H →
  wpAny (model P w) X.A (pyNext (.ref it)) (fun r s1=>∃ u,r=some u ∧
   wpAny (model P w) X.A (letOwnedTupleGo tg (.ref it) u) (fun _ s2=>∃ x H',Inv X pins σ H' s2∧RelV x u∧J.yld i H x H'∧tn (i + 1) s2.heap∧∀ b ∈ fp,H' b=none) E s1) E s
 done:∀ (X:Cx),X.prog=P→X.w=w→X.K=K→X.calm=true→∀ (i:Nat) (pins:List (Addr × Obj)) (s:Shared) (σ:St) (H:Hp) (E:Value→Shared→Prop),Inv X pins σ H s→(∀ b ∈ fp,FpOk X pins H b)→tn i s.heap→J.stop i H →
  wpAny (model P w) X.A (pyNext (.ref it)) (fun r s1=>r=none∧Inv X pins σ H s1) E s
 self:∀ (A:Around) (i:Nat) (s:Shared) (Q:Value→Shared→Prop) (E:Value→Shared→Prop),tn i s.heap→Q (.ref it) s→wpAny (model P w) A (pyIter (.ref it)) Q E s
noncomputable abbrev TI:=St→Hp→(It→Hp→Prop)→Prop
noncomputable def PIE (X:Cx) (pins:List (Addr × Obj)) (σ:St) (tg:Expr) (R:It→Hp→Prop) (itv:Value) (s2:Shared):Prop :=
 ∃ (it:Addr) (fp:List Addr) (tn:Nat→Heap→Prop) (J:It) (H':Hp),itv=.ref it∧Inv X pins σ H' s2∧Turn X.prog X.w X.K tg J fp it tn∧tn 0 s2.heap∧(∀ b ∈ fp,FpOk X pins H' b)∧R J H'
noncomputable def PI (X:Cx) (tg iter:Expr) (wi:TI):Prop :=
 ∀ (pins:List (Addr × Obj)) (s:Shared) (σ:St) (H:Hp) (R:It→Hp→Prop),Inv X pins σ H s→wi σ H R →
  wpAny (model X.prog X.w) X.A (eval iter X.env) (fun v s1=>wpAny (model X.prog X.w) X.A (pyIter v) (PIE X pins σ tg R) X.xe s1) X.xe s
theorem ZhI {M : Model}{A : Around}{E : Value → Shared → Prop}{s : Shared}{tg : Expr}{it : Addr}{u : Value}{o : Obj}{n : String}{vs : Array Value}{Q : Unit → Shared → Prop}(ho : s.heap.get? it = some o)(hc : o.cls = .type n)(hd : o.data = .fields vs)
    (hn : ["enumerate", "zip", "dict_itemiterator", "dict_reverseitemiterator", "odict_iterator", "itertools.zip_longest", "itertools.pairwise"].contains n = false) (hQ : Q () s) : wpAny M A (letOwnedTupleGo tg (.ref it) u) Q E s := by
  unfold letOwnedTupleGo
  cases tg <;> first
    | exact wpAny_pure hQ
    | (cases u <;> first
        | exact wpAny_pure hQ
        | (refine wpAny_bind (wpAny_load ho ?_)
           rw [hc, hd]
           show wpAny M A (if (["enumerate", "zip", "dict_itemiterator", "dict_reverseitemiterator", "odict_iterator", "itertools.zip_longest", "itertools.pairwise"].contains n && vs[0]? == some (rawInt _)) = true then _ else _) Q E s
           rw [if_neg (by intro h; rw [hn, Bool.false_and] at h; cases h)]
           exact wpAny_pure hQ))
noncomputable def Itl (K:PySem.W.Frag) (a:Addr):It :=
 ⟨fun i H=>∃ xs x,SqL K H a xs∧xs[i]?=some x,fun i H x H'=>H'=H∧∀ xs,SqL K H a xs→xs[i]?=some x,fun i H=>∃ xs,SqL K H a xs∧xs.length≤i⟩
noncomputable def Itt (K:PySem.W.Frag) (a:Addr):It :=
 ⟨fun i H=>∃ xs x,SqT K H a xs∧xs[i]?=some x,fun i H x H'=>H'=H∧∀ xs,SqT K H a xs→xs[i]?=some x,fun i H=>∃ xs,SqT K H a xs∧xs.length≤i⟩
noncomputable def Itr (lo:Int) (n:Nat):It:=⟨fun i _=>i < n,fun i H x H'=>H'=H∧x=.int (lo + i),fun i _=>n≤i⟩
theorem ZlK {P:Program}{w:World}{K:PySem.W.Frag}{tg:Expr}(a it:Addr):Turn P w K tg (Itl K a) [it] it (fun i h=>h.IsListIter it a i) where
 mem:=by simp
 obj:=fun i h st b hb=>by
  have e:b=it:=by simpa using hb
  subst e
  obtain ⟨o,e,c,d⟩:=st
  exact ⟨o,e,fun v z=>by rw [d] at z;cases z⟩
 keep:=fun i h h' st k=>st.at fun o e=>k it (by simp) o e
 item:=by
  intro X hP hw hK hc i pins s σ H E I hf st hg
  subst hP hw hK
  obtain ⟨xs,x,hq,hx⟩:=hg
  obtain ⟨its,rv,p,hz⟩:=I.list hq
  obtain ⟨u,hu,ru⟩:=rv.get hx
  obtain ⟨f0,f1,f2,f3,f4,f5⟩:=hf it (by simp)
  refine wpAny_pyNext_list_item st p.isList (x:=u) (by simpa using hu) fun h' st' sb=>?_
  have I1:Inv X pins σ H { s with heap:=h' }:=I.turned (t':=s.toks) (fun b o hb e=>(sb.2 b hb).trans e) f0 f1 f3 f4 f5
  obtain ⟨o,e,c,d⟩:=id st'
  exact ⟨u,rfl,ZhI (s:={ s with heap:=h' }) e c d (by decide) ⟨x,H,I1,ru,⟨rfl,fun ys hy=>by rw [I.Zh9 hy hq];exact hx⟩,st',fun b hb=>(hf b hb).1⟩⟩
 done:=by
  intro X hP hw hK hc i pins s σ H E I hf st hg
  subst hP hw hK
  obtain ⟨xs,hq,hx⟩:=hg
  obtain ⟨its,rv,p,hz⟩:=I.list hq
  obtain ⟨f0,f1,f2,f3,f4,f5⟩:=hf it (by simp)
  have hl:=rv.length
  exact wpAny_pyNext_list_end (I.ok.hd hc) st p.isList (by simp;omega) fun h' eb=>⟨rfl,I.turned (t':=s.toks) (fun b o hb e=>eb b o hb e) f0 f1 f3 f4 f5⟩
 self:=fun _ _ _ _ _ st h=>wpAny_pyIter_listiter st h
theorem Zkq {P:Program}{w:World}{K:PySem.W.Frag}{tg:Expr}(a it:Addr):Turn P w K tg (Itt K a) [it] it (fun i h=>h.IsTupleIter it a i) where
 mem:=by simp
 obj:=fun i h st b hb=>by
  have e:b=it:=by simpa using hb
  subst e
  obtain ⟨o,e,c,d⟩:=st
  exact ⟨o,e,fun v z=>by rw [d] at z;cases z⟩
 keep:=fun i h h' st k=>st.at fun o e=>k it (by simp) o e
 item:=by
  intro X hP hw hK hc i pins s σ H E I hf st hg
  subst hP hw hK
  obtain ⟨xs,x,hq,hx⟩:=hg
  obtain ⟨its,rv,p,hz⟩:=I.tuple hq
  obtain ⟨u,hu,ru⟩:=rv.get hx
  obtain ⟨f0,f1,f2,f3,f4,f5⟩:=hf it (by simp)
  refine wpAny_pyNext_tuple_item st (show s.heap.IsTuple a its.toArray from p) (x:=u) (by simpa using hu) fun h' st' sb=>?_
  have I1:Inv X pins σ H { s with heap:=h' }:=I.turned (t':=s.toks) (fun b o hb e=>(sb.2 b hb).trans e) f0 f1 f3 f4 f5
  obtain ⟨o,e,c,d⟩:=id st'
  exact ⟨u,rfl,ZhI (s:={ s with heap:=h' }) e c d (by decide) ⟨x,H,I1,ru,⟨rfl,fun ys hy=>by rw [I.ZkK hy hq];exact hx⟩,st',fun b hb=>(hf b hb).1⟩⟩
 done:=by
  intro X hP hw hK hc i pins s σ H E I hf st hg
  subst hP hw hK
  obtain ⟨xs,hq,hx⟩:=hg
  obtain ⟨its,rv,p,hz⟩:=I.tuple hq
  obtain ⟨f0,f1,f2,f3,f4,f5⟩:=hf it (by simp)
  have hl:=rv.length
  exact wpAny_pyNext_tuple_end (I.ok.hd hc) st (show s.heap.IsTuple a its.toArray from p) (by simp;omega) fun h' eb=>⟨rfl,I.turned (t':=s.toks) (fun b o hb e=>eb b o hb e) f0 f1 f3 f4 f5⟩
 self:=fun _ _ _ _ _ st h=>wpAny_pyIter_tupleiter st h
theorem Zky {P:Program}{w:World}{K:PySem.W.Frag}{tg:Expr}(it:Addr)(lo:Int)(n:Nat):Turn P w K tg (Itr lo n) [it] it (fun i h=>IsRangeIter h it (lo + (i:Nat) * 1) ((n:Int) - (i:Nat)) 1) where
 mem:=by simp
 obj:=fun i h st b hb=>by
  have e:b=it:=by simpa using hb
  subst e
  exact ⟨_,st,fun v z=>by
   have z':Data.fields _=Data.cell v:=z
   cases z'⟩
 keep:=fun i h h' st k=>k it (by simp) _ st
 item:=by
  intro X hP hw hK hc i pins s σ H E I hf st hg
  subst hP hw hK
  obtain ⟨f0,f1,f2,f3,f4,f5⟩:=hf it (by simp)
  have W:=Walks.range (prog:=X.prog) (w:=X.w) (I.ok.hd hc) it lo 1 n
  refine W.item i s _ _ hg st fun v h' tk hv st' kk=>?_
  obtain ⟨t,rfl⟩:=hv
  have I1:Inv X pins σ H { s with heap:=h',toks:=tk }:=I.turned (fun b o hb e=>kk b o (by simpa using hb) e) f0 f1 f3 f4 f5
  refine ⟨_,rfl,ZhI (s:={ s with heap:=h',toks:=tk }) (n:="range_iterator") st' rfl rfl (by decide) ⟨.int (lo + i),H,I1,⟨t,?_⟩,⟨rfl,rfl⟩,st',fun b hb=>(hf b hb).1⟩⟩
  rw [Int.mul_one]
 done:=by
  intro X hP hw hK hc i pins s σ H E I hf st hg
  subst hP hw hK
  obtain ⟨f0,f1,f2,f3,f4,f5⟩:=hf it (by simp)
  exact wpAny_pyNext_range_end (I.ok.hd hc) st (by have:n≤i:=hg;omega) fun h' eb=>⟨rfl,I.turned (t':=s.toks) (fun b o hb e=>eb b o hb e) f0 f1 f3 f4 f5⟩
 self:=fun _ _ _ _ _ st h=>wpAny_pyIter_rangeiter st h
end L2
namespace L2
open PySem PySem.Spec PyProof.Rows
section
variable {X:Cx} {tg:Expr}
theorem ZmS {pins:List (Addr × Obj)}{σ:St}{H:Hp}{s:Shared}{R:It→Hp→Prop}{E:Value→Shared→Prop}{lo hi:Int}{t u v:Tok}{tk:Nat}(I:Inv X pins σ H s)(h1:-(2 ^ 62)≤lo)(h2:lo < 2 ^ 62)(h3:-(2 ^ 62)≤hi)(h4:hi < 2 ^ 62)
  (q:R (Itr lo (hi - lo).toNat) H):wpAny (model X.prog X.w) X.A (pyIter (.ref s.heap.objs.size)) (PIE X pins σ tg R) E { s with heap:=s.heap.push { cls:=.type "range",data:=.fields #[.int lo t,.int hi u,.int 1 v] },toks:=tk }:=by
 refine wpAny_pyIter_range (IsRange.new ..) (small_one h1 h2 h3 h4) ?_
 have I1:Inv X pins σ H { s with heap:=s.heap.push { cls:=.type "range",data:=.fields #[.int lo t,.int hi u,.int 1 v] },toks:=tk }:=I.kept fun b o e=>Heap.get?_push_of_some _ e
 refine ⟨(s.heap.push { cls:=.type "range",data:=.fields #[.int lo t,.int hi u,.int 1 v] }).objs.size,[(s.heap.push { cls:=.type "range",data:=.fields #[.int lo t,.int hi u,.int 1 v] }).objs.size],_,_,H,rfl,
  I1.kept (t':=tk) fun b o e=>Heap.get?_push_of_some _ e,Zky _ lo (hi - lo).toNat,?_,fun b hb=>?_,q⟩
 ·have e1:lo + ((0:Nat):Int) * 1=lo:=by simp
  have e2:(((hi - lo).toNat:Nat):Int) - ((0:Nat):Int)=Builtin.Range.rangeSize lo hi 1:=by rw [rangeSize_one];split <;> omega
  show IsRangeIter _ _ (lo + ((0:Nat):Int) * 1) ((((hi - lo).toNat:Nat):Int) - ((0:Nat):Int)) 1
  rw [e1,e2]
  exact Heap.get?_push_size _ rfl
 ·have e:b=(s.heap.push { cls:=.type "range",data:=.fields #[.int lo t,.int hi u,.int 1 v] }).objs.size:=by simpa using hb
  subst e
  exact I1.fpOk (Nat.le_refl _) (I1.hok.fresh (Nat.le_refl _))
noncomputable def Zpz (ta:TA):TI:=fun σ H R=>ta σ H fun vs H1=>∃ j:Int,vs=[.int j]∧-(2 ^ 62)≤j∧j < 2 ^ 62∧R (Itr 0 j.toNat) H1
theorem ZkJ {a:Expr} {ta:TA} {p pos:Pos} (hg:Gl X "range") (hm:X.mg "range"=none) (ha:PA X [a] ta) (hs:starEach [a] X.env=[(false,eval a X.env)]:=by rfl):PI X tg (.Call (.Name "range" p) [a] [] pos) (Zpz ta):=by
 intro pins s σ H R I h
 refine Call_ (ZbJ I hg hm boot_range (PyProof.Rows.callWith_type1 (thn (ha pos pins s σ H _ I h) fun us s1 ⟨vs,H1,I1,r1,q1⟩=>?_) hs rfl))
 obtain ⟨j,e,q1,q2,q⟩:=q1
 subst e
 cases r1 with
 | cons r rr =>
  cases rr
  obtain ⟨t,rfl⟩:=r
  exact call_range_1 (ZmS I1 (by omega) (by omega) q1 q2 (by simpa using q))
noncomputable def tFor (wi:TI) (g:TG) (tb:TS):TS:=fun D σ H=>wi σ H fun J H1=>∃ W:Nat→Nat→St→Hp→Prop,(∃ m,W 0 m σ H1)∧∀ i m σ H,W i m σ H →
 (J.stop i H∧D.nx σ H)∨(J.go i H∧∃ N:St→Hp→Prop,(∀ σ' H',N σ' H'→∃ m',m' < m∧W (i + 1) m' σ' H')∧∀ x H',J.yld i H x H'→g x σ H' fun σ2 H2=>tb { D with nx:=N,ct:=N,bk:=D.nx } σ2 H2)
noncomputable def Zem (fp:List Addr) (h:Heap):List (Addr × Obj):=fp.filterMap fun b=>(h.get? b).map fun o=>(b,o)
theorem Zch {fp:List Addr}{h:Heap}{b:Addr}{o:Obj}(hb:b ∈ fp)(e:h.get? b=some o):(b,o) ∈ Zem fp h:=List.mem_filterMap.mpr ⟨b,hb,by rw [e];rfl⟩
theorem ZkP {fp:List Addr}{h:Heap}{p:Addr × Obj}(hp:p ∈ Zem fp h):p.1 ∈ fp∧h.get? p.1=some p.2:=by
 obtain ⟨b,hb,e⟩:=List.mem_filterMap.mp hp
 cases q:h.get? b with
 | none=>rw [q] at e;cases e
 | some o =>
  rw [q] at e
  have e':(b,o)=p:=Option.some.inj e
  subst e'
  exact ⟨hb,q⟩
theorem Inv.pinned {pins:List (Addr × Obj)}{σ:St}{H:Hp}{s:Shared}{fp:List Addr}(I:Inv X pins σ H s)(hf:∀ b ∈ fp,FpOk X pins H b)(ho:∀ b ∈ fp,∃ o,s.heap.get? b=some o∧∀ v,o.data≠.cell v):Inv X (pins++Zem fp s.heap) σ H s :=
 I.Zdp fun p hp=>(List.mem_append.mp hp).elim (fun z=>I.pin p (List.mem_append_right _ z)) fun z=>by
  obtain ⟨hb,e⟩:=ZkP z
  obtain ⟨f0,f1,f2,_⟩:=hf p.1 hb
  obtain ⟨o,e',d⟩:=ho p.1 hb
  rw [e] at e';cases e'
  exact ⟨e,f0,f1,f2,d⟩
theorem Inv.ZcG {pins pl:List (Addr × Obj)}{σ:St}{H:Hp}{s:Shared}(I:Inv X (pins++pl) σ H s):Inv X pins σ H s:=I.Zdp fun p hp=>I.pin p (List.mem_append_right _ (List.mem_append_left _ hp))
theorem Zpq {iter:Expr}{body:List Stmt}{wi:TI}{g:TG}{tb:TS}{pos:Pos}(hp:PassesOwn (model X.prog X.w) X.A X.env X.xe)(hc:X.calm=true)(hi:PI X tg iter wi)(hg:PG X tg g)(hb:PSs X body tb)
  (hs:∀ x,foldedSetIterable iter X.env x=pure x:=by intro _;rfl):PS X (.For tg iter body [] pos) (tFor wi g tb):=by
 intro pins s σ H D I h
 refine wpAny_For (thn (hi pins s σ H _ I h) fun v s1 h1=>thn h1 fun itv s2 h2=>?_) hs
 obtain ⟨it,fp,tn,J,H2,e,I2,T,st2,f2,W,⟨m0,w0⟩,turn⟩:=h2
 subst e
 have stat:∀ {H':Hp},(∀ b ∈ fp,H' b=none)→∀ b ∈ fp,FpOk X pins H' b:=fun hn b hb=>⟨hn b hb,(f2 b hb).2⟩
 refine codeAny_forLoop_any (fun n s'=>∃ i σ' H',Inv X pins σ' H' s'∧tn i s'.heap∧(∀ b ∈ fp,H' b=none)∧W i n σ' H') ?_ m0 ⟨0,σ,H2,I2,st2,fun b hb=>(f2 b hb).1,w0⟩
 rintro n s3 ⟨i,σ3,H3,I3,st3,fr3,w3⟩
 rcases turn i n σ3 H3 w3 with ⟨stop,qn⟩ | ⟨go,N,hN,step⟩
 ·refine wpAny_passesOwn hp (thn (T.done X rfl rfl rfl hc i pins s3 σ3 H3 X.xe I3 (stat fr3) st3 stop) fun r s4 ⟨hr,I4⟩=>?_)
  subst hr
  exact wpAny_execs_nil ⟨σ3,H3,I4,qn⟩
 ·refine wpAny_passesOwn hp (thn (T.item X rfl rfl rfl hc i pins s3 σ3 H3 X.xe I3 (stat fr3) st3 go) fun r s4 ⟨u,hr,h4⟩=>?_)
  subst hr
  refine wpAny_passesOwn hp (thn h4 fun _ s5 ⟨x,H5,I5,r5,y5,st5,fr5⟩=>?_)
  have I5':=I5.pinned (stat fr5) (T.obj _ _ st5)
  refine wpAny_passesOwn hp (thn (hg _ s5 σ3 H5 x u _ I5' r5 (step x H5 y5)) fun _ s6 ⟨σ6,H6,I6,q6⟩=>?_)
  refine wpAny_passesOwn hp (thn (hb _ s6 σ6 H6 _ I6 q6) fun f s7 q7=>?_)
  have again:∀ {σ7:St} {H7:Hp},Inv X (pins++Zem fp s5.heap) σ7 H7 s7→N σ7 H7→∃ m,m < n∧∃ i σ' H',Inv X pins σ' H' s7∧tn i s7.heap∧(∀ b ∈ fp,H' b=none)∧W i m σ' H':=fun {σ7 H7} I7 n7=>by
   obtain ⟨m',hm,w7⟩:=hN σ7 H7 n7
   refine ⟨m',hm,i + 1,σ7,H7,I7.ZcG,T.keep _ _ _ st5 fun b hb o e=>(I7.pin (b,o) (List.mem_append_right _ (List.mem_append_right _ (Zch hb e)))).1,fun b hb=>?_,w7⟩
   obtain ⟨o,e,d⟩:=T.obj _ _ st5 b hb
   exact (I7.pin (b,o) (List.mem_append_right _ (List.mem_append_right _ (Zch hb e)))).2.1
  cases f with
  | next=>obtain ⟨σ7,H7,I7,n7⟩:=q7;exact again I7 n7
  | cont=>obtain ⟨σ7,H7,I7,n7⟩:=q7;exact again I7 n7
  | brk=>obtain ⟨σ7,H7,I7,q7⟩:=q7;exact ⟨σ7,H7,I7.ZcG,q7⟩
  | ret v=>obtain ⟨x7,σ7,H7,I7,r7,q7⟩:=q7;exact ⟨x7,σ7,H7,I7.ZcG,r7,q7⟩
end
end L2
namespace L2
open PySem PySem.Spec PyProof.Rows
noncomputable abbrev R2:=V→V→Hp→VK→Prop
noncomputable def OpR (X:Cx) (f:Value→Value→Sem Value) (r:R2):Prop :=
 ∀ (pins:List (Addr × Obj)) (s:Shared) (σ:St) (H:Hp) (x y:V) (v u:Value) (Q:VK),Inv X pins σ H s→RelV x v→RelV y u→r x y H Q →
  wpAny (model X.prog X.w) X.A (f v u) (EP X pins σ Q) X.xe s
noncomputable def ZbB (X:Cx) (f:Value) (r:List V→Hp→VK→Prop):Prop :=
 ∀ (pins:List (Addr × Obj)) (s:Shared) (σ:St) (H:Hp) (xs:List V) (us:List Value) (Q:VK),Inv X pins σ H s→Vals xs us→r xs H Q →
  wpAny (model X.prog X.w) X.A (call f us) (EP X pins σ Q) X.xe s
noncomputable def tOp (r:R2) (ta tb:TE):TE:=fun σ H Q=>ta σ H fun x H1=>tb σ H1 fun y H2=>r x y H2 Q
noncomputable def rI (C:Int→Int→Prop) (g:Int→Int→V):R2:=fun x y H Q=>∃ i j,x=.int i∧y=.int j∧C i j∧Q (g i j) H
noncomputable def rI0 (g:Int→Int→V):R2:=fun x y H Q=>∃ i j,x=.int i∧y=.int j∧Q (g i j) H
section
variable {X:Cx} {a b c:Expr} {ta tb tc:TE} {pos:Pos}
theorem binT (ha:PE X a ta)(hb:PE X b tb){pins:List (Addr × Obj)}{s:Shared}{σ:St}{H:Hp}{R:V→V→Hp→Prop}(I:Inv X pins σ H s)
  (h:ta σ H fun x H1=>tb σ H1 fun y H2=>R x y H2) {Q:Value→Shared→Prop} {f:Value→Value→Sem Value}
  (hf:∀ v u s2 x y H2,Inv X pins σ H2 s2→RelV x v→RelV y u→R x y H2→wpAny (model X.prog X.w) X.A (f v u) Q X.xe s2) :
  wpAny (model X.prog X.w) X.A (eval a X.env) (fun v s₁=>wpAny (model X.prog X.w) X.A (eval b X.env) (fun u s₂=>wpAny (model X.prog X.w) X.A (f v u) Q X.xe s₂) X.xe s₁) X.xe s:=by
 refine thn (ha pins s σ H _ I h) fun v s1 ⟨x,H1,I1,r1,q1⟩=>?_
 refine thn (hb pins s1 σ H1 _ I1 q1) fun u s2 ⟨y,H2,I2,r2,q2⟩=>?_
 exact hf v u s2 x y H2 I2 r1 r2 q2
theorem ZkA {op:Operator}{r:R2}(ho:OpR X (binaryOp op) r)(ha:PE X a ta)(hb:PE X b tb):PE X (.BinOp a op b pos) (tOp r ta tb):=by
 intro pins s σ H Q I h
 exact wpAny_BinOp (binT ha hb I h fun v u s2 x y H2 I2 rx ry q=>ho pins s2 σ H2 x y v u Q I2 rx ry q)
theorem opI {f:Value→Value→Sem Value}{C:Int→Int→Prop}{g:Int→Int→Int}
  (rule:∀ (i j:Int) (t u:Tok) (s:Shared) (Q:Value→Shared→Prop) (E:Value→Shared→Prop),C i j→Q (.int (g i j) s.toks) { s with toks:=s.toks + 1 }→wpAny (model X.prog X.w) X.A (f (.int i t) (.int j u)) Q E s) :
  OpR X f (rI C fun i j=>.int (g i j)):=by
 intro pins s σ H x y v u Q I rx ry h
 obtain ⟨i,j,rfl,rfl,hc,q⟩:=h
 obtain ⟨t,rfl⟩:=rx
 obtain ⟨t',rfl⟩:=ry
 exact rule i j t t' s _ _ hc ⟨.int (g i j),H,I.tok _,⟨_,rfl⟩,q⟩
theorem opI0 {f:Value→Value→Sem Value}{g:Int→Int→Int}
  (rule:∀ (i j:Int) (t u:Tok) (s:Shared) (Q:Value→Shared→Prop) (E:Value→Shared→Prop),Q (.int (g i j) s.toks) { s with toks:=s.toks + 1 }→wpAny (model X.prog X.w) X.A (f (.int i t) (.int j u)) Q E s) :
  OpR X f (rI0 fun i j=>.int (g i j)):=by
 intro pins s σ H x y v u Q I rx ry h
 obtain ⟨i,j,rfl,rfl,q⟩:=h
 obtain ⟨t,rfl⟩:=rx
 obtain ⟨t',rfl⟩:=ry
 exact rule i j t t' s _ _ ⟨.int (g i j),H,I.tok _,⟨_,rfl⟩,q⟩
theorem opB0 {f:Value→Value→Sem Value}{g:Int→Int→Bool}
  (rule:∀ (i j:Int) (t u:Tok) (s:Shared) (Q:Value→Shared→Prop) (E:Value→Shared→Prop),Q (.bool (g i j)) s→wpAny (model X.prog X.w) X.A (f (.int i t) (.int j u)) Q E s) :
  OpR X f (rI0 fun i j=>.bl (g i j)):=by
 intro pins s σ H x y v u Q I rx ry h
 obtain ⟨i,j,rfl,rfl,q⟩:=h
 obtain ⟨t,rfl⟩:=rx
 obtain ⟨t',rfl⟩:=ry
 exact rule i j t t' s _ _ ⟨.bl (g i j),H,I,rfl,q⟩
noncomputable def CDiv (i j:Int):Prop:=0 < j∧j < 1073741824
noncomputable def CMul (i j:Int):Prop:=(-(2 ^ 64) < i∧i < 2 ^ 64)∨(-(2 ^ 64) < j∧j < 2 ^ 64)
theorem CMul.ok {i j:Int}(h:CMul i j):IntMulOk i j:=by
 rcases h with ⟨h1,h2⟩ | ⟨h1,h2⟩
 ·exact .of_left (intBits_le_64 h1 h2)
 ·exact .of_right (intBits_le_64 h1 h2)
theorem Zo3:OpR X (binaryOp .Add) (rI0 fun i j=>.int (i + j)):=opI0 fun _ _ _ _ _ _ _ q=>add_int q
theorem Zpk:OpR X (binaryOp .Sub) (rI0 fun i j=>.int (i - j)):=opI0 fun _ _ _ _ _ _ _ q=>sub_int q
theorem Zop:OpR X (binaryOp .Mult) (rI CMul fun i j=>.int (i * j)):=opI fun _ _ _ _ _ _ _ hc q=>mul_int q hc.ok
theorem Zog:OpR X (binaryOp .FloorDiv) (rI CDiv fun i j=>.int (i / j)):=opI fun i j _ _ _ _ _ hc q=>by
 have h1:(0:Int) < j:=hc.1
 have h2:j < 1073741824:=hc.2
 exact floordiv_int (by omega) (by rw [Int.fdiv_eq_ediv_of_nonneg i (by omega)];exact q) (.inl (PyProof.noPylong_small (by omega)))
theorem Zou:OpR X (binaryOp .Mod) (rI (fun _ j=>0 < j) fun i j=>.int (i % j)):=opI fun i j _ _ _ _ _ hc q=>by
 have h1:(0:Int) < j:=hc
 exact mod_int' (by omega) (by rw [Int.fmod_eq_emod_of_nonneg i (by omega)];exact q)
end
section
variable {X:Cx} {a b c:Expr} {ta tb tc:TE} {pos:Pos}
theorem Zlr {pins:List (Addr × Obj)}{σ:St}{H:Hp}{s:Shared}{Q:VK}{k k':Bool}(I:Inv X pins σ H s)(q:Q (.bl k) H)(e:k=k'):EP X pins σ Q (.bool k') s:=by
 subst e
 exact ⟨.bl k,H,I,rfl,q⟩
theorem Zm4:OpR X (compareOp .Lt) (rI0 fun i j=>.bl (decide (i < j))):=opB0 fun _ _ _ _ _ _ _ q=>lt_int q
theorem ZpN:OpR X (compareOp .Gt) (rI0 fun i j=>.bl (decide (j < i))):=opB0 fun _ _ _ _ _ _ _ q=>gt_int q
theorem ZpG:OpR X (compareOp .GtE) (rI0 fun i j=>.bl (decide (j≤i))):=opB0 fun _ _ _ _ _ _ _ q=>ge_int q
theorem Zoy:OpR X (compareOp .Is) (fun x y H Q=>y=.non∧Q (.bl (decide (x=.non))) H):=by
 intro pins s σ H x y v u Q I rx ry h
 obtain ⟨rfl,q⟩:=h
 cases ry
 refine is_none_gen (Zlr I q ?_)
 cases x <;> first
  | (cases rx;rfl)
  | (obtain ⟨t,rfl⟩:=rx;rfl)
theorem Zjs:OpR X (compareOp .IsNot) (fun x y H Q=>y=.non∧Q (.bl (!decide (x=.non))) H):=by
 intro pins s σ H x y v u Q I rx ry h
 obtain ⟨rfl,q⟩:=h
 cases ry
 refine isnot_none_gen (Zlr I q ?_)
 cases x <;> first
  | (cases rx;rfl)
  | (obtain ⟨t,rfl⟩:=rx;rfl)
theorem OpR.or {f:Value→Value→Sem Value}{r r':R2}(h:OpR X f r)(h':OpR X f r'):OpR X f (fun x y H Q=>r x y H Q∨r' x y H Q):=by
 intro pins s σ H x y v u Q I rx ry q
 rcases q with q | q
 ·exact h pins s σ H x y v u Q I rx ry q
 ·exact h' pins s σ H x y v u Q I rx ry q
theorem ZaZ (b:Expr){op:CmpOp}(h:op≠.In:=by decide)(h2:op≠.NotIn:=by decide):behindInMarks op b=false:=by
 have e1:(op == CmpOp.In)=false:=by cases op <;> first | rfl | exact absurd rfl h
 have e2:(op == CmpOp.NotIn)=false:=by cases op <;> first | rfl | exact absurd rfl h2
 cases b <;> simp [behindInMarks,e1,e2]
theorem Znd {op:CmpOp}{r:R2}(ho:OpR X (compareOp op) r)(ha:PE X a ta)(hb:PE X b tb)(hm:behindInMarks op b=false):PE X (.Compare a [op] [b] pos) (tOp r ta tb):=by
 intro pins s σ H Q I h
 exact wpAny_Compare1 (binT ha hb I h fun v u s2 x y H2 I2 rx ry q=>ho pins s2 σ H2 x y v u Q I2 rx ry q) hm
noncomputable def ZpP (t:TE):TT:=fun σ H Q=>t σ H fun x H'=>∃ k,x=.bl k∧Q k H'
theorem ZnL {op:CmpOp}{r:R2}(ho:OpR X (compareOp op) r)(ha:PE X a ta)(hb:PE X b tb)(hm:behindInMarks op b=false):PT X (.Compare a [op] [b] pos) (ZpP (tOp r ta tb)):=by
 intro pins s σ H Q I h
 refine wpAny_isTrue_Compare1 (thn (ha pins s σ H _ I h) fun v s1 ⟨x,H1,I1,r1,q1⟩=>thn (hb pins s1 σ H1 _ I1 q1) fun u s2 ⟨y,H2,I2,r2,q2⟩ =>
  thn (ho pins s2 σ H2 x y v u _ I2 r1 r2 q2) fun c s3 ⟨z,H3,I3,r3,k,e,q3⟩=>?_) hm
 subst e
 cases r3
 exact wpAny_truthy_bool ⟨H3,I3,q3⟩
theorem Zeo:(sizeLine:Nat) < 2 ^ 63:=by rw [sizeLine_eq];decide
theorem vals1 {x:V}{us:List Value}(r:Vals [x] us):∃ u,us=[u]∧RelV x u:=by
 cases r with
 | cons r1 r2=>cases r2;exact ⟨_,rfl,r1⟩
end
end L2
namespace L2
open PySem PySem.Spec PyProof.Rows
section
variable {prog:Program} {w:World} {A:Around} {E:Value→Shared→Prop} {s:Shared} {K:PySem.W.Frag} {x dx C f:Addr} {mA:Str→Option Value} {name:Str} {v:Value}
end
theorem RelO.some_of {v:V}{o:Option Value}(r:RelO (some v) o):∃ u,o=some u∧RelV v u:=by
 cases o with
 | none=>exact (show False from r).elim
 | some u=>exact ⟨u,rfl,r⟩
section
variable {P:Program} {w:World} {H H':Hp} {h h':Heap} {a C dx:Addr} {fs fs':List (Str × V)}
end
structure Cls (K:PySem.W.Frag)(C:Addr):Prop where
 pg:PySem.W.plainGet K C Str.empty=true
 hd:PySem.W.hasDictIn K C=true
 po:PySem.W.plainOver K C=true
 sa:PySem.W.findIn K (.ref C) "__setattr__"=some (some (.builtin "object.__setattr__"))
section
variable {X:Cx} {pins:List (Addr × Obj)} {σ:St} {H:Hp} {s:Shared} {a C dx:Addr} {fs:List (Str × V)} {f:Str} {v:V} {A:Around} {E:Value→Shared→Prop}
end
section
variable {X:Cx} {o e value:Expr} {f:Str} {pos pos' tpos:Pos} {ta tv:TE}
end
section
variable {X:Cx} {pins:List (Addr × Obj)} {σ:St} {H:Hp} {s:Shared} {A:Around} {E:Value→Shared→Prop} {Q:Value→Shared→Prop} {c:Value} {b:Bool}
end
end L2
namespace L2
open PySem PySem.Spec PyProof.Rows
structure Room (k:Nat)(A:Around):Prop where
 hd:A.handled=none
 dp:A.depth + 3 * k + 5 < recursionLimit
 un:A.units + 16 * k + 200 < cLine
theorem Room.mono {j k:Nat}{A:Around}(r:Room k A)(h:j≤k):Room j A:=⟨r.hd,by have:=r.dp;omega,by have:=r.un;omega⟩
theorem Room.deeper {k:Nat}{A:Around}(r:Room (k + 1) A)(env:Env):Room k (A.deeper env) :=
 ⟨r.hd,by have:=r.dp;show A.depth + 1 + 3 * k + 5 < _;omega,by have:=r.un;show A.units + 3 + 16 * k + 200 < _;omega⟩
theorem Room.in1 {k:Nat}{A:Around}(r:Room (k + 1) A):Room k A.in1 :=
 ⟨r.hd,by have:=r.dp;show A.depth + 3 * k + 5 < _;omega,by have:=r.un;show A.units + 1 + 16 * k + 200 < _;omega⟩
theorem Room.depth {k:Nat}{A:Around}(r:Room k A):A.depth < recursionLimit:=by have:=r.dp;omega
theorem Room.units {k:Nat}{A:Around}(r:Room k A):A.units + 64 < cLine:=by have:=r.un;omega
noncomputable def tNil:TA:=fun _ H Q=>Q [] H
noncomputable def ZmX (ta:TE) (tr:TA):TA:=fun σ H Q=>ta σ H fun x H1=>tr σ H1 fun xs H2=>Q (x::xs) H2
section
variable {X:Cx} {e:Expr} {es:List Expr} {te:TE} {t:TA} {pos:Pos}
theorem YG:PA X [] tNil:=fun _ _ _ _ H Q I h=>Calls.spliced_nil ⟨[],H,I,.nil,h⟩
theorem Jv (ha:PE X e te)(hr:PA X es t)(hs:starEach (e::es) X.env=(false,eval e X.env)::starEach es X.env:=by rfl):PA X (e::es) (ZmX te t):=by
 intro pos pins s σ H Q I h
 rw [hs]
 show wpAny _ _ (spliced ((false,eval e X.env)::backTo pos (starEach es X.env))) _ _ s
 refine Calls.spliced_cons (thn (ha pins s σ H _ I h) fun u s1 ⟨x,H1,I1,r1,q1⟩=>?_)
 exact thn (hr pos pins s1 σ H1 _ I1 q1) fun us s2 ⟨xs,H2,I2,r2,q2⟩=>⟨x::xs,H2,I2,.cons r1 r2,q2⟩
noncomputable def tTup (t:TA):TE:=fun σ H Q=>t σ H fun xs H1=>xs.length≤sizeLine∧∀ p,H1 p=none→Q (.ref p) (upd H1 p (.tup xs))
noncomputable def tLst (t:TA):TE:=fun σ H Q=>t σ H fun xs H1=>xs.length≤sizeLine∧∀ p,H1 p=none→Q (.ref p) (upd H1 p (.lst xs))
theorem Zpc {x1}(h:PA X es t):PE X (.Tuple es x1 pos) (tTup t):=by
 intro pins s σ H Q I hq
 refine wpAny_Tuple_spliced (thn (h pos pins s σ H _ I hq) fun us s1 ⟨xs,H1,I1,r,z,q⟩=>⟨by rw [← r.length];exact z,?_⟩)
 have hf:H1 s1.heap.objs.size=none:=I1.hok.fresh (Nat.le_refl _)
 refine ⟨.ref s1.heap.objs.size,upd H1 s1.heap.objs.size (.tup xs),I1.laid (t':=s1.toks) (fun b u e=>Heap.get?_push_of_some _ e) (Nat.le_refl _) ?_,rfl,q _ hf⟩
 exact ⟨z,us,r,⟨_,Heap.get?_push_size _ rfl,rfl,_,rfl⟩⟩
theorem ZlQ (h:PA X es t):PE X (.List es pos) (tLst t):=by
 intro pins s σ H Q I hq
 refine wpAny_List_spliced (thn (h pos pins s σ H _ I hq) fun us s1 ⟨xs,H1,I1,r,z,q⟩=>⟨by rw [← r.length];exact z,?_⟩)
 have hf:H1 s1.heap.objs.size=none:=I1.hok.fresh (Nat.le_refl _)
 refine ⟨.ref s1.heap.objs.size,upd H1 s1.heap.objs.size (.lst xs),I1.laid (t':=s1.toks) (fun b u e=>Heap.get?_push_of_some _ e) (Nat.le_refl _) ?_,rfl,q _ hf⟩
 exact ⟨z,us,0,r,Heap.get?_push_size _ rfl⟩
end
noncomputable abbrev Sp:=List V→Hp→VK→XK→Prop
noncomputable abbrev CXT:=List Env→Hp→Shared→XK→Value→Shared→Prop
structure Env0 (P:Program)(w:World)(K:PySem.W.Frag)(mg:Str→Option Value)(base:Heap)(A:Around)(outer:List Env)(s:Shared)(H:Hp):Prop where
 frames:A.frames=some outer
 mod:Mod K mg base
 bs:∀ b o,base.get? b=some o→s.heap.get? b=some o∧H b=none
 bsz:base.objs.size≤s.heap.objs.size
 funs:s.heap.FunFrames base outer
 frf:∀ b ∈ frs outer,H b=none
 hok:HOk P w H s.heap
 bare:AllBare s.gens
noncomputable def CE (outer:List Env) (P:Program) (w:World) (H:Hp) (s:Shared) (Q:VK) (u:Value) (s':Shared):Prop :=
 ∃ v H',s'.os=s.os∧AllBare s'.gens∧Un (frs outer) [] H H' s.heap s'.heap∧HOk P w H' s'.heap∧RelV v u∧Q v H'
noncomputable def CR (CX:CXT) (outer:List Env) (P:Program) (w:World) (H:Hp) (s:Shared) (Q:VK) (E:XK) (r:Result) (s':Shared):Prop :=
 match r with
 | .ok (.ret u)=>CE outer P w H s Q u s'
 | .ok _=>False
 | .error e=>CX outer H s E e s'
structure FnOk (P:Program)(w:World)(K:PySem.W.Frag)(mg:Str→Option Value)(base:Heap)(CX:CXT)(k:Nat)(f:Addr)(fd:FuncData)(ps:List Str)(sp:Sp):Prop where
 len:∀ vs H Q E,sp vs H Q E→vs.length=ps.length
 run:∀ (A:Around) (outer:List Env) (s:Shared) (H:Hp) (args:Args) (us:List Value) (vs:List V) (Q:VK) (E:XK),Room k A→Env0 P w K mg base A outer s H→BindsTo s fd args (ps.zip us)→Vals vs us→sp vs H Q E →
  codeAny (model P w) A (.call (.ref f) args) (CR CX outer P w H s Q E) s
theorem Env0.in1 {P:Program}{w:World}{K:PySem.W.Frag}{mg:Str→Option Value}{base:Heap}{A:Around}{outer:List Env}{s:Shared}{H:Hp}(e:Env0 P w K mg base A outer s H) :
  Env0 P w K mg base A.in1 outer s H:=⟨e.frames,e.mod,e.bs,e.bsz,e.funs,e.frf,e.hok,e.bare⟩
section
variable {X:Cx} {pins:List (Addr × Obj)} {σ:St} {H:Hp} {s s':Shared}
theorem Inv.env0 (I:Inv X pins σ H s):Env0 X.prog X.w X.K X.mg X.base X.A X.stack s H :=
 ⟨I.ok.frames,I.ok.mod,I.bs,Nat.le_trans I.ok.bsz I.sz,I.stack,I.Zjj,I.hok,I.bare⟩
theorem Inv.after {Q:VK}{u:Value}(I:Inv X pins σ H s)(h:CE X.stack X.prog X.w H s Q u s'):EP X pins σ Q u s':=by
 obtain ⟨v,H',os,bare,un,hok,r,q⟩:=h
 obtain ⟨hh,g,d,t,os'⟩:=s'
 obtain rfl:os'=s.os:=os
 exact ⟨v,H',I.call (h':=hh) (g':=g) (d':=d) (t':=t) (ch:=[]) un hok bare (fun b z=>absurd z (by simp)),r,q⟩
end
noncomputable def ZmY (sp:Sp) (dvs:List V) (E:XK) (t:TA):TE:=fun σ H Q=>t σ H fun vs H1=>sp (vs++dvs) H1 Q E
noncomputable def Binds (K:PySem.W.Frag) (fd:FuncData) (ps:List Str) (ds:List Value):Prop :=
 ∀ (s:Shared) (us:List Value),K.In s.heap→(us++ds).length=ps.length→BindsTo s fd ⟨us,[]⟩ (ps.zip (us++ds))
theorem Binds.all {K:PySem.W.Frag}{fd:FuncData}{ps:List Str}(h:∀ us:List Value,us.length=ps.length→bindArgs fd ⟨us,[]⟩=pure (ps.zip us)):Binds K fd ps []:=fun s us _ hl=>by
 rw [List.append_nil] at hl ⊢
 exact .of_eq (h us hl)
noncomputable def Passes (CX:CXT) (X:Cx) (E:XK):Prop:=∀ (pins:List (Addr × Obj)) (σ:St) (H:Hp) (s:Shared) (e:Value) (s':Shared),Inv X pins σ H s→CX X.stack H s E e s'→X.xe e s'
section
variable {X:Cx} {CX:CXT} {k:Nat} {f C:Addr} {fd:FuncData} {ps:List Str} {sp:Sp} {dvs:List V} {ds:List Value} {E:XK} {x m:Str} {p pos apos:Pos} {e o:Expr} {es:List Expr} {ta:TE} {t:TA}
theorem Zlv {pins:List (Addr × Obj)}{σ:St}{H:Hp}{s:Shared}{Q:VK}{us:List Value}{vs:List V}(F:FnOk X.prog X.w X.K X.mg X.base CX k f fd ps sp)(hr:Room k X.A)(hb:Binds X.K fd ps ds)(hd:Vals dvs ds)(hx:Passes CX X E)
  (I:Inv X pins σ H s) (r:Vals vs us) (h:sp (vs++dvs) H Q E):wpAny (model X.prog X.w) X.A (call (.ref f) us) (EP X pins σ Q) X.xe s:=by
 have r2:Vals (vs++dvs) (us++ds):=r.append hd
 have hl:(us++ds).length=ps.length:=by rw [← r2.length];exact F.len _ _ _ _ h
 refine wpAny_call (codeAny_mono (F.run X.A X.stack s H ⟨us,[]⟩ (us++ds) (vs++dvs) Q E hr I.env0 (hb s us I.kIn hl) r2 h) fun r s' hq=>?_)
 cases r with
 | error e=>exact hx pins σ H s e s' I hq
 | ok fl =>
  cases fl with
  | ret u=>exact I.after hq
  | next=>exact False.elim hq
  | brk=>exact False.elim hq
  | cont=>exact False.elim hq
theorem Zn9 (F:FnOk X.prog X.w X.K X.mg X.base CX k f fd ps sp)(hr:Room k X.A)(hg:Gl X x)(hm:X.mg x=some (.ref f))(hk:PySem.W.keepIn X.K (.ref f)=true)(hb:Binds X.K fd ps ds)(hd:Vals dvs ds)(hx:Passes CX X E)
  (ha:PA X (e::es) t) (hdb:(x == ("__debug__":Str))=false:=by decide) (he:starEach (e::es) X.env=(false,eval e X.env)::starEach es X.env:=by rfl) (hpl:(backTo pos (starEach es X.env)).any (·.1)=false:=by rfl) :
  PE X (.Call (.Name x p) (e::es) [] pos) (ZmY sp dvs E t):=by
 intro pins s σ H Q I h
 refine wpAny_Call_Name_kw (Zg5 I hg hm ?_ hdb)
 refine PySem.W.callWith_K (h₀:=X.base) I.ok.mod.kin hk (thn (ha pos pins s σ H _ I h) fun us s1 ⟨vs,H1,I1,r,q⟩=>⟨I1.kIn,?_⟩) he hpl
 exact Zlv F hr hb hd hx I1 r q
theorem ZmT (F:FnOk X.prog X.w X.K X.mg X.base CX k f fd ps sp)(hr:Room k X.A)(hg:Gl X x)(hm:X.mg x=some (.ref f))(hk:PySem.W.keepIn X.K (.ref f)=true)(hb:Binds X.K fd ps ds)(hd:Vals dvs ds)(hx:Passes CX X E)
  (hdb:(x == ("__debug__":Str))=false:=by decide):PE X (.Call (.Name x p) [] [] pos) (ZmY sp dvs E tNil):=by
 intro pins s σ H Q I h
 refine wpAny_Call_Name_kw (Zg5 I hg hm ?_ hdb)
 exact PySem.W.callWith_K0 I.kIn hk (Zlv (us:=[]) F hr hb hd hx I .nil h)
end
noncomputable def PK (X:Cx) (kws:List Keyword) (t:TA):Prop :=
 ∀ (pos:Pos) (pins:List (Addr × Obj)) (s:Shared) (σ:St) (H:Hp) (Q:List V→Hp→Prop),Inv X pins σ H s→t σ H Q→wpAny (model X.prog X.w) X.A (evalAll ((backToKw pos (keywordEach kws X.env)).map (·.2))) (AP X pins σ Q) X.xe s
section
variable {X:Cx} {CX:CXT} {k:Nat} {f C:Addr} {fd:FuncData} {ps ks:List Str} {sp:Sp} {E:XK} {x m:Str} {p pos apos kpos:Pos} {e o:Expr} {es:List Expr} {kws:List Keyword} {te ta:TE} {t tk:TA} {nm:Option Str}
theorem ZoZ:PK X [] tNil:=fun _ _ _ _ H Q I h=>wpAny_evalAll_nil ⟨[],H,I,.nil,h⟩
theorem Znb (ha:PE X e te)(hr:PK X kws t):PK X (⟨nm,e,kpos⟩::kws) (ZmX te t):=by
 intro pos pins s σ H Q I h
 show wpAny _ _ (evalAll ((do let v ← eval e X.env;standAt pos;pure v)::(backToKw pos (keywordEach kws X.env)).map (·.2))) _ _ s
 refine wpAny_evalAll_cons (wpAny_bind (thn (ha pins s σ H _ I h) fun u s1 ⟨x,H1,I1,r1,q1⟩=>wpAny_bind (wpAny_standAt (wpAny_pure ?_))))
 exact thn (hr pos pins s1 σ H1 _ I1 q1) fun us s2 ⟨xs,H2,I2,r2,q2⟩=>⟨x::xs,H2,I2,.cons r1 r2,q2⟩
variable {g:List Value→List Value→List Value} {gV:List V→List V→List V}
end
structure Yh (N P:List Str)(sc:Scope):Prop where
 kind:sc.kind=.function
 co:sc.isCoroutine=false
 gen:sc.isGenerator=false
 nd:N.Nodup
 pre:N.take P.length=P
 par:∀ x ∈ P,sc.names.lookup x=some .local∨sc.names.lookup x=some .cell
 nofree:∀ y ∈ sc.names,y.2≠.free
theorem Zho {kindOf:Str→Option NameKind}{x:Str}:∀ {binds:List (Str × Value)} {m:Str→Option Value},(∀ v,(x,v) ∉ binds)→bindL kindOf binds m x=m x
 | [],_,_=>rfl
 | (n,v)::r,m,h=>by
  unfold bindL
  rw [Zho fun w hw=>h w (List.mem_cons_of_mem _ hw)]
  split
  ·have:x≠n:=by rintro rfl;exact h v List.mem_cons_self
   simp [this]
  ·rfl
theorem Zht {kindOf:Str→Option NameKind}{x:Str}:∀ {binds:List (Str × Value)} {m:Str→Option Value},(∀ v,(x,v) ∉ binds)→bindC kindOf binds m x=m x
 | [],_,_=>rfl
 | (n,v)::r,m,h=>by
  unfold bindC
  rw [Zht fun w hw=>h w (List.mem_cons_of_mem _ hw)]
  split
  ·rfl
  ·have:x≠n:=by rintro rfl;exact h v List.mem_cons_self
   simp [this]
theorem Zhc {kindOf:Str→Option NameKind}{x:Str}{v:Value}:∀ {P:List Str} {vs:List Value} {i:Nat} {m:Str→Option Value},P.Nodup→P[i]?=some x→vs[i]?=some v→kindOf x=some .local →
  bindL kindOf (P.zip vs) m x=some v
 | [],_,_,_,_,h,_,_=>by simp at h
 | _::_,[],_,_,_,_,h,_=>by simp at h
 | p::P,w::vs,0,m,nd,h1,h2,hk=>by
  simp at h1 h2;subst h1;subst h2
  show bindL kindOf ((p,w)::P.zip vs) m p=_
  unfold bindL
  rw [Zho fun v hv=>(List.nodup_cons.mp nd).1 (List.of_mem_zip hv).1,if_pos hk]
  simp
 | p::P,w::vs,i + 1,m,nd,h1,h2,hk=>by
  show bindL kindOf ((p,w)::P.zip vs) m x=_
  unfold bindL
  exact Zhc (i:=i) (List.nodup_cons.mp nd).2 (by simpa using h1) (by simpa using h2) hk
theorem Zhd {kindOf:Str→Option NameKind}{x:Str}{v:Value}:∀ {P:List Str} {vs:List Value} {i:Nat} {m:Str→Option Value},P.Nodup→P[i]?=some x→vs[i]?=some v→kindOf x≠some .local →
  bindC kindOf (P.zip vs) m x=some v
 | [],_,_,_,_,h,_,_=>by simp at h
 | _::_,[],_,_,_,_,h,_=>by simp at h
 | p::P,w::vs,0,m,nd,h1,h2,hk=>by
  simp at h1 h2;subst h1;subst h2
  show bindC kindOf ((p,w)::P.zip vs) m p=_
  unfold bindC
  rw [Zht fun v hv=>(List.nodup_cons.mp nd).1 (List.of_mem_zip hv).1,if_neg hk]
  simp
 | p::P,w::vs,i + 1,m,nd,h1,h2,hk=>by
  show bindC kindOf ((p,w)::P.zip vs) m x=_
  unfold bindC
  exact Zhd (i:=i) (List.nodup_cons.mp nd).2 (by simpa using h1) (by simpa using h2) hk
noncomputable def start (N:List Str) (vs:List V):St:=vs.map some++List.replicate (N.length - vs.length) none
noncomputable def cxOf (CX:CXT) (P:Program) (w:World) (K:PySem.W.Frag) (mg:Str→Option Value) (base:Heap) (N:List Str) (qual:Str) (scope:Scope) (f:Addr) (cd:Value) (A:Around) (outer:List Env) (s:Shared) (H:Hp) (E:XK):Cx where
 prog:=P
 w:=w
 K:=K
 mg:=mg
 base:=base
 A:=A.deeper (envOfC qual scope s.heap.objs.size f cd)
 N:=N
 s₀:=s
 H₀:=H
 env:=envOfC qual scope s.heap.objs.size f cd
 outer:=outer
 stack:=envOfC qual scope s.heap.objs.size f cd::outer
 ex:=[]
 calm:=true
 fn:=fun _=>true
 pn:=[]
 xe:=fun e s'=>wpAny (model P w) (A.deeper (envOfC qual scope s.heap.objs.size f cd)) (leaving (envOfC qual scope s.heap.objs.size f cd) e) (fun _ s''=>CX outer H s E e s'') (fun e' s''=>CX outer H s E e' s'') s'
theorem ZhO {sc:Scope}{n:Nat}{x:Str}(h:sc.names.lookup x=some .cell):∃ c,(cellsFrom n sc.names []).lookup x=some c:=by
 have q:=PySem.W.cellsFrom_some sc.names n [] (.inl h)
 exact Option.isSome_iff_exists.mp q
theorem Zls {CX : CXT}{P : Program}{w : World}{K : PySem.W.Frag}{mg : Str → Option Value}{base : Heap}{N ps : List Str}{qual : Str}{scope : Scope}{f : Addr}{cd : Value}{A : Around}{outer : List Env}{s s1 : Shared}{H : Hp}{E : XK}{us : List Value}{vs : List V}
    (S : Yh N ps scope) (hd : A.handled = none) (e0 : Env0 P w K mg base A outer s H) (hl : vs.length = ps.length) (r : Vals vs us)
    (x : InCallC s s.heap.objs.size (bindL (envOfC qual scope s.heap.objs.size f cd).kindOf (ps.zip us) fun _ => none) (cellsFrom (s.heap.objs.size + 1) scope.names []) (bindC (envOfC qual scope s.heap.objs.size f cd).kindOf (ps.zip us) fun _ => none) s1) :
    Inv (cxOf CX P w K mg base N qual scope f cd A outer s H E) [] (start N vs) H s1 := by
  have hpl : ps.length ≤ N.length := by have := congrArg List.length S.pre; rw [List.length_take] at this; omega
  obtain ⟨h1, tk, rfl, hk⟩ := x.done
  have noA : ∀ b : Addr, b ∉ (cxOf CX P w K mg base N qual scope f cd A outer s H E).ex := fun b z => absurd (show b ∈ ([] : List Addr) from z) (by simp)
  refine ⟨⟨e0.mod, S.kind, rfl, rfl, Nat.le_refl _, fun y z c h1 h2 => ?_, fun y hy => ?_, fun y c _ h => ?_, fun _ => hd, Around.frames_deeper e0.frames, .inr ⟨rfl, rfl⟩, fun b z => absurd z (noA b), e0.bs, e0.bsz, fun b _ _ => noA b, fun b z => absurd z (noA b), e0.funs, e0.frf⟩,
    rfl, e0.bare, Un.kept hk, ⟨_, x.toInCall.ns, fun i y v h1 h2 h3 => ?_⟩, fun y c h => ⟨_, x.cell y c h⟩, e0.hok.fresh (Nat.le_refl _), fun y c h => ?_, fun p hp => absurd (show p ∈ ([] : List (Addr × Obj)) from hp) (by simp), e0.hok.kept hk, ?_⟩
  · exact name_of_addr x.apart (PySem.mem_of_lookup h1) (PySem.mem_of_lookup h2)
  · have hy : scope.names.lookup y = some .cell ∨ scope.names.lookup y = some .free := hy
    rcases hy with hy | hy
    · exact ZhO hy
    · exact absurd rfl (S.nofree _ (PySem.mem_of_lookup hy))
  · exact Nat.le_of_lt (x.above y c (PySem.mem_of_lookup h))
  · have hi : i < vs.length := by
      unfold start at h2
      by_cases hi : i < vs.length
      · exact hi
      · rw [List.getElem?_append_right (by simpa using hi)] at h2
        rw [List.getElem?_replicate] at h2
        split at h2 <;> cases h2
    have ha : vs[i]? = some v := by
      unfold start at h2
      rw [List.getElem?_append_left (by simpa using hi), List.getElem?_map] at h2
      cases e : vs[i]? with
      | none => rw [e] at h2; cases h2
      | some a => rw [e] at h2; cases h2; rfl
    obtain ⟨u, hu, rv⟩ := r.get ha
    have hp : ps[i]? = some y := by
      rw [← S.pre, List.getElem?_take_of_lt (by omega)]; exact h1
    have ndP : ps.Nodup := by rw [← S.pre]; exact S.nd.sublist (List.take_sublist _ _)
    refine ⟨u, rv, ?_⟩
    rcases S.par y (List.mem_of_getElem? hp) with k | k
    · exact .inl ⟨k, Zhc ndP hp hu k⟩
    · obtain ⟨c, e⟩ := ZhO (n := s.heap.objs.size + 1) k
      refine .inr ⟨.inl k, c, e, ?_⟩
      have q := x.cell y c e
      rw [Zhd ndP hp hu (by show scope.names.lookup y ≠ _; rw [k]; decide)] at q
      exact q
  · exact e0.hok.fresh (Nat.le_of_lt (x.above y c (PySem.mem_of_lookup h)))
  · unfold start
    show _ = N.length
    rw [List.length_append, List.length_map, List.length_replicate]
    omega
theorem ZpB {CX:CXT}{P:Program}{w:World}{K:PySem.W.Frag}{mg:Str→Option Value}{base:Heap}{k:Nat}{f:Addr}{name qual:Str}{params:Arguments}{body:List Stmt}{scope:Scope}{dV kV doc pm cdv ct oc:Value}{an od:Option Addr}
  {osl:Array (Option Value)} {N ps:List Str} {sp:Sp} (lk:K.lookup f=some ⟨oc,od,.func (PySem.W.fnOf name qual params body scope dV kV doc pm an cdv ct),osl⟩) (hcd:PySem.W.codeIn K cdv qual=true) (S:Yh N ps scope)
  (len:∀ vs H Q E,sp vs H Q E→vs.length=ps.length)
  (hbody:∀ (A:Around) (outer:List Env) (s:Shared) (H:Hp) (vs:List V) (Q:VK) (E:XK),Room k (A.deeper (envOfC qual scope s.heap.objs.size f cdv))→sp vs H Q E →
   ∃ t,PSs (cxOf CX P w K mg base N qual scope f cdv A outer s H E) body t∧t { nx:=fun _ H'=>Q .non H',rt:=Q } (start N vs) H) :
  FnOk P w K mg base CX (k + 1) f (PySem.W.fnOf name qual params body scope dV kV doc pm an cdv ct) ps sp:=by
 refine ⟨len,fun A outer s H args us vs Q E hr e0 hb r hsp=>?_⟩
 have hl:=len _ _ _ _ hsp
 have KX:K.In s.heap:=e0.mod.kin.keeps fun b o e=>(e0.bs b o e).1
 have lim:s.heap.NoLimit:=e0.mod.nolimit.keeps fun b o e=>(e0.bs b o e).1
 have hkind:∀ y ∈ ps.zip us,scope.names.lookup y.1=some .local∨(scope.names.lookup y.1=some .cell∧((cellsFrom (s.heap.objs.size + 1) scope.names []).lookup y.1).isSome=true):=fun ⟨n,v⟩ hy=>by
  rcases S.par n (List.of_mem_zip hy).1 with q | q
  ·exact .inl q
  ·exact .inr ⟨q,PySem.W.cellsFrom_some _ _ _ (.inl q)⟩
 refine codeAny_call_function hr.depth (KX _ _ lk) rfl S.co S.gen rfl (PySem.W.codeRec_of KX hcd) (hb _ _ _ _ ?_)
 refine wpAny_newFunctionEnv_cells S.kind hkind fun env he s1 x=>?_
 subst he
 refine ⟨lim.keeps x.toInCall.keep,codeAny_func ?_⟩
 obtain ⟨t,ht,hq⟩:=hbody A outer s H vs Q E (hr.deeper _) hsp
 have I:Inv (cxOf CX P w K mg base N qual scope f cdv A outer s H E) [] (start N vs) H s1:=Zls S hr.hd e0 hl r x
 refine wpAny_mono (ht [] s1 (start N vs) H _ I hq) (fun fl s' hs=>?_) fun e s' hs=>hs
 have fin:∀ {σ':St} {H':Hp} {v:V} {u:Value},Inv (cxOf CX P w K mg base N qual scope f cdv A outer s H E) [] σ' H' s'→RelV v u→Q v H'→CE outer P w H s Q u s' :=
  fun {σ' H' v u} J rv q=>⟨v,H',J.os,J.bare,J.base,J.hok,rv,q⟩
 cases fl with
 | ret u =>
  obtain ⟨v,σ',H',J,rv,q⟩:=hs
  exact fin J rv q
 | next =>
  obtain ⟨σ',H',J,q⟩:=hs
  exact fin (v:=V.non) (u:=Value.none) J rfl q
 | brk =>
  obtain ⟨_,_,_,q⟩:=hs
  exact False.elim q
 | cont =>
  obtain ⟨_,_,_,q⟩:=hs
  exact False.elim q
end L2
namespace L2
open PySem PySem.Spec PyProof.Rows
section
variable {X:Cx} {x:Str} {p pos:Pos} {e:Expr} {es:List Expr} {t:TA} {id T:String} {r:List V→Hp→VK→Prop}
noncomputable def tCB (r:List V→Hp→VK→Prop) (t:TA):TE:=fun σ H Q=>t σ H fun vs H1=>r vs H1 Q
theorem Zix (hc:ZbB X (.builtin id) r) (hg:Gl X x) (hm:X.mg x=none) (hv:bootBuiltins x=some (.builtin id)) (ha:PA X (e::es) t) (hn:x≠"__name__":=by decide) (hdb:(x == ("__debug__":Str))=false:=by decide)
  (he:starEach (e::es) X.env=(false,eval e X.env)::starEach es X.env:=by rfl) (hpl:(backTo pos (starEach es X.env)).any (·.1)=false:=by rfl):PE X (.Call (.Name x p) (e::es) [] pos) (tCB r t):=by
 intro pins s σ H Q I h
 refine wpAny_Call_Name_kw (ZbJ I hg hm hv ?_ hn hdb)
 exact PyProof.Rows.callWith_builtin1 (thn (ha pos pins s σ H _ I h) fun us s1 ⟨vs,H1,I1,r1,q1⟩=>hc pins s1 σ H1 vs us Q I1 r1 q1) he hpl
theorem Zb9 (hc:ZbB X (.type T) r) (hg:Gl X x) (hm:X.mg x=none) (hv:bootBuiltins x=some (.type T)) (ha:PA X (e::es) t) (hn:x≠"__name__":=by decide) (hdb:(x == ("__debug__":Str))=false:=by decide)
  (he:starEach (e::es) X.env=(false,eval e X.env)::starEach es X.env:=by rfl) (hpl:(backTo pos (starEach es X.env)).any (·.1)=false:=by rfl):PE X (.Call (.Name x p) (e::es) [] pos) (tCB r t):=by
 intro pins s σ H Q I h
 refine wpAny_Call_Name_kw (ZbJ I hg hm hv ?_ hn hdb)
 exact PyProof.Rows.callWith_type1 (thn (ha pos pins s σ H _ I h) fun us s1 ⟨vs,H1,I1,r1,q1⟩=>hc pins s1 σ H1 vs us Q I1 r1 q1) he hpl
end
end L2
namespace HT
open PySem PyProof.Rows
section
open PySem.SeqAt
open PySem.AutoSeq1 (wpAny_loadPart')
open PySem.MeetsSeq PySem.MeetsSeq2 PySem.MeetsSeq3
end
section
variable {prog:Program} {w:World} {A:Around} {E:Value→Shared→Prop} {s:Shared}
end
end HT
namespace L2
open PySem PySem.Spec PyProof.Rows
noncomputable abbrev TO:=St→Hp→(Option Int→Hp→Prop)→Prop
section
variable {X:Cx} {e:Expr} {te:TE} {lo hi:Option Expr} {tl th:TO} {pos p2:Pos}
noncomputable def SlR (X:Cx) (r:V→Option Int→Option Int→Hp→VK→Prop):Prop :=
 ∀ (pins:List (Addr × Obj)) (s:Shared) (σ:St) (H:Hp) (x:V) (v vl vu:Value) (lo hi:Option Int) (sl:Addr) (Q:VK),Inv X pins σ H s→RelV x v→s.heap.IsSliceOf sl vl vu .none→IsPart vl lo→IsPart vu hi→r x lo hi H Q →
  ∃ T id,typeLookup (.type T) "__getitem__"=pure (some (.builtin id))∧s.TypeIs v T∧wpAny (model X.prog X.w) X.A (getItem v (.ref sl)) (EP X pins σ Q) X.xe s
end
end L2
namespace L2
open PySem PySem.Spec PyProof.Rows
noncomputable def ixN (n:Nat) (i:Int):Option Nat:=if 0≤i then (if i < n then some i.toNat else none) else if -(n:Int)≤i then some (i + n).toNat else none
noncomputable def atI {α:Type} (xs:List α) (i:Int):Option α:=(ixN xs.length i).bind fun j=>xs[j]?
theorem ZjH {n:Nat}{i:Int}{j:Nat}(h:ixN n i=some j):seqIndex? i n=some j∧j < n∧-(n:Int)≤i∧i < n:=by
 unfold ixN at h
 by_cases h0:0≤i
 ·rw [if_pos h0] at h
  by_cases h1:i < n
  ·rw [if_pos h1] at h
   have e:i.toNat=j:=Option.some.inj h
   exact ⟨by rw [seqIndex_of h0 h1,e],by omega,by omega,h1⟩
  ·rw [if_neg h1] at h;cases h
 ·rw [if_neg h0] at h
  by_cases h1:-(n:Int)≤i
  ·rw [if_pos h1] at h
   have e:(i + n).toNat=j:=Option.some.inj h
   exact ⟨by rw [seqIndex_neg (by omega) h1,e],by omega,h1,by omega⟩
  ·rw [if_neg h1] at h;cases h
theorem ZgZ {α:Type}{xs:List α}{i:Int}{v:α}(h:atI xs i=some v):∃ j,seqIndex? i xs.length=some j∧xs[j]?=some v∧j < xs.length∧-(xs.length:Int)≤i∧i < xs.length:=by
 unfold atI at h
 cases e:ixN xs.length i with
 | none=>rw [e] at h;cases h
 | some j =>
  rw [e] at h
  obtain ⟨h1,h2,h3,h4⟩:=ZjH e
  exact ⟨j,h1,h,h2,h3,h4⟩
noncomputable def ZgK (b:Expr):Prop:=∀ o i,subscripted b false o i=operate [o,i] (getItem o i)
noncomputable def IxR (X:Cx) (r:R2):Prop :=
 ∀ (value slice:Expr) (pins:List (Addr × Obj)) (s:Shared) (σ:St) (H:Hp) (x y:V) (v u:Value) (Q:VK),Inv X pins σ H s→RelV x v→RelV y u→r x y H Q →
  subscripted slice false v u=operate [v,u] (getItem v u)→wpAny (model X.prog X.w) X.A (subscriptTail value slice v u) (EP X pins σ Q) X.xe s
noncomputable def MtR (X:Cx) (id:String) (r:V→List V→Hp→VK→Prop):Prop :=
 ∀ (pins:List (Addr × Obj)) (s:Shared) (σ:St) (H:Hp) (x:V) (xs:List V) (v:Value) (us:List Value) (Q:VK),Inv X pins σ H s→RelV x v→Vals xs us→r x xs H Q →
  wpAny (model X.prog X.w) X.A (call (.builtin id) (v::us)) (EP X pins σ Q) X.xe s
section
variable {X:Cx} {a b:Expr} {ta tb:TE} {pos:Pos}
theorem IxR.or {r r':R2}(h:IxR X r)(h':IxR X r'):IxR X (fun x y H Q=>r x y H Q∨r' x y H Q):=by
 intro value slice pins s σ H x y v u Q I rx ry q hs
 rcases q with q | q
 ·exact h value slice pins s σ H x y v u Q I rx ry q hs
 ·exact h' value slice pins s σ H x y v u Q I rx ry q hs
theorem Zm8 {r:R2}(hr:IxR X r)(ha:PE X a ta)(hb:PE X b tb)(hs:ZgK b):PE X (.Subscript a b pos) (tOp r ta tb):=by
 intro pins s σ H Q I h
 exact Subscript_ (binT ha hb I h fun v u s2 x y H2 I2 rx ry q=>hr a b pins s2 σ H2 x y v u Q I2 rx ry q (hs _ _))
noncomputable def rIxL (K:PySem.W.Frag):R2:=fun x y H Q=>∃ p xs i v,x=.ref p∧y=.int i∧SqL K H p xs∧atI xs i=some v∧Q v H
noncomputable def rIxT (K:PySem.W.Frag):R2:=fun x y H Q=>∃ p xs i v,x=.ref p∧y=.int i∧SqT K H p xs∧atI xs i=some v∧Q v H
noncomputable def rIxS:R2:=fun x y H Q=>∃ z i c,x=.str z∧y=.int i∧z.length≤sizeLine∧atI z.cps.toList i=some c∧Q (.str ⟨#[c]⟩) H
theorem ZjI : IxR X (rIxL X.K) := by
  intro value slice pins s σ H x y v u Q I rx ry h hs
  obtain ⟨p, xs, i, z, rfl, rfl, hq, he, q⟩ := h
  cases rx
  obtain ⟨t, rfl⟩ := ry
  obtain ⟨its, r, pl, hz⟩ := I.list hq
  obtain ⟨j, h1, h2, h3, h4, h5⟩ := ZgZ he
  obtain ⟨w, ew, rw'⟩ := r.get h2
  have hl := r.length
  have hn := Zeo
  have fin : EP X pins σ Q w s := ⟨z, H, I, rw', q⟩
  by_cases h0 : 0 ≤ i
  · have hj : i.toNat = j := by
      rw [seqIndex_of h0 h5] at h1
      exact Option.some.inj h1
    exact item_listR pl.isList h0 (by omega) (by rw [hj]; simpa using ew) fin hs
  · have hj : (i + (its.toArray.size : Int)).toNat = j := by
      rw [seqIndex_neg (by omega) h4] at h1
      rw [List.size_toArray, ← hl]
      exact Option.some.inj h1
    exact subscriptTail_builtinR (x := w) pl.isList.typeIs slot_list_getitem.lookup
      (wpAny_getItem_list_neg (Q := fun r s' => r = w ∧ EP X pins σ Q r s') pl.isList (by omega) (by rw [List.size_toArray] <;> omega) (by omega) (by rw [hj]; simpa using ew) ⟨rfl, fin⟩) hs
theorem ZoM:IxR X (rIxT X.K):=by
 intro value slice pins s σ H x y v u Q I rx ry h hs
 obtain ⟨p,xs,i,z,rfl,rfl,hq,he,q⟩:=h
 cases rx
 obtain ⟨t,rfl⟩:=ry
 obtain ⟨its,r,pl,hz⟩:=I.tuple hq
 obtain ⟨j,h1,h2,h3,h4,h5⟩:=ZgZ he
 obtain ⟨w,ew,rw'⟩:=r.get h2
 have hl:=r.length
 have hn:=Zeo
 have fin:EP X pins σ Q w s:=⟨z,H,I,rw',q⟩
 exact subscriptTail_builtinR (x:=w) pl.typeIs slot_tuple_getitem.lookup
  (getItem_tuple (j:=j) (Q:=fun r s'=>r=w∧EP X pins σ Q r s') pl (by omega) (by omega) (by rw [List.size_toArray,← hl];exact h1) (by simpa using ew) ⟨rfl,fin⟩) hs
theorem Zot:IxR X rIxS:=by
 intro value slice pins s σ H x y v u Q I rx ry h hs
 obtain ⟨z,i,c,rfl,rfl,hz,he,q⟩:=h
 obtain ⟨t,rfl⟩:=rx
 obtain ⟨t',rfl⟩:=ry
 obtain ⟨j,h1,h2,h3,h4,h5⟩:=ZgZ he
 have hl:z.cps.toList.length=z.length:=by simp [Str.length]
 rw [hl] at h1 h4 h5
 have hn:=Zeo
 exact tail_any (typeIs_str s z t) slot_str_getitem.lookup (getItem_str (c:=c) (by
  have e1:decide (i < -(2 ^ 63:Int))=false:=decide_eq_false (by omega)
  have e2:decide (i ≥ 2 ^ 63)=false:=decide_eq_false (by omega)
  rw [e1,e2,Bool.or_false]) (by rw [h1];simpa using h2) ⟨.str ⟨#[c]⟩,H,I.tok _,⟨_,rfl⟩,q⟩) hs
noncomputable def rIx (K:PySem.W.Frag):R2:=fun x y H Q=>rIxL K x y H Q∨rIxT K x y H Q∨rIxS x y H Q
theorem Zph:IxR X (rIx X.K):=ZjI.or (ZoM.or Zot)
theorem Zj2 (its:List Value)(n j:Nat)(u:Value):Obj.mapSeq (·.setIfInBounds j u) { cls:=.type "list",data:=.seq its.toArray n }={ cls:=.type "list",data:=.seq (its.set j u).toArray n }:=by
 simp [Obj.mapSeq]
theorem Inv.lst {pins:List (Addr × Obj)}{σ:St}{H:Hp}{s:Shared}{p:Addr}{xs:List V}(I:Inv X pins σ H s)(h:H p=some (.lst xs)) :
  ∃ (its:List Value) (n:Nat),Vals xs its∧s.heap.get? p=some { cls:=.type "list",data:=.seq its.toArray n }∧xs.length≤sizeLine:=by
 obtain ⟨z,its,n,r,e⟩:=I.hok p _ h
 exact ⟨its,n,r,e,z⟩
theorem Inv.Zoz {pins:List (Addr × Obj)}{σ:St}{H:Hp}{s:Shared}{p:Addr}{xs ys:List V}{its its':List Value}{n n':Nat}{f:Obj→Obj}(I:Inv X pins σ H s)(h:H p=some (.lst xs))
  (ho:s.heap.get? p=some { cls:=.type "list",data:=.seq its.toArray n }) (hf:f { cls:=.type "list",data:=.seq its.toArray n }={ cls:=.type "list",data:=.seq its'.toArray n' }) (r:Vals ys its') (hz:ys.length≤sizeLine) (t:Nat) :
  Inv X pins σ (upd H p (.lst ys)) { s with heap:=s.heap.update p f,toks:=t }:=by
 have e:(s.heap.update p f).get? p=some { cls:=.type "list",data:=.seq its'.toArray n' }:=by
  rw [Heap.get?_update_self f ho (by rw [hf] <;> rfl),hf]
 refine I.write (x:=p) (e:=p) (by rw [h];trivial) (.inl rfl) (fun b u hb q=>(Heap.get?_update_other _ _ (Ne.symm hb)).trans q) ⟨_,e⟩ ?_
 exact ⟨hz,its',n',r,e⟩
noncomputable def ZpF:V→V→V→Hp→(Hp→Prop)→Prop:=fun o i v H Q=>∃ p xs k j,o=.ref p∧i=.int k∧H p=some (.lst xs)∧ixN xs.length k=some j∧Q (upd H p (.lst (xs.set j v)))
theorem set_list : PSet X ZpF := by
  intro pins s σ H o i v ov iv u Q I ro ri rv h
  obtain ⟨p, xs, k, j, rfl, rfl, hp, hj, q⟩ := h
  cases ro
  obtain ⟨t, rfl⟩ := ri
  obtain ⟨its, n, r, ho, hz⟩ := I.lst hp
  obtain ⟨h1, h2, h3, h4⟩ := ZjH hj
  have hl := r.length
  have hn := Zeo
  have I' : Inv X pins σ (upd H p (.lst (xs.set j v))) { s with heap := s.heap.update p (Obj.mapSeq (·.setIfInBounds j u)) } :=
    I.Zoz hp ho (Zj2 its n j u) (r.set rv j) (by rw [List.length_set]; exact hz) s.toks
  by_cases h0 : 0 ≤ k
  · have hk : k.toNat = j := by
      rw [seqIndex_of h0 h4] at h1
      exact Option.some.inj h1
    exact PySem.W.ki_setAt ho h0 (by omega) (by rw [List.size_toArray, ← hl]; exact h4) (by rw [hk]; exact ⟨_, I', q⟩)
  · have hk : (k + (its.toArray.size : Int)).toNat = j := by
      rw [seqIndex_neg (by omega) h3] at h1
      rw [List.size_toArray, ← hl]
      exact Option.some.inj h1
    exact PySem.W.ki_setBack ho (by omega) (by rw [List.size_toArray, ← hl]; exact h3) (by omega) (by rw [hk]; exact ⟨_, I', q⟩)
theorem ZhV:ZbB X (.builtin "len") (fun xs H Q=>∃ p ys,xs=[.ref p]∧(SqL X.K H p ys∨SqT X.K H p ys)∧Q (.int ys.length) H):=by
 intro pins s σ H xs us Q I r h
 obtain ⟨p,ys,rfl,hq,q⟩:=h
 obtain ⟨u,rfl,rx⟩:=vals1 r
 cases rx
 have hn:=Zeo
 rcases hq with hq | hq
 ·obtain ⟨its,r',pl,hz⟩:=I.list hq
  have hlen:=r'.length
  exact Calls.call_len_list pl.isList (by simp only [List.size_toArray] <;> omega) ⟨.int ys.length,H,I.tok _,⟨s.toks + 1,by rw [List.size_toArray,hlen]⟩,q⟩
 ·obtain ⟨its,r',pl,hz⟩:=I.tuple hq
  have hlen:=r'.length
  exact len_tuple pl (by simp only [List.size_toArray] <;> omega) ⟨.int ys.length,H,I.tok _,⟨s.toks + 1,by rw [List.size_toArray,hlen]⟩,q⟩
theorem ZeB : ZbB X (.type "list") (fun xs H Q => ∃ p ys, xs = [.ref p] ∧ (SqL X.K H p ys ∨ SqT X.K H p ys) ∧ ∀ l, H l = none → Q (.ref l) (upd H l (.lst ys))) := by
  intro pins s σ H xs us Q I r h
  obtain ⟨p, ys, rfl, hq, q⟩ := h
  obtain ⟨u, rfl, rx⟩ := vals1 r
  cases rx
  have fin : ∀ (its : List Value), Vals ys its → ys.length ≤ sizeLine → ∀ (h' : Heap) (c' : Nat), (∀ b o', s.heap.get? b = some o' → h'.get? b = some o') →
      h'.get? s.heap.objs.size = some { cls := .type "list", dict := none, data := .seq its.toArray c', slots := #[] } → EP X pins σ Q (.ref s.heap.objs.size) { s with heap := h' } := fun its r' hz h' c' kp e =>
    ⟨.ref s.heap.objs.size, _, I.laid (t' := s.toks) kp (Nat.le_refl _) (show JC X.prog X.w _ h' _ (.lst ys) from ⟨hz, its, c', r', e⟩), rfl, q _ (I.hok.fresh (Nat.le_refl _))⟩
  rcases hq with hq | hq
  · obtain ⟨its, r', pl, hz⟩ := I.list hq
    have hlen := r'.length
    obtain ⟨o, ho, hc, n, hd⟩ := pl.isList
    exact call_list_seq p (.inl rfl) ho hc hd (fun h' c' kp e => fin its r' hz h' c' kp e) (by simp only [List.size_toArray] <;> omega)
  · obtain ⟨its, r', pl, hz⟩ := I.tuple hq
    have hlen := r'.length
    obtain ⟨o, ho, hc, n, hd⟩ := pl
    exact call_list_seq p (.inr rfl) ho hc hd (fun h' c' kp e => fin its r' hz h' c' kp e) (by simp only [List.size_toArray] <;> omega)
noncomputable def tyV (K : PySem.W.Frag) (T : String) (x : V) (H : Hp) : Prop := match x with
  | .str _ => T = "str"
  | .int _ => T = "int"
  | .ref p => (T = "list" ∧ ∃ xs, SqL K H p xs) ∨ (T = "tuple" ∧ ∃ o, K.lookup p = some o ∧ o.cls = .type "tuple" ∧ o.dict = none) ∨
      (T = "dict" ∧ ((∃ kvs, H p = some (.dK kvs)) ∨ ∃ kvs, H p = some (.dT kvs))) ∨ (T = "set" ∧ ∃ S n, H p = some (.set S n))
  | _ => False
theorem Zos {pins : List (Addr × Obj)}{σ : St}{H : Hp}{s : Shared}{T : String}{x : V}{v : Value}(I : Inv X pins σ H s)(r : RelV x v)(ty : tyV X.K T x H) :
    s.TypeIs v T ∧ ∀ a, v = .ref a → ∃ ob, s.heap.get? a = some ob ∧ ob.dict = none := by
  cases x with
  | str z =>
    obtain ⟨t, rfl⟩ := r
    cases (show T = "str" from ty)
    exact ⟨typeIs_str s z t, fun _ e => nomatch e⟩
  | int i =>
    obtain ⟨t, rfl⟩ := r
    cases (show T = "int" from ty)
    exact ⟨typeIs_int s i t, fun _ e => nomatch e⟩
  | ref p =>
    cases r
    rcases ty with ⟨rfl, xs, hq⟩ | ⟨rfl, o, hk, hc, hd⟩ | ⟨rfl, hk⟩ | ⟨rfl, S, n, hk⟩
    · obtain ⟨its, _, pl, _⟩ := I.list hq
      refine ⟨pl.isList.typeIs, fun a e => ?_⟩
      cases e
      obtain ⟨o, n, e, c, hd, _⟩ := pl
      exact ⟨o, e, hd⟩
    · refine ⟨⟨o, I.kIn p o hk, hc⟩, fun a e => ?_⟩
      cases e
      exact ⟨o, I.kIn _ o hk, hd⟩
    · have z : ∃ o, s.heap.get? p = some o ∧ o.ExactDict := by
        rcases hk with ⟨kvs, hk⟩ | ⟨kvs, hk⟩
        · obtain ⟨_, _, _, _, o, _, _, e, ex, _⟩ := I.hok p _ hk
          exact ⟨o, e, ex⟩
        · obtain ⟨_, _, _, _, o, _, _, e, ex, _⟩ := I.hok p _ hk
          exact ⟨o, e, ex⟩
      obtain ⟨o, e, ex⟩ := z
      refine ⟨⟨o, e, ex.1⟩, fun a e2 => ?_⟩
      cases e2
      exact ⟨o, e, ex.2.1⟩
    · obtain ⟨o, _, _, _, e, ex, _⟩ := I.hok p _ hk
      refine ⟨⟨o, e, ex.1⟩, fun a e2 => ?_⟩
      cases e2
      exact ⟨o, e, ex.2.1⟩
  | _ => exact False.elim ty
noncomputable def tBM (K:PySem.W.Frag) (T:String) (r:V→List V→Hp→VK→Prop) (to:TE) (t:TA):TE:=fun σ H Q=>to σ H fun x H1=>tyV K T x H1∧t σ H1 fun xs H2=>r x xs H2 Q
variable {o e:Expr} {es:List Expr} {to:TE} {t:TA} {name:Str} {apos cpos:Pos} {T id:String} {r:V→List V→Hp→VK→Prop}
theorem Zgt (pa:PlainAttrs T) (slot:Slot T name id) (hty:typeOf (.builtin id)=pure (.type "method_descriptor")) (hm:MtR X id r) (ho:PE X o to) (ha:PA X (e::es) t)
  (hbase:attributeBase o name X.env (eval o X.env)=eval o X.env:=by rfl)
  (hfew:((backTo cpos (starEach (e::es) X.env)).all (fun x=>!x.1) && (backToKw cpos (keywordEach [] X.env)).all (fun x=>x.1.isSome)
   && decide ((e::es).length + ([]:List Keyword).length + (if ([]:List Keyword).isEmpty then 0 else 1) < 30))=true:=by rfl)
  (hline:(apos.endLine == cpos.line)=true:=by rfl) (hs:starEach (e::es) X.env=(false,eval e X.env)::starEach es X.env:=by rfl) (hplain:(backTo cpos (starEach es X.env)).any (·.1)=false:=by rfl) :
  PE X (.Call (.Attribute o name apos) (e::es) [] cpos) (tBM X.K T r to t):=by
 intro pins s σ H Q I h
 refine wpAny_Call_method_late hbase hfew hline rfl (thn (ho pins s σ H _ I h) fun v s1 ⟨x,H1,I1,r1,ty,q1⟩=>?_)
 obtain ⟨h1,h2⟩:=Zos I1 r1 ty
 refine ⟨T,id,pa,slot,hty,h1,h2,?_⟩
 have hA:=ha cpos pins s1 σ H1 _ I1 q1
 rw [hs] at hA ⊢
 refine Calls.callWith_builtin (by show (false || (backTo cpos (starEach es X.env)).any (·.1))=false;rw [hplain] <;> rfl) (Calls.evalArgs_plain ?_)
 exact thn hA fun us s2 ⟨vs,H2,I2,r2,q2⟩=>hm pins s2 σ H2 x vs v us Q I2 r1 r2 q2
end
end L2
namespace L2
open PySem PySem.Spec PyProof.Rows
noncomputable def MtM (X:Cx) (id:String) (r:V→List V→Hp→VK→Prop):Prop :=
 ∀ (pins:List (Addr × Obj)) (s:Shared) (σ:St) (H:Hp) (x:V) (xs:List V) (v:Value) (us:List Value) (Q:VK),Inv X pins σ H s→RelV x v→Vals xs us→r x xs H Q →
  wpAny (model X.prog X.w) X.A (call (.builtin id) (v::us)) (EP X pins σ Q) X.xe s
theorem Vals.one:∀ {x:V} {us:List Value},Vals [x] us→∃ u,us=[u]∧RelV x u
 | _,_,.cons r .nil=>⟨_,rfl,r⟩
theorem Vals.two:∀ {x y:V} {us:List Value},Vals [x,y] us→∃ u v,us=[u,v]∧RelV x u∧RelV y v
 | _,_,_,.cons r (.cons q .nil)=>⟨_,_,rfl,r,q⟩
section
variable {X:Cx} {pins:List (Addr × Obj)} {σ:St} {H:Hp} {s:Shared} {l b:Addr} {xs ys zs:List V}
theorem Inv.lset {its its':List Value}{n:Nat}{f:Array Value→Array Value}{t':Nat}(I:Inv X pins σ H s)(hH:H l=some (.lst xs))
  (e:s.heap.get? l=some { cls:=.type "list",data:=.seq its.toArray n }) (hf:f its.toArray=its'.toArray) (hv:Vals ys its') (hz:ys.length≤sizeLine) :
  Inv X pins σ (upd H l (.lst ys)) { s with heap:=s.heap.update l (Obj.mapSeq f),toks:=t' }:=by
 have q:=PySem.IsL.update e f
 rw [hf] at q
 refine I.write (x:=l) (e:=l) (by rw [hH];exact trivial) (.inl rfl) (fun b' u hb hu=>(Heap.get?_update_other s.heap (Obj.mapSeq f) (Ne.symm hb)).trans hu) ⟨_,q⟩ ?_
 exact ⟨hz,its',_,hv,q⟩
theorem Inv.lnew {its:List Value}{t':Nat}(I:Inv X pins σ H s)(hv:Vals ys its)(hz:ys.length≤sizeLine) :
  Inv X pins σ (upd H s.heap.objs.size (.lst ys)) { s with heap:=s.heap.push { cls:=.type "list",data:=.seq its.toArray },toks:=t' } :=
 I.laid (fun _ _ q=>Heap.get?_push_of_some _ q) (Nat.le_refl _) ⟨hz,its,0,hv,Heap.get?_push_size _ rfl⟩
theorem Inv.fresh (I:Inv X pins σ H s):H s.heap.objs.size=none:=I.hok.fresh (Nat.le_refl _)
theorem Inv.lstM (I:Inv X pins σ H s)(hH:H l=some (.lst xs)):xs.length≤sizeLine∧∃ (its:List Value) (n:Nat),Vals xs its∧xs.length=its.length∧s.heap.get? l=some { cls:=.type "list",data:=.seq its.toArray n }:=by
 obtain ⟨z,its,n,r,e⟩:=I.hok l _ hH
 exact ⟨z,its,n,r,r.length,e⟩
theorem Zmg {n:Nat}(h:n≤sizeLine):Builtin.List.listTooLong n=false:=by
 unfold Builtin.List.listTooLong
 exact decide_eq_false (by omega)
end
section
variable {X:Cx}
noncomputable def Zn4:V→List V→Hp→VK→Prop:=fun x vs H Q=>∃ l xs y,x=.ref l∧vs=[y]∧H l=some (.lst xs)∧xs.length < sizeLine∧Q .non (upd H l (.lst (xs++[y])))
theorem Zei:MtM X "list.append" Zn4:=by
 intro pins s σ H x vs v us Q I rx rv h
 obtain ⟨l,xs,y,rfl,rfl,hH,hz,q⟩:=h
 cases rx
 obtain ⟨u,rfl,ru⟩:=rv.one
 obtain ⟨z,its,n,r,hl,e⟩:=I.lstM hH
 refine call_meets F.slot_list_append ⟨_,e,rfl⟩ F.entry_list_append (F.args_list_append_2 _ _) (PySem.list_append l its.toArray n u (by rw [List.size_toArray];omega)) ⟨e,?_⟩
 refine ⟨.non,_,I.lset (its':=its++[u]) hH e (by simp) (r.append (.cons ru .nil)) ?_,rfl,q⟩
 rw [List.length_append,List.length_singleton]
 omega
noncomputable def ZnO:V→List V→Hp→VK→Prop:=fun x vs H Q=>∃ l b xs zs,x=.ref l∧vs=[.ref b]∧H l=some (.lst xs)∧H b=some (.lst zs)∧xs.length + zs.length≤sizeLine∧Q .non (upd H l (.lst (xs++zs)))
theorem Zly:MtM X "list.extend" ZnO:=by
 intro pins s σ H x vs v us Q I rx rv h
 obtain ⟨l,b,xs,zs,rfl,rfl,hH,hB,hz,q⟩:=h
 cases rx
 obtain ⟨u,rfl,ru⟩:=rv.one
 cases ru
 obtain ⟨z,its,n,r,hl,e⟩:=I.lstM hH
 obtain ⟨z2,its2,n2,r2,hl2,e2⟩:=I.lstM hB
 have hsz:its.toArray.size + its2.toArray.size≤sizeLine:=by rw [List.size_toArray,List.size_toArray];omega
 have hlong:¬ (!its.toArray.isEmpty && Builtin.List.listTooLong (its.toArray.size + its2.toArray.size))=true:=by
  rw [Zmg hsz,Bool.and_false]
  exact Bool.false_ne_true
 refine call_meets F.slot_list_extend ⟨_,e,rfl⟩ F.entry_list_extend (F.args_list_extend_2 _ _)
  (AutoSeq1.list_extend_list_list_0 l its.toArray n b its2.toArray n2 hlong (by rw [List.size_toArray];omega) (by omega)) ⟨e,e2,?_⟩
 refine ⟨.non,_,I.lset (its':=its++its2) hH e (by simp) (r.append r2) ?_,rfl,q⟩
 rw [List.length_append]
 omega
end
section
variable {prog:Program} {w:World} {A:Around} {E:Value→Shared→Prop} {s:Shared}
end
section
variable {X:Cx}
end
end L2
namespace Att
open PySem PySem.W PySem.Calls PyProof.Rows
theorem Zgn {P:Params}{h:Heap}:∀ (ns:List Int) (vs:List Value),WellAll P h vs (ns.map WData.int)→IntsAre vs ns:=by
 intro ns
 induction ns with
 | nil =>
  intro vs w
  rw [List.map_nil] at w
  cases w
  exact .nil
 | cons n ns ih =>
  intro vs w
  rw [List.map_cons] at w
  cases w with
  | cons a b =>
   cases a
   exact .cons _ _ (ih _ b)
theorem ZkE {l:OpenLaw}{n:Nat}(hn:l.most=some n){P:Params}{h:Heap}{args:List WData}{vals:List Value}
  (hpre:l.row.toRowW.claim.pre args=true) (hwl:WellAll P h vals args) :
  ∃ a vs ns,vals=[Value.ref a]∧args=[WData.list (ns.map WData.int)]∧h.get? a=some { cls:=.type "list",data:=.seq vs.toArray }∧IntsAre vs ns∧ns.length≤n:=by
 have hsh:WShape.hasAll [] args [.list .int]=true:=(pre_splitW hpre).1
 have hc:l.pre.holds [] { args:=args }=true:=(pre_splitW hpre).2
 obtain ⟨d,r,rfl,h1,h2⟩:=hasAllW_cons hsh
 obtain rfl:=hasAllW_nil h2
 obtain ⟨xs,rfl,h3⟩:=hasW_list h1
 obtain ⟨ns,rfl⟩:=items_int h3
 have hlen:ns.length≤n:=by
  unfold OpenLaw.pre at hc
  have h4:(WTm.not (.lt (.lit (.int (n:Int))) (.len (.arg 0)))).holds [] { args:=[.list (ns.map .int)] }=true:=by
   have h4:=(holds_andW hc).1
   rw [hn] at h4
   exact h4
  have h5:=condW_of h4 (w_not (w_lt w_lit (w_len_list (w_arg rfl))))
  rw [List.length_map] at h5
  refine Nat.le_of_not_lt fun q=>?_
  have q':(n:Int) < ((ns.length:Nat):Int):=by omega
  first
   | (rw [decide_eq_true q'] at h5;exact absurd h5 (by decide))
   | (simp at h5;omega)
 cases hwl with
 | cons w1 w2 =>
  cases w2
  cases w1 with
  | list ho hall=>exact ⟨_,_,ns,rfl,rfl,ho,Zgn ns _ hall,hlen⟩
theorem Zli (l:OpenLaw)(args:List WData):l.row.toRowW.claim.post args (.bool true) args=true :=
 postW_of (r:=l.row.toRowW) (X:=(true == true))
  (show WShape.has [] (.bool true) .bool=true by first | rfl | decide | simp [WShape.has,WShape.arms,WShape.armsAll])
  (show (WTm.eq .res (.lit (.bool true))).value [] { args:=args,res:=some (.bool true),after:=args }=some (.bool (true == true)) from w_eq_bool (w_res rfl) w_lit) rfl
theorem Zje {l:OpenLaw}{n:Nat}{q:Program}{loose:List Str}{XP:(Str→Option Value)→Heap→Prop}{YP:World→Heap→Prop}{d:DefRec}
  (hn:l.most=some n) (hdf:d.params.defaults=[])
  (call:∀ (w:World) (s₀ s₁:Shared) (mg mb:Str→Option Value) (fa:Addr) (o:Obj) (pm cd doc:Value) (a:Addr) (vs:List Value) (ns:List Int),
   Ground q loose [] XP w s₀ mg mb s₁.heap→YP w s₁.heap →
   s₁.heap.get? fa=some o→o.data=.func (docDef d.name d.params d.body d.scope pm cd doc)→s₁.heap.CodeRec cd d.name→mg d.name=some (.ref fa) →
   s₁.heap.get? a=some { cls:=.type "list",data:=.seq vs.toArray }→IntsAre vs ns→ns.length≤n→s₁.gens=#[] →
   codeAny (model l.prog w) callerA (.call (.ref fa) ⟨[.ref a],[]⟩) (fun r s'=>r=.ok (.ret (.bool true))∧OldK s₁.heap s'.heap∧s'.os=s₁.os∧AllBare s'.gens) s₁) :
  WalkO q loose XP YP l.row.toRowW d [] (fun f vs=>PySem.call f vs):=by
 intro w s₀ s₁ mg mb G Y fa o pm cd doc dV kV ho hd hcd hD hmg hg args vals as hpre hlay hrd hwl hlo
 obtain rfl:dV=.none:=Dflts.none hD hdf
 obtain rfl:kV=.none:=Dflts.noKw hD
 obtain ⟨a,vs,ns,rfl,rfl,hobj,hints,hlen⟩:=ZkE hn hpre hwl
 refine enter_call (codeAny_mono (call w s₀ s₁ mg mb fa o pm cd doc a vs ns G Y ho (fd_plain hd) hcd hmg hobj hints hlen hg) fun r s' hq=>?_)
 obtain ⟨rfl,h2,h3,h4⟩:=hq
 exact ⟨.inl ⟨.bool true,.bool true,[],rfl,fun _=>rfl,.bool true,Zli l _,fun _=>⟨List.Pairwise.nil,fun _ hm=>(nomatch hm)⟩⟩,h2,h3,h4⟩
section
variable {prog:Program} {w:World} {A:Around} {E:Value→Shared→Prop} {s:Shared} {K:Frag}
end
end Att
namespace L2
open PySem PySem.Spec PyProof.Rows
theorem Zan:∀ {vs:List Value} {ns:List Int},IntsAre vs ns→Vals (ns.map V.int) vs
 | _,_,.nil=>.nil
 | _,_,.cons n t h=>.cons ⟨t,rfl⟩ (Zan h)
noncomputable def Only (H:Hp):Prop:=∀ b,H b=none∨∃ o xs,H b=some (.frz o (.lst xs))
theorem Zl3 {P : Program}{w : World}{K : PySem.W.Frag}{mg mb : Str → Option Value}{CX : CXT}{k : Nat}{fa a : Addr}{fd : FuncData}{x : Str}{sp : Sp}{s₁ : Shared}{vs : List Value}{ns : List Int}
    (KX : K.In s₁.heap) (hns : s₁.heap.Ns mainGlobals mg) (hb : s₁.heap.Ns builtinsNs mb) (hbb : ∀ x : Str, x ≠ "__name__" → mb x = bootBuiltins x) (hlim : s₁.heap.NoLimit) (hg : s₁.gens = #[])
    (ha : s₁.heap.get? a = some { cls := .type "list", data := .seq vs.toArray }) (hi : IntsAre vs ns) (hl : ns.length ≤ sizeLine) (hr : Room k callerA)
    (F : ∀ base : Heap, K.In base → base.Ns mainGlobals mg → FnOk P w K mg base CX k fa fd [x] sp) (hbind : ∀ (s : Shared) (u : Value), BindsTo s fd ⟨[u], []⟩ [(x, u)])
    (hsp : ∀ H : Hp, Only H → SqL K H a (ns.map V.int) → sp [.ref a] H (fun v _ => v = .bl true) fun _ _ _ => False)
    (hCX : ∀ H e s', CX [] H s₁ (fun _ _ _ => False) e s' → False) :
    codeAny (model P w) callerA (.call (.ref fa) ⟨[.ref a], []⟩) (fun r s' => r = .ok (.ret (.bool true)) ∧ OldK s₁.heap s'.heap ∧ s'.os = s₁.os ∧ AllBare s'.gens) s₁ := by
  have rv := Zan hi
  have lenV := hi.length
  have core : ∀ H : Hp, Only H → SqL K H a (ns.map V.int) → HOk P w H s₁.heap → (∀ b, H b ≠ none → b = a) → (H a ≠ none → K.lookup a = none) →
      codeAny (model P w) callerA (.call (.ref fa) ⟨[.ref a], []⟩) (fun r s' => r = .ok (.ret (.bool true)) ∧ OldK s₁.heap s'.heap ∧ s'.os = s₁.os ∧ AllBare s'.gens) s₁ := by
    intro H hO hS hok hA hK
    have base_of : ∀ {b : Addr} {o : Obj}, s₁.heap.get? b = some o → H b = none → (hidT s₁.heap H).get? b = some o := fun e n => Zmu e n
    have noA : ∀ {b : Addr} {o : Obj} {es : Array DictEntry} {ep : Nat}, s₁.heap.get? b = some o → o.data = .dict es ep → H b = none := fun {b o es ep} e d => by
      cases q : H b with
      | none => rfl
      | some u =>
        have e' : b = a := hA b (by rw [q]; simp)
        subst e'
        rw [ha] at e; cases e
        have d' : Data.seq vs.toArray _ = Data.dict es ep := d
        cases d'
    have nsK : ∀ {b : Addr} {m : Str → Option Value}, s₁.heap.Ns b m → (hidT s₁.heap H).Ns b m := fun {b m} ⟨o, es, ep, e, d, r⟩ => ⟨o, es, ep, base_of e (noA e d), d, r⟩
    have hKb : K.In (hidT s₁.heap H) := fun b o e => base_of (KX b o e) (by
      cases q : H b with
      | none => rfl
      | some u =>
        have e' : b = a := hA b (by rw [q]; simp)
        subst e'
        rw [hK (by rw [q]; simp)] at e; cases e)
    have hM : Mod K mg (hidT s₁.heap H) := ⟨hKb, nsK hns, ⟨mb, nsK hb, hbb⟩, let ⟨mc, h1, h2⟩ := hlim; ⟨mc, nsK h1, h2⟩⟩
    have e0 : Env0 P w K mg (hidT s₁.heap H) callerA [] s₁ H := ⟨rfl, hM, fun b o e => ZnJ e, Nat.le_of_eq (Zlf _ _), trivial, fun b hb => absurd (show b ∈ ([] : List Addr) from hb) (by simp), hok, .of_eq hg⟩
    refine codeAny_mono ((F _ hKb (nsK hns)).run callerA [] s₁ H ⟨[.ref a], []⟩ [.ref a] [.ref a] _ _ hr e0 (hbind s₁ (.ref a)) (.cons rfl .nil) (hsp H hO hS)) fun r s' h => ?_
    cases r with
    | error e => exact (hCX H e s' h).elim
    | ok fl =>
      cases fl with
      | next => exact False.elim h
      | brk => exact False.elim h
      | cont => exact False.elim h
      | ret u =>
        obtain ⟨v, H', os, bare, un, hok', r', q⟩ := h
        have q' : v = .bl true := q
        subst q'
        obtain rfl : u = Value.bool true := r'
        refine ⟨rfl, OldK.of_keep fun b o e => ?_, os, bare⟩
        cases q : H b with
        | none => exact un.keep b o e q (by intro z; exact absurd (show b ∈ ([] : List Addr) from z) (by simp)) (by simp)
        | some u =>
          rcases hO b with z | ⟨ob, xs, z⟩
          · rw [q] at z; cases z
          · have z2 := un.frzs b ob _ z
            obtain ⟨e1, _⟩ := hok b _ z
            obtain ⟨e2, _⟩ := hok' b _ z2
            rw [e] at e1; cases e1
            exact e2
  cases hk : K.lookup a with
  | some o =>
    have e := KX a o hk
    rw [ha] at e
    cases e
    refine core (fun _ => none) (fun _ => .inl rfl) (.inr ⟨_, vs.toArray, _, hk, rfl, rfl, rfl, by rw [List.size_toArray, lenV]; exact hl, by simpa using rv⟩) (fun b u z => by have z' : (none : Option HO) = some u := z; cases z') (fun b z => absurd rfl z) fun z => absurd rfl z
  | none =>
    refine core (fun b => if b = a then some (.frz { cls := .type "list", data := .seq vs.toArray } (.lst (ns.map V.int))) else none) (fun b => ?_) (.inl (.inr ⟨{ cls := .type "list", data := .seq vs.toArray }, if_pos rfl⟩)) (fun b u z => ?_) (fun b z => ?_) fun _ => hk
    · by_cases hb : b = a
      · exact .inr ⟨_, _, if_pos hb⟩
      · exact .inl (if_neg hb)
    · by_cases hb : b = a
      · have z' := (if_pos hb).symm.trans z
        cases z'
        subst hb
        exact ⟨ha, by rw [List.length_map]; exact hl, vs, _, rv, ha⟩
      · have z' := (if_neg hb).symm.trans z
        cases z'
    · by_cases hb : b = a
      · exact hb
      · exact absurd (if_neg hb) z
end L2
namespace L2
open PySem PySem.Spec PyProof.Rows
theorem ZnU {l:PySem.W.OpenLaw}{n k:Nat}{q:Program}{loose:List Str}{XP:(Str→Option Value)→Heap→Prop}{YP:World→Heap→Prop}{d:DefRec}{K:Params→PySem.W.Frag}{CX:World→CXT}{sp:World→Sp}{x:Str}
  (hn:l.most=some n) (hn2:n≤sizeLine) (hdf:d.params.defaults=[]) (hr:Room k callerA)
  (hY:∀ (w:World) (h:Heap),YP w h→(K w.params).In h)
  (F:∀ (w:World) (mg:Str→Option Value) (fa:Addr) (h:Heap),(K w.params).In h→h.Ns mainGlobals mg→mg d.name=some (.ref fa) →
   ∃ fd:FuncData,(∀ (s:Shared) (u:Value),BindsTo s fd ⟨[u],[]⟩ [(x,u)]) ∧
    ∀ base:Heap,(K w.params).In base→base.Ns mainGlobals mg→FnOk l.prog w (K w.params) mg base (CX w) k fa fd [x] (sp w))
  (hsp:∀ (w:World) (H:Hp) (a:Addr) (ns:List Int),ns.length≤n→Only H→SqL (K w.params) H a (ns.map V.int)→sp w [.ref a] H (fun v _=>v=.bl true) fun _ _ _=>False)
  (hCX:∀ (w:World) (H:Hp) (s:Shared) (e:Value) (s':Shared),CX w [] H s (fun _ _ _=>False) e s'→False) :
  PySem.W.WalkO q loose XP YP l.row.toRowW d [] (fun f vs=>PySem.call f vs):=by
 refine Att.Zje hn hdf fun w s₀ s₁ mg mb fa o pm cd doc a vs ns G Y ho hd hcd hmg hobj hints hlen hg=>?_
 have KX:=hY w _ Y
 obtain ⟨fd,hb,hF⟩:=F w mg fa _ KX G.T.g hmg
 exact Zl3 KX G.T.g G.T.b G.T.builtins G.T.nolimit hg hobj hints (Nat.le_trans hlen hn2) hr hF hb (fun H hO hS=>hsp w H a ns hlen hO hS) fun H e s'=>hCX w H s₁ e s'
end L2
namespace L2
open PySem PySem.Spec PyProof.Rows
noncomputable def Jg (s:Stmt):Arguments:=match s with
 | .FunctionDef _ a _ _ _ _ _ _ _ _=>a
 | _=>{ posonlyargs:=[],args:=[],vararg:=none,kwonlyargs:=[],kw_defaults:=[],kwarg:=none,defaults:=[] }
noncomputable def Jf (s:Stmt):List Stmt:=match s with
 | .FunctionDef _ _ b _ _ _ _ _ _ _=>b
 | _=>[]
noncomputable def Yb (s:Stmt):Scope:=match s with
 | .FunctionDef _ _ _ _ _ _ sc _ _ _=>sc
 | _=>{ kind:=.function,names:=[],isGenerator:=false,isCoroutine:=false }
noncomputable abbrev CX0:CXT:=fun _ _ _ _ _ _=>False
noncomputable abbrev E0:XK:=fun _ _ _=>False
theorem Zm3 {X:Cx}:Passes CX0 X E0:=fun _ _ _ _ _ _ _ h=>h.elim
structure Fun (K:PySem.W.Frag)(x qual:Str)(st:Stmt)(f:Addr)(fd:FuncData):Prop where
 ex:∃ (oc:Value) (od:Option Addr) (kV doc pm:Value) (an:Option Addr) (cdv ct:Value) (osl:Array (Option Value)),
  fd=PySem.W.fnOf x qual (Jg st) (Jf st) (Yb st) .none kV doc pm an cdv ct∧K.lookup f=some ⟨oc,od,.func fd,osl⟩∧PySem.W.codeIn K cdv qual=true
 kp:PySem.W.keepIn K (.ref f)=true
section
variable {P:Program} {w:World} {K:PySem.W.Frag} {mg:Str→Option Value} {base:Heap}
theorem Fun.ok {x qual:Str}{st:Stmt}{f:Addr}{fd:FuncData}{N ps:List Str}{k:Nat}{sp:Sp}(F:Fun K x qual st f fd)(S:Yh N ps (Yb st))(len:∀ vs H Q E,sp vs H Q E→vs.length=ps.length)
  (hbody:∀ (cdv:Value) (A:Around) (outer:List Env) (s:Shared) (H:Hp) (vs:List V) (Q:VK) (E:XK),Room k (A.deeper (envOfC qual (Yb st) s.heap.objs.size f cdv))→sp vs H Q E →
   ∃ t,PSs (cxOf CX0 P w K mg base N qual (Yb st) f cdv A outer s H E).nox (Jf st) t∧t { nx:=fun _ H'=>Q .non H',rt:=Q } (start N vs) H):FnOk P w K mg base CX0 (k + 1) f fd ps sp:=by
 obtain ⟨oc,od,kV,doc,pm,an,cdv,ct,osl,rfl,lk,hcd⟩:=F.ex
 refine ZpB lk hcd S len fun A outer s H vs Q E hr hsp=>?_
 obtain ⟨t,h,q⟩:=hbody cdv A outer s H vs Q E hr hsp
 exact ⟨t,h.nox,q⟩
theorem Fun.binds {x qual:Str}{st:Stmt}{f:Addr}{fd:FuncData}{ps:List Str}(F:Fun K x qual st f fd)
  (h:∀ (kV doc pm:Value) (an:Option Addr) (cdv ct:Value) (us:List Value),us.length=ps.length→bindArgs (PySem.W.fnOf x qual (Jg st) (Jf st) (Yb st) .none kV doc pm an cdv ct) ⟨us,[]⟩=pure (ps.zip us)):Binds K fd ps []:=by
 obtain ⟨oc,od,kV,doc,pm,an,cdv,ct,osl,rfl,lk,hcd⟩:=F.ex
 exact .all (h kV doc pm an cdv ct)
theorem Ze {x qual:Str}{st:Stmt}{f:Addr}{oc:Value}{od an:Option Addr}{osl:Array (Option Value)}{kV doc pm cdv ct:Value}(l:K.lookup f=some ⟨oc,od,.func (PySem.W.fnOf x qual (Jg st) (Jf st) (Yb st) .none kV doc pm an cdv ct),osl⟩)
  (c:PySem.W.codeIn K cdv qual=true) (k:PySem.W.keepIn K (.ref f)=true):Fun K x qual st f (PySem.W.fnOf x qual (Jg st) (Jf st) (Yb st) .none kV doc pm an cdv ct):=⟨⟨oc,od,kV,doc,pm,an,cdv,ct,osl,rfl,l,c⟩,k⟩
end
section
variable {X:Cx}
end
theorem iteF {A B:Prop}(h:B):if false=true then A else B:=by
 rw [if_neg Bool.false_ne_true]
 exact h
theorem iteT {A B:Prop}(h:A):if true=true then A else B:=by
 rw [if_pos rfl]
 exact h
noncomputable def Same (H H':Hp):Prop:=∀ b o,H b=some o→H' b=some o
theorem Same.refl (H:Hp):Same H H:=fun _ _ h=>h
theorem Same.trans {H H1 H2:Hp}(a:Same H H1)(b:Same H1 H2):Same H H2:=fun c o h=>b c o (a c o h)
theorem Same.free {H H':Hp}(e:Same H H'){l:Addr}(h:H' l=Option.none):H l=Option.none:=by
 cases q:H l with
 | none=>rfl
 | some o =>
  rw [e l o q] at h
  cases h
theorem Same.seq {K:PySem.W.Frag}{H H':Hp}{a:Addr}{xs:List V}(e:Same H H')(h:SqL K H a xs):SqL K H' a xs:=by
 rcases h with (h | ⟨o,h⟩) | h
 ·exact .inl (.inl (e _ _ h))
 ·exact .inl (.inr ⟨o,e _ _ h⟩)
 ·exact .inr h
end L2
set_option linter.all false
set_option Elab.async false
namespace PV
theorem el9 {A1 A2 A3 A4 A5 A6:Type}{P Q R:A1→A2→A3→A4→A5→A6→Prop}{Z:Prop}(h:∃ a b c d e f,P a b c d e f∧Q a b c d e f∧R a b c d e f)(k:∀ a b c d e f,P a b c d e f→Q a b c d e f→R a b c d e f→Z):Z:=by
 obtain ⟨a,b,c,d,e,f,p,q,r⟩:=h
 exact k a b c d e f p q r
theorem el10 {A1 A2 A3 A4 A5 A6 A7:Type}{P Q R:A1→A2→A3→A4→A5→A6→A7→Prop}{Z:Prop}(h:∃ a b c d e f g,P a b c d e f g∧Q a b c d e f g∧R a b c d e f g)(k:∀ a b c d e f g,P a b c d e f g→Q a b c d e f g→R a b c d e f g→Z):Z:=by
 obtain ⟨a,b,c,d,e,f,g,p,q,r⟩:=h
 exact k a b c d e f g p q r
open PySem (Str)
inductive D where
 | non | bl (b:Bool) | int (i:Int) | str (x:Str) | lst (xs:List D) | tup (xs:List D) | dct (kvs:List (Int × Int))
 deriving Inhabited
inductive Sl where
 | un | sh (d:D) | fr (d:D) | ow (ds:List D) | tab (rows:List (List D)) | dc (kvs:List (Int × Int)) | nw (ds:List D) | jk (d:D) | jl (n:Nat) | xc (c:Nat)
 deriving Inhabited
noncomputable def lim:Nat:=100000
mutual
noncomputable def D.dep:D→Nat
 | .lst xs=>D.deps xs + 1
 | .tup xs=>D.deps xs + 1
 | .dct _=>100
 | _=>0
noncomputable def D.deps:List D→Nat
 | []=>0
 | x::xs=>max (D.dep x) (D.deps xs)
end
mutual
noncomputable def eqD:D→D→Bool
 | .non,.non=>true
 | .bl a,.bl b=>a == b
 | .bl a,.int b=>(if a then 1 else 0) == b
 | .int a,.bl b=>a == (if b then 1 else 0)
 | .int a,.int b=>a == b
 | .str a,.str b=>a == b
 | .lst a,.lst b=>eqDs a b
 | .tup a,.tup b=>eqDs a b
 | .dct a,.dct b=>decide (a=b)
 | _,_=>false
noncomputable def eqDs:List D→List D→Bool
 | [],[]=>true
 | x::xs,y::ys=>eqD x y && eqDs xs ys
 | _,_=>false
end
noncomputable abbrev Env:=List Sl
noncomputable abbrev Ex:=Env→Option D
noncomputable abbrev Tx:=Env→Option Bool
noncomputable abbrev Lx:=Env→Option (List D)
noncomputable def Sl.val:Sl→Option D
 | .un=>none
 | .sh d=>some d
 | .fr d=>some d
 | .ow ds=>some (.lst ds)
 | .tab rows=>some (.lst (rows.map .lst))
 | .nw ds=>some (.lst ds)
 | _=>none
noncomputable def Sl.shd:Sl→Option D
 | .sh d=>some d
 | .fr d=>some d
 | _=>none
noncomputable def eC (d:D):Ex:=fun _=>some d
noncomputable def eVar (i:Nat):Ex:=fun env=>env[i]?.bind Sl.shd
noncomputable def Sl.frd:Sl→Option D
 | .fr d=>some d
 | _=>none
noncomputable def ZcX (i:Nat):Ex:=fun env=>env[i]?.bind Sl.frd
noncomputable def Zw (i:Nat):Ex:=fun env=>env[i]?.bind Sl.val
noncomputable def Sl.vo:Sl→Option D
 | .sh d=>some d
 | .fr d=>some d
 | .ow ds=>some (.lst ds)
 | .nw ds=>some (.lst ds)
 | _=>none
noncomputable def ZhH (i:Nat):Ex:=fun env=>env[i]?.bind Sl.vo
noncomputable def e2I (f:Int→Int→Option D) (a b:Ex):Ex:=fun env=>match a env,b env with
 | some (.int i),some (.int j)=>f i j
 | _,_=>none
noncomputable def iSub (i j:Int):Option D:=some (.int (i - j))
noncomputable def iMul (i j:Int):Option D:=if (-18446744073709551616 < i∧i < 18446744073709551616)∨(-18446744073709551616 < j∧j < 18446744073709551616) then some (.int (i * j)) else none
noncomputable def iMod (i j:Int):Option D:=if 0 < j then some (.int (i % j)) else none
noncomputable def iDiv (i j:Int):Option D:=if 0 < j∧j < 1073741824 then some (.int (i / j)) else none
noncomputable def t2I (p:Int→Int→Bool) (a b:Ex):Tx:=fun env=>match a env,b env with
 | some (.int i),some (.int j)=>some (p i j)
 | _,_=>none
noncomputable def pLt (i j:Int):Bool:=decide (i < j)
noncomputable def pGt (i j:Int):Bool:=decide (j < i)
noncomputable def pGe (i j:Int):Bool:=decide (j≤i)
noncomputable def tEq (a b:Ex):Tx:=fun env=>match a env,b env with
 | some x,some y=>if x.dep≤8∧y.dep≤8 then some (eqD x y) else none
 | _,_=>none
noncomputable def tNe (a b:Ex):Tx:=fun env=>match a env,b env with
 | some x,some y=>if x.dep≤8∧y.dep≤8 then some (!eqD x y) else none
 | _,_=>none
noncomputable def inD (x:D) (ys:List D):Bool:=ys.any fun y=>eqD y x
noncomputable def tIn (a b:Ex):Tx:=fun env=>match a env,b env with
 | some x,some (.lst ys)=>if D.deps ys≤8∧x.dep≤8 then some (inD x ys) else none
 | some x,some (.tup ys)=>if D.deps ys≤8∧x.dep≤8 then some (inD x ys) else none
 | _,_=>none
noncomputable def tNi (a b:Ex):Tx:=fun env=>match tIn a b env with
 | some k=>some (!k)
 | none=>none
noncomputable def D.isN:D→Bool
 | .non=>true
 | _=>false
noncomputable def tIsN (a:Ex):Tx:=fun env=>match a env with
 | some x=>some x.isN
 | none=>none
noncomputable def tNoN (a:Ex):Tx:=fun env=>match a env with
 | some x=>some (!x.isN)
 | none=>none
noncomputable def tAnd (a b:Tx):Tx:=fun env=>match a env with
 | some true=>b env
 | some false=>some false
 | none=>none
noncomputable def tOr (a b:Tx):Tx:=fun env=>match a env with
 | some true=>some true
 | some false=>b env
 | none=>none
noncomputable def tNot (a:Tx):Tx:=fun env=>match a env with
 | some k=>some (!k)
 | none=>none
noncomputable def tB (a:Ex):Tx:=fun env=>match a env with
 | some (.bl k)=>some k
 | _=>none
noncomputable def eB (a:Tx):Ex:=fun env=>match a env with
 | some k=>some (.bl k)
 | none=>none
noncomputable def evs:List Ex→Env→Option (List D)
 | [],_=>some []
 | e::es,env=>match e env,evs es env with
  | some d,some ds=>some (d::ds)
  | _,_=>none
noncomputable def eLst (es:List Ex):Ex:=fun env=>match evs es env with
 | some ds=>some (.lst ds)
 | none=>none
noncomputable def eTup (es:List Ex):Ex:=fun env=>match evs es env with
 | some ds=>some (.tup ds)
 | none=>none
noncomputable def Zd (φ:List D→Option D) (es:List Ex):Ex:=fun env=>match evs es env with
 | some ds=>φ ds
 | none=>none
noncomputable def eF1 (φ:D→Option D) (a:Ex):Ex:=fun env=>match a env with
 | some x=>φ x
 | none=>none
noncomputable def eF2 (φ:D→D→Option D) (a b:Ex):Ex:=fun env=>match a env,b env with
 | some x,some y=>φ x y
 | _,_=>none
noncomputable def ixN (n:Nat) (i:Int):Option Nat:=if 0≤i then (if i < n then some i.toNat else none) else if -(n:Int)≤i then some (i + n).toNat else none
noncomputable def atD (xs:List D) (i:Int):Option D:=(ixN xs.length i).bind fun j=>xs[j]?
noncomputable def fIx:D→D→Option D
 | .lst xs,.int i=>atD xs i
 | .tup xs,.int i=>atD xs i
 | _,_=>none
noncomputable def eIx (a b:Ex):Ex:=eF2 fIx a b
noncomputable def fAdd:D→D→Option D
 | .int i,.int j=>some (.int (i + j))
 | .lst xs,.lst ys=>if xs.length + ys.length≤lim then some (.lst (xs++ys)) else none
 | _,_=>none
noncomputable def eAdd (a b:Ex):Ex:=eF2 fAdd a b
noncomputable def fLen:D→Option D
 | .lst xs=>some (.int xs.length)
 | .tup xs=>some (.int xs.length)
 | _=>none
noncomputable def Y5:D→Option D
 | .lst xs=>some (.lst xs)
 | .tup xs=>some (.lst xs)
 | _=>none
noncomputable def allB:List D→Option Bool
 | []=>some true
 | .bl b::xs=>match allB xs with
  | some c=>some (b && c)
  | none=>none
 | _::_=>none
noncomputable def fAll:D→Option D
 | .lst xs=>match allB xs with
  | some b=>some (.bl b)
  | none=>none
 | _=>none
noncomputable def Jx:List D→Option (List Int)
 | []=>some []
 | .int i::xs=>match Jx xs with
  | some r=>some (i::r)
  | none=>none
 | _::_=>none
noncomputable def addv (σ:List Int) (v:Int):List Int:=if v ∈ σ then σ else σ++[v]
noncomputable def seen (vs:List Int):List Int:=vs.foldl addv []
noncomputable def ins1 (x:Int):List Int→List Int
 | []=>[x]
 | y::ys=>if x≤y then x::y::ys else y::ins1 x ys
noncomputable def srt:List Int→List Int
 | []=>[]
 | x::xs=>ins1 x (srt xs)
noncomputable def Zar:D→Option D
 | .lst xs=>match Jx xs with
  | some ns=>if ns.length≤3000∧(seen ns).length < 64 then some (.lst ((srt (seen ns)).map .int)) else none
  | none=>none
 | _=>none
noncomputable def ltL:List Int→List Int→Bool
 | [],[]=>false
 | [],_::_=>true
 | _::_,[]=>false
 | x::xs,y::ys=>if x=y then ltL xs ys else decide (x < y)
noncomputable def insB {α:Type} (k:α→List Int) (x:α):List α→List α
 | []=>[x]
 | y::ys=>if ltL (k y) (k x) then y::insB k x ys else x::y::ys
noncomputable def srtB {α:Type} (k:α→List Int):List α→List α
 | []=>[]
 | x::xs=>insB k x (srtB k xs)
noncomputable def Zck:D→Option (List Int)
 | .lst xs=>Jx xs
 | _=>none
noncomputable def ZdX:List D→Option (List (List Int))
 | []=>some []
 | x::xs=>match Zck x,ZdX xs with
  | some r,some rs=>some (r::rs)
  | _,_=>none
noncomputable def ZeH:D→Option D
 | .lst xs=>match Jx xs with
  | some ns=>if ns.length < 64 then some (.lst ((srt ns).map .int)) else none
  | none=>match ZdX xs with
   | some rs=>if rs.length < 64 then some (.lst ((srtB (fun r=>r) rs).map fun r=>.lst (r.map .int))) else none
   | none=>none
 | _=>none
noncomputable def keyD:D→Option (List Int)
 | .tup [.int n,.lst xs]=>match Jx xs with
  | some r=>some (n::r)
  | none=>none
 | _=>none
noncomputable def ZbY (φ:List D→Option D):List D→Option (List (List Int × D))
 | []=>some []
 | x::xs=>match φ [x],ZbY φ xs with
  | some k,some ks=>match keyD k with
   | some l=>some ((l,x)::ks)
   | none=>none
  | _,_=>none
noncomputable def ZaN:D→Bool
 | .lst _=>false
 | .tup _=>false
 | .dct _=>false
 | _=>true
noncomputable def eSc (f:Ex):Ex:=fun env=>match f env with
 | some d=>if ZaN d then some d else none
 | none=>none
noncomputable def eFl (f:Ex):Ex:=fun env=>match f env with
 | some (.lst ds)=>if ds.all ZaN then some (.lst ds) else none
 | _=>none
noncomputable def idxD (x:D):List D→Option Nat
 | []=>none
 | y::ys=>if eqD y x then some 0 else match idxD x ys with
  | some j=>some (j + 1)
  | none=>none
noncomputable def Zim:D→D→Option D
 | .lst ys,x=>if D.deps ys≤8∧x.dep≤8 then (match idxD x ys with
  | some j=>some (.int j)
  | none=>none) else none
 | _,_=>none
noncomputable def iOf (a:Ex):Lx:=fun env=>match a env with
 | some (.lst xs)=>some xs
 | some (.tup xs)=>some xs
 | _=>none
noncomputable def Ji (lo:Int) (n:Nat):List D:=(List.range n).map fun k=>.int (lo + (k:Nat))
noncomputable def iRng (a:Ex):Lx:=fun env=>match a env with
 | some (.int j)=>if -(lim:Int)≤j∧j≤lim then some (Ji 0 j.toNat) else none
 | _=>none
noncomputable def YW:D→Option D
 | .int j=>if -(lim:Int)≤j∧j≤lim then some (.lst (Ji 0 j.toNat)) else none
 | _=>none
noncomputable def Z7 (i:Nat) (c:Tx) (e:Ex) (env:Env):List D→Option (List D)
 | []=>some []
 | d::ds=>match c (env.set i (.sh d)) with
  | some true=>match e (env.set i (.sh d)),Z7 i c e env ds with
   | some x,some xs=>some (x::xs)
   | _,_=>none
  | some false=>Z7 i c e env ds
  | none=>none
noncomputable def Yq:Tx:=fun _=>some true
noncomputable def Yk (i:Nat) (it:Lx) (c:Tx) (e:Ex):Ex:=fun env=>match it env with
 | some ds=>if ds.length≤lim then (match Z7 i c e env ds with
  | some xs=>some (.lst xs)
  | none=>none) else none
 | none=>none
inductive Out where
 | nx | bk | ct | rt (d:D)
noncomputable abbrev St:=Env→Option (Out × Env)
noncomputable def Jl:St:=fun env=>some (.nx,env)
noncomputable def sSet (i:Nat) (e:Ex):St:=fun env=>match e env with
 | some d=>some (.nx,env.set i (.sh d))
 | none=>none
noncomputable def Zbr (i:Nat) (e:Ex):St:=fun env=>match e env with
 | some d=>some (.nx,env.set i (.fr d))
 | none=>none
noncomputable def sOwn (i:Nat) (e:Ex):St:=fun env=>match e env with
 | some (.lst ds)=>some (.nx,env.set i (.ow ds))
 | _=>none
noncomputable def ZeN:List D→Option (List (List D))
 | []=>some []
 | .lst r::xs=>match ZeN xs with
  | some rs=>some (r::rs)
  | none=>none
 | _::_=>none
noncomputable def sTab (i:Nat) (e:Ex):St:=fun env=>match e env with
 | some (.lst ds)=>match ZeN ds with
  | some rs=>some (.nx,env.set i (.tab rs))
  | none=>none
 | _=>none
noncomputable def sFrz (i:Nat):St:=fun env=>match env[i]? with
 | some (.ow ds)=>some (.nx,env.set i (.sh (.lst ds)))
 | some (.tab rs)=>some (.nx,env.set i (.sh (.lst (rs.map .lst))))
 | some (.nw ds)=>some (.nx,env.set i (.fr (.lst ds)))
 | some (.dc kvs)=>some (.nx,env.set i (.sh (.dct kvs)))
 | some (.sh _)=>some (.nx,env)
 | some (.fr _)=>some (.nx,env)
 | _=>none
noncomputable def sApp (i:Nat) (e:Ex):St:=fun env=>match env[i]?,e env with
 | some (.ow ds),some d=>if ds.length < lim then some (.nx,env.set i (.ow (ds++[d]))) else none
 | _,_=>none
noncomputable def sNew (i:Nat) (e:Ex):St:=fun env=>match e env with
 | some (.lst ds)=>some (.nx,env.set i (.nw ds))
 | _=>none
noncomputable def ZeT (i:Nat) (e:Ex):St:=fun env=>match env[i]?,e env with
 | some (.nw ds),some d=>if ds.length < lim then some (.nx,env.set i (.nw (ds++[d]))) else none
 | _,_=>none
noncomputable def sExt (i:Nat) (e:Ex):St:=fun env=>match env[i]?,e env with
 | some (.ow ds),some (.lst xs)=>if ds.length + xs.length≤lim then some (.nx,env.set i (.ow (ds++xs))) else none
 | _,_=>none
noncomputable def sIns (i:Nat) (a e:Ex):St:=fun env=>match env[i]?,a env,e env with
 | some (.ow ds),some (.int k),some d=>if 0≤k∧k≤ds.length∧ds.length < lim then some (.nx,env.set i (.ow (ds.insertIdx k.toNat d))) else none
 | _,_,_=>none
noncomputable def ZdI (i:Nat) (a b e:Ex):St:=fun env=>match env[i]?,e env,a env,b env with
 | some (.tab rs),some d,some (.int k),some (.int l)=>match ixN rs.length k with
  | some j=>match rs[j]? with
   | some r=>match ixN r.length l with
    | some m=>some (.nx,env.set i (.tab (rs.set j (r.set m d))))
    | none=>none
   | none=>none
  | none=>none
 | _,_,_,_=>none
noncomputable def sDo (e:Ex):St:=fun env=>match e env with
 | some _=>some (.nx,env)
 | none=>none
noncomputable def sRet (e:Ex):St:=fun env=>match e env with
 | some d=>some (.rt d,env)
 | none=>none
noncomputable def ZeZ (i:Nat):St:=fun env=>match env[i]? with
 | some (.tab rs)=>some (.rt (.lst (rs.map .lst)),env)
 | _=>none
noncomputable def sSeq (a b:St):St:=fun env=>match a env with
 | some (.nx,env1)=>b env1
 | r=>r
noncomputable def sIf (c:Tx) (a b:St):St:=fun env=>match c env with
 | some true=>a env
 | some false=>b env
 | none=>none
noncomputable def Za2:St:=fun _=>none
noncomputable abbrev Tg:=D→Env→Option Env
noncomputable def gN (i:Nat):Tg:=fun d env=>some (env.set i (.sh d))
noncomputable def g2 (i j:Nat):Tg:=fun d env=>match d with
 | .tup [x,y]=>some ((env.set i (.sh x)).set j (.sh y))
 | _=>none
noncomputable def forL (g:Tg) (b:St):List D→St
 | [],env=>some (.nx,env)
 | d::ds,env=>match g d env with
  | some e0=>match b e0 with
   | some (.nx,e1)=>forL g b ds e1
   | some (.ct,e1)=>forL g b ds e1
   | some (.bk,e1)=>some (.nx,e1)
   | some (.rt r,e1)=>some (.rt r,e1)
   | none=>none
  | none=>none
noncomputable def sFor (g:Tg) (it:Lx) (b:St):St:=fun env=>match it env with
 | some ds=>forL g b ds env
 | none=>none
noncomputable def YT (c:Tx) (b:St):Nat→St
 | 0,_=>none
 | n + 1,env=>match c env with
  | some true=>match b env with
   | some (.nx,e1)=>YT c b n e1
   | some (.ct,e1)=>YT c b n e1
   | some (.bk,e1)=>some (.nx,e1)
   | some (.rt r,e1)=>some (.rt r,e1)
   | none=>none
  | some false=>some (.nx,env)
  | none=>none
noncomputable def enter (n:Nat) (ds:List D):Env:=ds.map .sh++List.replicate (n - ds.length) .un
noncomputable def run (p n:Nat) (g:St) (ds:List D):Option D:=if ds.length=p then (match g (enter n ds) with
 | some (.rt d,_)=>some d
 | some (.nx,_)=>some .non
 | _=>none) else none
end PV
set_option linter.all false
set_option Elab.async false
set_option maxHeartbeats 1000000
namespace PV
open PySem (Str)
structure Agr (S:List Nat)(env env0:Env):Prop where
 len:env.length=env0.length
 out:∀ i,i ∉ S→env[i]?=env0[i]?
theorem Agr.refl (S:List Nat)(env:Env):Agr S env env:=⟨rfl,fun _ _=>rfl⟩
theorem Agr.set {S:List Nat}{a b:Env}(h:Agr S a b){i:Nat}(hi:i ∈ S)(s:Sl):Agr S (a.set i s) b :=
 ⟨by rw [List.length_set];exact h.len,fun j hj=>by rw [List.getElem?_set_ne (by rintro rfl;exact hj hi)];exact h.out j hj⟩
theorem Ze6 {env:Env}{i:Nat}{s:Sl}(h:i < env.length):(env.set i s)[i]?=some s:=by rw [List.getElem?_set_self h]
theorem JD {env:Env}{i j:Nat}{s:Sl}(h:i≠j):eVar j (env.set i s)=eVar j env:=by unfold eVar;rw [List.getElem?_set_ne h]
theorem JH {env:Env}{i:Nat}{d:D}(h:i < env.length):eVar i (env.set i (.sh d))=some d:=by unfold eVar;rw [Ze6 h];rfl
theorem Agr.var {S:List Nat}{a b:Env}(h:Agr S a b){i:Nat}(hi:i ∉ S):eVar i a=eVar i b:=by unfold eVar;rw [h.out i hi]
theorem Agr.varR {S:List Nat}{a b:Env}(h:Agr S a b){i:Nat}(hi:i ∉ S):Zw i a=Zw i b:=by unfold Zw;rw [h.out i hi]
theorem Yj {a b:St}{env e1:Env}(h:a env=some (.nx,e1)):sSeq a b env=b e1:=by unfold sSeq;rw [h]
theorem Zbi {a b:St}{env e1:Env}{r:D}(h:a env=some (.rt r,e1)):sSeq a b env=some (.rt r,e1):=by unfold sSeq;rw [h]
theorem ZcI {c:Tx}{a b:St}{env:Env}(h:c env=some true):sIf c a b env=a env:=by unfold sIf;rw [h]
theorem Y7 {c:Tx}{a b:St}{env:Env}(h:c env=some false):sIf c a b env=b env:=by unfold sIf;rw [h]
theorem Zal {g:Tg}{it:Lx}{b:St}{env:Env}{ds:List D}(h:it env=some ds):sFor g it b env=forL g b ds env:=by unfold sFor;rw [h]
theorem YB {e:Ex}{env:Env}{d:D}(h:e env=some d):sRet e env=some (.rt d,env):=by unfold sRet;rw [h]
theorem Zaw {i:Nat}{e:Ex}{env:Env}{d:D}(h:e env=some d):sSet i e env=some (.nx,env.set i (.sh d)):=by unfold sSet;rw [h]
theorem ZiI {e:Ex}{env:Env}{d:D}(h:e env=some d):sDo e env=some (.nx,env):=by unfold sDo;rw [h]
theorem Y0 {env:Env}:Jl env=some (.nx,env):=rfl
theorem Ju {p n:Nat}{g:St}{ds:List D}{r:D}{e1:Env}(hp:ds.length=p)(h:g (enter n ds)=some (.rt r,e1)):run p n g ds=some r:=by unfold run;rw [if_pos hp,h]
theorem Ziw {p n:Nat}{g:St}{ds:List D}{e1:Env}(hp:ds.length=p)(h:g (enter n ds)=some (.nx,e1)):run p n g ds=some .non:=by unfold run;rw [if_pos hp,h]
theorem Js {φ:List D→Option D}{a:Ex}{env:Env}{x:D}(h:a env=some x):Zd φ [a] env=φ [x]:=by simp [Zd,evs,h]
theorem Yl {φ:List D→Option D}{a b:Ex}{env:Env}{x y:D}(h:a env=some x)(h2:b env=some y):Zd φ [a,b] env=φ [x,y]:=by simp [Zd,evs,h,h2]
theorem ZbC {φ:List D→Option D}{a b c:Ex}{env:Env}{x y z:D}(h:a env=some x)(h2:b env=some y)(h3:c env=some z):Zd φ [a,b,c] env=φ [x,y,z]:=by simp [Zd,evs,h,h2,h3]
theorem Zdk {φ:D→Option D}{a:Ex}{env:Env}{x:D}(h:a env=some x):eF1 φ a env=φ x:=by simp [eF1,h]
theorem ZaJ {g:Tg}{b:St}(P:Env→Prop)(q:D→Option D):∀ (ds:List D) (env:Env),
  (∀ d ∈ ds,∀ env,P env→∃ e0,g d env=some e0∧(∀ r,q d=some r→∃ e1,b e0=some (.rt r,e1))∧(q d=none→∃ e1,b e0=some (.nx,e1)∧P e1))→P env →
  (∀ r,ds.findSome? q=some r→∃ e1,forL g b ds env=some (.rt r,e1))∧(ds.findSome? q=none→∃ e1,forL g b ds env=some (.nx,e1)∧P e1)
 | [],env,_,p=>⟨fun r h=>by simp at h,fun _=>⟨env,rfl,p⟩⟩
 | d::ds,env,h,p=>by
  obtain ⟨e0,hg,h1,h2⟩:=h d List.mem_cons_self env p
  cases hq:q d with
  | some r =>
   obtain ⟨e1,hb⟩:=h1 r hq
   refine ⟨fun r' hr=>?_,fun hn=>?_⟩
   ·rw [List.findSome?_cons,hq] at hr
    cases hr
    exact ⟨e1,by simp only [forL,hg,hb]⟩
   ·rw [List.findSome?_cons,hq] at hn
    cases hn
  | none =>
   obtain ⟨e1,hb,p1⟩:=h2 hq
   have ih:=ZaJ P q ds e1 (fun d' hd'=>h d' (List.mem_cons_of_mem _ hd')) p1
   have e:forL g b (d::ds) env=forL g b ds e1:=by simp only [forL,hg,hb]
   rw [e,List.findSome?_cons,hq]
   exact ih
theorem Zcx {g : Tg}{b : St}{ds : List D}(I : Nat → Env → Prop)
    (step : ∀ k d env, ds[k]? = some d → I k env → ∃ e0 e1, g d env = some e0 ∧ b e0 = some (.nx, e1) ∧ I (k + 1) e1) (env : Env) (h0 : I 0 env) : ∃ e1, forL g b ds env = some (.nx, e1) ∧ I ds.length e1 := by
  have go : ∀ (m k : Nat) (env : Env), k + m = ds.length → I k env → ∃ e1, forL g b (ds.drop k) env = some (.nx, e1) ∧ I ds.length e1 := by
    intro m
    induction m with
    | zero => intro k env hk hI; have : k = ds.length := by omega
              subst this; rw [List.drop_length]; exact ⟨env, rfl, hI⟩
    | succ m ih =>
      intro k env hk hI
      have hlt : k < ds.length := by omega
      obtain ⟨e0, e1, h1, h2, h3⟩ := step k ds[k] env (by simp [hlt]) hI
      rw [List.drop_eq_getElem_cons hlt]
      simp only [forL, h1, h2]
      exact ih (k + 1) e1 (by omega) h3
  simpa using go ds.length 0 env (by omega) h0
theorem Zca {i:Nat}{e:Ex}{env:Env}(F:D→D):∀ (ds:List D),(∀ d ∈ ds,e (env.set i (.sh d))=some (F d))→Z7 i Yq e env ds=some (ds.map F)
 | [],_=>rfl
 | d::ds,h=>by
  simp only [Z7,Yq,h d List.mem_cons_self,Zca F ds fun d' hd'=>h d' (List.mem_cons_of_mem _ hd'),List.map_cons]
theorem ZdY {i:Nat}{c:Tx}{e:Ex}{env:Env}(p:D→Bool)(F:D→D):∀ (ds:List D),(∀ d ∈ ds,c (env.set i (.sh d))=some (p d))→(∀ d ∈ ds,p d=true→e (env.set i (.sh d))=some (F d)) →
  Z7 i c e env ds=some ((ds.filter p).map F)
 | [],_,_=>rfl
 | d::ds,h,k=>by
  have ih:=ZdY p F ds (fun d' hd'=>h d' (List.mem_cons_of_mem _ hd')) (fun d' hd'=>k d' (List.mem_cons_of_mem _ hd'))
  cases hp:p d with
  | true=>simp only [Z7,h d List.mem_cons_self,hp,k d List.mem_cons_self hp,ih,List.filter_cons_of_pos,List.map_cons]
  | false=>simp [Z7,h d List.mem_cons_self,hp,ih]
theorem ZfQ {p:D→Bool}:∀ ds:List D,allB (ds.map fun d=>.bl (p d))=some (ds.all p)
 | []=>rfl
 | d::ds=>by simp only [List.map_cons,allB,ZfQ ds,List.all_cons]
theorem Yo (lo:Int)(n:Nat):(Ji lo n).length=n:=by simp [Ji]
theorem Zq {n:Nat}{d:D}(h:d ∈ Ji 0 n):∃ k:Nat,k < n∧d=.int k:=by
 simp only [Ji,List.mem_map,List.mem_range] at h
 obtain ⟨k,hk,rfl⟩:=h
 exact ⟨k,hk,by simp⟩
theorem JW {lo:Int}{n k:Nat}(h:k < n):(Ji lo n)[k]?=some (.int (lo + k)):=by simp [Ji,h]
theorem Zv:lim=100000:=rfl
theorem Z6 {e:Ex}{env:Env}{n:Nat}(h:e env=some (.int n))(hn:n≤1000):iRng e env=some (Ji 0 n):=by
 unfold iRng
 simp only [h]
 rw [if_pos ⟨by rw [Zv];omega,by rw [Zv];omega⟩]
 simp
noncomputable def rowD (r:List Int):D:=.lst (r.map .int)
noncomputable def tabD (T:List (List Int)):D:=.lst (T.map rowD)
structure Tab (T:List (List Int))(n:Nat):Prop where
 len:T.length=n
 row:∀ r ∈ T,r.length=n
 ent:∀ r ∈ T,∀ x ∈ r,0≤x∧x < n
 pos:1≤n
 top:n≤12
noncomputable def tg (T:List (List Int)) (a b:Int):Int:=(T.getD a.toNat []).getD b.toNat 0
theorem Zjp {xs:List D}{j:Nat}{d:D}(h:xs[j]?=some d):atD xs (j:Int)=some d:=by
 have hj:j < xs.length:=(List.getElem?_eq_some_iff.mp h).1
 unfold atD ixN
 rw [if_pos (by omega),if_pos (by omega)]
 simpa using h
theorem Ze1 {r:List Int}{b:Int}(h0:0≤b)(h1:b < r.length):fIx (rowD r) (.int b)=some (.int (r.getD b.toNat 0)):=by
 obtain ⟨k,rfl⟩:=Int.eq_ofNat_of_zero_le h0
 have hk:k < r.length:=by omega
 show atD _ _=_
 rw [Zjp (d:=.int (r.getD k 0))]
 ·simp
 ·simp [hk,List.getD]
theorem Zjk {T:List (List Int)}{a:Int}(h0:0≤a)(h1:a < T.length):fIx (tabD T) (.int a)=some (rowD (T.getD a.toNat [])):=by
 obtain ⟨k,rfl⟩:=Int.eq_ofNat_of_zero_le h0
 have hk:k < T.length:=by omega
 show atD _ _=_
 rw [Zjp (d:=rowD (T.getD k []))]
 ·simp
 ·simp [hk,List.getD]
theorem Tab.Zed {T:List (List Int)}{n:Nat}(h:Tab T n){a:Int}(h0:0≤a)(h1:a < n):(T.getD a.toNat []).length=n:=by
 have hk:a.toNat < T.length:=by have:=h.len;omega
 rw [List.getD_eq_getElem?_getD,List.getElem?_eq_getElem hk]
 exact h.row _ (List.getElem_mem hk)
theorem Tab.bound {T:List (List Int)}{n:Nat}(h:Tab T n){a b:Int}(h0:0≤a)(h1:a < n)(h2:0≤b)(h3:b < n):0≤tg T a b∧tg T a b < n:=by
 have hk:a.toNat < T.length:=by have:=h.len;omega
 have hl:=h.Zed h0 h1
 have hb:b.toNat < (T.getD a.toNat []).length:=by omega
 unfold tg
 rw [List.getD_eq_getElem?_getD (l:=T.getD a.toNat []),List.getElem?_eq_getElem hb]
 refine h.ent _ ?_ _ (List.getElem_mem hb)
 rw [List.getD_eq_getElem?_getD,List.getElem?_eq_getElem hk]
 exact List.getElem_mem hk
theorem ix2 {T:List (List Int)}{n:Nat}(h:Tab T n){env:Env}{e0 e1 e2:Ex}{a b:Int}(k0:e0 env=some (tabD T))(k1:e1 env=some (.int a))(k2:e2 env=some (.int b))
  (h0:0≤a) (h1:a < n) (h2:0≤b) (h3:b < n):eIx (eIx e0 e1) e2 env=some (.int (tg T a b)):=by
 have hl:=h.Zed h0 h1
 unfold eIx eF2
 simp only [k0,k1,k2,Zjk h0 (show a < T.length by rw [h.len];exact h1)]
 rw [Ze1 h2 (by rw [hl];exact h3)]
 rfl
theorem ZdE (T:List (List Int)):fLen (tabD T)=some (.int T.length):=by simp [tabD,fLen]
theorem ZfO (r:List Int):fLen (rowD r)=some (.int r.length):=by simp [rowD,fLen]
mutual
theorem ZfT:∀ d:D,eqD d d=true
 | .non=>by simp [eqD]
 | .bl _=>by simp [eqD]
 | .int _=>by simp [eqD]
 | .str _=>by simp [eqD]
 | .lst xs=>by simp only [eqD];exact Zec xs
 | .tup xs=>by simp only [eqD];exact Zec xs
 | .dct xs=>by simp [eqD]
theorem Zec:∀ ds:List D,eqDs ds ds=true
 | []=>by simp [eqDs]
 | d::ds=>by simp only [eqDs,ZfT d,Zec ds,Bool.and_self]
end
theorem ZcS:∀ xs:List Int,D.deps (xs.map .int)=0
 | []=>by simp [D.deps]
 | x::xs=>by simp [D.deps,D.dep,ZcS xs]
theorem Zct (r:List Int):(rowD r).dep=1:=by simp [rowD,D.dep,ZcS]
theorem Zc2:∀ T:List (List Int),D.deps (T.map rowD)≤1
 | []=>by simp [D.deps]
 | r::T=>by simp only [List.map_cons,D.deps,Zct];have:=Zc2 T;omega
theorem ZjR (T:List (List Int)):(tabD T).dep≤2:=by have:=Zc2 T;simp only [tabD,D.dep];omega
theorem Zcp {a b:Ex}{env:Env}{i j:Int}(h1:a env=some (.int i))(h2:b env=some (.int j)):tEq a b env=some (i == j):=by
 simp [tEq,h1,h2,D.dep,eqD]
theorem ZgM {a b:Ex}{env:Env}{i j:Int}(h1:a env=some (.int i))(h2:b env=some (.int j)):tNe a b env=some (!(i == j)):=by
 simp [tNe,h1,h2,D.dep,eqD]
theorem Zn7 {σ:List Int}{v:Int}(h:σ.Nodup):(addv σ v).Nodup:=by
 unfold addv
 split
 ·exact h
 ·rename_i hv
  rw [List.nodup_append]
  exact ⟨h,by simp,fun a ha b hb=>by simp at hb;subst hb;rintro rfl;exact hv ha⟩
theorem Zmq {σ:List Int}{v x:Int}:x ∈ addv σ v↔x ∈ σ∨x=v:=by
 unfold addv
 split
 ·rename_i hv
  exact ⟨.inl,fun h=>h.elim id fun e=>e ▸ hv⟩
 ·simp
theorem ZgW:∀ (vs σ:List Int),σ.Nodup→(vs.foldl addv σ).Nodup∧∀ x,x ∈ vs.foldl addv σ↔x ∈ σ∨x ∈ vs
 | [],σ,h=>⟨h,fun x=>by simp⟩
 | v::vs,σ,h=>by
  have ih:=ZgW vs (addv σ v) (Zn7 h)
  refine ⟨ih.1,fun x=>?_⟩
  rw [List.foldl_cons,ih.2 x,Zmq,List.mem_cons,or_assoc]
theorem Zjr (vs:List Int):(seen vs).Nodup:=(ZgW vs [] List.nodup_nil).1
theorem ZfA {vs:List Int}{x:Int}:x ∈ seen vs↔x ∈ vs:=by
 have:=(ZgW vs [] List.nodup_nil).2 x
 unfold seen
 rw [this];simp
theorem Zlu (vs:List Int)(v:Int):seen (vs++[v])=addv (seen vs) v:=by simp [seen]
theorem Zma (σ:List Int)(v:Int):(addv σ v).length≤σ.length + 1:=by unfold addv;split <;> simp
theorem ZfI (vs:List Int):(seen vs).length≤vs.length:=by
 have go:∀ (vs σ:List Int),(vs.foldl addv σ).length≤σ.length + vs.length:=by
  intro vs
  induction vs with
  | nil=>intro σ;simp
  | cons v vs ih=>intro σ;have:=ih (addv σ v);have:=Zma σ v;simp only [List.foldl_cons,List.length_cons];omega
 simpa [seen] using go vs []
theorem Zcy (x:Int):∀ ys:List Int,(ins1 x ys).Perm (x::ys)
 | []=>.refl _
 | y::ys=>by
  unfold ins1
  split
  ·exact .refl _
  ·exact ((Zcy x ys).cons y).trans (.swap x y ys)
theorem ZG:∀ xs:List Int,(srt xs).Perm xs
 | []=>.refl _
 | x::xs=>(Zcy x (srt xs)).trans ((ZG xs).cons x)
theorem Zgv (x:Int):∀ ys:List Int,ys.Pairwise (·≤·)→(ins1 x ys).Pairwise (·≤·)
 | [],_=>by simp [ins1]
 | y::ys,h=>by
  rw [List.pairwise_cons] at h
  unfold ins1
  split
  ·rename_i hxy
   rw [List.pairwise_cons]
   refine ⟨fun z hz=>?_,List.pairwise_cons.mpr h⟩
   rcases List.mem_cons.mp hz with rfl | hz
   ·exact hxy
   ·have:=h.1 z hz;omega
  ·rename_i hxy
   rw [List.pairwise_cons]
   refine ⟨fun z hz=>?_,Zgv x ys h.2⟩
   rcases List.mem_cons.mp ((Zcy x ys).mem_iff.mp hz) with rfl | hz
   ·omega
   ·exact h.1 z hz
theorem Zdu:∀ xs:List Int,(srt xs).Pairwise (·≤·)
 | []=>List.Pairwise.nil
 | x::xs=>Zgv x _ (Zdu xs)
theorem Zif {a b:List Int}(p:a.Perm b)(ha:a.Pairwise (·≤·)):a=srt b :=
 (p.trans (ZG b).symm).eq_of_pairwise (fun x y _ _ h1 h2=>Int.le_antisymm h1 h2) ha (Zdu b)
theorem Zah {l:List Int}{x:Int}:x ∈ srt (seen l)↔x ∈ l:=by rw [(ZG _).mem_iff,ZfA]
theorem ZeV {l:List Int}(h:l.Pairwise (·≤·))(hn:l.Nodup):l.Pairwise (· < ·) :=
 (h.and hn).imp fun {a b} hab=>by obtain ⟨h1,h2⟩:=hab;omega
theorem Zi4 (l:List Int):(srt (seen l)).Pairwise (· < ·):=ZeV (Zdu _) ((ZG _).nodup_iff.mpr (Zjr l))
theorem Zbd {a b:List Int}(ha:a.Pairwise (· < ·))(hb:b.Pairwise (· < ·))(h:∀ x,x ∈ a↔x ∈ b):a=b:=by
 have na:a.Nodup:=ha.imp fun {x y} h e=>by omega
 have nb:b.Nodup:=hb.imp fun {x y} h e=>by omega
 exact ((List.perm_ext_iff_of_nodup na nb).mpr h).eq_of_pairwise (fun x y _ _ h1 h2=>by omega) ha hb
theorem ints_map (r:List Int):Jx (r.map .int)=some r:=by
 induction r with
 | nil=>rfl
 | cons x r ih=>simp [Jx,ih]
theorem Ze0:∀ x:List Int,ltL x x=false
 | []=>rfl
 | a::x=>by simp [ltL,Ze0 x]
theorem Zia:∀ {x y z:List Int},ltL x y=true→ltL y z=true→ltL x z=true
 | [],[],z,h,_=>by simp [ltL] at h
 | [],b::y,[],_,h=>by simp [ltL] at h
 | [],b::y,c::z,_,_=>by simp [ltL]
 | a::x,[],z,h,_=>by simp [ltL] at h
 | a::x,b::y,[],_,h=>by simp [ltL] at h
 | a::x,b::y,c::z,h,k=>by
  simp only [ltL] at h k ⊢
  by_cases e1:a=b
  ·subst e1
   rw [if_pos rfl] at h
   by_cases e2:a=c
   ·subst e2
    rw [if_pos rfl] at k ⊢
    exact Zia h k
   ·rw [if_neg e2] at k ⊢;exact k
  ·rw [if_neg e1] at h
   have h':=of_decide_eq_true h
   by_cases e2:b=c
   ·subst e2
    rw [if_neg e1];exact h
   ·rw [if_neg e2] at k
    have k':=of_decide_eq_true k
    rw [if_neg (by omega)]
    exact decide_eq_true (by omega)
theorem ZeX:∀ x y:List Int,ltL x y=false→ltL y x=false→x=y
 | [],[],_,_=>rfl
 | [],b::y,h,_=>by simp [ltL] at h
 | a::x,[],_,h=>by simp [ltL] at h
 | a::x,b::y,h,k=>by
  simp only [ltL] at h k
  by_cases e:a=b
  ·subst e
   rw [if_pos rfl] at h k
   rw [ZeX x y h k]
  ·rw [if_neg e] at h
   rw [if_neg (fun q=>e q.symm)] at k
   have h':=of_decide_eq_false h
   have k':=of_decide_eq_false k
   omega
noncomputable def leL (x y:List Int):Prop:=ltL y x=false
theorem leL.refl (x:List Int):leL x x:=Ze0 x
theorem leL.of {x y:List Int}(h:ltL x y=true):leL x y:=by
 unfold leL
 cases k:ltL y x with
 | false=>rfl
 | true=>have:=Zia h k;rw [Ze0] at this;cases this
theorem leL.trans {x y z:List Int}(h:leL x y)(k:leL y z):leL x z:=by
 unfold leL at *
 cases q:ltL z x with
 | false=>rfl
 | true =>
  cases e:ltL x y with
  | true=>have:=Zia q e;rw [k] at this;cases this
  | false=>rw [ZeX x y e h] at q;rw [k] at q;cases q
theorem leL.anti {x y:List Int}(h:leL x y)(k:leL y x):x=y:=ZeX x y k h
theorem Zea {α:Type}(key:α→List Int)(x:α):∀ ys:List α,(insB key x ys).Perm (x::ys)
 | []=>.refl _
 | y::ys=>by
  unfold insB
  split
  ·exact ((Zea key x ys).cons y).trans (.swap x y ys)
  ·exact .refl _
theorem Zbn {α:Type}(key:α→List Int):∀ xs:List α,(srtB key xs).Perm xs
 | []=>.refl _
 | x::xs=>(Zea key x _).trans ((Zbn key xs).cons x)
theorem ZjQ {α:Type}(key:α→List Int)(x:α):∀ ys:List α,ys.Pairwise (fun a b=>leL (key a) (key b))→(insB key x ys).Pairwise (fun a b=>leL (key a) (key b))
 | [],_=>by simp [insB]
 | y::ys,h=>by
  rw [List.pairwise_cons] at h
  unfold insB
  split
  ·rename_i hl
   rw [List.pairwise_cons]
   refine ⟨fun z hz=>?_,ZjQ key x ys h.2⟩
   rcases List.mem_cons.mp ((Zea key x ys).mem_iff.mp hz) with rfl | hz
   ·exact leL.of hl
   ·exact h.1 z hz
  ·rename_i hl
   have hl':leL (key x) (key y):=by unfold leL;simpa using hl
   rw [List.pairwise_cons]
   refine ⟨fun z hz=>?_,List.pairwise_cons.mpr h⟩
   rcases List.mem_cons.mp hz with rfl | hz
   ·exact hl'
   ·exact hl'.trans (h.1 z hz)
theorem Ze5 {α:Type}(key:α→List Int):∀ xs:List α,(srtB key xs).Pairwise (fun a b=>leL (key a) (key b))
 | []=>List.Pairwise.nil
 | x::xs=>ZjQ key x _ (Ze5 key xs)
end PV
set_option linter.all false
set_option Elab.async false
set_option maxHeartbeats 1000000
namespace PV
open PySem (Str)
noncomputable def ev (e:Ex) (env:Env) (P:D→Prop):Prop:=∃ d,e env=some d∧P d
noncomputable def evI (e:Ex) (env:Env) (P:Int→Prop):Prop:=∃ i,e env=some (.int i)∧P i
noncomputable def evR (e:Ex) (env:Env) (P:List Int→Prop):Prop:=∃ r,e env=some (rowD r)∧P r
noncomputable def evT (e:Ex) (env:Env) (P:List (List Int)→Prop):Prop:=∃ T,e env=some (tabD T)∧P T
noncomputable def tv (t:Tx) (env:Env) (P:Bool→Prop):Prop:=∃ k,t env=some k∧P k
noncomputable def wp (s:St) (env:Env) (Q:Out→Env→Prop):Prop:=∃ o e,s env=some (o,e)∧Q o e
theorem wp.mono {s:St}{env:Env}{Q Q':Out→Env→Prop}(h:wp s env Q)(k:∀ o e,Q o e→Q' o e):wp s env Q':=let ⟨o,e,a,b⟩:=h;⟨o,e,a,k o e b⟩
theorem tv.mono {t:Tx}{env:Env}{P P':Bool→Prop}(h:tv t env P)(k:∀ d,P d→P' d):tv t env P':=let ⟨d,a,b⟩:=h;⟨d,a,k d b⟩
theorem evI.ev {e:Ex}{env:Env}{P:D→Prop}(h:evI e env fun i=>P (.int i)):ev e env P:=let ⟨i,a,b⟩:=h;⟨_,a,b⟩
theorem evR.ev {e:Ex}{env:Env}{P:D→Prop}(h:evR e env fun r=>P (rowD r)):ev e env P:=let ⟨i,a,b⟩:=h;⟨_,a,b⟩
theorem ev.eq {e:Ex}{env:Env}{d:D}(h:ev e env (·=d)):e env=some d:=let ⟨x,a,b⟩:=h;b ▸ a
theorem evI.eq {e:Ex}{env:Env}{i:Int}(h:evI e env (·=i)):e env=some (.int i):=let ⟨x,a,b⟩:=h;b ▸ a
theorem tv.eq {e:Tx}{env:Env}{d:Bool}(h:tv e env (·=d)):e env=some d:=let ⟨x,a,b⟩:=h;b ▸ a
theorem Zh {e:Ex}{env:Env}{d:D}{P:D→Prop}(h:e env=some d)(k:P d):ev e env P:=⟨d,h,k⟩
theorem Zg {e:Ex}{env:Env}{d:Int}{P:Int→Prop}(h:e env=some (.int d))(k:P d):evI e env P:=⟨d,h,k⟩
theorem ZV {e:Ex}{env:Env}{d:List Int}{P:List Int→Prop}(h:e env=some (rowD d))(k:P d):evR e env P:=⟨d,h,k⟩
theorem ZaL {e:Ex}{env:Env}{d:List (List Int)}{P:List (List Int)→Prop}(h:e env=some (tabD d))(k:P d):evT e env P:=⟨d,h,k⟩
theorem ZmZ {e:Tx}{env:Env}{d:Bool}{P:Bool→Prop}(h:e env=some d)(k:P d):tv e env P:=⟨d,h,k⟩
theorem ZmH {a b:Ex}{env:Env}{P:Int→Prop}(h:evI a env fun i=>evI b env fun j=>P (i + j)):evI (eAdd a b) env P:=by
 obtain ⟨i,h1,j,h2,p⟩:=h;exact ⟨_,by simp [eAdd,eF2,h1,h2,fAdd],p⟩
theorem ZeL {a b:Ex}{env:Env}{P:Int→Prop}(h:evI a env fun i=>evI b env fun j=>0 < j∧P (i % j)):evI (e2I iMod a b) env P:=by
 obtain ⟨i,h1,j,h2,q,p⟩:=h;exact ⟨_,by simp only [e2I,h1,h2,iMod,if_pos q],p⟩
theorem ZdG {a:Ex}{env:Env}{P:Int→Prop}(h:evT a env fun T=>P T.length):evI (eF1 fLen a) env P:=by
 obtain ⟨T,h1,p⟩:=h;exact ⟨_,by simp [eF1,h1,ZdE],p⟩
theorem Zl6 {a:Ex}{env:Env}{P:Int→Prop}(h:evR a env fun T=>P T.length):evI (eF1 fLen a) env P:=by
 obtain ⟨T,h1,p⟩:=h;exact ⟨_,by simp [eF1,h1,ZfO],p⟩
theorem Zaz {e0 e1 e2:Ex}{env:Env}{P:Int→Prop}{T:List (List Int)}{n:Nat}(hT:Tab T n)(h0:e0 env=some (tabD T))(h:evI e1 env fun a=>evI e2 env fun b=>(0≤a∧a < n)∧(0≤b∧b < n)∧P (tg T a b)):evI (eIx (eIx e0 e1) e2) env P:=by
 obtain ⟨a,h1,b,h2,⟨a0,a1⟩,⟨b0,b1⟩,p⟩:=h;exact ⟨_,ix2 hT h0 h1 h2 a0 a1 b0 b1,p⟩
theorem ZgG {e0 e1:Ex}{env:Env}{P:Int→Prop}(h:evR e0 env fun r=>evI e1 env fun b=>(0≤b∧b < r.length)∧P (r.getD b.toNat 0)):evI (eIx e0 e1) env P:=by
 obtain ⟨r,h0,b,h1,⟨b0,b1⟩,p⟩:=h;exact ⟨_,by simp only [eIx,eF2,h0,h1,Ze1 b0 b1],p⟩
theorem Zg3 {e0 e1:Ex}{env:Env}{P:List Int→Prop}(h:evT e0 env fun r=>evI e1 env fun b=>(0≤b∧b < r.length)∧P (r.getD b.toNat [])):evR (eIx e0 e1) env P:=by
 obtain ⟨r,h0,b,h1,⟨b0,b1⟩,p⟩:=h;exact ⟨_,by simp only [eIx,eF2,h0,h1,Zjk b0 b1],p⟩
theorem Zl2 {φ:List D→Option D}{a b:Ex}{env:Env}{P:D→Prop}(h:ev a env fun x=>ev b env fun y=>∃ d,φ [x,y]=some d∧P d):ev (Zd φ [a,b]) env P:=by
 obtain ⟨x,h1,y,h2,d,h3,p⟩:=h;exact ⟨d,(Yl h1 h2).trans h3,p⟩
theorem Zla {φ:List D→Option D}{a b:Ex}{env:Env}{P:Int→Prop}(h:ev a env fun x=>ev b env fun y=>∃ d,φ [x,y]=some (.int d)∧P d):evI (Zd φ [a,b]) env P:=by
 obtain ⟨x,h1,y,h2,d,h3,p⟩:=h;exact ⟨d,(Yl h1 h2).trans h3,p⟩
theorem ZnP {a:Ex}{env:Env}{P:D→Prop}(h:ev a env fun x=>P (.lst [x])):ev (eLst [a]) env P:=by
 obtain ⟨x,h1,p⟩:=h;exact ⟨_,by simp [eLst,evs,h1],p⟩
theorem ZfD {a:Ex}{env:Env}{P:List Int→Prop}(h:evI a env fun x=>P [x]):evR (eLst [a]) env P:=by
 obtain ⟨x,h1,p⟩:=h;exact ⟨_,by simp [eLst,evs,h1,rowD],p⟩
theorem ev_B {t:Tx}{env:Env}{P:D→Prop}(h:tv t env fun k=>P (.bl k)):ev (eB t) env P:=by
 obtain ⟨k,h1,p⟩:=h;exact ⟨_,by simp only [eB,h1],p⟩
theorem Zk4 {a:Ex}{env:Env}{P:List Int→Prop}(h:evR a env fun r=>P r):evR (eF1 Y5 a) env P:=by
 obtain ⟨r,h1,p⟩:=h;exact ⟨_,by simp only [eF1,h1];rfl,p⟩
theorem ZpL {a b:Ex}{env:Env}{P:Bool→Prop}(h:evI a env fun i=>evI b env fun j=>P (decide (i < j))):tv (t2I pLt a b) env P:=by
 obtain ⟨i,h1,j,h2,p⟩:=h;exact ⟨_,by simp [t2I,h1,h2,pLt],p⟩
theorem ZpO {a b:Ex}{env:Env}{P:Bool→Prop}(h:evI a env fun i=>evI b env fun j=>P (decide (j < i))):tv (t2I pGt a b) env P:=by
 obtain ⟨i,h1,j,h2,p⟩:=h;exact ⟨_,by simp [t2I,h1,h2,pGt],p⟩
theorem Zgw {a b:Ex}{env:Env}{P:Bool→Prop}(h:evI a env fun i=>evI b env fun j=>P (decide (i=j))):tv (tEq a b) env P:=by
 obtain ⟨i,h1,j,h2,p⟩:=h;exact ⟨_,(Zcp h1 h2).trans (by congr 1),p⟩
theorem Zew {a b:Ex}{env:Env}{P:Bool→Prop}(h:evI a env fun i=>evI b env fun j=>P (decide (i≠j))):tv (tNe a b) env P:=by
 obtain ⟨i,h1,j,h2,p⟩:=h
 exact ⟨_,(ZgM h1 h2).trans (by congr 1;by_cases e:i=j <;> simp [e]),p⟩
theorem Zh6:∀ (r q:List Int),eqDs (r.map .int) (q.map .int)=decide (r=q)
 | [],[]=>by simp [eqDs]
 | [],_::_=>by simp [eqDs]
 | _::_,[]=>by simp [eqDs]
 | x::r,y::q=>by
  simp only [List.map_cons,eqDs,eqD,Zh6 r q]
  by_cases h1:x=y <;> by_cases h2:r=q <;> simp [h1,h2]
theorem Zdq (r q:List Int):eqD (rowD r) (rowD q)=decide (r=q):=by simp only [rowD,eqD,Zh6]
theorem Zhu:∀ (r q:List (List Int)),eqDs (r.map rowD) (q.map rowD)=decide (r=q)
 | [],[]=>by simp [eqDs]
 | [],_::_=>by simp [eqDs]
 | _::_,[]=>by simp [eqDs]
 | x::r,y::q=>by
  simp only [List.map_cons,eqDs,Zdq,Zhu r q]
  by_cases h1:x=y <;> by_cases h2:r=q <;> simp [h1,h2]
theorem ZnR (r q:List (List Int)):eqD (tabD r) (tabD q)=decide (r=q):=by simp only [tabD,eqD,Zhu]
theorem Zoi {a b:Ex}{env:Env}{P:Bool→Prop}(h:evR a env fun i=>evR b env fun j=>P (decide (i=j))):tv (tEq a b) env P:=by
 obtain ⟨i,h1,j,h2,p⟩:=h;exact ⟨_,by simp [tEq,h1,h2,Zct,Zdq],p⟩
theorem Zir {a b:Ex}{env:Env}{P:Bool→Prop}(h:evR a env fun i=>evR b env fun j=>P (decide (i≠j))):tv (tNe a b) env P:=by
 obtain ⟨i,h1,j,h2,p⟩:=h;exact ⟨_,by simp [tNe,h1,h2,Zct,Zdq],p⟩
theorem Zor {a b:Ex}{env:Env}{P:Bool→Prop}(h:evT a env fun i=>evT b env fun j=>P (decide (i≠j))):tv (tNe a b) env P:=by
 obtain ⟨i,h1,j,h2,p⟩:=h
 exact ⟨_,by have:=ZjR i;have:=ZjR j;simp only [tNe,h1,h2,ZnR];rw [if_pos (by omega)];simp,p⟩
theorem Zji (x:Int):∀ r:List Int,inD (.int x) (r.map .int)=decide (x ∈ r)
 | []=>by simp [inD]
 | y::r=>by
  have ih:=Zji x r
  simp only [inD] at ih ⊢
  simp only [List.map_cons,List.any_cons,ih,eqD]
  by_cases h1:x=y
  ·simp [h1]
  ·have:¬ y=x:=fun e=>h1 e.symm
   simp [h1,this]
theorem ZgP (x:List Int):∀ r:List (List Int),inD (rowD x) (r.map rowD)=decide (x ∈ r)
 | []=>by simp [inD]
 | y::r=>by
  have ih:=ZgP x r
  simp only [inD] at ih ⊢
  simp only [List.map_cons,List.any_cons,ih,Zdq]
  by_cases h1:x=y
  ·simp [h1]
  ·have:¬ y=x:=fun e=>h1 e.symm
   simp [h1,this]
theorem ZoF {a b:Ex}{env:Env}{P:Bool→Prop}(h:evI a env fun i=>evR b env fun r=>P (decide (i ∈ r))):tv (tIn a b) env P:=by
 obtain ⟨i,h1,j,h2,p⟩:=h
 exact ⟨_,by simp only [tIn,h1,h2,rowD,ZcS,Zji];rfl,p⟩
theorem Zpe {a b:Ex}{env:Env}{P:Bool→Prop}(h:evR a env fun i=>evT b env fun r=>P (decide (i ∈ r))):tv (tIn a b) env P:=by
 obtain ⟨i,h1,j,h2,p⟩:=h
 exact ⟨_,by have:=Zc2 j;have:=Zct i;simp only [tIn,h1,h2,tabD,ZgP];rw [if_pos (by omega)],p⟩
theorem ZoR {a b:Ex}{env:Env}{P:Bool→Prop}(h:evR a env fun i=>evT b env fun r=>P (decide (i ∉ r))):tv (tNi a b) env P:=by
 obtain ⟨i,h1,j,h2,p⟩:=h
 exact ⟨_,by have:=Zc2 j;have:=Zct i;simp only [tNi,tIn,h1,h2,tabD,ZgP];rw [if_pos (by omega)];simp,p⟩
theorem Zb8 {a:Ex}{env:Env}{P:Bool→Prop}(h:ev a env fun d=>P (!d.isN)):tv (tNoN a) env P:=by
 obtain ⟨i,h1,p⟩:=h;exact ⟨_,by simp only [tNoN,h1],p⟩
theorem Zge {a:Tx}{env:Env}{P:Bool→Prop}(h:tv a env fun d=>P (!d)):tv (tNot a) env P:=by
 obtain ⟨i,h1,p⟩:=h;exact ⟨_,by simp only [tNot,h1],p⟩
theorem ZgD {a b:Tx}{env:Env}{P:Bool→Prop}(h:tv a env fun d=>(d=true→tv b env P)∧(d=false→P false)):tv (tAnd a b) env P:=by
 obtain ⟨i,h1,p,q⟩:=h
 cases i with
 | true=>obtain ⟨j,h2,p⟩:=p rfl;exact ⟨j,by simp only [tAnd,h1,h2],p⟩
 | false=>exact ⟨false,by simp only [tAnd,h1],q rfl⟩
theorem Zkf {a b:Tx}{env:Env}{P:Bool→Prop}(h:tv a env fun d=>(d=true→P true)∧(d=false→tv b env P)):tv (tOr a b) env P:=by
 obtain ⟨i,h1,p,q⟩:=h
 cases i with
 | false=>obtain ⟨j,h2,p⟩:=q rfl;exact ⟨j,by simp only [tOr,h1,h2],p⟩
 | true=>exact ⟨true,by simp only [tOr,h1],p rfl⟩
theorem tv_B {a:Ex}{env:Env}{P:Bool→Prop}(h:ev a env fun d=>∃ k,d=.bl k∧P k):tv (tB a) env P:=by
 obtain ⟨_,h1,k,rfl,p⟩:=h;exact ⟨_,by simp only [tB,h1],p⟩
theorem Zcq {env:Env}{Q:Out→Env→Prop}(h:Q .nx env):wp Jl env Q:=⟨_,_,rfl,h⟩
theorem YJ {i:Nat}{e:Ex}{env:Env}{Q:Out→Env→Prop}(h:ev e env fun d=>Q .nx (env.set i (.sh d))):wp (sSet i e) env Q:=by
 obtain ⟨d,h1,p⟩:=h;exact ⟨_,_,by simp only [sSet,h1],p⟩
theorem ZbS {i:Nat}{e:Ex}{env:Env}{Q:Out→Env→Prop}(h:ev e env fun d=>Q .nx (env.set i (.fr d))):wp (Zbr i e) env Q:=by
 obtain ⟨d,h1,p⟩:=h;exact ⟨_,_,by simp only [Zbr,h1],p⟩
theorem Zpj {i:Nat}{e:Ex}{env:Env}{Q:Out→Env→Prop}(h:ev e env fun d=>∃ ds,d=.lst ds∧Q .nx (env.set i (.ow ds))):wp (sOwn i e) env Q:=by
 obtain ⟨_,h1,ds,rfl,p⟩:=h;exact ⟨_,_,by simp only [sOwn,h1],p⟩
theorem ZoJ {i:Nat}{e:Ex}{env:Env}{Q:Out→Env→Prop}{ds:List D}(hi:env[i]?=some (.ow ds))(h:ev e env fun d=>ds.length < lim∧Q .nx (env.set i (.ow (ds++[d])))):wp (sApp i e) env Q:=by
 obtain ⟨d,h1,q,p⟩:=h;exact ⟨_,_,by simp only [sApp,hi,h1,if_pos q],p⟩
theorem Zo9 {i:Nat}{env:Env}{Q:Out→Env→Prop}{ds:List D}(hi:env[i]?=some (.ow ds))(h:Q .nx (env.set i (.sh (.lst ds)))):wp (sFrz i) env Q:=⟨_,_,by simp only [sFrz,hi],h⟩
theorem ZgH {i:Nat}{env:Env}{Q:Out→Env→Prop}{d:D}(hi:env[i]?=some (.sh d))(h:Q .nx env):wp (sFrz i) env Q:=⟨_,_,by simp only [sFrz,hi],h⟩
theorem Za5 {e:Ex}{env:Env}{Q:Out→Env→Prop}(h:ev e env fun _=>Q .nx env):wp (sDo e) env Q:=by
 obtain ⟨d,h1,p⟩:=h;exact ⟨_,_,by simp only [sDo,h1],p⟩
theorem Yr {e:Ex}{env:Env}{Q:Out→Env→Prop}(h:ev e env fun d=>Q (.rt d) env):wp (sRet e) env Q:=by
 obtain ⟨d,h1,p⟩:=h;exact ⟨_,_,by simp only [sRet,h1],p⟩
noncomputable def thn (b:St) (Q:Out→Env→Prop):Out→Env→Prop
 | .nx,e=>wp b e Q
 | .bk,e=>Q .bk e
 | .ct,e=>Q .ct e
 | .rt d,e=>Q (.rt d) e
theorem wp_seq {a b:St}{env:Env}{Q:Out→Env→Prop}(h:wp a env (thn b Q)):wp (sSeq a b) env Q:=by
 obtain ⟨o,e,h1,p⟩:=h
 cases o with
 | nx=>obtain ⟨o,e',h2,p⟩:=p;exact ⟨o,e',by simp only [sSeq,h1,h2],p⟩
 | bk=>exact ⟨_,_,by simp only [sSeq,h1],p⟩
 | ct=>exact ⟨_,_,by simp only [sSeq,h1],p⟩
 | rt d=>exact ⟨_,_,by simp only [sSeq,h1],p⟩
theorem Zcf {c:Tx}{a b:St}{env:Env}{Q:Out→Env→Prop}(h:tv c env fun k=>(k=true→wp a env Q)∧(k=false→wp b env Q)):wp (sIf c a b) env Q:=by
 obtain ⟨k,h1,p,q⟩:=h
 cases k with
 | true=>obtain ⟨o,e,h2,p⟩:=p rfl;exact ⟨o,e,by simp only [sIf,h1,h2],p⟩
 | false=>obtain ⟨o,e,h2,p⟩:=q rfl;exact ⟨o,e,by simp only [sIf,h1,h2],p⟩
theorem Zb0 {c:Tx}{a:St}{env:Env}{Q:Out→Env→Prop}(h:tv c env (·=false))(k:Q .nx env):wp (sIf c a Jl) env Q :=
 Zcf (tv.mono h fun d hd=>⟨fun e=>(by rw [hd] at e;cases e),fun _=>Zcq k⟩)
noncomputable def lps (I:Env→Prop) (Q:Out→Env→Prop):Out→Env→Prop
 | .nx,e=>I e
 | .ct,e=>I e
 | .bk,e=>Q .nx e
 | .rt d,e=>Q (.rt d) e
theorem Zf9 {g : Tg}{it : Lx}{b : St}{env : Env}{Q : Out → Env → Prop}{ds : List D}(I : Nat → Env → Prop)(hit : it env = some ds)(h0 : I 0 env)
    (step : ∀ k d e, ds[k]? = some d → I k e → ∃ e0, g d e = some e0 ∧ wp b e0 (lps (I (k + 1)) Q)) (h1 : ∀ e, I ds.length e → Q .nx e) : wp (sFor g it b) env Q := by
  have go : ∀ (m k : Nat) (env : Env), k + m = ds.length → I k env → ∃ o e, forL g b (ds.drop k) env = some (o, e) ∧ Q o e := by
    intro m
    induction m with
    | zero => intro k env hk hI; have : k = ds.length := by omega
              subst this; rw [List.drop_length]; exact ⟨_, env, rfl, h1 _ hI⟩
    | succ m ih =>
      intro k env hk hI
      have hlt : k < ds.length := by omega
      obtain ⟨e0, hg, o, e1, hb, p⟩ := step k ds[k] env (by simp [hlt]) hI
      rw [List.drop_eq_getElem_cons hlt]
      cases o with
      | nx => obtain ⟨o, e, h2, p⟩ := ih (k + 1) e1 (by omega) p; exact ⟨o, e, by simp only [forL, hg, hb, h2], p⟩
      | ct => obtain ⟨o, e, h2, p⟩ := ih (k + 1) e1 (by omega) p; exact ⟨o, e, by simp only [forL, hg, hb, h2], p⟩
      | bk => exact ⟨_, _, by simp only [forL, hg, hb], p⟩
      | rt d => exact ⟨_, _, by simp only [forL, hg, hb], p⟩
  obtain ⟨o, e, h2, p⟩ := go ds.length 0 env (by omega) h0
  exact ⟨o, e, by simp only [sFor, hit]; simpa using h2, p⟩
theorem Zha {i n:Nat}{it:Lx}{b:St}{env:Env}{Q:Out→Env→Prop}(I:Nat→Env→Prop)(hit:it env=some (Ji 0 n))(h0:I 0 env)
  (step:∀ (k:Nat) e,k < n→I k e→wp b (e.set i (.sh (.int k))) (lps (I (k + 1)) Q)) (h1:∀ e,I n e→Q .nx e):wp (sFor (gN i) it b) env Q:=by
 refine Zf9 I hit h0 (fun k d e hd hI=>?_) (fun e hI=>h1 e (by rwa [Yo] at hI))
 have hk:k < n:=by have:=(List.getElem?_eq_some_iff.mp hd).1;rwa [Yo] at this
 rw [JW hk] at hd
 injection hd with hd
 subst hd
 refine ⟨_,rfl,?_⟩
 have:=step k e hk hI
 rwa [show (0:Int) + (k:Nat)=k by omega]
theorem Zbg {i:Nat}{it:Lx}{r:List Int}{b:St}{env:Env}{Q:Out→Env→Prop}(I:Nat→Env→Prop)(hit:it env=some (r.map .int))(h0:I 0 env)
  (step:∀ (k:Nat) e x,r[k]?=some x→I k e→wp b (e.set i (.sh (.int x))) (lps (I (k + 1)) Q)) (h1:∀ e,I r.length e→Q .nx e):wp (sFor (gN i) it b) env Q:=by
 refine Zf9 I hit h0 (fun k d e hd hI=>?_) (fun e hI=>h1 e (by rwa [List.length_map] at hI))
 rw [List.getElem?_map,Option.map_eq_some_iff] at hd
 obtain ⟨x,hx,rfl⟩:=hd
 exact ⟨_,rfl,step k e x hx hI⟩
theorem ZlR {i:Nat}{it:Lx}{r:List (List Int)}{b:St}{env:Env}{Q:Out→Env→Prop}(I:Nat→Env→Prop)(hit:it env=some (r.map rowD))(h0:I 0 env)
  (step:∀ (k:Nat) e x,r[k]?=some x→I k e→wp b (e.set i (.sh (rowD x))) (lps (I (k + 1)) Q)) (h1:∀ e,I r.length e→Q .nx e):wp (sFor (gN i) it b) env Q:=by
 refine Zf9 I hit h0 (fun k d e hd hI=>?_) (fun e hI=>h1 e (by rwa [List.length_map] at hI))
 rw [List.getElem?_map,Option.map_eq_some_iff] at hd
 obtain ⟨x,hx,rfl⟩:=hd
 exact ⟨_,rfl,step k e x hx hI⟩
theorem ZfH {c:Tx}{b:St}{env:Env}{Q:Out→Env→Prop}{m N:Nat}(I:Nat→Env→Prop)(hN:N < m)(h0:I 0 env)
  (step:∀ k e,I k e→tv c e fun t=>(t=true→k < N∧wp b e (lps (I (k + 1)) Q))∧(t=false→Q .nx e)):wp (YT c b m) env Q:=by
 have go:∀ (m k:Nat) (env:Env),N < k + m→k≤N→I k env→∃ o e,YT c b m env=some (o,e)∧Q o e:=by
  intro m
  induction m with
  | zero=>intro k env h1 h2;omega
  | succ m ih =>
   intro k env h1 h2 hI
   obtain ⟨t,ht,p,q⟩:=step k env hI
   cases t with
   | false=>exact ⟨_,_,by simp only [YT,ht],q rfl⟩
   | true =>
    obtain ⟨hk,o,e1,hb,p⟩:=p rfl
    cases o with
    | nx=>obtain ⟨o,e,h3,p⟩:=ih (k + 1) e1 (by omega) (by omega) p;exact ⟨o,e,by simp only [YT,ht,hb,h3],p⟩
    | ct=>obtain ⟨o,e,h3,p⟩:=ih (k + 1) e1 (by omega) (by omega) p;exact ⟨o,e,by simp only [YT,ht,hb,h3],p⟩
    | bk=>exact ⟨_,_,by simp only [YT,ht,hb],p⟩
    | rt d=>exact ⟨_,_,by simp only [YT,ht,hb],p⟩
 exact go m 0 env (by omega) (by omega) h0
noncomputable def ends (d:D):Out→Env→Prop
 | .rt x,_=>x=d
 | .nx,_=>d=.non
 | _,_=>False
theorem ZK {p n:Nat}{g:St}{ds:List D}{d:D}(hp:ds.length=p)(h:wp g (enter n ds) (ends d)):run p n g ds=some d:=by
 obtain ⟨o,e,h1,q⟩:=h
 cases o with
 | rt x=>have:x=d:=q;subst this;exact Ju hp h1
 | nx=>have:d=.non:=q;subst this;exact Ziw hp h1
 | bk=>cases q
 | ct=>cases q
theorem Zel {i:Nat}{it:Lx}{c:Tx}{e:Ex}{env:Env}{P:D→Prop}{ds:List D}(p:D→Bool)(F:D→D)(hit:it env=some ds)(hl:ds.length≤lim)
  (hc:∀ d ∈ ds,tv c (env.set i (.sh d)) (·=p d)) (he:∀ d ∈ ds,p d=true→ev e (env.set i (.sh d)) (·=F d)) (h:P (.lst ((ds.filter p).map F))):ev (Yk i it c e) env P :=
 ⟨_,by simp only [Yk,hit,if_pos hl,ZdY p F ds (fun d hd=>(hc d hd).eq) fun d hd hp=>(he d hd hp).eq],h⟩
theorem Zj9 {i:Nat}{it:Lx}{c:Tx}{e:Ex}{env:Env}{P:List Int→Prop}{r:List Int}(p:Int→Bool)(F:Int→Int)(hit:it env=some (r.map .int))(hl:r.length≤lim)
  (hc:∀ x ∈ r,tv c (env.set i (.sh (.int x))) (·=p x)) (he:∀ x ∈ r,p x=true→evI e (env.set i (.sh (.int x))) (·=F x)) (h:P ((r.filter p).map F)):evR (Yk i it c e) env P:=by
 have key:=Zel (P:=(·=rowD ((r.filter p).map F))) (c:=c) (e:=e) (i:=i) (fun d=>match d with | .int x=>p x | _=>false) (fun d=>match d with | .int x=>.int (F x) | _=>.non) hit (by rw [List.length_map];exact hl)
  (fun d hd=>by obtain ⟨x,hx,rfl⟩:=List.mem_map.mp hd;exact hc x hx)
  (fun d hd hp=>by obtain ⟨x,hx,rfl⟩:=List.mem_map.mp hd;exact evI.ev (let ⟨y,h1,h2⟩:=he x hx hp;⟨y,h1,congrArg D.int h2⟩))
  (by simp [rowD,List.filter_map,Function.comp_def])
 exact ⟨_,key.eq,h⟩
theorem Zdh {i:Nat}{it:Lx}{e:Ex}{env:Env}{P:List Int→Prop}{r:List Int}(F:Int→Int)(hit:it env=some (r.map .int))(hl:r.length≤lim)
  (he:∀ x ∈ r,evI e (env.set i (.sh (.int x))) (·=F x)) (h:P (r.map F)):evR (Yk i it Yq e) env P :=
 Zj9 (fun _=>true) F hit hl (fun _ _=>⟨_,rfl,rfl⟩) (fun x hx _=>he x hx) (by rw [List.filter_eq_self.mpr (fun _ _=>rfl)];exact h)
noncomputable def upto (n:Nat):List Int:=(List.range n).map Int.ofNat
theorem Zlh (n:Nat):(upto n).map D.int=Ji 0 n:=by simp [upto,Ji,Function.comp_def]
theorem Je {n:Nat}{x:Int}:x ∈ upto n↔0≤x∧x < n:=by
 simp only [upto,List.mem_map,List.mem_range]
 exact ⟨fun ⟨k,hk,e⟩=>by subst e;simp only [Int.ofNat_eq_natCast];omega,fun ⟨h0,h1⟩=>⟨x.toNat,by omega,by simp only [Int.ofNat_eq_natCast];omega⟩⟩
theorem Jz (n:Nat):(upto n).length=n:=by simp [upto]
theorem ZbU (n:Nat):(upto n).Nodup:=by
 unfold upto
 exact List.Pairwise.map _ (fun a b (h:a≠b) (e:Int.ofNat a=Int.ofNat b)=>h (by simp only [Int.ofNat_eq_natCast] at e;omega)) List.nodup_range
theorem Zb2 {e:Ex}{env:Env}{n:Nat}(h:e env=some (.int n))(hn:n≤1000):iRng e env=some ((upto n).map .int):=by rw [Zlh];exact Z6 h hn
theorem ZkC {a:Ex}{env:Env}{P:List Int→Prop}(h:evI a env fun j=>∃ n:Nat,j=n∧n≤1000∧P (upto n)):evR (eF1 YW a) env P:=by
 obtain ⟨_,h1,n,rfl,hn,p⟩:=h
 refine ⟨_,?_,p⟩
 simp only [eF1,h1,YW]
 rw [if_pos ⟨by rw [Zv];omega,by rw [Zv];omega⟩,← Zlh]
 simp [rowD]
theorem Zff {a:Ex}{env:Env}{P:List Int→Prop}(h:evR a env fun r=>r.length≤3000∧(seen r).length < 64∧P (srt (seen r))):evR (eF1 Zar a) env P:=by
 obtain ⟨r,h1,h2,h3,p⟩:=h
 refine ⟨_,?_,p⟩
 simp only [eF1,h1,rowD,Zar,ints_map]
 rw [if_pos ⟨h2,h3⟩]
theorem ZjB {a b:Ex}{env:Env}{P:List Int→Prop}(h:evR a env fun r=>evR b env fun q=>r.length + q.length≤1000∧P (r++q)):evR (eAdd a b) env P:=by
 obtain ⟨r,h1,q,h2,h3,p⟩:=h
 refine ⟨_,?_,p⟩
 simp only [eAdd,eF2,h1,h2,rowD,fAdd,List.length_map]
 rw [if_pos (by rw [Zv];omega),List.map_append]
theorem Zny {i:Nat}{e:Ex}{env:Env}{Q:Out→Env→Prop}(h:evR e env fun r=>Q .nx (env.set i (.ow (r.map .int)))):wp (sOwn i e) env Q:=by
 obtain ⟨r,h1,p⟩:=h
 exact ⟨_,_,by simp only [sOwn,h1,rowD],p⟩
theorem ZnG {i:Nat}{e:Ex}{env:Env}{Q:Out→Env→Prop}{r:List Int}(hi:env[i]?=some (.ow (r.map .int)))(h:evR e env fun q=>r.length + q.length≤1000∧Q .nx (env.set i (.ow ((r++q).map .int)))):wp (sExt i e) env Q:=by
 obtain ⟨q,h1,h2,p⟩:=h
 refine ⟨_,_,?_,p⟩
 simp only [sExt,hi,h1,rowD]
 rw [if_pos (by rw [List.length_map,List.length_map,Zv];omega),List.map_append]
theorem Zcd {r:List Int}{e:Ex}{env:Env}(h:e env=some (rowD r)):iOf e env=some (r.map .int):=by simp [iOf,h,rowD]
theorem ZgQ {i:Nat}{it:Lx}{e:Ex}{env:Env}{P:Bool→Prop}{r:List Int}(p:Int→Bool)(hit:it env=some (r.map .int))(hl:r.length≤lim)(he:∀ x ∈ r,ev e (env.set i (.sh (.int x))) (·=.bl (p x)))(h:P (r.all p)):ev (eF1 fAll (Yk i it Yq e)) env fun d=>∃ k,d=.bl k∧P k:=by
 refine ⟨_,?_,_,rfl,h⟩
 have hc:=Zca (i:=i) (e:=e) (env:=env) (fun d=>match d with | .int x=>.bl (p x) | _=>.non) (r.map .int) (fun d hd=>by obtain ⟨x,hx,rfl⟩:=List.mem_map.mp hd;exact (he x hx).eq)
 have e2:(r.map D.int).map (fun d=>match d with | .int x=>D.bl (p x) | _=>.non)=r.map fun x=>.bl (p x):=by simp
 have e3:∀ q:List Int,allB (q.map fun x=>D.bl (p x))=some (q.all p):=by
  intro q
  induction q with
  | nil=>rfl
  | cons x q ih=>simp only [List.map_cons,allB,ih,List.all_cons]
 simp only [eF1,Yk,hit,List.length_map,if_pos hl,hc,e2,fAll,e3]
end PV
namespace PV
theorem Zk2 {i:Nat}{e:Ex}{env:Env}{Q:Out→Env→Prop}(h:ev e env fun d=>∃ ds,d=.lst ds∧Q .nx (env.set i (.nw ds))):wp (sNew i e) env Q:=by
 obtain ⟨_,h1,ds,rfl,p⟩:=h;exact ⟨_,_,by simp only [sNew,h1],p⟩
theorem Zjv {i:Nat}{e:Ex}{env:Env}{Q:Out→Env→Prop}{ds:List D}(hi:env[i]?=some (.nw ds))(h:ev e env fun d=>ds.length < lim∧Q .nx (env.set i (.nw (ds++[d])))):wp (ZeT i e) env Q:=by
 obtain ⟨d,h1,q,p⟩:=h;exact ⟨_,_,by simp only [ZeT,hi,h1,if_pos q],p⟩
theorem Zn2 {i:Nat}{env:Env}{Q:Out→Env→Prop}{ds:List D}(hi:env[i]?=some (.nw ds))(h:Q .nx (env.set i (.fr (.lst ds)))):wp (sFrz i) env Q:=⟨_,_,by simp only [sFrz,hi],h⟩
theorem Zf2 {e:Ex}{env:Env}{P:List Int→Prop}(h:evR e env P):evR (eFl e) env P:=by
 obtain ⟨r,h1,p⟩:=h
 refine ⟨r,?_,p⟩
 simp only [eFl,h1,rowD]
 rw [if_pos (by simp [List.all_map,ZaN,Function.comp_def])]
theorem Zis {a:Ex}{env:Env}{P:List Int→Prop}(h:evR a env fun r=>r.length < 64∧P (srt r)):evR (eF1 ZeH a) env P:=by
 obtain ⟨r,h1,h2,p⟩:=h
 refine ⟨_,?_,p⟩
 simp only [eF1,h1,rowD,ZeH,ints_map]
 rw [if_pos h2]
theorem Zoo {i:Nat}{it:Lx}{c:Tx}{e:Ex}{env:Env}{P:List Int→Prop}{T:List (List Int)}(p:List Int→Bool)(F:List Int→Int)(hit:it env=some (T.map rowD))(hl:T.length≤lim)
  (hc:∀ x ∈ T,tv c (env.set i (.sh (rowD x))) (·=p x)) (he:∀ x ∈ T,p x=true→evI e (env.set i (.sh (rowD x))) (·=F x)) (h:P ((T.filter p).map F)):evR (Yk i it c e) env P:=by
 have key:=Zel (P:=(·=rowD ((T.filter p).map F))) (c:=c) (e:=e) (i:=i) (fun d=>match Zck d with | some x=>p x | none=>false) (fun d=>match Zck d with | some x=>.int (F x) | none=>.non) hit (by rw [List.length_map];exact hl)
  (fun d hd=>by obtain ⟨x,hx,rfl⟩:=List.mem_map.mp hd;simp only [rowD,Zck,ints_map];exact hc x hx)
  (fun d hd hp=>by
   obtain ⟨x,hx,rfl⟩:=List.mem_map.mp hd
   simp only [rowD,Zck,ints_map] at hp ⊢
   exact evI.ev (let ⟨y,h1,h2⟩:=he x hx hp;⟨y,h1,congrArg D.int h2⟩))
  (by simp [rowD,List.filter_map,Function.comp_def,Zck,ints_map])
 exact ⟨_,key.eq,h⟩
theorem Zm2 {T:List (List Int)}{e:Ex}{env:Env}(h:e env=some (tabD T)):iOf e env=some (T.map rowD):=by simp [iOf,h,tabD]
theorem Zof {i:Nat}{e:Ex}{env:Env}{Q:Out→Env→Prop}{T:List (List Int)}(hi:env[i]?=some (.ow (T.map rowD)))(h:evR e env fun x=>T.length < 1000∧Q .nx (env.set i (.ow ((T++[x]).map rowD)))):wp (sApp i e) env Q:=by
 obtain ⟨x,h1,h2,p⟩:=h
 refine ZoJ hi ⟨_,h1,?_,?_⟩
 ·rw [List.length_map,Zv];omega
 ·rw [List.map_append] at p;exact p
end PV
set_option linter.all false
set_option Elab.async false
set_option maxRecDepth 100000
set_option maxHeartbeats 4000000
namespace PV
open PySem PySem.Spec PyProof.Rows
open L2 (V Hp HO Vals SqL SqT Same upd Cx PE PT PW PA PS PSs TE TT TA TS Inv RelV Yc Jd Jc)
noncomputable def kvV (kvs:List (Int × Int)):List (L2.Key × V):=kvs.map fun p=>(Sum.inl p.1,V.int p.2)
mutual
noncomputable def Rep (K:PySem.W.Frag) (H:Hp):D→V→Prop
 | .non,v=>v=.non
 | .bl b,v=>v=.bl b
 | .int i,v=>v=.int i
 | .str x,v=>v=.str x
 | .lst ds,v=>∃ a vs,v=.ref a∧SqL K H a vs∧Reps K H ds vs
 | .tup ds,v=>∃ a vs,v=.ref a∧SqT K H a vs∧Reps K H ds vs
 | .dct kvs,v=>∃ a o,v=.ref a∧H a=some (.frz o (.dK (kvV kvs)))
noncomputable def Reps (K:PySem.W.Frag) (H:Hp):List D→List V→Prop
 | [],vs=>vs=[]
 | d::ds,vs=>∃ v r,vs=v::r∧Rep K H d v∧Reps K H ds r
end
theorem seqT {K:PySem.W.Frag}{H H':Hp}{a:Addr}{xs:List V}(e:Same H H')(h:SqT K H a xs):SqT K H' a xs:=by
 rcases h with (h | ⟨o,h⟩) | h
 ·exact .inl (.inl (e _ _ h))
 ·exact .inl (.inr ⟨o,e _ _ h⟩)
 ·exact .inr h
mutual
theorem Rep.mono {K:PySem.W.Frag}{H H':Hp}(e:Same H H'):∀ (d:D) (v:V),Rep K H d v→Rep K H' d v
 | .non,_,h=>by simp only [Rep] at h ⊢;exact h
 | .bl _,_,h=>by simp only [Rep] at h ⊢;exact h
 | .int _,_,h=>by simp only [Rep] at h ⊢;exact h
 | .str _,_,h=>by simp only [Rep] at h ⊢;exact h
 | .lst ds,v,h=>by
  simp only [Rep] at h ⊢
  obtain ⟨a,vs,h1,h2,h3⟩:=h
  exact ⟨a,vs,h1,e.seq h2,Reps.mono e ds vs h3⟩
 | .tup ds,v,h=>by
  simp only [Rep] at h ⊢
  obtain ⟨a,vs,h1,h2,h3⟩:=h
  exact ⟨a,vs,h1,seqT e h2,Reps.mono e ds vs h3⟩
 | .dct kvs,v,h=>by
  simp only [Rep] at h ⊢
  obtain ⟨a,o,h1,h2⟩:=h
  exact ⟨a,o,h1,e _ _ h2⟩
theorem Reps.mono {K:PySem.W.Frag}{H H':Hp}(e:Same H H'):∀ (ds:List D) (vs:List V),Reps K H ds vs→Reps K H' ds vs
 | [],_,h=>by simp only [Reps] at h ⊢;exact h
 | d::ds,vs,h=>by
  simp only [Reps] at h ⊢
  obtain ⟨v,r,h1,h2,h3⟩:=h
  exact ⟨v,r,h1,Rep.mono e d v h2,Reps.mono e ds r h3⟩
end
section
variable {K:PySem.W.Frag} {H:Hp}
theorem Reps.nil:Reps K H [] []:=by simp [Reps]
theorem Reps.cons {d:D}{v:V}{ds:List D}{vs:List V}(h:Rep K H d v)(t:Reps K H ds vs):Reps K H (d::ds) (v::vs):=by
 simp only [Reps];exact ⟨v,vs,rfl,h,t⟩
theorem Reps.length:∀ {ds:List D} {vs:List V},Reps K H ds vs→ds.length=vs.length
 | [],vs,h=>by simp only [Reps] at h;subst h;rfl
 | d::ds,vs,h=>by
  simp only [Reps] at h
  obtain ⟨v,r,rfl,_,t⟩:=h
  simp [t.length]
theorem Reps.get:∀ {ds:List D} {vs:List V} {i:Nat} {d:D},Reps K H ds vs→ds[i]?=some d→∃ v,vs[i]?=some v∧Rep K H d v
 | [],vs,i,d,h,e=>by simp at e
 | d'::ds,vs,0,d,h,e=>by
  simp only [Reps] at h
  obtain ⟨v,r,rfl,h1,t⟩:=h
  simp at e;subst e
  exact ⟨v,rfl,h1⟩
 | d'::ds,vs,i + 1,d,h,e=>by
  simp only [Reps] at h
  obtain ⟨v,r,rfl,h1,t⟩:=h
  obtain ⟨w,q1,q2⟩:=Reps.get (i:=i) (d:=d) t (by simpa using e)
  exact ⟨w,by simpa using q1,q2⟩
theorem Reps.getV:∀ {ds:List D} {vs:List V} {i:Nat} {v:V},Reps K H ds vs→vs[i]?=some v→∃ d,ds[i]?=some d∧Rep K H d v
 | [],vs,i,v,h,e=>by simp only [Reps] at h;subst h;simp at e
 | d'::ds,vs,0,v,h,e=>by
  simp only [Reps] at h
  obtain ⟨w,r,rfl,h1,t⟩:=h
  simp at e;subst e
  exact ⟨d',rfl,h1⟩
 | d'::ds,vs,i + 1,v,h,e=>by
  simp only [Reps] at h
  obtain ⟨w,r,rfl,h1,t⟩:=h
  obtain ⟨d,q1,q2⟩:=Reps.getV (i:=i) (v:=v) t (by simpa using e)
  exact ⟨d,by simpa using q1,q2⟩
theorem Reps.append:∀ {ds es:List D} {vs ws:List V},Reps K H ds vs→Reps K H es ws→Reps K H (ds++es) (vs++ws)
 | [],es,vs,ws,h,h2=>by simp only [Reps] at h;subst h;exact h2
 | d::ds,es,vs,ws,h,h2=>by
  simp only [Reps] at h
  obtain ⟨v,r,rfl,h1,t⟩:=h
  exact Reps.cons h1 (t.append h2)
theorem Reps.set {d:D}{v:V}(h:Rep K H d v):∀ {ds:List D} {vs:List V} (i:Nat),Reps K H ds vs→Reps K H (ds.set i d) (vs.set i v)
 | [],vs,i,t=>by simp only [Reps] at t;subst t;simp [Reps]
 | e::ds,vs,0,t=>by
  simp only [Reps] at t
  obtain ⟨w,r,rfl,h1,t⟩:=t
  exact Reps.cons h t
 | e::ds,vs,i + 1,t=>by
  simp only [Reps] at t
  obtain ⟨w,r,rfl,h1,t⟩:=t
  exact Reps.cons h1 (t.set h i)
theorem Reps.insertIdx {d:D}{v:V}(h:Rep K H d v):∀ {ds:List D} {vs:List V} (i:Nat),Reps K H ds vs→Reps K H (ds.insertIdx i d) (vs.insertIdx i v)
 | ds,vs,0,t=>by simp only [List.insertIdx_zero];exact Reps.cons h t
 | [],vs,i + 1,t=>by simp only [Reps] at t;subst t;simp [Reps]
 | e::ds,vs,i + 1,t=>by
  simp only [Reps] at t
  obtain ⟨w,r,rfl,h1,t⟩:=t
  simp only [List.insertIdx_succ_cons]
  exact Reps.cons h1 (t.insertIdx h i)
theorem Reps.ints (xs:List Int):Reps K H (xs.map .int) (xs.map .int):=by
 induction xs with
 | nil=>exact Reps.nil
 | cons x xs ih=>exact Reps.cons (by simp [Rep]) ih
end
noncomputable def cut (F G:Hp):Hp:=fun a=>match G a with
 | none=>F a
 | some _=>none
theorem ZaT {F G:Hp}:Same (cut F G) F:=fun b o h=>by
 unfold cut at h
 split at h
 ·exact h
 ·cases h
theorem ZbO {F G:Hp}{a:Addr}(h:G a=none):cut F G a=F a:=by unfold cut;rw [h]
structure Ext (F H F' H':Hp):Prop where
 hh:Same H H'
 ff:Same F F'
 dm:∀ a o,F' a=some o→F a=some o∨H a=none
 fh:Same F' H'
theorem Ext.refl {F H:Hp}(h:Same F H):Ext F H F H:=⟨.refl _,.refl _,fun _ _ e=>.inl e,h⟩
theorem Ext.trans {F H F1 H1 F2 H2:Hp}(a:Ext F H F1 H1)(b:Ext F1 H1 F2 H2):Ext F H F2 H2 :=
 ⟨a.hh.trans b.hh,a.ff.trans b.ff,fun c o e=>(b.dm c o e).elim (fun q=>a.dm c o q) fun q=>.inr (a.hh.free q),b.fh⟩
theorem Ext.laid {F H:Hp}(fh:Same F H){p:Addr}{o:HO}(hp:H p=none):Ext F H (upd F p o) (upd H p o):=by
 refine ⟨fun b u e=>?_,fun b u e=>?_,fun b u e=>?_,fun b u e=>?_⟩
 ·rw [Jd (Jc e hp)];exact e
 ·rw [Jd (Jc (fh _ _ e) hp)];exact e
 ·by_cases hb:b=p
  ·subst hb;exact .inr hp
  ·rw [Jd hb] at e;exact .inl e
 ·by_cases hb:b=p
  ·subst hb;rw [Yc] at e ⊢;exact e
  ·rw [Jd hb] at e ⊢;exact fh _ _ e
theorem Ext.own {F H:Hp}(fh:Same F H){p:Addr}{o:HO}(hp:H p=none):Ext F H F (upd H p o):=by
 have s:Same H (upd H p o):=fun b u e=>by rw [Jd (Jc e hp)];exact e
 exact ⟨s,.refl _,fun _ _ e=>.inl e,fh.trans s⟩
theorem Ext.frz {F H F' H':Hp}(e:Ext F H F' H'){p:Addr}{o:HO}(hp:H p=none)(h':H' p=some o)(f':F' p=none):Ext F H (upd F' p o) H':=by
 refine ⟨e.hh,fun b u q=>?_,fun b u q=>?_,fun b u q=>?_⟩
 ·rw [Jd (Jc (e.ff _ _ q) f')];exact e.ff _ _ q
 ·by_cases hb:b=p
  ·subst hb;exact .inr hp
  ·rw [Jd hb] at q;exact e.dm _ _ q
 ·by_cases hb:b=p
  ·subst hb;rw [Yc] at q;cases q;exact h'
  ·rw [Jd hb] at q;exact e.fh _ _ q
noncomputable def Jr (K:PySem.W.Frag) (F H:Hp):List (List D)→List Addr→Prop
 | [],as=>as=[]
 | r::rs,as=>∃ a t vs,as=a::t∧H a=some (.lst vs)∧Reps K F r vs∧Jr K F H rs t
theorem Jr.mono {K:PySem.W.Frag}{F H F' H':Hp}(ff:Same F F'):∀ {rs:List (List D)} {as:List Addr},(∀ a ∈ as,∀ o,H a=some o→H' a=some o)→Jr K F H rs as→Jr K F' H' rs as
 | [],_,_,h=>h
 | r::rs,_,hh,h=>by
  obtain ⟨a,t,vs,rfl,h1,h2,h3⟩:=h
  exact ⟨a,t,vs,rfl,hh a List.mem_cons_self _ h1,Reps.mono ff _ _ h2,Jr.mono ff (fun b hb=>hh b (List.mem_cons_of_mem _ hb)) h3⟩
theorem Jr.length {K:PySem.W.Frag}{F H:Hp}:∀ {rs:List (List D)} {as:List Addr},Jr K F H rs as→rs.length=as.length
 | [],_,h=>by have:_=[]:=h;rw [this];rfl
 | r::rs,_,h=>by obtain ⟨a,t,vs,rfl,_,_,h3⟩:=h;simp [h3.length]
theorem Jr.get {K:PySem.W.Frag}{F H:Hp}:∀ {rs:List (List D)} {as:List Addr} {j:Nat} {r:List D},Jr K F H rs as→rs[j]?=some r→∃ a vs,as[j]?=some a∧H a=some (.lst vs)∧Reps K F r vs
 | [],_,_,_,_,e=>by simp at e
 | r::rs,_,0,q,h,e=>by obtain ⟨a,t,vs,rfl,h1,h2,h3⟩:=h;simp at e;subst e;exact ⟨a,vs,rfl,h1,h2⟩
 | r::rs,_,j + 1,q,h,e=>by
  obtain ⟨a,t,vs,rfl,h1,h2,h3⟩:=h
  obtain ⟨b,ws,k1,k2,k3⟩:=Jr.get (j:=j) h3 (by simpa using e)
  exact ⟨b,ws,by simpa using k1,k2,k3⟩
theorem Jr.reps {K:PySem.W.Frag}{F H:Hp}(fh:Same F H):∀ {rs:List (List D)} {as:List Addr},Jr K F H rs as→Reps K H (rs.map .lst) (as.map .ref)
 | [],_,h=>by have e:_=[]:=h;subst e;exact Reps.nil
 | r::rs,_,h=>by
  obtain ⟨a,t,vs,rfl,h1,h2,h3⟩:=h
  exact Reps.cons (by simp only [Rep];exact ⟨a,vs,rfl,.inl (.inl h1),Reps.mono fh _ _ h2⟩) (h3.reps fh)
mutual
noncomputable def RepN (H:Hp):D→V→Prop
 | .non,v=>v=.non
 | .bl b,v=>v=.bl b
 | .int i,v=>v=.int i
 | .str x,v=>v=.str x
 | .lst ds,v=>∃ a vs,v=.ref a∧H a=some (.lst vs)∧Zi H ds vs
 | .tup ds,v=>∃ a vs,v=.ref a∧H a=some (.tup vs)∧Zi H ds vs
 | .dct kvs,v=>∃ a o,v=.ref a∧H a=some (.frz o (.dK (kvV kvs)))
noncomputable def Zi (H:Hp):List D→List V→Prop
 | [],vs=>vs=[]
 | d::ds,vs=>∃ v r,vs=v::r∧RepN H d v∧Zi H ds r
end
mutual
theorem RepN.rep {K:PySem.W.Frag}{H:Hp}:∀ (d:D) (v:V),RepN H d v→Rep K H d v
 | .non,_,h=>by simp only [Rep,RepN] at h ⊢;exact h
 | .bl _,_,h=>by simp only [Rep,RepN] at h ⊢;exact h
 | .int _,_,h=>by simp only [Rep,RepN] at h ⊢;exact h
 | .str _,_,h=>by simp only [Rep,RepN] at h ⊢;exact h
 | .lst ds,v,h=>by
  simp only [Rep,RepN] at h ⊢
  obtain ⟨a,vs,h1,h2,h3⟩:=h
  exact ⟨a,vs,h1,.inl (.inl h2),Zi.reps ds vs h3⟩
 | .tup ds,v,h=>by
  simp only [Rep,RepN] at h ⊢
  obtain ⟨a,vs,h1,h2,h3⟩:=h
  exact ⟨a,vs,h1,.inl (.inl h2),Zi.reps ds vs h3⟩
 | .dct kvs,v,h=>by simp only [Rep,RepN] at h ⊢;exact h
theorem Zi.reps {K:PySem.W.Frag}{H:Hp}:∀ (ds:List D) (vs:List V),Zi H ds vs→Reps K H ds vs
 | [],_,h=>by simp only [Reps,Zi] at h ⊢;exact h
 | d::ds,vs,h=>by
  simp only [Reps,Zi] at h ⊢
  obtain ⟨v,r,h1,h2,h3⟩:=h
  exact ⟨v,r,h1,RepN.rep d v h2,Zi.reps ds r h3⟩
end
mutual
theorem RepN.mono {H H':Hp}(e:Same H H'):∀ (d:D) (v:V),RepN H d v→RepN H' d v
 | .non,_,h=>by simp only [RepN] at h ⊢;exact h
 | .bl _,_,h=>by simp only [RepN] at h ⊢;exact h
 | .int _,_,h=>by simp only [RepN] at h ⊢;exact h
 | .str _,_,h=>by simp only [RepN] at h ⊢;exact h
 | .lst ds,v,h=>by
  simp only [RepN] at h ⊢
  obtain ⟨a,vs,h1,h2,h3⟩:=h
  exact ⟨a,vs,h1,e _ _ h2,Zi.mono e ds vs h3⟩
 | .tup ds,v,h=>by
  simp only [RepN] at h ⊢
  obtain ⟨a,vs,h1,h2,h3⟩:=h
  exact ⟨a,vs,h1,e _ _ h2,Zi.mono e ds vs h3⟩
 | .dct kvs,v,h=>by
  simp only [RepN] at h ⊢
  obtain ⟨a,o,h1,h2⟩:=h
  exact ⟨a,o,h1,e _ _ h2⟩
theorem Zi.mono {H H':Hp}(e:Same H H'):∀ (ds:List D) (vs:List V),Zi H ds vs→Zi H' ds vs
 | [],_,h=>by simp only [Zi] at h ⊢;exact h
 | d::ds,vs,h=>by
  simp only [Zi] at h ⊢
  obtain ⟨v,r,h1,h2,h3⟩:=h
  exact ⟨v,r,h1,RepN.mono e d v h2,Zi.mono e ds r h3⟩
end
noncomputable def hpL (H:Hp) (L:List Addr):Hp:=fun b=>if b ∈ L then H b else none
theorem ZmR {H H':Hp}{L:List Addr}(h:∀ a ∈ L,∀ o,H a=some o→H' a=some o):Same (hpL H L) (hpL H' L):=fun b o q=>by
 unfold hpL at q ⊢
 split at q
 ·rename_i hb;rw [if_pos hb];exact h b hb o q
 ·cases q
noncomputable def xName (c:Nat):Str:=(["NoTable","NoFolk","NoElement","NoPart","NotLoose","TooLarge","NoNote"]:List Str).getD c "FolkError"
noncomputable def CN (K:PySem.W.Frag) (c:Nat) (C:Addr):Prop:=PySem.W.nsIn K mainGlobals (xName c)=some (some (.ref C))
noncomputable def isX (a C:Addr) (h:Heap):Prop:=∃ o ws,h.get? a=some o∧o.cls=.ref C∧o.dict=none∧o.data=.fields ws
noncomputable def SlOk (K:PySem.W.Frag) (B F H:Hp):Sl→Option V→List Addr→Prop
 | .un,_,_=>True
 | .sh d,ov,_=>∃ v,ov=some v∧Rep K F d v
 | .fr d,ov,_=>∃ v,ov=some v∧RepN (cut F B) d v
 | .ow ds,ov,L=>∃ a vs,ov=some (.ref a)∧L=[a]∧H a=some (.lst vs)∧Reps K F ds vs
 | .tab rs,ov,L=>∃ a as,ov=some (.ref a)∧L=a::as∧(a::as).Nodup∧H a=some (.lst (as.map .ref))∧Jr K F H rs as
 | .dc kvs,ov,L=>∃ a,ov=some (.ref a)∧L=[a]∧H a=some (.dK (kvV kvs))
 | .nw ds,ov,L=>∃ a vs,ov=some (.ref a)∧L=[a]∧H a=some (.lst vs)∧Zi (cut F B) ds vs
 | .jk d,ov,L=>∃ v,ov=some v∧RepN (hpL H L) d v
 | .jl n,ov,L=>∃ a vs,ov=some (.ref a)∧a ∈ L∧H a=some (.lst vs)∧vs.length≤n
 | .xc c,ov,_=>∃ a C,ov=some (.ref a)∧CN K c C∧F a=some (.ext (isX a C))
structure SOk (K:PySem.W.Frag)(BF BH F H:Hp)(σ:L2.St)(env:Env)(L:Nat→List Addr):Prop where
 s0:Same BH H
 f0:Same BF F
 fh:Same F H
 fd:∀ a o,F a=some o→BF a=some o∨BH a=none
 ow:∀ i a,a ∈ L i→F a=none∧BH a=none∧H a≠none
 dj:∀ i j a,a ∈ L i→a ∈ L j→i=j
 len:σ.length=env.length
 sl:∀ i s,env[i]?=some s→∃ ov,σ[i]?=some ov∧SlOk K BH F H s ov (L i)
theorem ZaI {F F' G:Hp}(h:Same F F'):Same (cut F G) (cut F' G):=fun b o q=>by
 unfold cut at q ⊢
 split at q
 ·exact h _ _ q
 ·cases q
theorem SlOk.ext {K:PySem.W.Frag}{B F H F' H':Hp}{s:Sl}{ov:Option V}{L:List Addr}(ff:Same F F')(hl:∀ a ∈ L,∀ o,H a=some o→H' a=some o)(h:SlOk K B F H s ov L):SlOk K B F' H' s ov L:=by
 cases s with
 | un=>trivial
 | sh d=>obtain ⟨v,e,r⟩:=h;exact ⟨v,e,Rep.mono ff _ _ r⟩
 | fr d=>obtain ⟨v,e,r⟩:=h;exact ⟨v,e,RepN.mono (ZaI ff) _ _ r⟩
 | ow ds=>obtain ⟨a,vs,e,rfl,h1,r⟩:=h;exact ⟨a,vs,e,rfl,hl a (by simp) _ h1,Reps.mono ff _ _ r⟩
 | tab rs =>
  obtain ⟨a,as,e,rfl,nd,h1,r⟩:=h
  exact ⟨a,as,e,rfl,nd,hl a List.mem_cons_self _ h1,r.mono ff fun b hb=>hl b (List.mem_cons_of_mem _ hb)⟩
 | dc _=>obtain ⟨a,e,rfl,h1⟩:=h;exact ⟨a,e,rfl,hl a (by simp) _ h1⟩
 | nw ds=>obtain ⟨a,vs,e,rfl,h1,r⟩:=h;exact ⟨a,vs,e,rfl,hl a (by simp) _ h1,Zi.mono (ZaI ff) _ _ r⟩
 | jk d=>obtain ⟨v,e,r⟩:=h;exact ⟨v,e,RepN.mono (ZmR hl) _ _ r⟩
 | jl n=>obtain ⟨a,vs,e,ha,h1,r⟩:=h;exact ⟨a,vs,e,ha,hl a ha _ h1,r⟩
 | xc c=>obtain ⟨a,C,e,hc,h1⟩:=h;exact ⟨a,C,e,hc,ff _ _ h1⟩
theorem SOk.ext {K:PySem.W.Frag}{BF BH F H F' H':Hp}{σ:L2.St}{env:Env}{L:Nat→List Addr}(S:SOk K BF BH F H σ env L)(e:Ext F H F' H'):SOk K BF BH F' H' σ env L where
 s0:=S.s0.trans e.hh
 f0:=S.f0.trans e.ff
 fh:=e.fh
 fd:=fun a o q=>(e.dm a o q).elim (S.fd a o) fun z=>.inr (S.s0.free z)
 ow:=fun i a q=>by
  obtain ⟨h1,h2,h3⟩:=S.ow i a q
  refine ⟨?_,h2,?_⟩
  ·cases z:F' a with
   | none=>rfl
   | some o =>
    rcases e.dm a o z with y | y
    ·rw [h1] at y;cases y
    ·exact absurd y h3
  ·intro z
   cases y:H a with
   | none=>exact h3 y
   | some o=>rw [e.hh _ _ y] at z;cases z
 dj:=S.dj
 len:=S.len
 sl:=fun i s q=>by
  obtain ⟨ov,h1,h2⟩:=S.sl i s q
  exact ⟨ov,h1,h2.ext e.ff fun a _ o z=>e.hh a o z⟩
inductive Md where
 | r | k | f
noncomputable def hpM (BH F H:Hp):Md→Hp
 | .r=>H
 | .k=>F
 | .f=>cut F BH
theorem ZbM {BH F H F' H':Hp}(e:Ext F H F' H'):∀ m:Md,Same (hpM BH F H m) (hpM BH F' H' m)
 | .r=>e.hh
 | .k=>e.ff
 | .f=>ZaI e.ff
theorem Zgr {BH F H:Hp}(fh:Same F H):∀ m:Md,Same (hpM BH F H m) H
 | .r=>.refl _
 | .k=>fh
 | .f=>ZaT.trans fh
theorem Rep.scal {K:PySem.W.Frag}{H H':Hp}{d:D}{v:V}(hs:ZaN d=true)(h:Rep K H d v):Rep K H' d v:=by
 cases d <;> simp_all [Rep,ZaN]
noncomputable def tD (K:PySem.W.Frag) (m:Md) (f:Ex):TE:=fun σ H Q=>∃ BF BH F env L d,SOk K BF BH F H σ env L∧f env=some d ∧
 ∀ v F' H',Ext F H F' H'→Rep K (hpM BH F' H' m) d v→Q v H'
noncomputable def tTst (K:PySem.W.Frag) (t:Tx):TT:=fun σ H Q=>∃ BF BH F env L b,SOk K BF BH F H σ env L∧t env=some b ∧
 ∀ F' H',Ext F H F' H'→Q b H'
noncomputable def tO (K:PySem.W.Frag) (m:Md) (f:Ex):TE:=fun σ H Q=>∃ BF BH F env L ds,SOk K BF BH F H σ env L∧f env=some (.lst ds) ∧
 ∀ a vs F' H',Ext F H F' H'→H a=none→H' a=some (.lst vs)→F' a=none→Reps K (hpM BH F' H' m) ds vs→Q (.ref a) H'
structure PD (X:Cx)(m:Md)(e:Expr)(f:Ex):Prop where
 h:PE X e (tD X.K m f)
noncomputable def PDo (X:Cx) (m:Md) (e:Expr) (f:Ex):Prop:=PE X e (tO X.K m f)
noncomputable def PTd (X:Cx) (e:Expr) (t:Tx):Prop:=PT X e (tTst X.K t)
theorem PE.of {X:Cx}{e:Expr}{t t':TE}(h:PE X e t')(i:∀ σ H Q,t σ H Q→t' σ H Q):PE X e t:=fun pins s σ H Q I q=>h pins s σ H Q I (i σ H Q q)
theorem PT.of {X:Cx}{e:Expr}{t t':TT}(h:PT X e t')(i:∀ σ H Q,t σ H Q→t' σ H Q):PT X e t:=fun pins s σ H Q I q=>h pins s σ H Q I (i σ H Q q)
theorem PW.of {X:Cx}{e:Expr}{t t':TT}(h:PW X e t')(i:∀ σ H Q,t σ H Q→t' σ H Q):PW X e t:=fun wh pins s σ H Q I q=>h wh pins s σ H Q I (i σ H Q q)
theorem PS.of {X:Cx}{e:Stmt}{t t':TS}(h:PS X e t')(i:∀ D σ H,t D σ H→t' D σ H):PS X e t:=fun pins s σ H D I q=>h pins s σ H D I (i D σ H q)
theorem PSs.of {X:Cx}{e:List Stmt}{t t':TS}(h:PSs X e t')(i:∀ D σ H,t D σ H→t' D σ H):PSs X e t:=fun pins s σ H D I q=>h pins s σ H D I (i D σ H q)
section
variable {X:Cx} {m:Md} {a b c:Expr} {f g h:Ex} {pos:Pos}
theorem PD.r (h:PD X m a f):PD X .r a f:=PD.mk <| PE.of h.h fun σ H Q ⟨BF,BH,F,env,L,d,S,e,q⟩ =>
 ⟨BF,BH,F,env,L,d,S,e,fun v F' H' x r=>q v F' H' x (Rep.mono (Zgr x.fh m) _ _ r)⟩
theorem PDo.d (h:PDo X m a f)(hf:∀ env d,f env=some d→∃ ds,d=.lst ds):PD X m a f:=PD.mk <| PE.of h fun σ H Q hh_=>el9 hh_ fun BF BH F env L d S e q=>by
 obtain ⟨ds,rfl⟩:=hf env d e
 refine ⟨BF,BH,F,env,L,ds,S,e,fun p vs F' H' x hp h1 h2 r=>?_⟩
 have x':=x.frz hp h1 h2
 refine q (.ref p) (upd F' p (.lst vs)) H' x' ?_
 have hB:BH p=none:=S.s0.free hp
 have s:Same (hpM BH F' H' m) (hpM BH (upd F' p (.lst vs)) H' m):=by
  have ss:Same F' (upd F' p (.lst vs)):=fun b u e=>by rw [Jd (Jc e h2)];exact e
  cases m with
  | r=>exact .refl _
  | k=>exact ss
  | f=>exact ZaI ss
 simp only [Rep]
 refine ⟨p,vs,rfl,.inl (.inl ?_),Reps.mono s _ _ r⟩
 cases m with
 | r=>exact h1
 | k=>exact Yc
 | f=>show cut _ _ p=_;rw [ZbO hB];exact Yc
noncomputable def nst:Expr→Bool
 | .Starred _ _=>false
 | _=>true
noncomputable def nsts:List Expr→Bool
 | []=>true
 | e::es=>nst e && nsts es
theorem Jk {e:Expr}{es:List Expr}{env:PySem.Env}(h:nst e=true):starEach (e::es) env=(false,eval e env)::starEach es env:=by
 cases e <;> first | rfl | (cases h)
theorem Jq {e:Expr}{env:PySem.Env}(h:nst e=true):starEach [e] env=[(false,eval e env)]:=(Jk h).trans rfl
theorem ZcL {env:PySem.Env}{pos:Pos}:∀ {es:List Expr},nsts es=true→(backTo pos (starEach es env)).any (·.1)=false
 | [],_=>rfl
 | e::es,h=>by
  unfold nsts at h
  rw [Bool.and_eq_true] at h
  rw [Jk h.1]
  show (false || (backTo pos (starEach es env)).any (·.1))=false
  rw [ZcL h.2];rfl
theorem ZbW {env:PySem.Env}{pos:Pos}:∀ {es:List Expr},nsts es=true→(backTo pos (starEach es env)).all (fun x=>!x.1)=true
 | [],_=>rfl
 | e::es,h=>by
  unfold nsts at h
  rw [Bool.and_eq_true] at h
  rw [Jk h.1]
  show (true && (backTo pos (starEach es env)).all (fun x=>!x.1))=true
  rw [ZbW h.2];rfl
theorem Zmc {a b:Expr}(h:nst a=true)(h2:nst b=true):nsts [a,b]=true:=by unfold nsts nsts nsts;rw [h,h2];rfl
theorem ZcC {a:Expr}(h:nst a=true):nsts [a]=true:=by unfold nsts nsts;rw [h];rfl
noncomputable def visB (sc:Scope) (x:Str):Bool:=match sc.names.lookup x with
 | some .local=>true
 | some .cell=>true
 | some .free=>true
 | _=>false
theorem JZ {sc:Scope}{x:Str}(h:visB sc x=true):L2.Vis sc x:=by
 unfold visB at h
 split at h
 ·rename_i e;exact .inl e
 ·rename_i e;exact .inr (.inl e)
 ·rename_i e;exact .inr (.inr e)
 ·cases h
noncomputable def locB (sc:Scope) (x:Str):Bool:=match sc.names.lookup x with
 | some .local=>true
 | some .cell=>true
 | _=>false
theorem Zak {sc:Scope}{x:Str}(h:locB sc x=true):L2.Loc sc x:=by
 unfold locB at h
 split at h
 ·rename_i e;exact .inl e
 ·rename_i e;exact .inr e
 ·cases h
noncomputable def fnB (X:Cx) (x:Str):Bool:=X.fn x || (match X.env.scope.names.lookup x with
 | some .local=>true
 | _=>false)
theorem ZaH {X:Cx}{x:Str}(h:fnB X x=true):X.fn x=true∨X.env.scope.names.lookup x=some .local:=by
 unfold fnB at h
 rw [Bool.or_eq_true] at h
 rcases h with h | h
 ·exact .inl h
 ·split at h
  ·rename_i e;exact .inr e
  ·cases h
theorem Yd {i j}:PD X m (.Constant (.int i) j pos) (eC (.int i)):=PD.mk <| PE.of L2.Zow fun σ H Q hh_=>el9 hh_ fun BF BH F env L d S e q=>by
 cases e;exact q _ F H (.refl S.fh) (by simp [Rep])
theorem Zkp {i j}:PD X m (.Constant (.bool i) j pos) (eC (.bl i)):=PD.mk <| PE.of L2.ZpJ fun σ H Q hh_=>el9 hh_ fun BF BH F env L d S e q=>by
 cases e;exact q _ F H (.refl S.fh) (by simp [Rep])
theorem ZhK {i j}:PD X m (.Constant (.str i) j pos) (eC (.str i)):=PD.mk <| PE.of L2.ZoG fun σ H Q hh_=>el9 hh_ fun BF BH F env L d S e q=>by
 cases e;exact q _ F H (.refl S.fh) (by simp [Rep])
theorem ZbF {j}:PD X m (.Constant .none j pos) (eC .non):=PD.mk <| PE.of L2.ZlX fun σ H Q hh_=>el9 hh_ fun BF BH F env L d S e q=>by
 cases e;exact q _ F H (.refl S.fh) (by simp [Rep])
theorem Za (i:Nat) {x:Str} (hN:X.N[i]?=some x:=by kernel_rfl) (hv:visB X.env.scope x=true:=by kernel_rfl) (hd:(x == ("__debug__":Str))=false:=by kernel_rfl)
  (hcd:(x == ("__classdict__":Str))=false:=by kernel_rfl):PD X .k (.Name x pos) (eVar i):=PD.mk <| PE.of (L2.Zag hN (JZ hv) hd hcd) fun σ H Q hh_=>el9 hh_ fun BF BH F env L d S e q=>by
 unfold eVar at e
 cases he:env[i]? with
 | none=>rw [he] at e;cases e
 | some s =>
  rw [he] at e
  obtain ⟨ov,h1,h2⟩:=S.sl i s he
  cases s with
  | sh d'=>cases e;obtain ⟨v,rfl,r⟩:=h2;exact ⟨v,h1,q v F H (.refl S.fh) r⟩
  | fr d'=>cases e;obtain ⟨v,rfl,r⟩:=h2;exact ⟨v,h1,q v F H (.refl S.fh) (RepN.rep _ _ (RepN.mono ZaT _ _ r))⟩
  | un=>cases e
  | ow _=>cases e
  | tab _=>cases e
  | dc _=>cases e
  | nw _=>cases e
  | jk _=>cases e
  | jl _=>cases e
  | xc _=>cases e
theorem Zcu (i:Nat) {x:Str} (hN:X.N[i]?=some x:=by kernel_rfl) (hv:visB X.env.scope x=true:=by kernel_rfl) (hd:(x == ("__debug__":Str))=false:=by kernel_rfl)
  (hcd:(x == ("__classdict__":Str))=false:=by kernel_rfl):PD X .r (.Name x pos) (Zw i):=PD.mk <| PE.of (L2.Zag hN (JZ hv) hd hcd) fun σ H Q hh_=>el9 hh_ fun BF BH F env L d S e q=>by
 unfold Zw at e
 cases he:env[i]? with
 | none=>rw [he] at e;cases e
 | some s =>
  rw [he] at e
  obtain ⟨ov,h1,h2⟩:=S.sl i s he
  cases s with
  | sh d'=>cases e;obtain ⟨v,rfl,r⟩:=h2;exact ⟨v,h1,q v F H (.refl S.fh) (Rep.mono S.fh _ _ r)⟩
  | fr d'=>cases e;obtain ⟨v,rfl,r⟩:=h2;exact ⟨v,h1,q v F H (.refl S.fh) (RepN.rep _ _ (RepN.mono (ZaT.trans S.fh) _ _ r))⟩
  | un=>cases e
  | ow ds =>
   cases e
   obtain ⟨p,vs,rfl,_,h3,r⟩:=h2
   refine ⟨_,h1,q _ F H (.refl S.fh) ?_⟩
   simp only [Rep,hpM]
   exact ⟨p,vs,rfl,.inl (.inl h3),Reps.mono S.fh _ _ r⟩
  | tab rs =>
   cases e
   obtain ⟨p,as,rfl,_,_,h3,r⟩:=h2
   refine ⟨_,h1,q _ F H (.refl S.fh) ?_⟩
   simp only [Rep,hpM]
   exact ⟨p,_,rfl,.inl (.inl h3),r.reps S.fh⟩
  | dc _=>cases e
  | nw ds =>
   cases e
   obtain ⟨p,vs,rfl,_,h3,r⟩:=h2
   refine ⟨_,h1,q _ F H (.refl S.fh) ?_⟩
   simp only [Rep,hpM]
   exact ⟨p,vs,rfl,.inl (.inl h3),Zi.reps _ _ (Zi.mono (ZaT.trans S.fh) _ _ r)⟩
  | jk _=>cases e
  | jl _=>cases e
  | xc _=>cases e
theorem Zok {x:Str} {i:Int} (hg:X.env.kindOf x=some .globalImplicit:=by kernel_rfl) (hm:∃ t,X.mg x=some (.int i t)) (hd:(x == ("__debug__":Str))=false:=by kernel_rfl):PD X m (.Name x pos) (eC (.int i)):=by
 obtain ⟨t,hm⟩:=hm
 exact PD.mk <| PE.of (L2.Zjo (v:=.int i) hg hm ⟨t,rfl⟩ hd) fun σ H Q hh_=>el9 hh_ fun BF BH F env L d S e q=>by
  cases e;exact q _ F H (.refl S.fh) (by simp [Rep])
theorem Zpu (h:PD X .r a f):PD X m a (eSc f):=PD.mk <| PE.of h.h fun σ H Q hh_=>el9 hh_ fun BF BH F env L d S e q=>by
 unfold eSc at e
 cases he:f env with
 | none=>rw [he] at e;cases e
 | some d' =>
  rw [he] at e
  dsimp only at e
  split at e
  ·rename_i hs
   cases e
   exact ⟨BF,BH,F,env,L,_,S,he,fun v F' H' x r=>q v F' H' x (r.scal hs)⟩
  ·cases e
theorem two {m1 m2:Md}{R:V→V→Hp→Prop}{σ:L2.St}{H BF BH F:Hp}{env:Env}{L:Nat→List Addr}{x y:D}(S:SOk X.K BF BH F H σ env L)(e1:f env=some x)(e2:g env=some y)
  (k:∀ v w F' H',Ext F H F' H'→Rep X.K (hpM BH F' H' m1) x v→Rep X.K (hpM BH F' H' m2) y w→R v w H') :
  tD X.K m1 f σ H fun v H1=>tD X.K m2 g σ H1 fun w H2=>R v w H2 :=
 ⟨BF,BH,F,env,L,x,S,e1,fun v F1 H1 x1 r1=>⟨BF,BH,F1,env,L,y,S.ext x1,e2,fun w F2 H2 x2 r2=>k v w F2 H2 (x1.trans x2) (Rep.mono (ZbM x2 m1) _ _ r1) r2⟩⟩
theorem Zr {K:PySem.W.Frag}{H:Hp}{i:Int}{v:V}(h:Rep K H (.int i) v):v=.int i:=by simpa [Rep] using h
theorem Zh3 {op:Operator}{C:Int→Int→Prop}{G:Int→Int→Int}{φ:Int→Int→Option D}(ho:L2.OpR X (binaryOp op) (L2.rI C fun i j=>.int (G i j)))
  (hφ:∀ i j d,φ i j=some d→C i j∧d=.int (G i j)) {m1 m2:Md} (ha:PD X m1 a f) (hb:PD X m2 b g):PD X m (.BinOp a op b pos) (e2I φ f g) :=
 PD.mk <| PE.of (L2.ZkA ho ha.h hb.h) fun σ H Q hh_=>el9 hh_ fun BF BH F env L d S e q=>by
  unfold e2I at e
  split at e
  ·rename_i i j h1 h2
   refine two S h1 h2 fun v w F' H' x r1 r2=>?_
   obtain ⟨hc,rfl⟩:=hφ i j d e
   exact ⟨i,j,Zr r1,Zr r2,hc,q _ F' H' x (by simp [Rep])⟩
  ·cases e
theorem ZnD {op:Operator}{G:Int→Int→Int}{φ:Int→Int→Option D}(ho:L2.OpR X (binaryOp op) (L2.rI0 fun i j=>.int (G i j)))
  (hφ:∀ i j d,φ i j=some d→d=.int (G i j)) {m1 m2:Md} (ha:PD X m1 a f) (hb:PD X m2 b g):PD X m (.BinOp a op b pos) (e2I φ f g) :=
 PD.mk <| PE.of (L2.ZkA ho ha.h hb.h) fun σ H Q hh_=>el9 hh_ fun BF BH F env L d S e q=>by
  unfold e2I at e
  split at e
  ·rename_i i j h1 h2
   refine two S h1 h2 fun v w F' H' x r1 r2=>?_
   obtain rfl:=hφ i j d e
   exact ⟨i,j,Zr r1,Zr r2,q _ F' H' x (by simp [Rep])⟩
  ·cases e
variable {m1 m2 m3:Md}
theorem Zjm (ha:PD X m1 a f)(hb:PD X m2 b g):PD X m (.BinOp a .Sub b pos) (e2I iSub f g):=ZnD L2.Zpk (fun i j d h=>by cases h;rfl) ha hb
theorem Z0 (ha:PD X m1 a f)(hb:PD X m2 b g):PD X m (.BinOp a .Mult b pos) (e2I iMul f g):=Zh3 L2.Zop (fun i j d h=>by
 unfold iMul at h;split at h
 ·rename_i hc;cases h;exact ⟨hc,rfl⟩
 ·cases h) ha hb
theorem Yv (ha:PD X m1 a f)(hb:PD X m2 b g):PD X m (.BinOp a .Mod b pos) (e2I iMod f g):=Zh3 L2.Zou (fun i j d h=>by
 unfold iMod at h;split at h
 ·rename_i hc;cases h;exact ⟨hc,rfl⟩
 ·cases h) ha hb
theorem ZaA (ha:PD X m1 a f)(hb:PD X m2 b g):PD X m (.BinOp a .FloorDiv b pos) (e2I iDiv f g):=Zh3 L2.Zog (fun i j d h=>by
 unfold iDiv at h;split at h
 ·rename_i hc;cases h;exact ⟨hc,rfl⟩
 ·cases h) ha hb
end
end PV
set_option linter.all false
set_option Elab.async false
set_option maxRecDepth 100000
set_option maxHeartbeats 4000000
namespace PV
open PySem PySem.Spec PyProof.Rows
open L2 (V Hp HO Vals SqL SqT Same upd Cx PE PT PW PA PS PSs TE TT TA TS Inv RelV Yc Jd Jc)
mutual
noncomputable def Hr (s:Shared):D→Value→Prop
 | .non,u=>u=.none
 | .bl b,u=>u=.bool b
 | .int i,u=>∃ t,u=.int i t
 | .str x,u=>∃ t,u=.str x t
 | .lst ds,u=>∃ a its,u=.ref a∧s.heap.IsList a its.toArray∧Hrs s ds its
 | .tup ds,u=>∃ a its,u=.ref a∧s.heap.IsTuple a its.toArray∧Hrs s ds its
 | .dct _,_=>False
noncomputable def Hrs (s:Shared):List D→List Value→Prop
 | [],us=>us=[]
 | d::ds,us=>∃ u r,us=u::r∧Hr s d u∧Hrs s ds r
end
mutual
theorem J7 {X:Cx}{pins:List (Addr × Obj)}{σ:L2.St}{H:Hp}{s:Shared}(I:Inv X pins σ H s):∀ (d:D) (x:V) (u:Value),d.dep < 100→Rep X.K H d x→RelV x u→Hr s d u
 | .non,x,u,_,h,r=>by simp only [Rep] at h;subst h;simp only [Hr];exact r
 | .bl b,x,u,_,h,r=>by simp only [Rep] at h;subst h;simp only [Hr];exact r
 | .int i,x,u,_,h,r=>by simp only [Rep] at h;subst h;simp only [Hr];exact r
 | .str i,x,u,_,h,r=>by simp only [Rep] at h;subst h;simp only [Hr];exact r
 | .lst ds,x,u,hd,h,r=>by
  simp only [D.dep] at hd
  simp only [Rep] at h
  obtain ⟨a,vs,rfl,hs,t⟩:=h
  obtain ⟨its,rv,p,_⟩:=I.list hs
  cases r
  simp only [Hr]
  exact ⟨a,its,rfl,p.isList,ZfL I ds vs its (by omega) t rv⟩
 | .dct ds,x,u,hd,h,r=>by simp [D.dep] at hd
 | .tup ds,x,u,hd,h,r=>by
  simp only [D.dep] at hd
  simp only [Rep] at h
  obtain ⟨a,vs,rfl,hs,t⟩:=h
  obtain ⟨its,rv,p,_⟩:=I.tuple hs
  cases r
  simp only [Hr]
  exact ⟨a,its,rfl,p,ZfL I ds vs its (by omega) t rv⟩
theorem ZfL {X:Cx}{pins:List (Addr × Obj)}{σ:L2.St}{H:Hp}{s:Shared}(I:Inv X pins σ H s):∀ (ds:List D) (vs:List V) (us:List Value),D.deps ds < 100→Reps X.K H ds vs→Vals vs us→Hrs s ds us
 | [],vs,us,_,h,r=>by simp only [Reps] at h;subst h;cases r;simp [Hrs]
 | d::ds,vs,us,hd,h,r=>by
  simp only [D.deps] at hd
  simp only [Reps] at h
  obtain ⟨v,t,rfl,h1,h2⟩:=h
  cases r with
  | cons r1 r2 =>
   simp only [Hrs]
   exact ⟨_,_,rfl,J7 I d v _ (by omega) h1 r1,ZfL I ds t _ (by omega) h2 r2⟩
end
section
variable {s:Shared}
theorem Hrs.length:∀ {ds:List D} {us:List Value},Hrs s ds us→ds.length=us.length
 | [],us,h=>by simp only [Hrs] at h;subst h;rfl
 | d::ds,us,h=>by simp only [Hrs] at h;obtain ⟨u,r,rfl,_,t⟩:=h;simp [Hrs.length t]
theorem Hrs.get:∀ {ds:List D} {us:List Value} {j:Nat} (h1:j < ds.length) (h2:j < us.length),Hrs s ds us→Hr s ds[j] us[j]
 | [],us,j,h1,h2,h=>by simp at h1
 | d::ds,us,0,h1,h2,h=>by simp only [Hrs] at h;obtain ⟨u,r,rfl,x,t⟩:=h;exact x
 | d::ds,us,j + 1,h1,h2,h=>by simp only [Hrs] at h;obtain ⟨u,r,rfl,x,t⟩:=h;exact Hrs.get (j:=j) (by simpa using h1) (by simpa using h2) t
theorem Zf1 {h:Heap}{a:Addr}{xs ys:List Value}(h1:h.IsList a xs.toArray)(h2:h.IsList a ys.toArray):xs=ys:=by
 obtain ⟨o,e,c,n,d⟩:=h1
 obtain ⟨o',e',c',n',d'⟩:=h2
 rw [e] at e';cases e'
 rw [d] at d'
 injection d' with d1 _
 have:=congrArg Array.toList d1
 simpa using this
theorem Zfd {h:Heap}{a:Addr}{xs ys:List Value}(h1:h.IsTuple a xs.toArray)(h2:h.IsTuple a ys.toArray):xs=ys:=by
 obtain ⟨o,e,c,n,d⟩:=h1
 obtain ⟨o',e',c',n',d'⟩:=h2
 rw [e] at e';cases e'
 rw [d] at d'
 injection d' with d1 _
 have:=congrArg Array.toList d1
 simpa using this
mutual
theorem Hr.func:∀ (d e:D) (u:Value),Hr s d u→Hr s e u→d=e
 | .lst ds,.lst es,u,h1,h2=>by
  simp only [Hr] at h1 h2
  obtain ⟨a,its,rfl,l1,r1⟩:=h1
  obtain ⟨b,its2,e,l2,r2⟩:=h2
  cases e
  obtain rfl:=Zf1 l1 l2
  rw [Hrs.func ds es its r1 r2]
 | .tup ds,.tup es,u,h1,h2=>by
  simp only [Hr] at h1 h2
  obtain ⟨a,its,rfl,l1,r1⟩:=h1
  obtain ⟨b,its2,e,l2,r2⟩:=h2
  cases e
  obtain rfl:=Zfd l1 l2
  rw [Hrs.func ds es its r1 r2]
 | .lst ds,.tup es,u,h1,h2=>by
  simp only [Hr] at h1 h2
  obtain ⟨a,its,rfl,l1,r1⟩:=h1
  obtain ⟨b,its2,e,l2,r2⟩:=h2
  cases e
  exact absurd rfl (SeqAt.ne_of_list_tuple l1 l2)
 | .tup ds,.lst es,u,h1,h2=>by
  simp only [Hr] at h1 h2
  obtain ⟨a,its,rfl,l1,r1⟩:=h1
  obtain ⟨b,its2,e,l2,r2⟩:=h2
  cases e
  exact absurd rfl (SeqAt.ne_of_list_tuple l2 l1)
 | .non,e,u,h1,h2=>by simp only [Hr] at h1;subst h1;cases e <;> simp [Hr] at h2 <;> first | rfl | (obtain ⟨_,_,_,_⟩:=h2) | skip
 | .bl b,e,u,h1,h2=>by simp only [Hr] at h1;subst h1;cases e <;> simp [Hr] at h2 <;> first | (rw [h2]) | skip
 | .int i,e,u,h1,h2=>by simp only [Hr] at h1;obtain ⟨t,rfl⟩:=h1;cases e <;> simp [Hr] at h2 <;> first | (rw [h2]) | skip
 | .str i,e,u,h1,h2=>by simp only [Hr] at h1;obtain ⟨t,rfl⟩:=h1;cases e <;> simp [Hr] at h2 <;> first | (rw [h2]) | skip
 | .lst ds,.non,u,h1,h2=>by simp only [Hr] at h1 h2;obtain ⟨_,_,rfl,_⟩:=h1;cases h2
 | .lst ds,.bl _,u,h1,h2=>by simp only [Hr] at h1 h2;obtain ⟨_,_,rfl,_⟩:=h1;cases h2
 | .lst ds,.int _,u,h1,h2=>by simp only [Hr] at h1 h2;obtain ⟨_,_,rfl,_⟩:=h1;obtain ⟨_,h2⟩:=h2;cases h2
 | .lst ds,.str _,u,h1,h2=>by simp only [Hr] at h1 h2;obtain ⟨_,_,rfl,_⟩:=h1;obtain ⟨_,h2⟩:=h2;cases h2
 | .tup ds,.non,u,h1,h2=>by simp only [Hr] at h1 h2;obtain ⟨_,_,rfl,_⟩:=h1;cases h2
 | .tup ds,.bl _,u,h1,h2=>by simp only [Hr] at h1 h2;obtain ⟨_,_,rfl,_⟩:=h1;cases h2
 | .tup ds,.int _,u,h1,h2=>by simp only [Hr] at h1 h2;obtain ⟨_,_,rfl,_⟩:=h1;obtain ⟨_,h2⟩:=h2;cases h2
 | .dct _,e,u,h1,h2=>by cases h1
 | .lst _,.dct _,u,h1,h2=>by cases h2
 | .tup _,.dct _,u,h1,h2=>by cases h2
 | .tup ds,.str _,u,h1,h2=>by simp only [Hr] at h1 h2;obtain ⟨_,_,rfl,_⟩:=h1;obtain ⟨_,h2⟩:=h2;cases h2
theorem Hrs.func:∀ (ds es:List D) (us:List Value),Hrs s ds us→Hrs s es us→ds=es
 | [],[],_,_,_=>rfl
 | [],e::es,us,h1,h2=>by simp only [Hrs] at h1 h2;subst h1;obtain ⟨_,_,h,_⟩:=h2;cases h
 | d::ds,[],us,h1,h2=>by simp only [Hrs] at h1 h2;subst h2;obtain ⟨_,_,h,_⟩:=h1;cases h
 | d::ds,e::es,us,h1,h2=>by
  simp only [Hrs] at h1 h2
  obtain ⟨u,r,rfl,x,t⟩:=h1
  obtain ⟨u',r',e',x',t'⟩:=h2
  cases e'
  rw [Hr.func d e u x x',Hrs.func ds es r t t']
end
theorem ZbA:∀ (ds es:List D),ds.length=es.length→(List.range ds.length).all (fun j=>eqD (ds.getD j .non) (es.getD j .non))=eqDs ds es
 | [],[],_=>by simp [eqDs]
 | [],_::_,h=>by simp at h
 | _::_,[],h=>by simp at h
 | d::ds,e::es,h=>by
  have ih:=ZbA ds es (by simpa using h)
  rw [List.length_cons,List.range_succ_eq_map,List.all_cons,List.all_map]
  simp only [eqDs]
  rw [← ih]
  rfl
theorem Zcz:∀ (ds es:List D),ds.length≠es.length→eqDs ds es=false
 | [],[],h=>absurd rfl h
 | [],_::_,_=>by simp [eqDs]
 | _::_,[],_=>by simp [eqDs]
 | d::ds,e::es,h=>by simp only [eqDs,Zcz ds es (by simpa using h),Bool.and_false]
theorem Ze2:∀ {ds:List D} {j:Nat} (h:j < ds.length),(ds[j]).dep≤D.deps ds
 | [],_,h=>by simp at h
 | d::ds,0,h=>by simp only [D.deps];exact Nat.le_max_left _ _
 | d::ds,j + 1,h=>by simp only [D.deps];exact Nat.le_trans (Ze2 (j:=j) (by simpa using h)) (Nat.le_max_right _ _)
noncomputable def Ih (s:Shared) (A:Around) (x:List D):Prop:=∀ j (h:j < x.length) (e:D) (u v:Value),A.units + (x[j]).dep < cLine→Hr s x[j] u→Hr s e v→SeqAt.EqAt A s u v (eqD x[j] e)
theorem items {A:Around}{x y:List D}{xits yits:List Value}(ih:Ih s A.in1 x)(hu:A.units + D.deps x + 1 < cLine)(hl:x.length=y.length)(xr:Hrs s x xits)(yr:Hrs s y yits) :
  ∀ j (h1:j < xits.toArray.size) (h2:j < yits.toArray.size),SeqAt.EqAt A.in1 s xits.toArray[j] yits.toArray[j] (eqD (x.getD j .non) (y.getD j .non)):=fun j h1 h2=>by
 have k1:j < x.length:=by rw [xr.length];simpa using h1
 have k2:j < y.length:=by rw [← hl];exact k1
 have e1:x.getD j .non=x[j]:=by simp [List.getD,k1]
 have e2:y.getD j .non=y[j]:=by simp [List.getD,k2]
 rw [e1,e2]
 have hd:=Ze2 (ds:=x) k1
 have a1:=xr.get k1 (by rw [← xr.length];exact k1)
 have a2:=yr.get k2 (by rw [← yr.length];exact k2)
 refine ih j k1 _ _ _ ?_ (by simpa using a1) (by simpa using a2)
 show A.units + 1 + _ < cLine
 omega
theorem Zgo {A:Around}{xa ya:Addr}{xits yits:List Value}(x y:List D)(hu:A.units + D.deps x + 1 < cLine)(xl:s.heap.IsList xa xits.toArray)(yl:s.heap.IsList ya yits.toArray)(xr:Hrs s x xits)(yr:Hrs s y yits)(ih:Ih s A.in1 x) :
  SeqAt.RcAt A s (.ref xa) (.ref ya) (eqD (.lst x) (.lst y)):=by
 simp only [eqD]
 by_cases hl:x.length=y.length
 ·have e:=SeqAt.RcAt.lists (e:=fun j=>eqD (x.getD j .non) (y.getD j .non)) xl yl (by simp [← xr.length,← yr.length,hl]) (by omega) (items ih hu hl xr yr)
  rw [show xits.toArray.size=x.length by simp [xr.length],ZbA x y hl] at e
  exact e
 ·rw [Zcz x y hl]
  exact SeqAt.RcAt.lists_lengths xl yl (by simp [← xr.length,← yr.length,hl]) (by omega)
theorem Zfc {A:Around}{xa ya:Addr}{xits yits:List Value}(x y:List D)(hu:A.units + D.deps x + 1 < cLine)(xl:s.heap.IsTuple xa xits.toArray)(yl:s.heap.IsTuple ya yits.toArray)(xr:Hrs s x xits)(yr:Hrs s y yits)(ih:Ih s A.in1 x) :
  SeqAt.RcAt A s (.ref xa) (.ref ya) (eqD (.tup x) (.tup y)):=by
 simp only [eqD]
 have e:=SeqAt.RcAt.tuples (A:=A) (e:=fun j=>eqD (x.getD j .non) (y.getD j .non)) xl yl (by omega) (fun j h1 h2=>by
  have k1:j < x.length:=by rw [xr.length];simpa using h1
  have k2:j < y.length:=by rw [yr.length];simpa using h2
  have e1:x.getD j .non=x[j]:=by simp [List.getD,k1]
  have e2:y.getD j .non=y[j]:=by simp [List.getD,k2]
  rw [e1,e2]
  have hd:=Ze2 (ds:=x) k1
  have a1:=xr.get k1 (by rw [← xr.length];exact k1)
  have a2:=yr.get k2 (by rw [← yr.length];exact k2)
  refine ih j k1 _ _ _ ?_ (by simpa using a1) (by simpa using a2)
  show A.units + 1 + _ < cLine
  omega)
 have z:((List.range (min xits.toArray.size yits.toArray.size)).all (fun j=>eqD (x.getD j .non) (y.getD j .non)) && xits.toArray.size == yits.toArray.size)=eqDs x y:=by
  rw [show xits.toArray.size=x.length by simp [xr.length],show yits.toArray.size=y.length by simp [yr.length]]
  by_cases hl:x.length=y.length
  ·rw [← hl,Nat.min_self,ZbA x y hl];simp
  ·rw [Zcz x y hl,beq_eq_false_iff_ne.mpr hl,Bool.and_false]
 rw [z] at e
 exact e
theorem Zkv {A:Around}{xa ya:Addr}{xits yits:List Value}(x y:List D)(hu:A.units + D.deps x + 1 < cLine)(xl:s.heap.IsList xa xits.toArray)(yl:s.heap.IsList ya yits.toArray)(xr:Hrs s x xits)(yr:Hrs s y yits)(ih:Ih s A.in1 x) :
  SeqAt.EqAt A s (.ref xa) (.ref ya) (eqD (.lst x) (.lst y)):=by
 by_cases ha:xa=ya
 ·subst ha
  obtain rfl:=Zf1 xl yl
  obtain rfl:=Hrs.func _ _ _ xr yr
  rw [ZfT]
  exact SeqAt.EqAt.same _
 ·exact .of_refs ha (Zgo x y hu xl yl xr yr ih)
theorem Zi3 {A:Around}{xa ya:Addr}{xits yits:List Value}(x y:List D)(hu:A.units + D.deps x + 1 < cLine)(xl:s.heap.IsTuple xa xits.toArray)(yl:s.heap.IsTuple ya yits.toArray)(xr:Hrs s x xits)(yr:Hrs s y yits)(ih:Ih s A.in1 x) :
  SeqAt.EqAt A s (.ref xa) (.ref ya) (eqD (.tup x) (.tup y)):=by
 by_cases ha:xa=ya
 ·subst ha
  obtain rfl:=Zfd xl yl
  obtain rfl:=Hrs.func _ _ _ xr yr
  rw [ZfT]
  exact SeqAt.EqAt.same _
 ·exact .of_refs ha (Zfc x y hu xl yl xr yr ih)
theorem Zkn {A:Around}{xa ya:Addr}{xits yits:List Value}(x y:List D)(hu:A.units + D.deps x + 1 < cLine)(xl:s.heap.IsList xa xits.toArray)(yl:s.heap.IsList ya yits.toArray)(xr:Hrs s x xits)(yr:Hrs s y yits)(ih:Ih s A.in1 x) :
  SeqAt.RcNeAt A s (.ref xa) (.ref ya) (!eqD (.lst x) (.lst y)):=by
 simp only [eqD]
 by_cases hl:x.length=y.length
 ·have e:=SeqAt.RcNeAt.lists (e:=fun j=>eqD (x.getD j .non) (y.getD j .non)) xl yl (by simp [← xr.length,← yr.length,hl]) (by omega) (items ih hu hl xr yr)
  rw [show xits.toArray.size=x.length by simp [xr.length],ZbA x y hl] at e
  exact e
 ·rw [Zcz x y hl]
  exact SeqAt.RcNeAt.lists_lengths xl yl (by simp [← xr.length,← yr.length,hl]) (by omega)
theorem ZiS {A:Around}{xa ya:Addr}{xits yits:List Value}(x y:List D)(hu:A.units + D.deps x + 1 < cLine)(xl:s.heap.IsTuple xa xits.toArray)(yl:s.heap.IsTuple ya yits.toArray)(xr:Hrs s x xits)(yr:Hrs s y yits)(ih:Ih s A.in1 x) :
  SeqAt.RcNeAt A s (.ref xa) (.ref ya) (!eqD (.tup x) (.tup y)):=by
 simp only [eqD]
 have e:=SeqAt.RcNeAt.tuples (A:=A) (e:=fun j=>eqD (x.getD j .non) (y.getD j .non)) xl yl (by omega) (fun j h1 h2=>by
  have k1:j < x.length:=by rw [xr.length];simpa using h1
  have k2:j < y.length:=by rw [yr.length];simpa using h2
  have e1:x.getD j .non=x[j]:=by simp [List.getD,k1]
  have e2:y.getD j .non=y[j]:=by simp [List.getD,k2]
  rw [e1,e2]
  have hd:=Ze2 (ds:=x) k1
  have a1:=xr.get k1 (by rw [← xr.length];exact k1)
  have a2:=yr.get k2 (by rw [← yr.length];exact k2)
  refine ih j k1 _ _ _ ?_ (by simpa using a1) (by simpa using a2)
  show A.units + 1 + _ < cLine
  omega)
 have z:((List.range (min xits.toArray.size yits.toArray.size)).all (fun j=>eqD (x.getD j .non) (y.getD j .non)) && xits.toArray.size == yits.toArray.size)=eqDs x y:=by
  rw [show xits.toArray.size=x.length by simp [xr.length],show yits.toArray.size=y.length by simp [yr.length]]
  by_cases hl:x.length=y.length
  ·rw [← hl,Nat.min_self,ZbA x y hl];simp
  ·rw [Zcz x y hl,beq_eq_false_iff_ne.mpr hl,Bool.and_false]
 rw [z] at e
 exact e
noncomputable def D.kids:D→List D
 | .lst xs=>xs
 | .tup xs=>xs
 | _=>[]
theorem ZbL {A:Around}(d e:D)(u v:Value)(hu:A.units + d.dep < cLine)(h1:Hr s d u)(h2:Hr s e v)(ih:Ih s A.in1 d.kids):SeqAt.EqAt A s u v (eqD d e):=by
 have hu0:A.units < cLine:=by omega
 cases d with
 | dct x=>cases h1
 | non =>
  cases h1
  cases e with
  | dct y=>cases h2
  | non =>
   cases h2
   exact SeqAt.EqAt.same _
  | bl y =>
   cases h2
   exact SeqAt.EqAt.none_bool y
  | int y =>
   obtain ⟨yt,rfl⟩:=h2
   exact SeqAt.EqAt.none_int y yt
  | str y =>
   obtain ⟨yt,rfl⟩:=h2
   exact SeqAt.EqAt.none_str y yt
  | lst y =>
   obtain ⟨ya,yits,rfl,yl,yr⟩:=h2
   exact SeqAt.EqAt.none_list yl hu0
  | tup y =>
   obtain ⟨ya,yits,rfl,yl,yr⟩:=h2
   exact SeqAt.EqAt.none_tuple yl hu0
 | bl x =>
  cases h1
  cases e with
  | dct y=>cases h2
  | non =>
   cases h2
   exact SeqAt.EqAt.bool_none x
  | bl y =>
   cases h2
   exact SeqAt.EqAt.bool_bool x y
  | int y =>
   obtain ⟨yt,rfl⟩:=h2
   exact SeqAt.EqAt.bool_int x y yt
  | str y =>
   obtain ⟨yt,rfl⟩:=h2
   exact SeqAt.EqAt.bool_str x y yt
  | lst y =>
   obtain ⟨ya,yits,rfl,yl,yr⟩:=h2
   exact SeqAt.EqAt.bool_list x yl hu0
  | tup y =>
   obtain ⟨ya,yits,rfl,yl,yr⟩:=h2
   exact SeqAt.EqAt.bool_tuple x yl hu0
 | int x =>
  obtain ⟨xt,rfl⟩:=h1
  cases e with
  | dct y=>cases h2
  | non =>
   cases h2
   exact SeqAt.EqAt.int_none x xt
  | bl y =>
   cases h2
   exact SeqAt.EqAt.int_bool x xt y
  | int y =>
   obtain ⟨yt,rfl⟩:=h2
   exact SeqAt.EqAt.int_int x xt y yt
  | str y =>
   obtain ⟨yt,rfl⟩:=h2
   exact SeqAt.EqAt.int_str x xt y yt
  | lst y =>
   obtain ⟨ya,yits,rfl,yl,yr⟩:=h2
   exact SeqAt.EqAt.int_list x xt yl hu0
  | tup y =>
   obtain ⟨ya,yits,rfl,yl,yr⟩:=h2
   exact SeqAt.EqAt.int_tuple x xt yl hu0
 | str x =>
  obtain ⟨xt,rfl⟩:=h1
  cases e with
  | dct y=>cases h2
  | non =>
   cases h2
   exact SeqAt.EqAt.str_none x xt
  | bl y =>
   cases h2
   exact SeqAt.EqAt.str_bool x xt y
  | int y =>
   obtain ⟨yt,rfl⟩:=h2
   exact SeqAt.EqAt.str_int x xt y yt
  | str y =>
   obtain ⟨yt,rfl⟩:=h2
   exact SeqAt.EqAt.str_str x xt y yt
  | lst y =>
   obtain ⟨ya,yits,rfl,yl,yr⟩:=h2
   exact SeqAt.EqAt.str_list x xt yl hu0
  | tup y =>
   obtain ⟨ya,yits,rfl,yl,yr⟩:=h2
   exact SeqAt.EqAt.str_tuple x xt yl hu0
 | lst x =>
  obtain ⟨xa,xits,rfl,xl,xr⟩:=h1
  cases e with
  | dct y=>cases h2
  | non =>
   cases h2
   exact SeqAt.EqAt.list_none xl hu0
  | bl y =>
   cases h2
   exact SeqAt.EqAt.list_bool y xl hu0
  | int y =>
   obtain ⟨yt,rfl⟩:=h2
   exact SeqAt.EqAt.list_int y yt xl hu0
  | str y =>
   obtain ⟨yt,rfl⟩:=h2
   exact SeqAt.EqAt.list_str y yt xl hu0
  | lst y =>
   obtain ⟨ya,yits,rfl,yl,yr⟩:=h2
   exact Zkv x y hu xl yl xr yr ih
  | tup y =>
   obtain ⟨ya,yits,rfl,yl,yr⟩:=h2
   exact SeqAt.EqAt.list_tuple xl yl hu0
 | tup x =>
  obtain ⟨xa,xits,rfl,xl,xr⟩:=h1
  cases e with
  | dct y=>cases h2
  | non =>
   cases h2
   exact SeqAt.EqAt.tuple_none xl hu0
  | bl y =>
   cases h2
   exact SeqAt.EqAt.tuple_bool y xl hu0
  | int y =>
   obtain ⟨yt,rfl⟩:=h2
   exact SeqAt.EqAt.tuple_int y yt xl hu0
  | str y =>
   obtain ⟨yt,rfl⟩:=h2
   exact SeqAt.EqAt.tuple_str y yt xl hu0
  | lst y =>
   obtain ⟨ya,yits,rfl,yl,yr⟩:=h2
   exact SeqAt.EqAt.tuple_list xl yl hu0
  | tup y =>
   obtain ⟨ya,yits,rfl,yl,yr⟩:=h2
   exact Zi3 x y hu xl yl xr yr ih
theorem Zmw {A:Around}(d e:D)(u v:Value)(hu:A.units + d.dep < cLine)(h1:Hr s d u)(h2:Hr s e v)(ih:Ih s A.in1 d.kids):SeqAt.RcAt A s u v (eqD d e):=by
 have hu0:A.units < cLine:=by omega
 cases d with
 | dct x=>cases h1
 | non =>
  cases h1
  cases e with
  | dct y=>cases h2
  | non =>
   cases h2
   exact SeqAt.RcAt.none_none
  | bl y =>
   cases h2
   exact SeqAt.RcAt.none_bool y
  | int y =>
   obtain ⟨yt,rfl⟩:=h2
   exact SeqAt.RcAt.none_int y yt
  | str y =>
   obtain ⟨yt,rfl⟩:=h2
   exact SeqAt.RcAt.none_str y yt
  | lst y =>
   obtain ⟨ya,yits,rfl,yl,yr⟩:=h2
   exact SeqAt.RcAt.none_list yl hu0
  | tup y =>
   obtain ⟨ya,yits,rfl,yl,yr⟩:=h2
   exact SeqAt.RcAt.none_tuple yl hu0
 | bl x =>
  cases h1
  cases e with
  | dct y=>cases h2
  | non =>
   cases h2
   exact SeqAt.RcAt.bool_none x
  | bl y =>
   cases h2
   exact SeqAt.RcAt.bool_bool x y
  | int y =>
   obtain ⟨yt,rfl⟩:=h2
   exact SeqAt.RcAt.bool_int x y yt
  | str y =>
   obtain ⟨yt,rfl⟩:=h2
   exact SeqAt.RcAt.bool_str x y yt
  | lst y =>
   obtain ⟨ya,yits,rfl,yl,yr⟩:=h2
   exact SeqAt.RcAt.bool_list x yl hu0
  | tup y =>
   obtain ⟨ya,yits,rfl,yl,yr⟩:=h2
   exact SeqAt.RcAt.bool_tuple x yl hu0
 | int x =>
  obtain ⟨xt,rfl⟩:=h1
  cases e with
  | dct y=>cases h2
  | non =>
   cases h2
   exact SeqAt.RcAt.int_none x xt
  | bl y =>
   cases h2
   exact SeqAt.RcAt.int_bool x xt y
  | int y =>
   obtain ⟨yt,rfl⟩:=h2
   exact SeqAt.RcAt.int_int x xt y yt
  | str y =>
   obtain ⟨yt,rfl⟩:=h2
   exact SeqAt.RcAt.int_str x xt y yt
  | lst y =>
   obtain ⟨ya,yits,rfl,yl,yr⟩:=h2
   exact SeqAt.RcAt.int_list x xt yl hu0
  | tup y =>
   obtain ⟨ya,yits,rfl,yl,yr⟩:=h2
   exact SeqAt.RcAt.int_tuple x xt yl hu0
 | str x =>
  obtain ⟨xt,rfl⟩:=h1
  cases e with
  | dct y=>cases h2
  | non =>
   cases h2
   exact SeqAt.RcAt.str_none x xt
  | bl y =>
   cases h2
   exact SeqAt.RcAt.str_bool x xt y
  | int y =>
   obtain ⟨yt,rfl⟩:=h2
   exact SeqAt.RcAt.str_int x xt y yt
  | str y =>
   obtain ⟨yt,rfl⟩:=h2
   exact SeqAt.RcAt.str_str x xt y yt
  | lst y =>
   obtain ⟨ya,yits,rfl,yl,yr⟩:=h2
   exact SeqAt.RcAt.str_list x xt yl hu0
  | tup y =>
   obtain ⟨ya,yits,rfl,yl,yr⟩:=h2
   exact SeqAt.RcAt.str_tuple x xt yl hu0
 | lst x =>
  obtain ⟨xa,xits,rfl,xl,xr⟩:=h1
  cases e with
  | dct y=>cases h2
  | non =>
   cases h2
   exact SeqAt.RcAt.list_none xl hu0
  | bl y =>
   cases h2
   exact SeqAt.RcAt.list_bool y xl hu0
  | int y =>
   obtain ⟨yt,rfl⟩:=h2
   exact SeqAt.RcAt.list_int y yt xl hu0
  | str y =>
   obtain ⟨yt,rfl⟩:=h2
   exact SeqAt.RcAt.list_str y yt xl hu0
  | lst y =>
   obtain ⟨ya,yits,rfl,yl,yr⟩:=h2
   exact Zgo x y hu xl yl xr yr ih
  | tup y =>
   obtain ⟨ya,yits,rfl,yl,yr⟩:=h2
   exact SeqAt.RcAt.list_tuple xl yl hu0
 | tup x =>
  obtain ⟨xa,xits,rfl,xl,xr⟩:=h1
  cases e with
  | dct y=>cases h2
  | non =>
   cases h2
   exact SeqAt.RcAt.tuple_none xl hu0
  | bl y =>
   cases h2
   exact SeqAt.RcAt.tuple_bool y xl hu0
  | int y =>
   obtain ⟨yt,rfl⟩:=h2
   exact SeqAt.RcAt.tuple_int y yt xl hu0
  | str y =>
   obtain ⟨yt,rfl⟩:=h2
   exact SeqAt.RcAt.tuple_str y yt xl hu0
  | lst y =>
   obtain ⟨ya,yits,rfl,yl,yr⟩:=h2
   exact SeqAt.RcAt.tuple_list xl yl hu0
  | tup y =>
   obtain ⟨ya,yits,rfl,yl,yr⟩:=h2
   exact Zfc x y hu xl yl xr yr ih
theorem ZmG {A:Around}(d e:D)(u v:Value)(hu:A.units + d.dep < cLine)(h1:Hr s d u)(h2:Hr s e v)(ih:Ih s A.in1 d.kids):SeqAt.RcNeAt A s u v (!eqD d e):=by
 have hu0:A.units < cLine:=by omega
 cases d with
 | dct x=>cases h1
 | non =>
  cases h1
  cases e with
  | dct y=>cases h2
  | non =>
   cases h2
   exact SeqAt.RcNeAt.none_none
  | bl y =>
   cases h2
   exact SeqAt.RcNeAt.none_bool y
  | int y =>
   obtain ⟨yt,rfl⟩:=h2
   exact SeqAt.RcNeAt.none_int y yt
  | str y =>
   obtain ⟨yt,rfl⟩:=h2
   exact SeqAt.RcNeAt.none_str y yt
  | lst y =>
   obtain ⟨ya,yits,rfl,yl,yr⟩:=h2
   exact SeqAt.RcNeAt.none_list yl hu0
  | tup y =>
   obtain ⟨ya,yits,rfl,yl,yr⟩:=h2
   exact SeqAt.RcNeAt.none_tuple yl hu0
 | bl x =>
  cases h1
  cases e with
  | dct y=>cases h2
  | non =>
   cases h2
   exact SeqAt.RcNeAt.bool_none x
  | bl y =>
   cases h2
   exact SeqAt.RcNeAt.bool_bool x y
  | int y =>
   obtain ⟨yt,rfl⟩:=h2
   exact SeqAt.RcNeAt.bool_int x y yt
  | str y =>
   obtain ⟨yt,rfl⟩:=h2
   exact SeqAt.RcNeAt.bool_str x y yt
  | lst y =>
   obtain ⟨ya,yits,rfl,yl,yr⟩:=h2
   exact SeqAt.RcNeAt.bool_list x yl hu0
  | tup y =>
   obtain ⟨ya,yits,rfl,yl,yr⟩:=h2
   exact SeqAt.RcNeAt.bool_tuple x yl hu0
 | int x =>
  obtain ⟨xt,rfl⟩:=h1
  cases e with
  | dct y=>cases h2
  | non =>
   cases h2
   exact SeqAt.RcNeAt.int_none x xt
  | bl y =>
   cases h2
   exact SeqAt.RcNeAt.int_bool x xt y
  | int y =>
   obtain ⟨yt,rfl⟩:=h2
   exact SeqAt.RcNeAt.int_int x xt y yt
  | str y =>
   obtain ⟨yt,rfl⟩:=h2
   exact SeqAt.RcNeAt.int_str x xt y yt
  | lst y =>
   obtain ⟨ya,yits,rfl,yl,yr⟩:=h2
   exact SeqAt.RcNeAt.int_list x xt yl hu0
  | tup y =>
   obtain ⟨ya,yits,rfl,yl,yr⟩:=h2
   exact SeqAt.RcNeAt.int_tuple x xt yl hu0
 | str x =>
  obtain ⟨xt,rfl⟩:=h1
  cases e with
  | dct y=>cases h2
  | non =>
   cases h2
   exact SeqAt.RcNeAt.str_none x xt
  | bl y =>
   cases h2
   exact SeqAt.RcNeAt.str_bool x xt y
  | int y =>
   obtain ⟨yt,rfl⟩:=h2
   exact SeqAt.RcNeAt.str_int x xt y yt
  | str y =>
   obtain ⟨yt,rfl⟩:=h2
   exact SeqAt.RcNeAt.str_str x xt y yt
  | lst y =>
   obtain ⟨ya,yits,rfl,yl,yr⟩:=h2
   exact SeqAt.RcNeAt.str_list x xt yl hu0
  | tup y =>
   obtain ⟨ya,yits,rfl,yl,yr⟩:=h2
   exact SeqAt.RcNeAt.str_tuple x xt yl hu0
 | lst x =>
  obtain ⟨xa,xits,rfl,xl,xr⟩:=h1
  cases e with
  | dct y=>cases h2
  | non =>
   cases h2
   exact SeqAt.RcNeAt.list_none xl hu0
  | bl y =>
   cases h2
   exact SeqAt.RcNeAt.list_bool y xl hu0
  | int y =>
   obtain ⟨yt,rfl⟩:=h2
   exact SeqAt.RcNeAt.list_int y yt xl hu0
  | str y =>
   obtain ⟨yt,rfl⟩:=h2
   exact SeqAt.RcNeAt.list_str y yt xl hu0
  | lst y =>
   obtain ⟨ya,yits,rfl,yl,yr⟩:=h2
   exact Zkn x y hu xl yl xr yr ih
  | tup y =>
   obtain ⟨ya,yits,rfl,yl,yr⟩:=h2
   exact SeqAt.RcNeAt.list_tuple xl yl hu0
 | tup x =>
  obtain ⟨xa,xits,rfl,xl,xr⟩:=h1
  cases e with
  | dct y=>cases h2
  | non =>
   cases h2
   exact SeqAt.RcNeAt.tuple_none xl hu0
  | bl y =>
   cases h2
   exact SeqAt.RcNeAt.tuple_bool y xl hu0
  | int y =>
   obtain ⟨yt,rfl⟩:=h2
   exact SeqAt.RcNeAt.tuple_int y yt xl hu0
  | str y =>
   obtain ⟨yt,rfl⟩:=h2
   exact SeqAt.RcNeAt.tuple_str y yt xl hu0
  | lst y =>
   obtain ⟨ya,yits,rfl,yl,yr⟩:=h2
   exact SeqAt.RcNeAt.tuple_list xl yl hu0
  | tup y =>
   obtain ⟨ya,yits,rfl,yl,yr⟩:=h2
   exact ZiS x y hu xl yl xr yr ih
mutual
theorem ZiF:∀ (d:D) {A:Around} (e:D) (u v:Value),A.units + d.dep < cLine→Hr s d u→Hr s e v→SeqAt.EqAt A s u v (eqD d e)
 | .lst xs,_,e,u,v,hu,h1,h2=>ZbL (.lst xs) e u v hu h1 h2 (Zds xs)
 | .dct xs,_,e,u,v,hu,h1,h2=>by cases h1
 | .tup xs,_,e,u,v,hu,h1,h2=>ZbL (.tup xs) e u v hu h1 h2 (Zds xs)
 | .non,_,e,u,v,hu,h1,h2=>ZbL .non e u v hu h1 h2 (fun j h=>by simp [D.kids] at h)
 | .bl b,_,e,u,v,hu,h1,h2=>ZbL (.bl b) e u v hu h1 h2 (fun j h=>by simp [D.kids] at h)
 | .int b,_,e,u,v,hu,h1,h2=>ZbL (.int b) e u v hu h1 h2 (fun j h=>by simp [D.kids] at h)
 | .str b,_,e,u,v,hu,h1,h2=>ZbL (.str b) e u v hu h1 h2 (fun j h=>by simp [D.kids] at h)
theorem Zds:∀ (xs:List D) {A:Around},Ih s A xs
 | [],_=>fun j h=>by simp at h
 | x::xs,_=>fun j h=>match j,h with
  | 0,h=>fun e u v hu h1 h2=>ZiF x e u v hu h1 h2
  | j + 1,h=>fun e u v hu h1 h2=>Zds xs j (by simpa using h) e u v hu h1 h2
end
theorem Zoq (d:D){A:Around}(e:D)(u v:Value)(hu:A.units + d.dep < cLine)(h1:Hr s d u)(h2:Hr s e v):SeqAt.RcAt A s u v (eqD d e):=Zmw d e u v hu h1 h2 (Zds _)
theorem Zpa (d:D){A:Around}(e:D)(u v:Value)(hu:A.units + d.dep < cLine)(h1:Hr s d u)(h2:Hr s e v):SeqAt.RcNeAt A s u v (!eqD d e):=ZmG d e u v hu h1 h2 (Zds _)
end
end PV
set_option linter.all false
set_option Elab.async false
set_option maxRecDepth 100000
set_option maxHeartbeats 4000000
namespace PV
open PySem PySem.Spec PyProof.Rows
open L2 (V Hp HO Vals SqL SqT Same upd Cx PE PT PW PA PS PSs TE TT TA TS Inv RelV Yc Jd Jc)
theorem Zf8 {K:PySem.W.Frag}{H:Hp}{i:Bool}{v:V}(h:Rep K H (.bl i) v):v=.bl i:=by simpa [Rep] using h
section
variable {X:Cx} {m m1 m2 m3:Md} {a b c:Expr} {f g h:Ex} {t u:Tx} {pos:Pos} {rest:List Expr}
theorem ZcW (ha:PD X m a f)(he:∀ whole,isTrue a X.env whole=(do let v ← whole;standAt a.pos;holding [v] (truthy v)):=by intro _;rfl):PTd X a (tB f) :=
 PT.of (L2.Zpp ha.h he) fun σ H Q hh_=>el9 hh_ fun BF BH F env L d S e q=>by
  unfold tB at e
  split at e
  ·rename_i k hk
   cases e
   exact ⟨BF,BH,F,env,L,_,S,hk,fun v F' H' x r=>⟨d,Zf8 r,q F' H' x⟩⟩
  ·cases e
structure Zci (X:Cx)(r:L2.R2)(f g:Ex)(t:Tx):Prop where
 ok:∀ env k,t env=some k→∃ x y,f env=some x∧g env=some y∧∀ v w H' (Q:V→Hp→Prop),Rep X.K H' x v→Rep X.K H' y w→Q (.bl k) H'→r v w H' Q
theorem Zej {op:CmpOp}{r:L2.R2}(ho:L2.OpR X (compareOp op) r)(hc:Zci X r f g t)(hm:behindInMarks op b=false)(ha:PD X m1 a f)(hb:PD X m2 b g):PD X m (.Compare a [op] [b] pos) (eB t) :=
 PD.mk <| PE.of (L2.Znd ho ha.r.h hb.r.h hm) fun σ H Q hh_=>el9 hh_ fun BF BH F env L d S e q=>by
  unfold eB at e
  split at e
  ·rename_i k hk
   cases e
   obtain ⟨x,y,hx,hy,hr⟩:=hc.ok env k hk
   exact two S hx hy fun v w F' H' z r1 r2=>hr v w H' Q r1 r2 (q _ F' H' z (by simp [Rep]))
  ·cases e
theorem ZaV {op:CmpOp}{r:L2.R2}(ho:L2.OpR X (compareOp op) r)(hc:Zci X r f g t)(hm:behindInMarks op b=false)(ha:PD X m1 a f)(hb:PD X m2 b g):PTd X (.Compare a [op] [b] pos) t :=
 PT.of (L2.ZnL ho ha.r.h hb.r.h hm) fun σ H Q hh_=>el9 hh_ fun BF BH F env L k S e q=>by
  obtain ⟨x,y,hx,hy,hr⟩:=hc.ok env k e
  exact two S hx hy fun v w F' H' z r1 r2=>hr v w H' _ r1 r2 ⟨k,rfl,q F' H' z⟩
theorem ZfY {p:Int→Int→Bool}{G:Int→Int→V}(hG:∀ i j,G i j=.bl (p i j)):Zci X (L2.rI0 G) f g (t2I p f g):=⟨fun env k e=>by
 unfold t2I at e
 split at e
 ·rename_i i j h1 h2
  cases e
  exact ⟨_,_,h1,h2,fun v w H' Q r1 r2 q=>⟨i,j,Zr r1,Zr r2,by rw [hG];exact q⟩⟩
 ·cases e⟩
theorem ZgF (ha:PD X m1 a f)(hb:PD X m2 b g):PTd X (.Compare a [.Lt] [b] pos) (t2I pLt f g):=ZaV L2.Zm4 (ZfY fun _ _=>rfl) (L2.ZaZ _) ha hb
theorem Zkz (ha:PD X m1 a f)(hb:PD X m2 b g):PTd X (.Compare a [.Gt] [b] pos) (t2I pGt f g):=ZaV L2.ZpN (ZfY fun _ _=>rfl) (L2.ZaZ _) ha hb
theorem ZpC (ha:PD X m1 a f)(hb:PD X m2 b g):PD X m (.Compare a [.Lt] [b] pos) (eB (t2I pLt f g)):=Zej L2.Zm4 (ZfY fun _ _=>rfl) (L2.ZaZ _) ha hb
theorem ZpU (ha:PD X m1 a f)(hb:PD X m2 b g):PD X m (.Compare a [.GtE] [b] pos) (eB (t2I pGe f g)):=Zej L2.ZpG (ZfY fun _ _=>rfl) (L2.ZaZ _) ha hb
noncomputable def rEqD (K:PySem.W.Frag) (neg:Bool):L2.R2:=fun x y H Q=>∃ dx dy,Rep K H dx x∧Rep K H dy y∧(dx.dep≤8∧dy.dep≤8)∧Q (.bl (if neg then !eqD dx dy else eqD dx dy)) H
theorem Zlg (hu:X.A.units + 64 < cLine):L2.OpR X (compareOp .Eq) (rEqD X.K false):=by
 intro pins s σ H x y v u Q I rx ry h
 obtain ⟨dx,dy,h1,h2,hd,q⟩:=h
 exact Zoq dx dy v u (by omega) (J7 I _ _ _ (by omega) h1 rx) (J7 I _ _ _ (by omega) h2 ry) X.prog X.w X.xe _ ⟨.bl _,H,I,rfl,q⟩
theorem ZoE (hu:X.A.units + 64 < cLine):L2.OpR X (compareOp .NotEq) (rEqD X.K true):=by
 intro pins s σ H x y v u Q I rx ry h
 obtain ⟨dx,dy,h1,h2,hd,q⟩:=h
 exact Zpa dx dy v u (by omega) (J7 I _ _ _ (by omega) h1 rx) (J7 I _ _ _ (by omega) h2 ry) X.prog X.w X.xe _ ⟨.bl _,H,I,rfl,q⟩
theorem Zk6:Zci X (rEqD X.K false) f g (tEq f g):=⟨fun env k e=>by
 unfold tEq at e
 split at e
 ·rename_i x y h1 h2
  split at e
  ·rename_i hd
   cases e
   exact ⟨x,y,h1,h2,fun v w H' Q r1 r2 q=>⟨x,y,r1,r2,hd,q⟩⟩
  ·cases e
 ·cases e⟩
theorem Zon:Zci X (rEqD X.K true) f g (tNe f g):=⟨fun env k e=>by
 unfold tNe at e
 split at e
 ·rename_i x y h1 h2
  split at e
  ·rename_i hd
   cases e
   exact ⟨x,y,h1,h2,fun v w H' Q r1 r2 q=>⟨x,y,r1,r2,hd,q⟩⟩
  ·cases e
 ·cases e⟩
variable (hu:X.A.units + 64 < cLine)
include hu
theorem ZeJ (ha:PD X m1 a f)(hb:PD X m2 b g):PTd X (.Compare a [.Eq] [b] pos) (tEq f g):=ZaV (Zlg hu) Zk6 (L2.ZaZ _) ha hb
theorem Zcl (ha:PD X m1 a f)(hb:PD X m2 b g):PTd X (.Compare a [.NotEq] [b] pos) (tNe f g):=ZaV (ZoE hu) Zon (L2.ZaZ _) ha hb
theorem Zgb (ha:PD X m1 a f)(hb:PD X m2 b g):PD X m (.Compare a [.Eq] [b] pos) (eB (tEq f g)):=Zej (Zlg hu) Zk6 (L2.ZaZ _) ha hb
omit hu
open Classical in
noncomputable def eqH (s:Shared) (x:D) (u:Value):Bool:=if ∃ d,Hr s d u∧eqD d x=true then true else false
theorem Zgm {s:Shared}{x d:D}{u:Value}(h:Hr s d u):eqH s x u=eqD d x:=by
 unfold eqH
 cases e:eqD d x with
 | true=>rw [if_pos ⟨d,h,e⟩]
 | false=>rw [if_neg];rintro ⟨d',h',e'⟩;rw [Hr.func _ _ _ h' h,e] at e';cases e'
theorem Zdt {s:Shared}{x:D}:∀ {ys:List D} {us:List Value},Hrs s ys us→us.any (eqH s x)=ys.any fun y=>eqD y x
 | [],us,h=>by simp only [Hrs] at h;subst h;rfl
 | y::ys,us,h=>by
  simp only [Hrs] at h
  obtain ⟨u,r,rfl,h1,h2⟩:=h
  rw [List.any_cons,List.any_cons,Zgm h1,Zdt h2]
theorem Zcs {A:Around}{s:Shared}{x:D}{v:Value}(hx:Hr s x v):∀ {ys:List D} {us:List Value},A.units + D.deps ys < cLine→Hrs s ys us→∀ u ∈ us,SeqAt.EqAt A s u v (eqH s x u)
 | [],us,_,h=>by simp only [Hrs] at h;subst h;intro u hu;cases hu
 | y::ys,us,hd,h=>by
  simp only [Hrs] at h
  obtain ⟨u,r,rfl,h1,h2⟩:=h
  simp only [D.deps] at hd
  intro u' hu'
  rcases List.mem_cons.mp hu' with rfl | hu'
  ·rw [Zgm h1];exact ZiF y x _ v (by omega) h1 hx
  ·exact Zcs hx (by omega) h2 u' hu'
noncomputable def rInD (K:PySem.W.Frag) (neg:Bool):L2.R2:=fun x y H Q=>∃ dx ys,Rep K H dx x∧(Rep K H (.lst ys) y∨Rep K H (.tup ys) y)∧(D.deps ys≤8∧dx.dep≤8)∧Q (.bl (if neg then !inD dx ys else inD dx ys)) H
include hu
theorem Zk8:L2.OpR X (compareOp .In) (rInD X.K false):=by
 intro pins s σ H x y v u Q I rx ry h
 obtain ⟨dx,ys,h1,h2,hd,q⟩:=h
 have hx:=J7 I _ _ _ (by omega) h1 rx
 have hin:X.A.in1.units + D.deps ys < cLine:=by show X.A.units + 1 + _ < _;omega
 rcases h2 with h2 | h2
 ·have hy:=J7 I _ _ _ (by simp only [D.dep];omega) h2 ry
  simp only [Hr] at hy
  obtain ⟨p,its,rfl,hl,hr⟩:=hy
  refine SeqAt.in_listAt (eqH s dx) hl (fun w hw=>Zcs hx hin hr w (by simpa using hw)) ⟨.bl _,H,I,rfl,?_⟩
  rw [show its.toArray.any (eqH s dx)=its.any (eqH s dx) by simp,Zdt hr]
  exact q
 ·have hy:=J7 I _ _ _ (by simp only [D.dep];omega) h2 ry
  simp only [Hr] at hy
  obtain ⟨p,its,rfl,hl,hr⟩:=hy
  refine SeqAt.in_tupleAt (eqH s dx) hl (fun w hw=>Zcs hx hin hr w (by simpa using hw)) ⟨.bl _,H,I,rfl,?_⟩
  rw [show its.toArray.any (eqH s dx)=its.any (eqH s dx) by simp,Zdt hr]
  exact q
theorem Zo6:L2.OpR X (compareOp .NotIn) (rInD X.K true):=by
 intro pins s σ H x y v u Q I rx ry h
 obtain ⟨dx,ys,h1,h2,hd,q⟩:=h
 have hx:=J7 I _ _ _ (by omega) h1 rx
 have hin:X.A.in1.units + D.deps ys < cLine:=by show X.A.units + 1 + _ < _;omega
 rcases h2 with h2 | h2
 ·have hy:=J7 I _ _ _ (by simp only [D.dep];omega) h2 ry
  simp only [Hr] at hy
  obtain ⟨p,its,rfl,hl,hr⟩:=hy
  refine SeqAt.notIn_listAt (eqH s dx) hl (fun w hw=>Zcs hx hin hr w (by simpa using hw)) ⟨.bl _,H,I,rfl,?_⟩
  rw [show its.toArray.any (eqH s dx)=its.any (eqH s dx) by simp,Zdt hr]
  exact q
 ·have hy:=J7 I _ _ _ (by simp only [D.dep];omega) h2 ry
  simp only [Hr] at hy
  obtain ⟨p,its,rfl,hl,hr⟩:=hy
  refine SeqAt.notIn_tupleAt (eqH s dx) hl (fun w hw=>Zcs hx hin hr w (by simpa using hw)) ⟨.bl _,H,I,rfl,?_⟩
  rw [show its.toArray.any (eqH s dx)=its.any (eqH s dx) by simp,Zdt hr]
  exact q
omit hu
theorem Zll:Zci X (rInD X.K false) f g (tIn f g):=⟨fun env k e=>by
 unfold tIn at e
 split at e
 ·rename_i x ys h1 h2
  split at e
  ·rename_i hd;cases e;exact ⟨x,_,h1,h2,fun v w H' Q r1 r2 q=>⟨x,ys,r1,.inl r2,hd,q⟩⟩
  ·cases e
 ·rename_i x ys h1 h2
  split at e
  ·rename_i hd;cases e;exact ⟨x,_,h1,h2,fun v w H' Q r1 r2 q=>⟨x,ys,r1,.inr r2,hd,q⟩⟩
  ·cases e
 ·cases e⟩
theorem Zpl:Zci X (rInD X.K true) f g (tNi f g):=⟨fun env k e=>by
 unfold tNi at e
 split at e
 ·rename_i k' e'
  cases e
  unfold tIn at e'
  split at e'
  ·rename_i x ys h1 h2
   split at e'
   ·rename_i hd;cases e';exact ⟨x,_,h1,h2,fun v w H' Q r1 r2 q=>⟨x,ys,r1,.inl r2,hd,q⟩⟩
   ·cases e'
  ·rename_i x ys h1 h2
   split at e'
   ·rename_i hd;cases e';exact ⟨x,_,h1,h2,fun v w H' Q r1 r2 q=>⟨x,ys,r1,.inr r2,hd,q⟩⟩
   ·cases e'
  ·cases e'
 ·cases e⟩
include hu
theorem Zpw (ha:PD X m1 a f)(hb:PD X m2 b g)(hm:behindInMarks .In b=false:=by with_unfolding_all rfl):PTd X (.Compare a [.In] [b] pos) (tIn f g):=ZaV (Zk8 hu) Zll hm ha hb
theorem Zm6 (ha:PD X m1 a f)(hb:PD X m2 b g)(hm:behindInMarks .NotIn b=false:=by with_unfolding_all rfl):PTd X (.Compare a [.NotIn] [b] pos) (tNi f g):=ZaV (Zo6 hu) Zpl hm ha hb
theorem Zpv (ha:PD X m1 a f)(hb:PD X m2 b g)(hm:behindInMarks .In b=false:=by with_unfolding_all rfl):PD X m (.Compare a [.In] [b] pos) (eB (tIn f g)):=Zej (Zk8 hu) Zll hm ha hb
omit hu
theorem ZjO {K:PySem.W.Frag}{H:Hp}{d:D}{v:V}(h:Rep K H d v):decide (v=.non)=d.isN:=by
 cases d <;> simp only [Rep,D.isN] at h ⊢
 ·subst h;simp
 ·subst h;simp
 ·subst h;simp
 ·subst h;simp
 ·obtain ⟨a,vs,rfl,_⟩:=h;simp
 ·obtain ⟨a,vs,rfl,_⟩:=h;simp
 ·obtain ⟨a,o,rfl,_⟩:=h;simp
theorem ZnS:Zci X (fun x y H Q=>y=.non∧Q (.bl (decide (x=.non))) H) f (eC .non) (tIsN f):=⟨fun env k e=>by
 unfold tIsN at e
 split at e
 ·rename_i x h1
  cases e
  exact ⟨x,.non,h1,rfl,fun v w H' Q r1 r2 q=>⟨by simpa [Rep] using r2,by rw [ZjO r1];exact q⟩⟩
 ·cases e⟩
theorem ZjA:Zci X (fun x y H Q=>y=.non∧Q (.bl (!decide (x=.non))) H) f (eC .non) (tNoN f):=⟨fun env k e=>by
 unfold tNoN at e
 split at e
 ·rename_i x h1
  cases e
  exact ⟨x,.non,h1,rfl,fun v w H' Q r1 r2 q=>⟨by simpa [Rep] using r2,by rw [ZjO r1];exact q⟩⟩
 ·cases e⟩
theorem ZlB {j p2}(ha:PD X m1 a f):PTd X (.Compare a [.Is] [.Constant .none j p2] pos) (tIsN f):=ZaV L2.Zoy ZnS (L2.ZaZ _) ha (ZbF (m:=.r))
theorem ZdB {j p2}(ha:PD X m1 a f):PTd X (.Compare a [.IsNot] [.Constant .none j p2] pos) (tNoN f):=ZaV L2.Zjs ZjA (L2.ZaZ _) ha (ZbF (m:=.r))
theorem ZoT {j p2}(ha:PD X m1 a f):PD X m (.Compare a [.IsNot] [.Constant .none j p2] pos) (eB (tNoN f)):=Zej L2.Zjs ZjA (L2.ZaZ _) ha (ZbF (m:=.r))
noncomputable def PWd (X:Cx) (e:Expr) (t:Tx):Prop:=PW X e (tTst X.K t)
theorem pw_t (h:PWd X a t):PTd X a t:=h _
theorem Zd1 (ha:PTd X a t):PWd X (.BoolOp .And [a] pos) t:=L2.Znz ha
theorem ZfP (ha:PTd X a t):PWd X (.BoolOp .Or [a] pos) t:=L2.Zpi ha
theorem ZiQ (ha:PTd X a t)(hb:PWd X (.BoolOp .And (b::rest) pos) u):PWd X (.BoolOp .And (a::b::rest) pos) (tAnd t u):=PW.of (L2.ZoP ha hb) fun σ H Q hh_=>el9 hh_ fun BF BH F env L k S e q=>by
 unfold tAnd at e
 split at e
 ·rename_i h1
  exact ⟨BF,BH,F,env,L,true,S,h1,fun F' H' z=>L2.iteT (⟨BF,BH,F',env,L,k,S.ext z,e,fun F2 H2 z2=>q F2 H2 (z.trans z2)⟩)⟩
 ·rename_i h1
  cases e
  exact ⟨BF,BH,F,env,L,false,S,h1,fun F' H' z=>L2.iteF (q F' H' z)⟩
 ·cases e
theorem ZhF (ha:PTd X a t)(hb:PWd X (.BoolOp .Or (b::rest) pos) u):PWd X (.BoolOp .Or (a::b::rest) pos) (tOr t u):=PW.of (L2.ZpT ha hb) fun σ H Q hh_=>el9 hh_ fun BF BH F env L k S e q=>by
 unfold tOr at e
 split at e
 ·rename_i h1
  cases e
  exact ⟨BF,BH,F,env,L,true,S,h1,fun F' H' z=>L2.iteT (q F' H' z)⟩
 ·rename_i h1
  exact ⟨BF,BH,F,env,L,false,S,h1,fun F' H' z=>L2.iteF (⟨BF,BH,F',env,L,k,S.ext z,e,fun F2 H2 z2=>q F2 H2 (z.trans z2)⟩)⟩
 ·cases e
theorem ZcP (ha:PTd X a t):PTd X (.UnaryOp .Not a pos) (tNot t):=PT.of (L2.ZcP ha) fun σ H Q hh_=>el9 hh_ fun BF BH F env L k S e q=>by
 unfold tNot at e
 split at e
 ·rename_i k' h1
  cases e
  exact ⟨BF,BH,F,env,L,k',S,h1,fun F' H' z=>q F' H' z⟩
 ·cases e
theorem ZdW (ha:PD X m a (eB t)):PD X m (.BoolOp .And [a] pos) (eB t):=PD.mk <| L2.ZoK ha.h
theorem ZoD {env:Env}{d:D}(h:eB t env=some d):∃ k,t env=some k∧d=.bl k:=by
 unfold eB at h
 split at h
 ·rename_i k hk;cases h;exact ⟨k,hk,rfl⟩
 ·cases h
theorem Zkh {env:Env}{k:Bool}(h:t env=some k):eB t env=some (.bl k):=by unfold eB;rw [h]
theorem Zii (ha:PD X m1 a (eB t))(hb:PD X m2 (.BoolOp .And (b::rest) pos) (eB u)):PD X m (.BoolOp .And (a::b::rest) pos) (eB (tAnd t u)):=PD.mk <| PE.of (L2.ZoX ha.h hb.h) fun σ H Q hh_=>el9 hh_ fun BF BH F env L d S e q=>by
 obtain ⟨k,hk,rfl⟩:=ZoD e
 unfold tAnd at hk
 split at hk
 ·rename_i h1
  exact ⟨BF,BH,F,env,L,_,S,Zkh h1,fun v F' H' z r=>⟨true,Zf8 r,L2.iteT (⟨BF,BH,F',env,L,_,S.ext z,Zkh hk,fun w F2 H2 z2 r2=>q w F2 H2 (z.trans z2) (r2.scal rfl)⟩)⟩⟩
 ·rename_i h1
  cases hk
  exact ⟨BF,BH,F,env,L,_,S,Zkh h1,fun v F' H' z r=>⟨false,Zf8 r,L2.iteF (q _ F' H' z (by simp [Rep]))⟩⟩
 ·cases hk
end
end PV
set_option linter.all false
set_option Elab.async false
set_option maxRecDepth 100000
set_option maxHeartbeats 4000000
namespace PV
open PySem PySem.Spec PyProof.Rows
open L2 (V Hp HO Vals SqL SqT Same upd Cx PE PT PW PA PS PSs TE TT TA TS Inv RelV Yc Jd Jc)
structure Bt (mg:Str→Option Value):Prop where
 len:mg "len"=none
 range:mg "range"=none
 list:mg "list"=none
 all:mg "all"=none
 isinstance:mg "isinstance"=none
 max:mg "max"=none
 int:mg "int"=none
 bool:mg "bool"=none
 str:mg "str"=none
 tuple:mg "tuple"=none
 sorted:mg "sorted"=none
 set:mg "set"=none
 any:mg "any"=none
 enumerate:mg "enumerate"=none
 dict:mg "dict"=none
theorem Zd0:lim≤sizeLine:=by rw [sizeLine_eq];decide
theorem Zlj:lim < sizeLine:=by rw [sizeLine_eq];decide
section
variable {X:Cx} {m m1 m2 m3:Md} {a b c e:Expr} {es:List Expr} {f g h:Ex} {fs:List Ex} {t u:Tx} {pos:Pos}
noncomputable def tAs (K:PySem.W.Frag) (m:Md) (fs:List Ex):TA:=fun σ H Q=>∃ BF BH F env L ds,SOk K BF BH F H σ env L∧evs fs env=some ds ∧
 ∀ vs F' H',Ext F H F' H'→Reps K (hpM BH F' H' m) ds vs→Q vs H'
structure PAd (X:Cx)(m:Md)(es:List Expr)(fs:List Ex):Prop where
 h:PA X es (tAs X.K m fs)
theorem PA.of {X:Cx}{e:List Expr}{t t':TA}(h:PA X e t')(i:∀ σ H Q,t σ H Q→t' σ H Q):PA X e t:=fun pos pins s σ H Q I q=>h pos pins s σ H Q I (i σ H Q q)
theorem Zc:PAd X m [] []:=PAd.mk <| PA.of L2.YG fun σ H Q hh_=>el9 hh_ fun BF BH F env L ds S e q=>by
 cases e;exact q [] F H (.refl S.fh) Reps.nil
theorem Ja (ha:PD X m e f)(hr:PAd X m es fs)(hs:nst e=true:=by rfl):PAd X m (e::es) (f::fs) :=
 PAd.mk <| PA.of (L2.Jv ha.h hr.h (Jk hs)) fun σ H Q hh_=>el9 hh_ fun BF BH F env L ds S e q=>by
  simp only [evs] at e
  split at e
  ·rename_i d ds' h1 h2
   cases e
   exact ⟨BF,BH,F,env,L,d,S,h1,fun v F1 H1 x1 r1=>⟨BF,BH,F1,env,L,ds',S.ext x1,h2,fun vs F2 H2 x2 r2=>q (v::vs) F2 H2 (x1.trans x2) (Reps.cons (Rep.mono (ZbM x2 m) _ _ r1) r2)⟩⟩
  ·cases e
theorem Zg8 {env:Env}:∀ {fs:List Ex} {ds:List D},evs fs env=some ds→ds.length=fs.length
 | [],ds,h=>by cases h;rfl
 | f::fs,ds,h=>by
  simp only [evs] at h
  split at h
  ·rename_i d ds' h1 h2;cases h;simp [Zg8 h2]
  ·cases h
theorem Zbk {K:PySem.W.Frag}{BF BH F F1 H H1:Hp}{σ:L2.St}{env:Env}{L:Nat→List Addr}(S:SOk K BF BH F H σ env L)(x:Ext F H F1 H1){p:Addr}(hp:H1 p=none)(o:HO) :
  Ext F H F1 (upd H1 p o)∧H p=none∧F1 p=none∧Same (hpM BH F1 H1 m) (hpM BH F1 (upd H1 p o) m) :=
 ⟨x.trans (Ext.own x.fh hp),x.hh.free hp,x.fh.free hp,ZbM (Ext.own x.fh hp) m⟩
theorem Za3 (ha:PAd X m es fs)(hl:fs.length≤1000:=by decide):PDo X m (.List es pos) (eLst fs):=PE.of (L2.ZlQ ha.h) fun σ H Q hh_=>el9 hh_ fun BF BH F env L ds S e q=>by
 unfold eLst at e
 split at e
 ·rename_i ds' h1
  cases e
  refine ⟨BF,BH,F,env,L,ds,S,h1,fun vs F' H' x r=>⟨?_,fun p hp=>?_⟩⟩
  ·rw [← r.length,Zg8 h1];exact Nat.le_trans hl (by rw [sizeLine_eq];decide)
  ·obtain ⟨y,h0,h2,s⟩:=Zbk (m:=m) S x hp (HO.lst vs)
   exact q p vs F' _ y h0 Yc h2 (Reps.mono s _ _ r)
 ·cases e
theorem Zmm {env:Env}{d:D}(h:eLst fs env=some d):∃ ds,d=.lst ds:=by
 unfold eLst at h
 split at h
 ·cases h;exact ⟨_,rfl⟩
 ·cases h
theorem Yn (ha:PAd X m es fs)(hl:fs.length≤1000:=by decide):PD X m (.List es pos) (eLst fs):=(Za3 ha hl).d fun env d h=>Zmm h
theorem ZaX {x1}(ha:PAd X m es fs)(hl:fs.length≤1000:=by decide):PD X m (.Tuple es x1 pos) (eTup fs):=PD.mk <| PE.of (L2.Zpc ha.h) fun σ H Q hh_=>el9 hh_ fun BF BH F env L d S e q=>by
 unfold eTup at e
 split at e
 ·rename_i ds' h1
  cases e
  refine ⟨BF,BH,F,env,L,ds',S,h1,fun vs F' H' x r=>⟨?_,fun p hp=>?_⟩⟩
  ·rw [← r.length,Zg8 h1];exact Nat.le_trans hl (by rw [sizeLine_eq];decide)
  ·have y:=Ext.laid (o:=HO.tup vs) x.fh hp
   refine q (.ref p) _ _ (x.trans y) ?_
   simp only [Rep]
   refine ⟨p,vs,rfl,.inl (.inl ?_),Reps.mono (ZbM y m) _ _ r⟩
   cases m with
   | r=>exact Yc
   | k=>exact Yc
   | f=>show cut _ _ p=_;rw [ZbO (S.s0.free (x.hh.free hp))];exact Yc
 ·cases e
theorem Zj7 {prog:Program}{w:World}{A:Around}{E:Value→Shared→Prop}{s:Shared}{l b:Addr}{its its2:Array Value}{Q:Value→Shared→Prop}(hl:s.heap.IsList l its)(hb:s.heap.IsList b its2)
  (h:Q (.ref s.heap.objs.size) { s with heap:=s.heap.push { cls:=.type "list",data:=.seq (its++its2) } }) (hsz:its.size + its2.size≤sizeLine):wpAny (model prog w) A (binaryOp .Add (.ref l) (.ref b)) Q E s:=by
 obtain ⟨⟨cls,dd,data,sl⟩,ho,hc,n,hd⟩:=id hl
 obtain ⟨⟨cls2,dd2,data2,sl2⟩,ho2,hc2,n2,hd2⟩:=id hb
 simp only at hc hd hc2 hd2
 subst hc hd hc2 hd2
 exact concat_meets ⟨_,ho,rfl⟩ ⟨_,ho2,rfl⟩ noFill_list_add seq_list_add PySem.F.slot_list_add PySem.F.entry_list_add (PySem.F.args_list_add_2 _ _) (list_addW l b its its2 n n2 dd dd2 sl sl2 hsz) ⟨ho,ho2,h⟩
theorem Zn1:L2.OpR X (binaryOp .Add) (fun x y H Q=>∃ l b xs zs,x=.ref l∧y=.ref b∧SqL X.K H l xs∧SqL X.K H b zs∧xs.length + zs.length≤sizeLine∧∀ p,H p=none→Q (.ref p) (upd H p (.lst (xs++zs)))):=by
 intro pins s σ H x y v u Q I rx ry h
 obtain ⟨l,b,xs,zs,rfl,rfl,hH,hB,hz,q⟩:=h
 cases rx
 cases ry
 obtain ⟨its,r,p,z⟩:=I.list hH
 obtain ⟨its2,r2,p2,z2⟩:=I.list hB
 have hl:=r.length
 have hl2:=r2.length
 have ea:its.toArray++its2.toArray=(its++its2).toArray:=by simp
 refine Zj7 p.isList p2.isList ?_ (by rw [List.size_toArray,List.size_toArray];omega)
 rw [ea]
 exact ⟨.ref _,_,I.lnew (t':=s.toks) (r.append r2) (by rw [List.length_append];omega),rfl,q _ I.fresh⟩
theorem YF (ha:PD X m a f)(hb:PD X m b g):PD X m (.BinOp a .Add b pos) (eAdd f g):=PD.mk <| PE.of (L2.ZkA (L2.OpR.or L2.Zo3 Zn1) ha.h hb.h) fun σ H Q hh_=>el9 hh_ fun BF BH F env L d S e q=>by
 unfold eAdd eF2 at e
 split at e
 ·rename_i x y h1 h2
  unfold fAdd at e
  split at e
  ·cases e
   exact two S h1 h2 fun v w F' H' z r1 r2=>.inl ⟨_,_,Zr r1,Zr r2,q _ F' H' z (by simp [Rep])⟩
  ·split at e
   ·rename_i xs ys hl
    cases e
    refine two S h1 h2 fun v w F' H' z r1 r2=>.inr ?_
    simp only [Rep] at r1 r2
    obtain ⟨p1,vs,rfl,s1,t1⟩:=r1
    obtain ⟨p2,ws,rfl,s2,t2⟩:=r2
    have hh:=Zgr (BH:=BH) z.fh m
    refine ⟨p1,p2,vs,ws,rfl,rfl,hh.seq s1,hh.seq s2,?_,fun p hp=>?_⟩
    ·rw [← t1.length,← t2.length];exact Nat.le_trans hl Zd0
    ·have y:=Ext.laid (o:=HO.lst (vs++ws)) z.fh hp
     refine q (.ref p) _ _ (z.trans y) ?_
     simp only [Rep]
     refine ⟨p,_,rfl,.inl (.inl ?_),Reps.mono (ZbM y m) _ _ (t1.append t2)⟩
     cases m with
     | r=>exact Yc
     | k=>exact Yc
     | f=>show cut _ _ p=_;rw [ZbO (S.s0.free (z.hh.free hp))];exact Yc
   ·cases e
  ·cases e
 ·cases e
theorem ZlA {K:PySem.W.Frag}{H:Hp}{ds:List D}{vs:List V}{i:Int}{d:D}(r:Reps K H ds vs)(h:atD ds i=some d):∃ v,L2.atI vs i=some v∧Rep K H d v:=by
 unfold atD at h
 unfold L2.atI
 rw [← r.length]
 show ∃ v,((ixN ds.length i).bind fun j=>vs[j]?)=some v∧_
 cases e:ixN ds.length i with
 | none=>rw [e] at h;cases h
 | some j =>
  rw [e] at h
  obtain ⟨v,h1,h2⟩:=r.get (i:=j) h
  exact ⟨v,h1,h2⟩
theorem Zj (ha:PD X m a f)(hb:PD X m1 b g)(hs:L2.ZgK b:=by exact fun _ _=>rfl):PD X m (.Subscript a b pos) (eIx f g):=PD.mk <| PE.of (L2.Zm8 L2.Zph ha.h hb.h hs) fun σ H Q hh_=>el9 hh_ fun BF BH F env L d S e q=>by
 unfold eIx eF2 at e
 split at e
 ·rename_i x y h1 h2
  refine two S h1 h2 fun v w F' H' z r1 r2=>?_
  have hh:=Zgr (BH:=BH) z.fh m
  unfold fIx at e
  split at e
  ·simp only [Rep] at r1
   obtain ⟨p,vs,rfl,s1,t1⟩:=r1
   obtain ⟨v',k1,k2⟩:=ZlA t1 e
   exact .inl ⟨p,vs,_,v',rfl,Zr r2,hh.seq s1,k1,q _ F' H' z k2⟩
  ·simp only [Rep] at r1
   obtain ⟨p,vs,rfl,s1,t1⟩:=r1
   obtain ⟨v',k1,k2⟩:=ZlA t1 e
   exact .inr (.inl ⟨p,vs,_,v',rfl,Zr r2,seqT hh s1,k1,q _ F' H' z k2⟩)
  ·cases e
 ·cases e
theorem Zkt {x:Str}{id:String}{p:Pos}{r:List V→Hp→L2.VK→Prop}{φ:D→Option D}(hc:L2.ZbB X (.builtin id) r)(hm:X.mg x=none)(hv:bootBuiltins x=some (.builtin id))
  (hφ:∀ d y H' v (Q:V→Hp→Prop),φ d=some y→Rep X.K H' d v→(∀ w,Rep X.K H' y w→Q w H')→r [v] H' Q∧ZaN y=true)
  (ha:PD X m1 a f) (hg:X.env.kindOf x=some .globalImplicit:=by kernel_rfl) (hn:x≠"__name__":=by decide) (hdb:(x == ("__debug__":Str))=false:=by kernel_rfl) (hs:nst a=true:=by rfl):PD X m (.Call (.Name x p) [a] [] pos) (eF1 φ f) :=
 PD.mk <| PE.of (L2.Zix hc hg hm hv (L2.Jv ha.r.h L2.YG (Jq hs)) hn hdb (Jk hs) rfl) fun σ H Q hh_=>el9 hh_ fun BF BH F env L d S e q=>by
  unfold eF1 at e
  split at e
  ·rename_i y h1
   refine ⟨BF,BH,F,env,L,y,S,h1,fun v F' H' z r1=>?_⟩
   have sc:=(hφ y d H' v (fun _ _=>True) e r1 (fun _ _=>trivial)).2
   exact (hφ y d H' v Q e r1 fun w rw=>q w F' H' z (rw.scal sc)).1
  ·cases e
theorem Jo {p:Pos} (T:Bt X.mg) (ha:PD X m1 a f) (hg:X.env.kindOf "len"=some .globalImplicit:=by kernel_rfl) (hs:nst a=true:=by rfl):PD X m (.Call (.Name "len" p) [a] [] pos) (eF1 fLen f) :=
 Zkt L2.ZhV T.len PySem.boot_len (fun d y H' v Q e r k=>by
  unfold fLen at e
  split at e
  ·cases e
   simp only [Rep] at r
   obtain ⟨p,vs,rfl,s1,t1⟩:=r
   exact ⟨⟨p,vs,rfl,.inl s1,k _ (by simp [Rep,t1.length])⟩,rfl⟩
  ·cases e
   simp only [Rep] at r
   obtain ⟨p,vs,rfl,s1,t1⟩:=r
   exact ⟨⟨p,vs,rfl,.inr s1,k _ (by simp [Rep,t1.length])⟩,rfl⟩
  ·cases e) ha hg (by decide) (by decide) hs
theorem Zlc (hc : X.calm = true) : L2.ZbB X (.builtin "all") (fun xs H Q => ∃ (p : Addr) (bs : List Bool), xs = [.ref p] ∧ SqL X.K H p (bs.map V.bl) ∧ Q (.bl (bs.all fun b => b)) H) := by
  intro pins s σ H xs us Q I r h
  obtain ⟨p, bs, rfl, hq, q⟩ := h
  obtain ⟨u, rfl, ru⟩ := r.one
  cases ru
  obtain ⟨its, rv, pl, hz⟩ := I.list hq
  have hlt : p < s.heap.objs.size := by obtain ⟨o, e, _⟩ := pl.isList; exact Heap.lt_size e
  refine call_all_walk (wpAny_pyIter_list pl.isList ?_)
  have hlen : its.length = bs.length := by have := rv.length; rw [List.length_map] at this; exact this.symm
  have tru : ∀ (j : Nat) (v : Value), its[j]? = some v → v = .bool (bs.getD j true) := fun j v hj => by
    have hjl : j < bs.length := by rw [← hlen]; exact (List.getElem?_eq_some_iff.mp hj).1
    obtain ⟨w, h1, h2⟩ := rv.get (i := j) (x := V.bl bs[j]) (by simp [hjl])
    rw [hj] at h1; cases h1
    have : v = .bool bs[j] := h2
    rw [this]; simp [List.getD, hjl]
  refine ⟨s.heap.objs.size, _, _, _, _, _, fun j => bs.getD j true, rfl, Walks.list (show (X.A.in1).handled = none from I.ok.hd hc) s.heap.objs.size p (Nat.ne_of_lt hlt) its.toArray, ⟨⟨_, Heap.get?_push_size _ rfl, rfl, rfl⟩, pl.isList.push _⟩, ?_, fun h' tk hk => ?_⟩
  · intro i v s' Q' E' hP hq'
    have e := tru i v (by simpa using hP)
    subst e
    exact wpAny_truthy_bool hq'
  · have e : (List.range its.toArray.size).all (fun j => bs.getD j true) = bs.all fun b => b := by
      rw [List.size_toArray, hlen]
      clear tru hlen rv hq q hz
      induction bs with
      | nil => rfl
      | cons b bs ih => rw [List.length_cons, List.range_succ_eq_map, List.all_cons, List.all_map]; rw [List.all_cons]; congr 1
    rw [e]
    refine ⟨.bl _, H, I.kept (h' := h') (t' := tk) fun b o eo => ?_, rfl, q⟩
    exact hk b o (by simp; exact Nat.ne_of_lt (Heap.lt_size eo)) (Heap.get?_push_of_some _ eo)
theorem ZhX {K:PySem.W.Frag}{H:Hp}:∀ {xs:List D} {vs:List V} {b:Bool},allB xs=some b→Reps K H xs vs→∃ bs:List Bool,vs=bs.map V.bl∧(bs.all fun b=>b)=b
 | [],vs,b,h,r=>by simp only [Reps] at r;subst r;cases h;exact ⟨[],rfl,rfl⟩
 | .bl c::xs,vs,b,h,r=>by
  simp only [Reps] at r
  obtain ⟨v,t,rfl,h1,h2⟩:=r
  simp only [allB] at h
  cases e:allB xs with
  | none=>rw [e] at h;cases h
  | some d =>
   rw [e] at h
   cases h
   obtain ⟨bs,rfl,rfl⟩:=ZhX e h2
   obtain rfl:=Zf8 h1
   exact ⟨c::bs,rfl,rfl⟩
 | .non::_,_,_,h,_=>by simp [allB] at h
 | .int _::_,_,_,h,_=>by simp [allB] at h
 | .str _::_,_,_,h,_=>by simp [allB] at h
 | .lst _::_,_,_,h,_=>by simp [allB] at h
 | .tup _::_,_,_,h,_=>by simp [allB] at h
theorem Zd7 {p:Pos} (T:Bt X.mg) (ha:PD X m1 a f) (hc:X.calm=true:=by rfl) (hg:X.env.kindOf "all"=some .globalImplicit:=by kernel_rfl) (hs:nst a=true:=by rfl):PD X m (.Call (.Name "all" p) [a] [] pos) (eF1 fAll f) :=
 Zkt (Zlc hc) T.all boot_all (fun d y H' v Q e r k=>by
  unfold fAll at e
  split at e
  ·split at e
   ·rename_i b hb
    cases e
    simp only [Rep] at r
    obtain ⟨p,vs,rfl,s1,t1⟩:=r
    obtain ⟨bs,rfl,rfl⟩:=ZhX hb t1
    exact ⟨⟨p,bs,rfl,s1,k _ (by simp [Rep])⟩,rfl⟩
   ·cases e
  ·cases e) ha hg (by decide) (by decide) hs
end
end PV
set_option linter.all false
set_option Elab.async false
set_option maxRecDepth 100000
set_option maxHeartbeats 4000000
namespace PV
open PySem PySem.Spec PyProof.Rows
open L2 (V Hp HO Vals SqL SqT Same upd Cx PE PT PW PA PS PSs TE TT TA TS Inv RelV Yc Jd Jc)
section
variable {X:Cx} {m m1 m2 m3:Md} {a b c e:Expr} {es:List Expr} {f g h:Ex} {fs:List Ex} {t u:Tx} {pos:Pos}
theorem ZgN {p:Pos} (T:Bt X.mg) (ha:PD X m a f) (hg:X.env.kindOf "list"=some .globalImplicit:=by kernel_rfl) (hs:nst a=true:=by rfl):PDo X m (.Call (.Name "list" p) [a] [] pos) (eF1 Y5 f) :=
 PE.of (L2.Zb9 L2.ZeB hg T.list (by decide +kernel) (L2.Jv ha.h L2.YG (Jq hs)) (by decide) (by decide) (Jk hs) rfl) fun σ H Q hh_=>el9 hh_ fun BF BH F env L ds S e q=>by
  unfold eF1 at e
  split at e
  ·rename_i y h1
   refine ⟨BF,BH,F,env,L,y,S,h1,fun v F' H' z r1=>?_⟩
   have hm:=Zgr (BH:=BH) z.fh m
   unfold Y5 at e
   split at e
   ·cases e
    simp only [Rep] at r1
    obtain ⟨p,vs,rfl,s1,t1⟩:=r1
    refine ⟨p,vs,rfl,.inl (hm.seq s1),fun l hl=>?_⟩
    obtain ⟨y,h0,h2,s⟩:=Zbk (m:=m) S z hl (HO.lst vs)
    exact q l vs F' _ y h0 Yc h2 (Reps.mono s _ _ t1)
   ·cases e
    simp only [Rep] at r1
    obtain ⟨p,vs,rfl,s1,t1⟩:=r1
    refine ⟨p,vs,rfl,.inr (seqT hm s1),fun l hl=>?_⟩
    obtain ⟨y,h0,h2,s⟩:=Zbk (m:=m) S z hl (HO.lst vs)
    exact q l vs F' _ y h0 Yc h2 (Reps.mono s _ _ t1)
   ·cases e
  ·cases e
theorem Zef {env:Env}{d:D}(h:eF1 Y5 f env=some d):∃ ds,d=.lst ds:=by
 unfold eF1 at h
 split at h
 ·unfold Y5 at h
  split at h
  ·cases h;exact ⟨_,rfl⟩
  ·cases h;exact ⟨_,rfl⟩
  ·cases h
 ·cases h
theorem ZgI {p:Pos} (T:Bt X.mg) (ha:PD X m a f) (hg:X.env.kindOf "list"=some .globalImplicit:=by kernel_rfl) (hs:nst a=true:=by rfl):PD X m (.Call (.Name "list" p) [a] [] pos) (eF1 Y5 f) :=
 (ZgN T ha hg hs).d fun env d h=>Zef h
theorem ZhW {x:D}:∀ {ys:List D} {j:Nat},idxD x ys=some j→j < ys.length∧(∀ h:j < ys.length,eqD ys[j] x=true)∧∀ i (h:i < ys.length),i < j→eqD ys[i] x=false
 | [],j,h=>by simp [idxD] at h
 | y::ys,j,h=>by
  simp only [idxD] at h
  split at h
  ·rename_i hy
   cases h
   exact ⟨by simp,fun _=>hy,fun i _ hi=>by omega⟩
  ·rename_i hy
   cases e:idxD x ys with
   | none=>rw [e] at h;cases h
   | some k =>
    rw [e] at h
    cases h
    obtain ⟨h1,h2,h3⟩:=ZhW e
    refine ⟨by simpa using h1,fun _=>by simpa using h2 h1,fun i hi hik=>?_⟩
    cases i with
    | zero=>simpa using hy
    | succ i=>simpa using h3 i (by simpa using hi) (by omega)
theorem ZkS (hu:X.A.units + 64 < cLine):L2.MtR X "list.index" (fun x xs H Q=>∃ (dx:D) (y:V) (ys:List D) (j:Nat),xs=[y]∧Rep X.K H (.lst ys) x∧Rep X.K H dx y∧(D.deps ys≤8∧dx.dep≤8)∧idxD dx ys=some j∧Q (.int j) H):=by
 intro pins s σ H x xs v us Q I rx rv h
 obtain ⟨dx,y,ys,j,rfl,h1,h2,hd,hj,q⟩:=h
 obtain ⟨u,rfl,ru⟩:=rv.one
 have hx:=J7 I _ _ _ (by omega) h2 ru
 have hz:ys.length≤sizeLine:=by
  simp only [Rep] at h1
  obtain ⟨p,vs,rfl,hs,t⟩:=h1
  obtain ⟨_,_,_,z⟩:=I.list hs
  rw [t.length];exact z
 have hy:=J7 I _ _ _ (by simp only [D.dep];omega) h1 rx
 simp only [Hr] at hy
 obtain ⟨p,its,rfl,hl,hr⟩:=hy
 have hin:X.A.in1.units + D.deps ys < cLine:=by show X.A.units + 1 + _ < _;omega
 have hlen:=hr.length
 obtain ⟨j1,j2,j3⟩:=ZhW hj
 have js:(j:Int) < 2 ^ 63 - 1:=by rw [sizeLine_eq] at hz;omega
 obtain ⟨⟨cls,dd,data,sl⟩,ho,hc,n,hdt⟩:=id hl
 simp only at hc hdt
 subst hc hdt
 refine call_meets PySem.F.slot_list_index ⟨_,ho,rfl⟩ PySem.F.entry_list_index (PySem.F.args_list_index_2 _ _)
  (SeqAt.list_indexAt p its.toArray n dd sl u (eqH s dx) j (by simp;omega) js ?_ ?_) ⟨ho,fun y hy=>Zcs hx hin hr y (by simpa using hy),?_⟩
 all_goals first
  | exact ⟨.int j,H,I.tok _,⟨_,rfl⟩,q⟩
  | skip
 ·have e:=hr.get j1 (by omega)
  have:=Zgm (x:=dx) e
  simp only [List.getElem_toArray]
  rw [this]
  exact j2 j1
 ·intro i hi hij
  have i1:i < ys.length:=by rw [hlen];simpa using hi
  have e:=hr.get i1 (by omega)
  have:=Zgm (x:=dx) e
  simp only [List.getElem_toArray]
  rw [this]
  exact j3 i i1 hij
end
end PV
set_option linter.all false
set_option Elab.async false
set_option maxRecDepth 100000
set_option maxHeartbeats 4000000
namespace PV
open PySem PySem.Spec PyProof.Rows
open L2 (V Hp HO Vals SqL SqT Same upd Cx PE PT PW PA PS PSs TE TT TA TS Inv RelV Yc Jd Jc)
noncomputable def putL (L:Nat→List Addr) (i:Nat) (l:List Addr):Nat→List Addr:=fun j=>if j=i then l else L j
theorem Zao {L:Nat→List Addr}{i:Nat}{l:List Addr}:putL L i l i=l:=by unfold putL;rw [if_pos rfl]
theorem ZaS {L:Nat→List Addr}{i j:Nat}{l:List Addr}(h:j≠i):putL L i l j=L j:=by unfold putL;rw [if_neg h]
section
variable {K:PySem.W.Frag} {BF BH F H:Hp} {σ:L2.St} {env:Env} {L:Nat→List Addr}
theorem SOk.Zm0 (S:SOk K BF BH F H σ env L):Ext BF BH F H:=⟨S.s0,S.f0,S.fd,S.fh⟩
theorem SOk.set (S:SOk K BF BH F H σ env L)(i:Nat){s:Sl}{v:V}{l:List Addr}(hs:SlOk K BH F H s (some v) l)(ho:∀ a ∈ l,F a=none∧BH a=none∧H a≠none)(hd:∀ a ∈ l,∀ j,j≠i→a ∉ L j) :
  SOk K BF BH F H (σ.set i (some v)) (env.set i s) (putL L i l) where
 s0:=S.s0
 f0:=S.f0
 fh:=S.fh
 fd:=S.fd
 ow:=fun j a h=>by
  by_cases hj:j=i
  ·subst hj;rw [Zao] at h;exact ho a h
  ·rw [ZaS hj] at h;exact S.ow j a h
 dj:=fun j k a h1 h2=>by
  by_cases hj:j=i
  ·subst hj
   rw [Zao] at h1
   by_cases hk:k=j
   ·exact hk.symm
   ·rw [ZaS hk] at h2;exact absurd h2 (hd a h1 k hk)
  ·rw [ZaS hj] at h1
   by_cases hk:k=i
   ·subst hk;rw [Zao] at h2;exact absurd h1 (hd a h2 j hj)
   ·rw [ZaS hk] at h2;exact S.dj j k a h1 h2
 len:=by rw [List.length_set,List.length_set];exact S.len
 sl:=fun j s' h=>by
  by_cases hj:i=j
  ·subst hj
   have hlt:i < env.length:=by have:=(List.getElem?_eq_some_iff.mp h).1;rwa [List.length_set] at this
   rw [List.getElem?_set_self hlt] at h
   cases h
   exact ⟨some v,List.getElem?_set_self (by rw [S.len];exact hlt),by rw [Zao];exact hs⟩
  ·rw [List.getElem?_set_ne hj] at h
   obtain ⟨ov,h1,h2⟩:=S.sl j s' h
   exact ⟨ov,by rw [List.getElem?_set_ne hj];exact h1,by rw [ZaS (Ne.symm hj)];exact h2⟩
theorem SOk.ZdH (S:SOk K BF BH F H σ env L)(i:Nat){d:D}{v:V}(r:Rep K F d v):SOk K BF BH F H (σ.set i (some v)) (env.set i (.sh d)) (putL L i []) :=
 S.set i ⟨v,rfl,r⟩ (fun a h=>by cases h) (fun a h=>by cases h)
noncomputable def frzH (F H:Hp) (l:List Addr):Hp:=fun b=>if b ∈ l then H b else F b
theorem Zbq {F H:Hp}{l:List Addr}{b:Addr}(h:b ∈ l):frzH F H l b=H b:=by unfold frzH;rw [if_pos h]
theorem Zbj {F H:Hp}{l:List Addr}{b:Addr}(h:b ∉ l):frzH F H l b=F b:=by unfold frzH;rw [if_neg h]
theorem SOk.frz (S:SOk K BF BH F H σ env L)(i:Nat){s s':Sl}(he:env[i]?=some s)(hs:∀ ov,σ[i]?=some ov→SlOk K BH F H s ov (L i)→Same F (frzH F H (L i))→SlOk K BH (frzH F H (L i)) H s' ov []) :
  SOk K BF BH (frzH F H (L i)) H σ (env.set i s') (putL L i []):=by
 have ff:Same F (frzH F H (L i)):=fun b o h=>by
  by_cases hb:b ∈ L i
  ·rw [(S.ow i b hb).1] at h;cases h
  ·rw [Zbj hb];exact h
 refine ⟨S.s0,S.f0.trans ff,fun b o h=>?_,fun b o h=>?_,fun j a h=>?_,fun j k a h1 h2=>?_,by rw [List.length_set];exact S.len,fun j t h=>?_⟩
 ·by_cases hb:b ∈ L i
  ·rw [Zbq hb] at h;exact h
  ·rw [Zbj hb] at h;exact S.fh _ _ h
 ·by_cases hb:b ∈ L i
  ·exact .inr (S.ow i b hb).2.1
  ·rw [Zbj hb] at h;exact S.fd _ _ h
 ·by_cases hj:j=i
  ·subst hj;rw [Zao] at h;cases h
  ·rw [ZaS hj] at h
   obtain ⟨h1,h2,h3⟩:=S.ow j a h
   exact ⟨by rw [Zbj fun z=>hj (S.dj j i a h z)];exact h1,h2,h3⟩
 ·by_cases hj:j=i
  ·subst hj;rw [Zao] at h1;cases h1
  ·by_cases hk:k=i
   ·subst hk;rw [Zao] at h2;cases h2
   ·rw [ZaS hj] at h1;rw [ZaS hk] at h2;exact S.dj j k a h1 h2
 ·by_cases hj:i=j
  ·subst hj
   have hlt:i < env.length:=(List.getElem?_eq_some_iff.mp he).1
   rw [List.getElem?_set_self hlt] at h
   cases h
   obtain ⟨ov,h1,h2⟩:=S.sl i s he
   exact ⟨ov,h1,by rw [Zao];exact hs ov h1 h2 ff⟩
  ·rw [List.getElem?_set_ne hj] at h
   obtain ⟨ov,h1,h2⟩:=S.sl j t h
   exact ⟨ov,h1,by rw [ZaS (Ne.symm hj)];exact h2.ext ff fun a _ o z=>z⟩
theorem SOk.ZeK (S:SOk K BF BH F H σ env L)(i:Nat):Same F (frzH F H (L i)):=fun b o h=>by
 by_cases hb:b ∈ L i
 ·rw [(S.ow i b hb).1] at h;cases h
 ·rw [Zbj hb];exact h
theorem SOk.own (S:SOk K BF BH F H σ env L){i:Nat}{a:Addr}(ha:a ∈ L i)(o:HO){s':Sl}(hs:∀ s ov,env[i]?=some s→σ[i]?=some ov→SlOk K BH F H s ov (L i)→SlOk K BH F (upd H a o) s' ov (L i)) :
  SOk K BF BH F (upd H a o) σ (env.set i s') L:=by
 obtain ⟨fa,ba,ha'⟩:=S.ow i a ha
 refine ⟨fun b u h=>?_,S.f0,fun b u h=>?_,S.fd,fun j c h=>?_,S.dj,by rw [List.length_set];exact S.len,fun j t h=>?_⟩
 ·rw [Jd (Jc h ba)];exact S.s0 _ _ h
 ·rw [Jd (Jc h fa)];exact S.fh _ _ h
 ·obtain ⟨h1,h2,h3⟩:=S.ow j c h
  refine ⟨h1,h2,?_⟩
  by_cases hc:c=a
  ·subst hc;rw [Yc];simp
  ·rw [Jd hc];exact h3
 ·by_cases hj:i=j
  ·subst hj
   have hlt:i < env.length:=by have:=(List.getElem?_eq_some_iff.mp h).1;rwa [List.length_set] at this
   rw [List.getElem?_set_self hlt] at h
   cases h
   obtain ⟨ov,h1,h2⟩:=S.sl i env[i] (by simp [hlt])
   exact ⟨ov,h1,hs _ _ (by simp [hlt]) h1 h2⟩
  ·rw [List.getElem?_set_ne hj] at h
   obtain ⟨ov,h1,h2⟩:=S.sl j t h
   refine ⟨ov,h1,h2.ext (.refl _) fun c hc u z=>?_⟩
   have hca:c≠a:=fun e=>by subst e;exact hj (S.dj i j c ha hc)
   rw [Jd hca]
   exact z
end
noncomputable abbrev RetP:=Hp→Hp→Hp→D→V→Prop
noncomputable def rk (K:PySem.W.Frag) (m:Md):RetP:=fun BH F' H' d v=>Rep K (hpM BH F' H' m) d v
noncomputable def rT (K:PySem.W.Frag):RetP:=fun BH F' H' d v=>∃ a as rs,d=.lst (rs.map .lst)∧v=.ref a∧H' a=some (.lst (as.map .ref))∧Jr K F' H' rs as∧(a::as).Nodup∧∀ b ∈ a::as,BH b=none∧F' b=none
noncomputable def After (D0:L2.Ends) (m:RetP) (BH F' H':Hp) (σ':L2.St):Out→Prop
 | .nx=>D0.nx σ' H'
 | .bk=>D0.bk σ' H'
 | .ct=>D0.ct σ' H'
 | .rt d=>∀ v,m BH F' H' d v→D0.rt v H'
noncomputable def tS (K:PySem.W.Frag) (m:RetP) (g:St):TS:=fun D0 σ H=>∃ BF BH F env L o env',SOk K BF BH F H σ env L∧g env=some (o,env') ∧
 ∀ F' H' σ' L',SOk K BF BH F' H' σ' env' L'→Same F F'→After D0 m BH F' H' σ' o
structure PSd (X:Cx)(m:RetP)(st:List Stmt)(g:St):Prop where
 h:PSs X st (tS X.K m g)
structure PS1 (X:Cx)(m:RetP)(st:Stmt)(g:St):Prop where
 h:PS X st (tS X.K m g)
section
variable {X:Cx} {m:RetP} {m1 m2:Md} {st:Stmt} {rest:List Stmt} {g g2:St} {e a b:Expr} {f fa fb:Ex} {t:Tx} {pos pos':Pos}
theorem Jp:PSd X m [] Jl:=PSd.mk <| PSs.of L2.Znt fun D0 σ H hh_=>el10 hh_ fun BF BH F env L o env' S e k=>by
 cases e;exact k F H σ L S (.refl _)
theorem Jb (h:PS1 X m st g):PSd X m [st] g:=⟨L2.ZnC h.h⟩
theorem Zb (h1:PS1 X m st g)(h2:PSd X m rest g2):PSd X m (st::rest) (sSeq g g2):=PSd.mk <| PSs.of (L2.Zmi h1.h h2.h) fun D0 σ H hh_=>el10 hh_ fun BF BH F env L o env' S e k=>by
 unfold sSeq at e
 split at e
 ·rename_i env1 h1
  exact ⟨BF,BH,F,env,L,.nx,env1,S,h1,fun F' H' σ' L' S' s'=>⟨BF,BH,F',env1,L',o,env',S',e,fun F2 H2 σ2 L2 S2 s2=>k F2 H2 σ2 L2 S2 (s'.trans s2)⟩⟩
 ·rename_i r hne
  cases hr:g env with
  | none=>rw [hr] at e;cases e
  | some p =>
   obtain ⟨o1,e1⟩:=p
   rw [hr] at e
   cases e
   refine ⟨BF,BH,F,env,L,o,env',S,hr,fun F' H' σ' L' S' s'=>?_⟩
   have kk:=k F' H' σ' L' S' s'
   cases o with
   | nx=>exact absurd hr (hne _)
   | bk=>exact kk
   | ct=>exact kk
   | rt d=>exact kk
theorem ZiA {pins:List (Addr × Obj)}{σ:L2.St}{H:Hp}{s:Shared}{a:Addr}{kvs:List (L2.Key × V)}(I:Inv X pins σ H s)(h:H a=some (.dK kvs)):∃ o,Inv X pins σ (upd H a (.frz o (.dK kvs))) s:=by
 have ok:=I.hok a _ h
 obtain ⟨z,y,vs,r,ob,es,ep,e,c⟩:=ok
 refine ⟨ob,?_⟩
 have hne:∀ b o,H b=some o→(∀ kv,o≠.dK kv)→upd H a (.frz ob (.dK kvs)) b=some o:=fun b o hb hn=>by
  have:b≠a:=fun q=>by subst q;rw [h] at hb;cases hb;exact hn _ rfl
  rw [Jd this];exact hb
 have res:=I.un (t':=s.toks) (h':=s.heap) (H':=upd H a (.frz ob (.dK kvs))) ⟨fun b o q _ _ _=>q,fun b o q _ _ _=>⟨o.slots,q⟩,fun b o q n _=>by
  have:b≠a:=fun q=>by subst q;rw [h] at n;cases n
  rw [Jd this];exact n,fun b o q _=>⟨o,q⟩,fun b xs q=>hne b _ q (fun _ z=>by cases z),fun b o u q=>hne b _ q (fun _ z=>by cases z),fun b ps q=>⟨#[],by rw [hne b _ q (fun _ z=>by cases z)];simp⟩⟩ fun b u q=>by
   by_cases hb:b=a
   ·subst hb
    rw [Yc] at q
    cases q
    refine ⟨e,?_⟩
    exact L2.JC.stay (I.hok b _ h) (fun _ _ _ q=>q) (fun c q=>hne c _ q (fun _ z=>by cases z)) fun c xs q=>hne c _ q (fun _ z=>by cases z)
   ·rw [Jd hb] at q
    exact L2.JC.stay (I.hok b _ q) (fun _ _ _ q=>q) (fun c q=>hne c _ q (fun _ z=>by cases z)) fun c xs q=>hne c _ q (fun _ z=>by cases z)
 exact res
theorem Yy (i:Nat){sts:List Stmt}(h2:PSd X m sts g2):PSd X m sts (sSeq (sFrz i) g2):=PSd.mk fun pins s0 σ H D0 I hh_=>el10 hh_ fun BF BH F env L o env' S e k=>by
 unfold sSeq sFrz at e
 cases he:env[i]? with
 | none=>rw [he] at e;cases e
 | some s =>
  rw [he] at e
  cases s with
  | un=>cases e
  | dc kvs =>
   obtain ⟨ov,hσ,hso⟩:=S.sl i _ he
   obtain ⟨p,rfl,hl,h3⟩:=hso
   obtain ⟨ob,I'⟩:=ZiA I h3
   have S1:=S.own (i:=i) (a:=p) (by rw [hl];simp) (HO.frz ob (.dK (kvV kvs))) (s':=.un) fun s ov e1 e2 e3=>trivial
   have hlt:i < env.length:=(List.getElem?_eq_some_iff.mp he).1
   have S2:=S1.frz i (s:=.un) (s':=.sh (.dct kvs)) (List.getElem?_set_self hlt) fun ov h1 h ff=>by
    rw [hσ] at h1;cases h1
    refine ⟨_,rfl,?_⟩
    simp only [Rep]
    exact ⟨p,ob,rfl,by rw [Zbq (by rw [hl];simp)];exact Yc⟩
   rw [List.set_set] at S2
   exact h2.h pins s0 σ _ D0 I' ⟨BF,BH,_,_,_,o,env',S2,e,fun F2 H2 σ2 L2 S2' s2=>k F2 H2 σ2 L2 S2' ((S1.ZeK i).trans s2)⟩
  | jk _=>cases e
  | jl _=>cases e
  | xc _=>cases e
  | nw ds =>
   have S':=S.frz i (s':=.fr (.lst ds)) he fun ov _ h ff=>by
    obtain ⟨p,vs,rfl,hl,h3,r⟩:=h
    refine ⟨_,rfl,?_⟩
    simp only [RepN]
    refine ⟨p,vs,rfl,?_,Zi.mono (ZaI ff) _ _ r⟩
    rw [ZbO ((S.ow i p (by rw [hl];simp)).2.1),Zbq (by rw [hl];simp)];exact h3
   exact h2.h pins s0 σ H D0 I ⟨BF,BH,_,_,_,o,env',S',e,fun F2 H2 σ2 L2 S2 s2=>k F2 H2 σ2 L2 S2 ((S.ZeK i).trans s2)⟩
  | sh d=>exact h2.h pins s0 σ H D0 I ⟨BF,BH,F,env,L,o,env',S,e,k⟩
  | fr d=>exact h2.h pins s0 σ H D0 I ⟨BF,BH,F,env,L,o,env',S,e,k⟩
  | ow ds =>
   have S':=S.frz i (s':=.sh (.lst ds)) he fun ov _ h ff=>by
    obtain ⟨p,vs,rfl,hl,h3,r⟩:=h
    refine ⟨_,rfl,?_⟩
    simp only [Rep]
    exact ⟨p,vs,rfl,.inl (.inl (by rw [Zbq (by rw [hl];simp)];exact h3)),Reps.mono ff _ _ r⟩
   exact h2.h pins s0 σ H D0 I ⟨BF,BH,_,_,_,o,env',S',e,fun F2 H2 σ2 L2 S2 s2=>k F2 H2 σ2 L2 S2 ((S.ZeK i).trans s2)⟩
  | tab rs =>
   have S':=S.frz i (s':=.sh (.lst (rs.map .lst))) he fun ov _ h ff=>by
    obtain ⟨p,as,rfl,hl,nd,h3,r⟩:=h
    refine ⟨_,rfl,?_⟩
    simp only [Rep]
    refine ⟨p,_,rfl,.inl (.inl (by rw [Zbq (by rw [hl];simp)];exact h3)),?_⟩
    have r':Jr X.K (frzH F H (L i)) (frzH F H (L i)) rs as:=r.mono ff fun b hb o z=>by rw [Zbq (by rw [hl];exact List.mem_cons_of_mem _ hb)];exact z
    exact r'.reps (.refl _)
   exact h2.h pins s0 σ H D0 I ⟨BF,BH,_,_,_,o,env',S',e,fun F2 H2 σ2 L2 S2 s2=>k F2 H2 σ2 L2 S2 ((S.ZeK i).trans s2)⟩
theorem ZcM:PS1 X m st Za2:=PS1.mk <| PS.of L2.Zl1 fun D0 σ H ⟨BF,BH,F,env,L,o,env',S,e,k⟩=>by cases e
theorem ZaR (ha:PD X m1 e f)(hs:swapsWith e none pos.line X.env=pure false:=by rfl):PS1 X m (.Expr e pos) (sDo f):=PS1.mk <| PS.of (L2.Zc6 ha.h hs) fun D0 σ H hh_=>el10 hh_ fun BF BH F env L o env' S e k=>by
 unfold sDo at e
 split at e
 ·rename_i d h1
  cases e
  exact ⟨BF,BH,F,env,L,d,S,h1,fun v F' H' z r=>k F' H' σ L (S.ext z) z.ff⟩
 ·cases e
theorem Yi (ha:PD X m1 e f):PS1 X (rk X.K m1) (.Return (some e) pos) (sRet f):=PS1.mk <| PS.of (L2.Zgp ha.h) fun D0 σ H hh_=>el10 hh_ fun BF BH F env L o env' S e k=>by
 unfold sRet at e
 split at e
 ·rename_i d h1
  cases e
  exact ⟨BF,BH,F,env,L,d,S,h1,fun v F' H' z r=>k F' H' σ L (S.ext z) z.ff v r⟩
 ·cases e
theorem Yp {A B:List Stmt}(hc:PTd X e t)(ha:PSd X m A g)(hb:PSd X m B g2):PS1 X m (.If e A B pos) (sIf t g g2):=PS1.mk <| PS.of (L2.ZpM hc ha.h hb.h) fun D0 σ H hh_=>el10 hh_ fun BF BH F env L o env' S e k=>by
 unfold sIf at e
 split at e
 ·rename_i h1
  exact ⟨BF,BH,F,env,L,true,S,h1,fun F' H' z=>L2.iteT ⟨BF,BH,F',env,L,o,env',S.ext z,e,fun F2 H2 σ2 L2 S2 s2=>k F2 H2 σ2 L2 S2 (z.ff.trans s2)⟩⟩
 ·rename_i h1
  exact ⟨BF,BH,F,env,L,false,S,h1,fun F' H' z=>L2.iteF ⟨BF,BH,F',env,L,o,env',S.ext z,e,fun F2 H2 σ2 L2 S2 s2=>k F2 H2 σ2 L2 S2 (z.ff.trans s2)⟩⟩
 ·cases e
theorem Jh (nd:X.N.Nodup)(i:Nat){x:Str}(ha:PD X .k e f)(hi:X.N[i]?=some x:=by kernel_rfl)(hx:locB X.env.scope x=true:=by kernel_rfl)(hs:swapsWith e (some (.Name x pos')) pos.line X.env=pure false:=by rfl)
  (hf:fnB X x=true:=by kernel_rfl):PS1 X m (.Assign [.Name x pos'] e pos) (sSet i f) :=
 PS1.mk <| PS.of (L2.Zdy nd hi (Zak hx) ha.h hs (ZaH hf)) fun D0 σ H hh_=>el10 hh_ fun BF BH F env L o env' S e k=>by
  unfold sSet at e
  split at e
  ·rename_i d h1
   cases e
   exact ⟨BF,BH,F,env,L,d,S,h1,fun v F' H' z r=>k F' H' _ _ ((S.ext z).ZdH i r) z.ff⟩
  ·cases e
theorem Znv {K:PySem.W.Frag}{BF BH F F' H H':Hp}{σ:L2.St}{env:Env}{L:Nat→List Addr}(S:SOk K BF BH F H σ env L)(z:Ext F H F' H')(i:Nat){p:Addr}{vs:List V}{ds:List D}(h0:H p=none)(h1:H' p=some (.lst vs))(h2:F' p=none)(r:Reps K F' ds vs) :
  SOk K BF BH F' H' (σ.set i (some (.ref p))) (env.set i (.ow ds)) (putL L i [p]) :=
 (S.ext z).set i ⟨p,vs,rfl,rfl,h1,r⟩ (fun a h=>by
  rw [List.mem_singleton] at h;subst h
  exact ⟨h2,S.s0.free h0,by rw [h1];simp⟩) (fun a h j hj hm=>by
  rw [List.mem_singleton] at h;subst h
  exact (S.ow j a hm).2.2 h0)
theorem ZbI (nd:X.N.Nodup)(i:Nat){x:Str}(ha:PDo X .k e f)(hi:X.N[i]?=some x:=by kernel_rfl)(hx:locB X.env.scope x=true:=by kernel_rfl)(hs:swapsWith e (some (.Name x pos')) pos.line X.env=pure false:=by rfl)
  (hf:fnB X x=true:=by kernel_rfl):PS1 X m (.Assign [.Name x pos'] e pos) (sOwn i f) :=
 PS1.mk <| PS.of (L2.Zdy nd hi (Zak hx) ha hs (ZaH hf)) fun D0 σ H hh_=>el10 hh_ fun BF BH F env L o env' S e k=>by
  unfold sOwn at e
  split at e
  ·rename_i ds h1
   cases e
   exact ⟨BF,BH,F,env,L,ds,S,h1,fun p vs F' H' z h0 h2 h3 r=>k F' H' _ _ (Znv S z i h0 h2 h3 r) z.ff⟩
  ·cases e
theorem Zgi {K:PySem.W.Frag}{H:Hp}{p:Addr}{vs:List V}(h:H p=some (.lst vs)):L2.tyV K "list" (.ref p) H:=.inl ⟨rfl,vs,.inl (.inl h)⟩
theorem Zkx {K:PySem.W.Frag}{BF BH F H:Hp}{σ:L2.St}{env:Env}{L:Nat→List Addr}(S:SOk K BF BH F H σ env L){i:Nat}{ds:List D}(h:env[i]?=some (.ow ds)):∃ p vs,σ[i]?=some (some (.ref p))∧L i=[p]∧H p=some (.lst vs)∧Reps K F ds vs:=by
 obtain ⟨ov,h1,h2⟩:=S.sl i _ h
 obtain ⟨p,vs,rfl,h3,h4,h5⟩:=h2
 exact ⟨p,vs,h1,h3,h4,h5⟩
theorem Ziy {K:PySem.W.Frag}{BF BH F H:Hp}{σ:L2.St}{env:Env}{L:Nat→List Addr}(S:SOk K BF BH F H σ env L){i:Nat}{ds ds':List D}{p:Addr}{vs':List V}(he:env[i]?=some (.ow ds))(hl:L i=[p])(hσ:σ[i]?=some (some (.ref p)))(r:Reps K F ds' vs') :
  SOk K BF BH F (upd H p (.lst vs')) σ (env.set i (.ow ds')) L :=
 S.own (i:=i) (a:=p) (by rw [hl];simp) _ fun s ov h1 h2 h3=>by
  rw [hσ] at h2;cases h2
  exact ⟨p,vs',rfl,hl,Yc,r⟩
theorem ZcD (i:Nat) {x:Str} {p1 p2 p3 p4:Pos} (ha:PD X .k e f) (hN:X.N[i]?=some x:=by kernel_rfl) (hv:visB X.env.scope x=true:=by kernel_rfl) (hd:(x == ("__debug__":Str))=false:=by kernel_rfl)
  (hcd:(x == ("__classdict__":Str))=false:=by kernel_rfl) (hst:nst e=true:=by rfl)
  (hbase:attributeBase (.Name x p1) "append" X.env (eval (.Name x p1) X.env)=eval (.Name x p1) X.env:=by rfl)
  (hline:(p2.endLine == p3.line)=true:=by rfl)
  (hsw:swapsWith (.Call (.Attribute (.Name x p1) "append" p2) [e] [] p3) none p4.line X.env=pure false:=by rfl) :
  PS1 X m (.Expr (.Call (.Attribute (.Name x p1) "append" p2) [e] [] p3) p4) (sApp i f) :=
 PS1.mk <| PS.of (L2.Zc6 (L2.Zgt PySem.F.plainAttrs_list PySem.F.slot_list_append PySem.F.type_list_append L2.Zei (L2.Zag hN (JZ hv) hd hcd) (L2.Jv ha.h L2.YG (Jq hst)) hbase (by rw [ZbW (ZcC hst)];rfl) hline (Jk hst) rfl) hsw) fun D0 σ H hh_=>el10 hh_ fun BF BH F env L o env' S e k=>by
  unfold sApp at e
  split at e
  ·rename_i ds d he h1
   split at e
   ·rename_i hlen
    cases e
    obtain ⟨p,vs,hσ,hl,hp,r⟩:=Zkx S he
    refine ⟨_,hσ,Zgi hp,BF,BH,F,env,L,d,S,h1,fun v F' H' z rv=>?_⟩
    have S':=S.ext z
    have r':Reps X.K F' (ds++[d]) (vs++[v]):=(Reps.mono z.ff _ _ r).append (Reps.cons rv Reps.nil)
    refine ⟨p,vs,v,rfl,rfl,z.hh _ _ hp,by rw [← r.length];exact Nat.lt_of_lt_of_le hlen Zd0,?_⟩
    exact k F' _ σ L (Ziy S' he hl hσ r') z.ff
   ·cases e
  ·cases e
theorem Zov (its:List Value)(k:Nat)(u:Value)(h:k≤its.length):(its.toArray.extract 0 k).push u++its.toArray.extract k=(its.insertIdx k u).toArray:=by
 have e:its.insertIdx k u=its.take k++u::its.drop k:=by
  induction its generalizing k with
  | nil=>simp at h;subst h;simp
  | cons a t ih =>
   cases k with
   | zero=>simp
   | succ k=>simp at h;simp [ih k h]
 rw [e]
 simp
 rw [List.take_of_length_le (by rw [List.length_drop];exact Nat.le_refl _)]
theorem Zks:L2.MtM X "list.insert" (fun x vs H Q=>∃ (l:Addr) (xs:List V) (k:Int) (y:V),x=.ref l∧vs=[.int k,y]∧H l=some (.lst xs)∧0≤k∧k≤xs.length∧xs.length < lim∧Q .non (upd H l (.lst (xs.insertIdx k.toNat y)))):=by
 intro pins s σ H x vs v us Q I rx rv h
 obtain ⟨l,xs,k,y,rfl,rfl,hH,hk0,hk,hz,q⟩:=h
 cases rx
 obtain ⟨u,w,rfl,ru,rw'⟩:=rv.two
 obtain ⟨t,rfl⟩:=ru
 obtain ⟨z,its,n,r,hl,e⟩:=I.lstM hH
 have hlim:lim=100000:=rfl
 have hz2:its.toArray.size≤sizeLine:=by rw [List.size_toArray,sizeLine_eq];omega
 have hfit:Builtin.List.listFitsIndex k=true:=by
  unfold Builtin.List.listFitsIndex
  rw [Bool.and_eq_true]
  exact ⟨decide_eq_true (Int.le_trans (by decide) hk0),decide_eq_true (Int.lt_of_lt_of_le (show k < 9223372036854775808 by omega) (by decide))⟩
 have hfit':¬ (!Builtin.List.listFitsIndex k)=true:=by rw [hfit];decide
 refine call_meets PySem.F.slot_list_insert ⟨_,e,rfl⟩ PySem.F.entry_list_insert (PySem.F.args_list_insert_3 _ _ _)
  (AutoSeq1.list_insert_list_int_val_1 l its.toArray n k t w hfit' hz2) ⟨e,?_⟩
 refine ⟨.non,_,I.lset (its':=its.insertIdx k.toNat w) hH e ?_ ?_ ?_,rfl,q⟩
 ·have hn:¬ (k < 0):=by omega
  have hm:min k.toNat its.toArray.size=k.toNat:=by rw [List.size_toArray];omega
  have hif:(if k < 0 then (k + ((its.toArray.size:Nat):Int)).toNat else min k.toNat its.toArray.size)=k.toNat:=by rw [if_neg hn,hm]
  dsimp only
  rw [hif]
  exact Zov its k.toNat w (by omega)
 ·clear e hz hz2 hfit hfit' hk hk0 q hH
  have go:∀ (k:Nat) (xs:List V) (its:List Value),Vals xs its→Vals (xs.insertIdx k y) (its.insertIdx k w):=by
   intro k
   induction k with
   | zero=>intro xs its r;simp only [List.insertIdx_zero];exact .cons rw' r
   | succ k ih =>
    intro xs its r
    cases r with
    | nil=>simp only [List.insertIdx_succ_nil];exact .nil
    | cons r1 r2=>simp only [List.insertIdx_succ_cons];exact .cons r1 (ih _ _ r2)
  exact go k.toNat xs its r
 ·have:(xs.insertIdx k.toNat y).length≤xs.length + 1:=List.length_insertIdx_le_succ
  rw [sizeLine_eq];omega
theorem ZoV (i:Nat) {x:Str} {p1 p2 p3 p4:Pos} (hq:PD X m1 a fa) (ha:PD X .k e f) (hN:X.N[i]?=some x:=by kernel_rfl) (hv:visB X.env.scope x=true:=by kernel_rfl) (hd:(x == ("__debug__":Str))=false:=by kernel_rfl)
  (hcd:(x == ("__classdict__":Str))=false:=by kernel_rfl) (hst:nst a=true:=by rfl) (hst2:nst e=true:=by rfl)
  (hbase:attributeBase (.Name x p1) "insert" X.env (eval (.Name x p1) X.env)=eval (.Name x p1) X.env:=by rfl)
  (hline:(p2.endLine == p3.line)=true:=by rfl)
  (hsw:swapsWith (.Call (.Attribute (.Name x p1) "insert" p2) [a,e] [] p3) none p4.line X.env=pure false:=by rfl) :
  PS1 X m (.Expr (.Call (.Attribute (.Name x p1) "insert" p2) [a,e] [] p3) p4) (sIns i fa f) :=
 PS1.mk <| PS.of (L2.Zc6 (L2.Zgt PySem.F.plainAttrs_list PySem.F.slot_list_insert PySem.F.type_list_insert Zks (L2.Zag hN (JZ hv) hd hcd) (L2.Jv hq.h (L2.Jv ha.h L2.YG (Jq hst2)) (Jk hst)) hbase (by rw [ZbW (Zmc hst hst2)];rfl) hline (Jk hst) (ZcL (ZcC hst2))) hsw) fun D0 σ H hh_=>el10 hh_ fun BF BH F env L o env' S e k=>by
  unfold sIns at e
  split at e
  ·rename_i ds j d he h1 h2
   split at e
   ·rename_i hlen
    cases e
    obtain ⟨p,vs,hσ,hl,hp,r⟩:=Zkx S he
    refine ⟨_,hσ,Zgi hp,BF,BH,F,env,L,_,S,h1,fun v F1 H1 z1 r1=>⟨BF,BH,F1,env,L,d,S.ext z1,h2,fun w F' H' z2 rv=>?_⟩⟩
    have z:=z1.trans z2
    have S':=S.ext z
    obtain rfl:=Zr r1
    have r':Reps X.K F' (ds.insertIdx j.toNat d) (vs.insertIdx j.toNat w):=(Reps.mono z.ff _ _ r).insertIdx rv j.toNat
    refine ⟨p,vs,j,w,rfl,rfl,z.hh _ _ hp,hlen.1,by rw [← r.length];exact hlen.2.1,by rw [← r.length];exact hlen.2.2,?_⟩
    exact k F' _ σ L (Ziy S' he hl hσ r') z.ff
   ·cases e
  ·cases e
end
end PV
set_option linter.all false
set_option Elab.async false
set_option maxRecDepth 100000
set_option maxHeartbeats 4000000
namespace PV
open PySem PySem.Spec PyProof.Rows
open L2 (V Hp HO Vals SqL SqT Same upd Cx PE PT PW PA PS PSs TE TT TA TS Inv RelV Yc Jd Jc)
section
variable {X:Cx} {m:RetP} {m1 m2 m3:Md} {st:Stmt} {rest:List Stmt} {g g2 b:St} {e a c:Expr} {f fa fb fc:Ex} {t:Tx} {pos pos' p1 p2 p3:Pos}
theorem Jr.set {K:PySem.W.Frag}{F H:Hp}:∀ {rs:List (List D)} {as:List Addr} {j:Nat} {r:List D} {a:Addr} {vs':List V},as.Nodup→Jr K F H rs as→as[j]?=some a→Reps K F r vs'→Jr K F (upd H a (.lst vs')) (rs.set j r) as
 | [],as,j,r,a,vs',_,h,e,_=>by have z:as=[]:=h;subst z;simp at e
 | r0::rs,as,0,r,a,vs',nd,h,e,h'=>by
  obtain ⟨b,t,vs,rfl,h1,h2,h3⟩:=h
  have e':b=a:=by simpa using e
  subst e'
  obtain ⟨n1,n2⟩:=List.nodup_cons.mp nd
  exact ⟨b,t,vs',rfl,Yc,h',h3.mono (.refl _) fun c hc o z=>by rw [Jd (fun q=>n1 (by rw [← q];exact hc))];exact z⟩
 | r0::rs,as,j + 1,r,a,vs',nd,h,e,h'=>by
  obtain ⟨b,t,vs,rfl,h1,h2,h3⟩:=h
  obtain ⟨n1,n2⟩:=List.nodup_cons.mp nd
  have e':t[j]?=some a:=by simpa using e
  exact ⟨b,t,vs,rfl,by rw [Jd (fun q=>n1 (by rw [q];exact List.mem_of_getElem? e'))];exact h1,h2,Jr.set n2 h3 e' h'⟩
theorem Znu (i:Nat) {x:Str} (hq:PD X m1 a fa) (hc:PD X m2 c fc) (ha:PD X .k e f) (hN:X.N[i]?=some x:=by kernel_rfl) (hv:visB X.env.scope x=true:=by kernel_rfl) (hd:(x == ("__debug__":Str))=false:=by kernel_rfl)
  (hcd:(x == ("__classdict__":Str))=false:=by kernel_rfl) (hix:L2.ZgK a:=by exact fun _ _=>rfl)
  (has:∀ v,assign (.Subscript (.Subscript (.Name x p1) a p2) c p3) X.env v=(do
   let ov ← holding [v] (eval (.Subscript (.Name x p1) a p2) X.env)
   let iv ← holding [v,ov] (eval c X.env)
   standAt p3
   holding [v,ov,iv] (setItem ov iv v)
   release [v,ov,iv] []):=by intro _;rfl)
  (hs:swapsWithSole [.Subscript (.Subscript (.Name x p1) a p2) c p3] e pos.line X.env=pure false:=by rfl) (hw:swappedStores [.Subscript (.Subscript (.Name x p1) a p2) c p3] e X.env=pure none:=by rfl)
  (h1:(assignEach [.Subscript (.Subscript (.Name x p1) a p2) c p3] X.env).map (·.2)=[assign (.Subscript (.Subscript (.Name x p1) a p2) c p3) X.env]:=by rfl) :
  PS1 X m (.Assign [.Subscript (.Subscript (.Name x p1) a p2) c p3] e pos) (ZdI i fa fc f) :=
 PS1.mk <| PS.of (L2.ZoA ha.h (L2.ZoU (L2.Zm8 L2.ZjI (L2.Zag hN (JZ hv) hd hcd) hq.h hix) hc.h L2.set_list has) hs hw h1) fun D0 σ H hh_=>el10 hh_ fun BF BH F env L o env' S e k=>by
  unfold ZdI at e
  split at e
  ·rename_i rs d kk ll he h2 h3 h4
   split at e
   ·rename_i j hj
    split at e
    ·rename_i r hr
     split at e
     ·rename_i mm hm
      cases e
      obtain ⟨ov,hσ,hso⟩:=S.sl i _ he
      obtain ⟨p,as,rfl,hl,nd,hp,hrows⟩:=hso
      refine ⟨BF,BH,F,env,L,d,S,h2,fun v F1 H1 z1 r1=>⟨_,hσ,BF,BH,F1,env,L,_,S.ext z1,h3,fun w F2 H2 z2 r2=>?_⟩⟩
      have z:=z1.trans z2
      have S2:=S.ext z
      obtain ⟨ra,vs,g1,g2,g3⟩:=hrows.get hr
      have hla:as.length=rs.length:=hrows.length.symm
      have hat:L2.atI (as.map V.ref) kk=some (.ref ra):=by
       unfold L2.atI
       rw [List.length_map,hla]
       show ((ixN rs.length kk).bind fun j=>(as.map V.ref)[j]?)=_
       rw [hj]
       show (as.map V.ref)[j]?=_
       rw [List.getElem?_map,g1];rfl
      refine ⟨p,as.map V.ref,kk,.ref ra,rfl,Zr r2,.inl (.inl (z.hh _ _ hp)),hat,BF,BH,F2,env,L,_,S2,h4,fun w2 F3 H3 z3 r3=>?_⟩
      have z':=z.trans z3
      have S3:=S.ext z'
      have r1':=Rep.mono (z2.trans z3).ff _ _ r1
      have g3':=Reps.mono z'.ff _ _ g3
      refine ⟨ra,vs,ll,mm,rfl,Zr r3,z'.hh _ _ g2,by rw [← g3.length];exact hm,?_⟩
      have hra:ra ∈ as:=List.mem_of_getElem? g1
      obtain ⟨n1,n2⟩:=List.nodup_cons.mp nd
      refine k F3 _ σ L (S3.own (i:=i) (a:=ra) (by rw [hl];exact List.mem_cons_of_mem _ hra) _ fun s ov e1 e2 e3=>?_) z'.ff
      rw [hσ] at e2;cases e2
      refine ⟨p,as,rfl,hl,nd,?_,?_⟩
      ·rw [Jd (fun q=>n1 (by rw [q];exact hra))];exact z'.hh _ _ hp
      ·have hrows':Jr X.K F3 H3 rs as:=hrows.mono z'.ff fun b _ o q=>z'.hh _ _ q
       exact hrows'.set n2 g1 (g3'.set r1' mm)
     ·cases e
    ·cases e
   ·cases e
  ·cases e
structure ItOk (K:PySem.W.Frag)(J:L2.It)(F:Hp)(ds:List D):Prop where
 stop:∀ H,Same F H→J.stop ds.length H
 go:∀ i H,Same F H→i < ds.length→J.go i H
 yld:∀ i H x H' F0,Same F F0→Same F0 H→i < ds.length→J.yld i H x H'→∃ d F2,ds[i]?=some d∧Ext F0 H F2 H'∧Rep K F2 d x
noncomputable def tIt (K:PySem.W.Frag) (lx:Lx):L2.TI:=fun σ H R=>∃ BF BH F env L ds,SOk K BF BH F H σ env L∧lx env=some ds∧∀ J F' H',Ext F H F' H'→ItOk K J F' ds→R J H'
noncomputable def PId (X:Cx) (tg iter:Expr) (lx:Lx):Prop:=L2.PI X tg iter (tIt X.K lx)
theorem PI.of {tg iter:Expr}{w w':L2.TI}(h:L2.PI X tg iter w')(i:∀ σ H R,w σ H R→w' σ H R):L2.PI X tg iter w:=fun pins s σ H R I q=>h pins s σ H R I (i σ H R q)
noncomputable def iSeq (K:PySem.W.Frag) (tl:TE):L2.TI:=fun σ H R=>tl σ H fun x H1=>∃ p,x=.ref p∧(((∃ xs,SqL K H1 p xs)∧R (L2.Itl K p) H1)∨((∃ xs,SqT K H1 p xs)∧R (L2.Itt K p) H1))
theorem Zpf {tg l:Expr}{tl:TE}(hl:PE X l tl):L2.PI X tg l (iSeq X.K tl):=by
 intro pins s σ H R I h
 refine L2.thn (hl pins s σ H _ I h) fun v s1 ⟨x,H1,I1,r1,q1⟩=>?_
 obtain ⟨p,e,q1⟩:=q1
 subst e
 cases r1
 rcases q1 with ⟨⟨xs,hq⟩,q⟩ | ⟨⟨xs,hq⟩,q⟩
 ·obtain ⟨its,rv,pl,hz⟩:=I1.list hq
  refine wpAny_pyIter_list pl.isList ?_
  refine ⟨s1.heap.objs.size,[s1.heap.objs.size],_,_,H1,rfl,I1.kept (t':=s1.toks) fun b o e=>Heap.get?_push_of_some _ e,L2.ZlK p _,⟨_,Heap.get?_push_size _ rfl,rfl,rfl⟩,fun b hb=>?_,q⟩
  have e:b=s1.heap.objs.size:=by simpa using hb
  subst e
  exact I1.fpOk (Nat.le_refl _) (I1.hok.fresh (Nat.le_refl _))
 ·obtain ⟨its,rv,pl,hz⟩:=I1.tuple hq
  refine wpAny_pyIter_tuple (show s1.heap.IsTuple p its.toArray from pl) ?_
  refine ⟨s1.heap.objs.size,[s1.heap.objs.size],_,_,H1,rfl,I1.kept (t':=s1.toks) fun b o e=>Heap.get?_push_of_some _ e,L2.Zkq p _,⟨_,Heap.get?_push_size _ rfl,rfl,rfl⟩,fun b hb=>?_,q⟩
  have e:b=s1.heap.objs.size:=by simpa using hb
  subst e
  exact I1.fpOk (Nat.le_refl _) (I1.hok.fresh (Nat.le_refl _))
theorem YM {tg:Expr}(ha:PD X .k a f):PId X tg a (iOf f):=PI.of (Zpf ha.h) fun σ H R hh_=>el9 hh_ fun BF BH F env L ds S e q=>by
 unfold iOf at e
 split at e
 ·rename_i xs h1
  cases e
  refine ⟨BF,BH,F,env,L,_,S,h1,fun v F' H' z r=>?_⟩
  simp only [Rep] at r
  obtain ⟨p,vs,rfl,hs,t⟩:=r
  refine ⟨p,rfl,.inl ⟨⟨vs,z.fh.seq hs⟩,q _ F' H' z ⟨fun H2 s2=>⟨vs,s2.seq hs,by rw [t.length];exact Nat.le_refl _⟩,fun i H2 s2 hi=>?_,fun i H2 x H3 F0 s1 s2 hi hy=>?_⟩⟩⟩
  ·exact ⟨vs,vs[i]'(by rw [← t.length];exact hi),s2.seq hs,by simp [← t.length,hi]⟩
  ·obtain ⟨rfl,hy⟩:=hy
   obtain ⟨d,k1,k2⟩:=t.getV (hy vs ((s1.trans s2).seq hs))
   exact ⟨d,F0,k1,.refl s2,Rep.mono s1 _ _ k2⟩
 ·rename_i xs h1
  cases e
  refine ⟨BF,BH,F,env,L,_,S,h1,fun v F' H' z r=>?_⟩
  simp only [Rep] at r
  obtain ⟨p,vs,rfl,hs,t⟩:=r
  refine ⟨p,rfl,.inr ⟨⟨vs,seqT z.fh hs⟩,q _ F' H' z ⟨fun H2 s2=>⟨vs,seqT s2 hs,by rw [t.length];exact Nat.le_refl _⟩,fun i H2 s2 hi=>?_,fun i H2 x H3 F0 s1 s2 hi hy=>?_⟩⟩⟩
  ·exact ⟨vs,vs[i]'(by rw [← t.length];exact hi),seqT s2 hs,by simp [← t.length,hi]⟩
  ·obtain ⟨rfl,hy⟩:=hy
   obtain ⟨d,k1,k2⟩:=t.getV (hy vs (seqT (s1.trans s2) hs))
   exact ⟨d,F0,k1,.refl s2,Rep.mono s1 _ _ k2⟩
 ·cases e
theorem Zl4 {K:PySem.W.Frag}{F:Hp}{lo:Int}{n:Nat}:ItOk K (L2.Itr lo n) F (Ji lo n) where
 stop:=fun H _=>by show n≤(Ji lo n).length;rw [Yo];exact Nat.le_refl _
 go:=fun i H _ h=>by show i < n;rw [Yo] at h;exact h
 yld:=fun i H x H' F0 _ s2 hi hy=>by
  obtain ⟨rfl,rfl⟩:=hy
  rw [Yo] at hi
  exact ⟨_,F0,JW hi,.refl s2,by simp [Rep]⟩
theorem Jt {tg:Expr} (T:Bt X.mg) (ha:PD X m1 a f) (hg:X.env.kindOf "range"=some .globalImplicit:=by kernel_rfl) (hs:nst a=true:=by rfl):PId X tg (.Call (.Name "range" p1) [a] [] pos) (iRng f) :=
 PI.of (L2.ZkJ hg T.range (L2.Jv ha.h L2.YG (Jq hs)) (Jq hs)) fun σ H R hh_=>el9 hh_ fun BF BH F env L ds S e q=>by
  unfold iRng at e
  split at e
  ·rename_i j h1
   split at e
   ·rename_i hj
    cases e
    refine ⟨BF,BH,F,env,L,_,S,h1,fun v F' H' z r=>?_⟩
    obtain rfl:=Zr r
    have hl:(lim:Int)=100000:=rfl
    exact ⟨j,rfl,by omega,by omega,q _ F' H' z Zl4⟩
   ·cases e
  ·cases e
noncomputable def tTg (K:PySem.W.Frag) (g:Tg):L2.TG:=fun v σ H Q=>∃ BF BH F env L d env1,SOk K BF BH F H σ env L∧Rep K F d v∧g d env=some env1∧∀ F' H' σ' L',SOk K BF BH F' H' σ' env1 L'→Same F F'→Q σ' H'
noncomputable def PGd (X:Cx) (tg:Expr) (g:Tg):Prop:=L2.PG X tg (tTg X.K g)
theorem pg_n (nd:X.N.Nodup)(i:Nat){x:Str}(hi:X.N[i]?=some x:=by kernel_rfl)(hx:locB X.env.scope x=true:=by kernel_rfl)(hf:fnB X x=true:=by kernel_rfl):PGd X (.Name x pos) (gN i) :=
 fun pins s σ H v u Q I r ⟨BF,BH,F,env,L,d,env1,S,rd,e,k⟩=>L2.ZeW nd hi (Zak hx) (ZaH hf) pins s σ H v u Q I r (by
  cases e
  exact k F H _ _ (S.ZdH i rd) (.refl _))
theorem Zk {tg iter:Expr}{lx:Lx}{tg':Tg}{body:List Stmt}(hi:PId X tg iter lx)(hg:PGd X tg tg')(hb:PSd X m body b)(hp:PassesOwn (model X.prog X.w) X.A X.env X.xe:=by exact PassesOwn.never)(hc:X.calm=true:=by rfl)
  (hs:∀ x,foldedSetIterable iter X.env x=pure x:=by intro _;rfl):PS1 X m (.For tg iter body [] pos) (sFor tg' lx b):=PS1.mk <| PS.of (L2.Zpq hp hc hi hg hb.h hs) fun D0 σ H hh_=>el10 hh_ fun BF BH F env L o env' S e k=>by
 unfold sFor at e
 split at e
 ·rename_i ds h1
  refine ⟨BF,BH,F,env,L,ds,S,h1,fun J F1 H1 z1 J1=>?_⟩
  refine ⟨fun i mm σ H=>mm=ds.length - i∧i≤ds.length∧∃ F env L,SOk X.K BF BH F H σ env L∧Same F1 F∧forL tg' b (ds.drop i) env=some (o,env'),⟨ds.length,by simp,Nat.zero_le _,F1,env,L,S.ext z1,.refl _,e⟩,?_⟩
  rintro i mm σ H ⟨rfl,hi,F,env,L,S,s1,e⟩
  by_cases hlt:i < ds.length
  ·refine .inr ⟨J1.go i H (s1.trans S.fh) hlt,fun σ' H'=>∃ F env L,SOk X.K BF BH F H' σ' env L∧Same F1 F∧forL tg' b (ds.drop (i + 1)) env=some (o,env'),fun σ' H' ⟨F,env,L,q1,q2,q3⟩=>⟨ds.length - (i + 1),by omega,rfl,hlt,F,env,L,q1,q2,q3⟩,fun x H' hy=>?_⟩
   obtain ⟨d,F2,hd,z2,r2⟩:=J1.yld i H x H' F s1 S.fh hlt hy
   rw [List.drop_eq_getElem_cons hlt] at e
   have hd':ds[i]=d:=by rw [List.getElem?_eq_getElem hlt] at hd;exact Option.some.inj hd
   rw [hd'] at e
   simp only [forL] at e
   split at e
   ·rename_i env0 hg0
    refine ⟨BF,BH,F2,env,L,d,env0,S.ext z2,r2,hg0,fun F3 H3 σ3 L3 S3 s3=>?_⟩
    have s13:Same F1 F3:=(s1.trans z2.ff).trans s3
    split at e
    ·rename_i e1 hb1
     exact ⟨BF,BH,F3,env0,L3,.nx,e1,S3,hb1,fun F4 H4 σ4 L4 S4 s4=>⟨F4,e1,L4,S4,s13.trans s4,e⟩⟩
    ·rename_i e1 hb1
     exact ⟨BF,BH,F3,env0,L3,.ct,e1,S3,hb1,fun F4 H4 σ4 L4 S4 s4=>⟨F4,e1,L4,S4,s13.trans s4,e⟩⟩
    ·rename_i e1 hb1
     cases e
     exact ⟨BF,BH,F3,env0,L3,.bk,env',S3,hb1,fun F4 H4 σ4 L4 S4 s4=>k F4 H4 σ4 L4 S4 ((z1.ff.trans s13).trans s4)⟩
    ·rename_i r e1 hb1
     cases e
     exact ⟨BF,BH,F3,env0,L3,.rt r,env',S3,hb1,fun F4 H4 σ4 L4 S4 s4=>k F4 H4 σ4 L4 S4 ((z1.ff.trans s13).trans s4)⟩
    ·cases e
   ·cases e
  ·have ei:i=ds.length:=by omega
   subst ei
   rw [List.drop_length] at e
   cases e
   exact .inl ⟨J1.stop H (s1.trans S.fh),k F H σ L S (z1.ff.trans s1)⟩
 ·cases e
end
end PV
set_option linter.all false
set_option Elab.async false
set_option maxRecDepth 100000
set_option maxHeartbeats 4000000
namespace PV
open PySem PySem.Spec PyProof.Rows
open L2 (V Hp HO Vals SqL SqT Same upd Cx PE PT PW PA PS PSs TE TT TA TS Inv RelV Yc Jd Jc)
section
variable {X:Cx} {m:RetP} {m1 m2 m3:Md} {st:Stmt} {rest:List Stmt} {g g2 b:St} {e a c:Expr} {es:List Expr} {f fa fb fc:Ex} {fs:List Ex} {t:Tx} {pos pos' p p1 p2 p3:Pos}
theorem Zil {body:List Stmt}(n:Nat)(hc:PTd X e t)(hb:PSd X m body b)(hp:PassesOwn (model X.prog X.w) X.A X.env X.xe:=by exact PassesOwn.never):PS1 X m (.While e body [] pos) (YT t b n):=PS1.mk <| PS.of (L2.ZmF hp hc hb.h) fun D0 σ H hh_=>el10 hh_ fun BF BH F env L o env' S e k=>by
 refine ⟨fun mm σ H=>∃ F1 env L,SOk X.K BF BH F1 H σ env L∧Same F F1∧YT t b mm env=some (o,env'),⟨n,F,env,L,S,.refl _,e⟩,?_⟩
 rintro mm σ H ⟨F1,env,L,S,s1,e⟩
 cases mm with
 | zero=>cases e
 | succ mm =>
  simp only [YT] at e
  split at e
  ·rename_i h1
   refine ⟨BF,BH,F1,env,L,true,S,h1,fun F2 H2 z2=>L2.iteT ⟨fun σ' H'=>∃ F1 env L,SOk X.K BF BH F1 H' σ' env L∧Same F F1∧YT t b mm env=some (o,env'),fun σ' H' q=>⟨mm,Nat.lt_succ_self _,q⟩,?_⟩⟩
   split at e
   ·rename_i e1 hb1
    exact ⟨BF,BH,F2,env,L,.nx,e1,S.ext z2,hb1,fun F4 H4 σ4 L4 S4 s4=>⟨F4,e1,L4,S4,(s1.trans z2.ff).trans s4,e⟩⟩
   ·rename_i e1 hb1
    exact ⟨BF,BH,F2,env,L,.ct,e1,S.ext z2,hb1,fun F4 H4 σ4 L4 S4 s4=>⟨F4,e1,L4,S4,(s1.trans z2.ff).trans s4,e⟩⟩
   ·rename_i e1 hb1
    cases e
    exact ⟨BF,BH,F2,env,L,.bk,env',S.ext z2,hb1,fun F4 H4 σ4 L4 S4 s4=>k F4 H4 σ4 L4 S4 ((s1.trans z2.ff).trans s4)⟩
   ·rename_i r e1 hb1
    cases e
    exact ⟨BF,BH,F2,env,L,.rt r,env',S.ext z2,hb1,fun F4 H4 σ4 L4 S4 s4=>k F4 H4 σ4 L4 S4 ((s1.trans z2.ff).trans s4)⟩
   ·cases e
  ·rename_i h1
   cases e
   exact ⟨BF,BH,F1,_,L,false,S,h1,fun F2 H2 z2=>L2.iteF (k F2 H2 σ L (S.ext z2) (s1.trans z2.ff))⟩
  ·cases e
noncomputable def spR (K:PySem.W.Frag) (m:RetP) (φ:List D→Option D):L2.Sp:=fun vs H Q _=>∃ F ds d,Same F H∧Reps K F ds vs∧φ ds=some d∧∀ v F' H',Ext F H F' H'→m H F' H' d v→Q v H'
structure Cal (P:Program)(w:World)(K:PySem.W.Frag)(mg:Str→Option Value)(base:Heap)(k:Nat)(x:Str)(m:RetP)(φ:List D→Option D):Prop where
 ex:∃ (fa:Addr) (fd:FuncData) (ps:List Str),mg x=some (.ref fa)∧PySem.W.keepIn K (.ref fa)=true∧L2.FnOk P w K mg base L2.CX0 k fa fd ps (spR K m φ)∧L2.Binds K fd ps []
theorem ZiJ {BH H F2 H2:Hp}(s:Same BH H):∀ m:Md,Same (hpM H F2 H2 m) (hpM BH F2 H2 m)
 | .r=>.refl _
 | .k=>.refl _
 | .f=>fun b o h=>by
  show cut F2 BH b=some o
  have h':cut F2 H b=some o:=h
  unfold cut at h' ⊢
  split at h'
  ·rename_i hn
   rw [s.free hn]
   exact h'
  ·cases h'
theorem ZfU {k:Nat} {x:Str} {φ:List D→Option D} (G:Cal X.prog X.w X.K X.mg X.base k x m φ) (hr:L2.Room k X.A) (ha:PAd X .k (e::es) fs) (hg:L2.Gl X x) (hdb:(x == ("__debug__":Str))=false)
  (he:starEach (e::es) X.env=(false,eval e X.env)::starEach es X.env) (hpl:(backTo pos (starEach es X.env)).any (·.1)=false) :
  PE X (.Call (.Name x p) (e::es) [] pos) (fun σ H Q=>∃ BF BH F env L d,SOk X.K BF BH F H σ env L∧Zd φ fs env=some d∧∀ v F' H' H0,Same BH H0→Same H H0→Ext F H F' H'→m H0 F' H' d v→Q v H'):=by
 obtain ⟨fa,fd,ps,h1,h2,h3,h4⟩:=G.ex
 exact PE.of (L2.Zn9 h3 hr hg h1 h2 h4 .nil L2.Zm3 ha.h hdb he hpl) fun σ H Q hh_=>el9 hh_ fun BF BH F env L d S e q=>by
  unfold Zd at e
  split at e
  ·rename_i ds h5
   refine ⟨BF,BH,F,env,L,ds,S,h5,fun vs F' H' z r=>?_⟩
   show spR X.K m φ (vs++[]) H' Q L2.E0
   rw [List.append_nil]
   exact ⟨F',ds,d,z.fh,r,e,fun v F2 H2 z2 r2=>q v F2 H2 H' (S.s0.trans z.hh) z.hh (z.trans z2) r2⟩
  ·cases e
theorem Ye {k:Nat} {x:Str} {φ:List D→Option D} (G:Cal X.prog X.w X.K X.mg X.base k x (rk X.K m1) φ) (hr:L2.Room k X.A) (ha:PAd X .k (e::es) fs) (hg:X.env.kindOf x=some .globalImplicit:=by kernel_rfl) (hdb:(x == ("__debug__":Str))=false:=by kernel_rfl)
  (hn:nst e=true:=by rfl) (hns:nsts es=true:=by rfl):PD X m1 (.Call (.Name x p) (e::es) [] pos) (Zd φ fs) :=
 PD.mk <| PE.of (ZfU G hr ha hg hdb (Jk hn) (ZcL hns)) fun σ H Q ⟨BF,BH,F,env,L,d,S,e,q⟩ =>
  ⟨BF,BH,F,env,L,d,S,e,fun v F' H' H0 s0 s1 z r=>q v F' H' z (Rep.mono (ZiJ s0 m1) _ _ r)⟩
theorem Zmo {k:Nat} {x:Str} {φ:List D→Option D} (G:Cal X.prog X.w X.K X.mg X.base k x (rk X.K m1) φ) (hr:L2.Room k X.A) (hg:X.env.kindOf x=some .globalImplicit:=by kernel_rfl) (hdb:(x == ("__debug__":Str))=false:=by kernel_rfl):PD X m1 (.Call (.Name x p) [] [] pos) (Zd φ []):=by
 obtain ⟨fa,fd,ps,h1,h2,h3,h4⟩:=G.ex
 exact PD.mk <| PE.of (L2.ZmT h3 hr hg h1 h2 h4 .nil L2.Zm3 hdb) fun σ H Q hh_=>el9 hh_ fun BF BH F env L d S e q=>by
  have e':φ []=some d:=e
  exact ⟨F,[],d,S.fh,Reps.nil,e',fun v F2 H2 z2 r2=>q v F2 H2 z2 (Rep.mono (ZiJ S.s0 m1) _ _ r2)⟩
noncomputable def tT (K:PySem.W.Frag) (f:Ex):TE:=fun σ H Q=>∃ BF BH F env L d,SOk K BF BH F H σ env L∧f env=some d∧∀ v F' H',Ext F H F' H'→rT K H F' H' d v→Q v H'
noncomputable def PDt (X:Cx) (e:Expr) (f:Ex):Prop:=PE X e (tT X.K f)
theorem Zjz {K:PySem.W.Frag}{A B F' H':Hp}{d:D}{v:V}(s:Same A B)(h:rT K B F' H' d v):rT K A F' H' d v:=by
 obtain ⟨a,as,rs,h1,h2,h3,h4,h5,h6⟩:=h
 exact ⟨a,as,rs,h1,h2,h3,h4,h5,fun b hb=>⟨s.free (h6 b hb).1,(h6 b hb).2⟩⟩
theorem ZiP {k:Nat} {x:Str} {φ:List D→Option D} (G:Cal X.prog X.w X.K X.mg X.base k x (rT X.K) φ) (hr:L2.Room k X.A) (ha:PAd X .k (e::es) fs) (hg:X.env.kindOf x=some .globalImplicit:=by kernel_rfl) (hdb:(x == ("__debug__":Str))=false:=by kernel_rfl)
  (hn:nst e=true:=by rfl) (hns:nsts es=true:=by rfl):PDt X (.Call (.Name x p) (e::es) [] pos) (Zd φ fs) :=
 PE.of (ZfU G hr ha hg hdb (Jk hn) (ZcL hns)) fun σ H Q ⟨BF,BH,F,env,L,d,S,e,q⟩ =>
  ⟨BF,BH,F,env,L,d,S,e,fun v F' H' H0 s0 s1 z r=>q v F' H' z (Zjz s1 r)⟩
theorem PDt.k (h:PDt X e f):PD X .k e f:=PD.mk <| PE.of h fun σ H Q hh_=>el9 hh_ fun BF BH F env L d S e q=>by
 refine ⟨BF,BH,F,env,L,d,S,e,fun v F' H' z r=>?_⟩
 obtain ⟨a,as,rs,rfl,rfl,h3,h4,h5,h6⟩:=r
 have ff:Same F' (frzH F' H' (a::as)):=fun b o hb=>by
  by_cases hm:b ∈ a::as
  ·rw [(h6 b hm).2] at hb;cases hb
  ·rw [Zbj hm];exact hb
 have z':Ext F H (frzH F' H' (a::as)) H':=⟨z.hh,z.ff.trans ff,fun b o hb=>by
  by_cases hm:b ∈ a::as
  ·exact .inr (h6 b hm).1
  ·rw [Zbj hm] at hb;exact z.dm b o hb,fun b o hb=>by
  by_cases hm:b ∈ a::as
  ·rw [Zbq hm] at hb;exact hb
  ·rw [Zbj hm] at hb;exact z.fh b o hb⟩
 refine q _ _ H' z' ?_
 simp only [Rep,hpM]
 refine ⟨a,_,rfl,.inl (.inl (by rw [Zbq List.mem_cons_self];exact h3)),?_⟩
 have r':Jr X.K (frzH F' H' (a::as)) (frzH F' H' (a::as)) rs as:=h4.mono ff fun b hb o z=>by rw [Zbq (List.mem_cons_of_mem _ hb)];exact z
 exact r'.reps (.refl _)
theorem ZiN:∀ rs:List (List D),ZeN (rs.map .lst)=some rs
 | []=>rfl
 | r::rs=>by simp only [List.map_cons,ZeN,ZiN rs]
theorem ZnH {K:PySem.W.Frag}{BF BH F F' H H':Hp}{σ:L2.St}{env:Env}{L:Nat→List Addr}(S:SOk K BF BH F H σ env L)(z:Ext F H F' H')(i:Nat){a:Addr}{as:List Addr}{rs:List (List D)}(h3:H' a=some (.lst (as.map .ref)))(h4:Jr K F' H' rs as)(h5:(a::as).Nodup)
  (h6:∀ b ∈ a::as,H b=none∧F' b=none):SOk K BF BH F' H' (σ.set i (some (.ref a))) (env.set i (.tab rs)) (putL L i (a::as)):=by
 have rowsIn:∀ {rs:List (List D)} {as:List Addr},Jr K F' H' rs as→∀ b ∈ as,H' b≠none:=by
  intro rs
  induction rs with
  | nil=>intro as h b hb;have e:as=[]:=h;subst e;cases hb
  | cons r rs ih =>
   intro as h b hb
   obtain ⟨c,t,vs,rfl,h1,_,h3⟩:=h
   rcases List.mem_cons.mp hb with rfl | hb
   ·rw [h1];simp
   ·exact ih h3 b hb
 refine (S.ext z).set i ⟨a,as,rfl,rfl,h5,h3,h4⟩ (fun b hb=>⟨(h6 b hb).2,S.s0.free (h6 b hb).1,?_⟩) (fun b hb j hj hm=>(S.ow j b hm).2.2 (h6 b hb).1)
 rcases List.mem_cons.mp hb with rfl | hb
 ·rw [h3];simp
 ·exact rowsIn h4 b hb
theorem ZnN (i:Nat) {x:Str} (hN:X.N[i]?=some x:=by kernel_rfl) (hv:visB X.env.scope x=true:=by kernel_rfl) (hd:(x == ("__debug__":Str))=false:=by kernel_rfl)
  (hcd:(x == ("__classdict__":Str))=false:=by kernel_rfl):PS1 X (rT X.K) (.Return (some (.Name x p1)) pos) (ZeZ i) :=
 PS1.mk <| PS.of (L2.Zgp (L2.Zag hN (JZ hv) hd hcd)) fun D0 σ H hh_=>el10 hh_ fun BF BH F env L o env' S e k=>by
  unfold ZeZ at e
  split at e
  ·rename_i rs he
   cases e
   obtain ⟨ov,h1,h2⟩:=S.sl i _ he
   obtain ⟨a,as,rfl,hl,nd,h3,h4⟩:=h2
   exact ⟨_,h1,k F H σ L S (.refl _) _ ⟨a,as,rs,rfl,rfl,h3,h4,nd,fun b hb=>⟨(S.ow i b (by rw [hl];exact hb)).2.1,(S.ow i b (by rw [hl];exact hb)).1⟩⟩⟩
  ·cases e
theorem ZlZ (ha:PDt X e f):PS1 X (rT X.K) (.Return (some e) pos) (sRet f):=PS1.mk <| PS.of (L2.Zgp ha) fun D0 σ H hh_=>el10 hh_ fun BF BH F env L o env' S e k=>by
 unfold sRet at e
 split at e
 ·rename_i d h1
  cases e
  exact ⟨BF,BH,F,env,L,d,S,h1,fun v F' H' z r=>k F' H' σ L (S.ext z) z.ff v (Zjz S.s0 r)⟩
 ·cases e
theorem ZlL {n:Nat}{ds:List D}(h:ds.length≤n):(enter n ds).length=n:=by
 unfold enter
 rw [List.length_append,List.length_map,List.length_replicate]
 omega
theorem ZkF {K:PySem.W.Frag}{F H:Hp}{N:List Str}{ds:List D}{vs:List V}(fh:Same F H)(r:Reps K F ds vs)(hl:ds.length≤N.length):SOk K F H F H (L2.start N vs) (enter N.length ds) (fun _=>[]) where
 s0:=.refl _
 f0:=.refl _
 fh:=fh
 fd:=fun a o h=>.inl h
 ow:=fun i a h=>by cases h
 dj:=fun i j a h=>by cases h
 len:=by
  rw [ZlL hl]
  unfold L2.start
  rw [List.length_append,List.length_map,List.length_replicate]
  have:=r.length
  omega
 sl:=fun i s h=>by
  unfold enter at h
  unfold L2.start
  by_cases hi:i < ds.length
  ·rw [List.getElem?_append_left (by rw [List.length_map];exact hi),List.getElem?_map,List.getElem?_eq_getElem hi] at h
   cases h
   obtain ⟨v,h1,h2⟩:=r.get (i:=i) (d:=ds[i]) (by simp [hi])
   refine ⟨some v,?_,v,rfl,h2⟩
   rw [List.getElem?_append_left (by rw [List.length_map,← r.length];exact hi),List.getElem?_map,h1];rfl
  ·rw [List.getElem?_append_right (by rw [List.length_map];omega),List.length_map,List.getElem?_replicate] at h
   split at h
   ·rename_i hlt
    cases h
    refine ⟨none,?_,trivial⟩
    rw [List.getElem?_append_right (by rw [List.length_map,← r.length];omega),List.length_map,List.getElem?_replicate,if_pos (by rw [← r.length];exact hlt)]
   ·cases h
theorem Zjt {p n:Nat}{g:St}{ds:List D}{d:D}(h:run p n g ds=some d):ds.length=p∧((∃ env',g (enter n ds)=some (.rt d,env'))∨(d=.non∧∃ env',g (enter n ds)=some (.nx,env'))):=by
 unfold run at h
 split at h
 ·rename_i hl
  split at h
  ·rename_i d' e1 hg;cases h;exact ⟨hl,.inl ⟨e1,hg⟩⟩
  ·rename_i e1 hg;cases h;exact ⟨hl,.inr ⟨rfl,e1,hg⟩⟩
  ·cases h
 ·cases h
theorem Jm {P:Program}{w:World}{K:PySem.W.Frag}{mg:Str→Option Value}{base:Heap}{x qual:Str}{st:Stmt}{f:Addr}{fd:FuncData}{N ps:List Str}{k:Nat}{m:RetP}{g:St}(F:L2.Fun K x qual st f fd)(S:L2.Yh N ps (L2.Yb st))
  (hm:(∀ BH F' H',m BH F' H' .non .non)∨∀ env env',g env≠some (.nx,env')) (hb:∀ (cdv:Value) (A:Around) (outer:List PySem.Env) (s:Shared) (H:Hp) (E:L2.XK),L2.Room k (A.deeper (envOfC qual (L2.Yb st) s.heap.objs.size f cdv)) →
   PSd (L2.cxOf L2.CX0 P w K mg base N qual (L2.Yb st) f cdv A outer s H E).nox m (L2.Jf st) g):L2.FnOk P w K mg base L2.CX0 (k + 1) f fd ps (spR K m (run ps.length N.length g)):=by
 have hpl:ps.length≤N.length:=by have:=congrArg List.length S.pre;rw [List.length_take] at this;omega
 refine F.ok S (fun vs H Q E h=>?_) (fun cdv A outer s H vs Q E hr h=>?_)
 ·obtain ⟨F0,ds,d,h1,h2,h3,h4⟩:=h
  rw [← h2.length]
  exact (Zjt h3).1
 ·obtain ⟨F0,ds,d,h1,h2,h3,h4⟩:=h
  obtain ⟨hl,h3⟩:=Zjt h3
  refine ⟨_,(hb cdv A outer s H E hr).h,?_⟩
  have S0:=ZkF (N:=N) h1 h2 (by omega)
  rcases h3 with ⟨env',hg⟩ | ⟨rfl,env',hg⟩
  ·exact ⟨F0,H,F0,_,_,.rt d,env',S0,hg,fun F' H' σ' L' S' s' v r=>h4 v F' H' S'.Zm0 r⟩
  ·rcases hm with hm | hm
   ·exact ⟨F0,H,F0,_,_,.nx,env',S0,hg,fun F' H' σ' L' S' s'=>h4 .non F' H' S'.Zm0 (hm _ _ _)⟩
   ·exact absurd hg (hm _ _)
theorem Ys {K:PySem.W.Frag}(m1:Md):∀ BH F' H',rk K m1 BH F' H' .non .non:=fun _ _ _=>by simp [rk,Rep]
end
end PV
set_option linter.all false
set_option Elab.async false
set_option maxRecDepth 100000
set_option maxHeartbeats 4000000
namespace PV
open PySem PySem.Spec PyProof.Rows
open L2 (V Hp HO Vals SqL SqT Same upd Cx PE PT PW PA PS PSs TE TT TA TS Inv RelV Yc Jd Jc Un)
noncomputable def J0 (sc osc:Scope):Scope :=
 { sc with names:=sc.names.map fun (n,k)=>if (k == .free && osc.kind == .function && osc.names.lookup n == some .cell) then (n,.cell) else (n,k) }
noncomputable def blk (X:Cx) (osc sc:Scope) (cs:List (Str × Addr)) (C:Addr) (s0:Shared) (H0:Hp) (fp:List Addr) (pins:List (Addr × Obj)):Cx :=
 { X with
  env:={ scope:=J0 sc osc,locals:=C,globals:=X.env.globals,cells:=cs,qual:=X.env.qual,func:=none,code:=X.env.code,frame:=X.env.frame,builtins:=X.env.builtins }
  s₀:=s0,H₀:=H0,outer:=X.stack,stack:=X.stack,ex:=fp,fn:=fun y=>decide (sc.names.lookup y=some .cell),pn:=X.pn++pins }
structure ZcF (N:List Str)(osc sc:Scope)(x:Str):Prop where
 kind:sc.kind=.function
 loc:∀ y ∈ sc.names,y.2=.local→sc.names.lookup y.1=some .local
 free:∀ y ∈ sc.names,y.2=.free→osc.names.lookup y.1=some .cell∨osc.names.lookup y.1=some .free
 var:sc.names.lookup x=some .local∨sc.names.lookup x=some .cell
 own:∀ y ∈ sc.names,(y.2=.local∨y.2=.cell)→y.1=x∨y.1 ∉ N
 cell:∀ y ∈ sc.names,y.2=.cell→y.1=x
 once:(sc.names.filter fun y=>y.2 == .cell).length≤1
noncomputable def ZcR (N:List Str) (osc sc:Scope) (x:Str):Bool :=
 (sc.kind == .function) && (sc.names.all fun y=>!(y.2 == .local) || sc.names.lookup y.1 == some .local) && (sc.names.all fun y=>!(y.2 == .free) || (osc.names.lookup y.1 == some .cell || osc.names.lookup y.1 == some .free)) &&
 (sc.names.lookup x == some .local || sc.names.lookup x == some .cell) && (sc.names.all fun y=>!(y.2 == .local || y.2 == .cell) || (y.1 == x || !N.contains y.1)) && (sc.names.all fun y=>!(y.2 == .cell) || y.1 == x) && decide ((sc.names.filter fun y=>y.2 == .cell).length≤1)
theorem ZdD {N:List Str}{osc sc:Scope}{x:Str}(h:ZcR N osc sc x=true):ZcF N osc sc x:=by
 unfold ZcR at h
 simp only [Bool.and_eq_true,List.all_eq_true,Bool.or_eq_true,Bool.not_eq_true',decide_eq_true_eq] at h
 obtain ⟨⟨⟨⟨⟨⟨h1,h2⟩,h3⟩,h4⟩,h5⟩,h6⟩,h7⟩:=h
 refine ⟨by simpa using h1,fun y hy e=>?_,fun y hy e=>?_,?_,fun y hy e=>?_,fun y hy e=>?_,h7⟩
 ·rcases h2 y hy with z | z
  ·rw [e] at z;simp at z
  ·simpa using z
 ·rcases h3 y hy with z | z
  ·rw [e] at z;simp at z
  ·rcases z with z | z
   ·exact .inl (by simpa using z)
   ·exact .inr (by simpa using z)
 ·rcases h4 with z | z
  ·exact .inl (by simpa using z)
  ·exact .inr (by simpa using z)
 ·rcases h5 y hy with z | z
  ·rcases e with e | e <;> (rw [e] at z;simp at z)
  ·rcases z with z | z
   ·exact .inl (by simpa using z)
   ·exact .inr (by simpa using z)
 ·rcases h6 y hy with z | z
  ·rw [e] at z;simp at z
  ·simpa using z
theorem ZfZ {env : PySem.Env}{sc : Scope}(h : ∀ y ∈ sc.names, y.2 = .free → ∃ c, env.cells.lookup y.1 = some c) :
    ∃ cl, closureFor sc env = pure cl ∧ (∀ n c, cl.lookup n = some c → env.cells.lookup n = some c) ∧ (∀ y ∈ sc.names, y.2 = .free → ∃ c, cl.lookup y.1 = some c) ∧ (∀ n c, cl.lookup n = some c → (n, NameKind.free) ∈ sc.names) := by
  have go : ∀ (names : List (Str × NameKind)) (acc : List (Str × Addr)), (∀ y ∈ names, y.2 = .free → ∃ c, env.cells.lookup y.1 = some c) → (∀ n c, acc.lookup n = some c → env.cells.lookup n = some c) →
      ∃ cl, (forIn names acc (fun (p : Str × NameKind) (cs : List (Str × Addr)) => (match p with | (name, kind) => if (kind == .free) = true then (do let a ← cellOf env name; pure (ForInStep.yield ((name, a) :: cs))) else pure (ForInStep.yield cs) : Sem (ForInStep (List (Str × Addr))))) : Sem (List (Str × Addr))) = pure cl ∧
        (∀ n c, cl.lookup n = some c → env.cells.lookup n = some c) ∧ (∀ n c, acc.lookup n = some c → ∃ c', cl.lookup n = some c') ∧ (∀ y ∈ names, y.2 = .free → ∃ c, cl.lookup y.1 = some c) ∧ (∀ n c, cl.lookup n = some c → acc.lookup n = some c ∨ (n, NameKind.free) ∈ names) := by
    intro names
    induction names with
    | nil => intro acc _ ha; exact ⟨acc, rfl, ha, fun n c e => ⟨c, e⟩, (fun y hy => nomatch hy), fun n c e => .inl e⟩
    | cons p r ih =>
      obtain ⟨n, k⟩ := p
      intro acc hf ha
      have hr : ∀ y ∈ r, y.2 = .free → ∃ c, env.cells.lookup y.1 = some c := fun y hy => hf y (List.mem_cons_of_mem _ hy)
      rw [List.forIn_cons]
      by_cases hk : k = .free
      · obtain ⟨c, hc⟩ := hf (n, k) List.mem_cons_self hk
        have ha' : ∀ n' c', ((n, c) :: acc).lookup n' = some c' → env.cells.lookup n' = some c' := fun n' c' e => by
          rw [List.lookup_cons] at e
          cases hb : n' == n with
          | true => rw [hb] at e; cases e; rw [beq_iff_eq.mp hb]; exact hc
          | false => rw [hb] at e; exact ha n' c' e
        obtain ⟨cl, e1, e2, e3, e4, e5⟩ := ih ((n, c) :: acc) hr ha'
        have step : (if (k == NameKind.free) = true then (do let a ← cellOf env n; pure (ForInStep.yield ((n, a) :: acc))) else pure (ForInStep.yield acc) : Sem (ForInStep (List (Str × Addr)))) = pure (ForInStep.yield ((n, c) :: acc)) := by
          rw [if_pos (by simp [hk])]
          unfold cellOf
          rw [show env.cells.lookup n = some c from hc]
          rfl
        refine ⟨cl, ?_, e2, fun n' c' e => ?_, fun y hy hy2 => ?_, fun n' c' e => ?_⟩
        · dsimp only
          rw [step]
          exact e1
        · by_cases hb : n' == n
          · exact e3 n' c (by rw [List.lookup_cons, hb])
          · exact e3 n' c' (by rw [List.lookup_cons]; simp only [Bool.not_eq_true] at hb; rw [hb]; exact e)
        · rcases List.mem_cons.mp hy with rfl | hy
          · exact e3 n c (by rw [List.lookup_cons]; simp)
          · exact e4 y hy hy2
        · rcases e5 n' c' e with z | z
          · rw [List.lookup_cons] at z
            cases hb : n' == n with
            | true => rw [beq_iff_eq.mp hb, ← hk]; exact .inr List.mem_cons_self
            | false => rw [hb] at z; exact .inl z
          · exact .inr (List.mem_cons_of_mem _ z)
      · obtain ⟨cl, e1, e2, e3, e4, e5⟩ := ih acc hr ha
        have step : (if (k == NameKind.free) = true then (do let a ← cellOf env n; pure (ForInStep.yield ((n, a) :: acc))) else pure (ForInStep.yield acc) : Sem (ForInStep (List (Str × Addr)))) = pure (ForInStep.yield acc) := by
          rw [if_neg (by simpa using hk)]
        refine ⟨cl, ?_, e2, e3, fun y hy hy2 => ?_, fun n' c' e => ?_⟩
        · dsimp only
          rw [step]
          exact e1
        · rcases List.mem_cons.mp hy with rfl | hy
          · exact absurd hy2 hk
          · exact e4 y hy hy2
        · rcases e5 n' c' e with z | z
          · exact .inl z
          · exact .inr (List.mem_cons_of_mem _ z)
  obtain ⟨cl, e1, e2, _, e4, e5⟩ := go sc.names [] h (fun n c e => by simp at e)
  refine ⟨cl, ?_, e2, e4, fun n c e => (e5 n c e).elim (fun z => by simp at z) id⟩
  unfold closureFor
  exact (congrArg (fun (t : Sem (List (Str × Addr))) => t >>= fun cs => pure cs) e1)
theorem Zce:∀ (names:List (Str × NameKind)) (n:Nat) (acc:List (Str × Addr)) (h:Heap),(∀ y ∈ names,y.2≠.cell)→cellsFrom n names acc=acc∧pushCells h names=h
 | [],_,_,_,_=>⟨rfl,rfl⟩
 | (x,k)::r,n,acc,h,hc=>by
  have hk:(k == NameKind.cell)=false:=by simpa using hc (x,k) List.mem_cons_self
  unfold cellsFrom pushCells
  rw [if_neg (by rw [hk];simp),if_neg (by rw [hk];simp)]
  exact Zce r n acc h fun y hy=>hc y (List.mem_cons_of_mem _ hy)
theorem Zhq:∀ (names:List (Str × NameKind)) (n:Nat) (acc:List (Str × Addr)) (h:Heap) (x:Str),(∀ y ∈ names,y.2=.cell→y.1=x)→(names.filter fun y=>y.2 == .cell).length=1 →
  cellsFrom n names acc=(x,n)::acc∧pushCells h names=h.push { cls:=.type "cell",data:=.cell none }
 | [],_,_,_,_,_,hl=>by simp at hl
 | (y,k)::r,n,acc,h,x,hx,hl=>by
  by_cases hk:k=.cell
  ·subst hk
   have hr:∀ y ∈ r,y.2≠.cell:=fun z hz e=>by
    rw [List.filter_cons_of_pos (by simp)] at hl
    have hlen:(r.filter fun y=>y.2 == .cell).length=0:=by simpa using hl
    have hmem:z ∈ r.filter fun y=>y.2 == .cell:=List.mem_filter.mpr ⟨hz,by simp [e]⟩
    rw [List.length_eq_zero_iff.mp hlen] at hmem
    cases hmem
   have hyx:y=x:=hx (y,.cell) List.mem_cons_self rfl
   subst hyx
   unfold cellsFrom pushCells
   rw [if_pos (by simp),if_pos (by simp)]
   exact ⟨(Zce r _ _ h hr).1,(Zce r n acc _ hr).2⟩
  ·have hk':(k == NameKind.cell)=false:=by simpa using hk
   unfold cellsFrom pushCells
   rw [if_neg (by rw [hk'];simp),if_neg (by rw [hk'];simp)]
   exact Zhq r n acc h x (fun z hz=>hx z (List.mem_cons_of_mem _ hz)) (by rw [List.filter_cons_of_neg (by rw [hk'];simp)] at hl;exact hl)
theorem Zja {M:Model}{A:Around}{E:Value→Shared→Prop}{s:Shared}{sc:Scope}{g:Addr}{cl:List (Str × Addr)}{q:Str}{outer:PySem.Env}{Q:PySem.Env→Shared→Prop}
  (h:Q { scope:=sc,locals:=s.heap.objs.size,globals:=g,cells:=cellsFrom (s.heap.objs.size + 1) sc.names cl,qual:=q,func:=none,code:=outer.code,frame:=outer.frame,builtins:=outer.builtins }
   { s with heap:=pushCells (s.heap.push { cls:=.type "dict",data:=.dict #[] }) sc.names }):wpAny M A (newFunctionEnv sc g cl [] q none .none (some outer)) Q E s:=by
 simp only [newFunctionEnv,Option.isSome_some,if_true]
 refine wpAny_bind (wpAny_alloc ?_)
 refine wpAny_bind (wpAny_layCells _ (fun name kind cells=>by cases hkc:kind == NameKind.cell <;> simp [hkc]) _ _ _ _ ?_)
 rw [show ({ s with heap:=s.heap.push { cls:=.type "dict",data:=.dict #[] } }:Shared).heap.objs.size=s.heap.objs.size + 1 from Heap.size_push ..]
 exact wpAny_bind (wpAny_pure (wpAny_pure h))
end PV
set_option linter.all false
set_option Elab.async false
set_option maxRecDepth 100000
set_option maxHeartbeats 4000000
namespace PV
open PySem PySem.Spec PyProof.Rows
open L2 (V Hp HO Vals SqL SqT Same upd Cx PE PT PW PA PS PSs TE TT TA TS Inv RelV Yc Jd Jc Un)
noncomputable def rkd (osc:Scope) (n:Str) (k:NameKind):NameKind:=if (k == NameKind.free && osc.kind == .function && osc.names.lookup n == some .cell)=true then NameKind.cell else k
theorem Zgf (f:Str→NameKind→NameKind):∀ (names:List (Str × NameKind)) (y:Str),(names.map fun p=>(p.1,f p.1 p.2)).lookup y=(names.lookup y).map (f y)
 | [],y=>rfl
 | (n,k)::r,y=>by
  rw [List.map_cons,List.lookup_cons,List.lookup_cons]
  cases hy:y == n with
  | true =>
   have e:y=n:=beq_iff_eq.mp hy
   subst e
   rfl
  | false=>exact Zgf f r y
theorem Zby {osc:Scope}(names:List (Str × NameKind))(y:Str):(names.map fun (n,k)=>if (k == NameKind.free && osc.kind == .function && osc.names.lookup n == some .cell) then (n,NameKind.cell) else (n,k)).lookup y =
  (names.lookup y).map (rkd osc y):=by
 rw [← Zgf (rkd osc)]
 congr 1
 refine List.map_congr_left fun p _=>?_
 obtain ⟨n,k⟩:=p
 unfold rkd
 dsimp only
 split <;> rfl
theorem Zbp {sc osc:Scope}{y:Str}{k:NameKind}(h:(J0 sc osc).names.lookup y=some k):∃ k0,sc.names.lookup y=some k0∧(k=k0∨(k0=.free∧k=.cell)):=by
 have h':=h
 unfold J0 at h'
 dsimp only at h'
 rw [Zby] at h'
 cases e:sc.names.lookup y with
 | none=>rw [e] at h';cases h'
 | some k0 =>
  rw [e] at h'
  refine ⟨k0,rfl,?_⟩
  have h2:rkd osc y k0=k:=Option.some.inj h'
  unfold rkd at h2
  split at h2
  ·rename_i hc
   simp only [Bool.and_eq_true,beq_iff_eq] at hc
   exact .inr ⟨hc.1.1,h2.symm⟩
  ·exact .inl h2.symm
theorem Zfn {sc osc:Scope}{y:Str}(h:sc.names.lookup y=some .local):(J0 sc osc).names.lookup y=some .local:=by
 unfold J0;dsimp only;rw [Zby,h];rfl
theorem Zj5 {sc osc:Scope}{y:Str}(h:sc.names.lookup y=some .cell):(J0 sc osc).names.lookup y=some .cell:=by
 unfold J0;dsimp only;rw [Zby,h];rfl
theorem Zkm {sc osc:Scope}{y:Str}(h:sc.names.lookup y=some .free):(J0 sc osc).names.lookup y=some .cell∨(J0 sc osc).names.lookup y=some .free:=by
 unfold J0;dsimp only;rw [Zby,h]
 show some (rkd osc y .free)=some _∨some (rkd osc y .free)=some _
 unfold rkd
 split
 ·exact .inl rfl
 ·exact .inr rfl
section
variable {X:Cx} {osc sc:Scope} {x:Str} {i:Nat} {pins:List (Addr × Obj)} {σ:L2.St} {H:Hp} {s:Shared} {cl:List (Str × Addr)} {fp:List Addr}
theorem Zbz (CO : ZcF X.N osc sc x)(h0 : Heap)(n : Nat) :
    (∀ y ∈ sc.names, y.2 ≠ .cell) ∧ cellsFrom n sc.names cl = cl ∧ pushCells h0 sc.names = h0 ∨
    (x, NameKind.cell) ∈ sc.names ∧ cellsFrom n sc.names cl = (x, n) :: cl ∧ pushCells h0 sc.names = h0.push { cls := .type "cell", data := .cell none } := by
  by_cases h : ∀ y ∈ sc.names, y.2 ≠ .cell
  · exact .inl ⟨h, Zce sc.names n cl h0 h⟩
  · have h' : ∃ y ∈ sc.names, y.2 = .cell := by
      refine Classical.byContradiction fun z => h fun y hy e => z ⟨y, hy, e⟩
    obtain ⟨⟨y, k⟩, hy, e⟩ := h'
    have e' : k = .cell := e
    subst e'
    have hyx : y = x := CO.cell (y, .cell) hy rfl
    subst hyx
    have hl : (sc.names.filter fun y => y.2 == .cell).length = 1 := by
      have h1 := CO.once
      have hm : (y, NameKind.cell) ∈ sc.names.filter fun y => y.2 == .cell := List.mem_filter.mpr ⟨hy, by simp⟩
      have h2 := List.length_pos_of_mem hm
      omega
    exact .inr ⟨hy, Zhq sc.names n cl h0 y CO.cell hl⟩
theorem Zn3 (I : Inv X pins σ H s)(CO : ZcF X.N osc sc x)(hosc : X.env.scope = osc)(nd : X.N.Nodup)(hi : X.N[i]? = some x)
    (c1 : ∀ n c, cl.lookup n = some c → X.env.cells.lookup n = some c) (c2 : ∀ y ∈ sc.names, y.2 = .free → ∃ c, cl.lookup y.1 = some c) (c3 : ∀ n c, cl.lookup n = some c → (n, NameKind.free) ∈ sc.names)
    (hf : ∀ b ∈ fp, L2.FpOk X pins H b) (hl : ∀ b ∈ fp, b < s.heap.objs.size) :
    Inv (blk X osc sc (cellsFrom (s.heap.objs.size + 1) sc.names cl) s.heap.objs.size s H fp pins) [] (σ.set i none) H { s with heap := pushCells (s.heap.push { cls := .type "dict", data := .dict #[] }) sc.names } := by
  have keep : ∀ b o, s.heap.get? b = some o → (pushCells (s.heap.push { cls := .type "dict", data := .dict #[] }) sc.names).get? b = some o := fun b o e => pushCells_keeps _ _ b o (Heap.get?_push_of_some _ e)
  have hsz : (s.heap.push { cls := .type "dict", data := .dict #[] }).objs.size = s.heap.objs.size + 1 := Heap.size_push ..
  have hns : (pushCells (s.heap.push { cls := .type "dict", data := .dict #[] }) sc.names).Ns s.heap.objs.size (fun _ => none) := (Heap.Ns.new s.heap (.type "dict")).keeps (pushCells_keeps _ _)
  have F1 : ∀ y c, (cellsFrom (s.heap.objs.size + 1) sc.names cl).lookup y = some c → (X.env.cells.lookup y = some c ∧ c < s.heap.objs.size) ∨ (y = x ∧ c = s.heap.objs.size + 1 ∧ (pushCells (s.heap.push { cls := .type "dict", data := .dict #[] }) sc.names).IsCell c none) := fun y c e => by
    have old : cl.lookup y = some c → X.env.cells.lookup y = some c ∧ c < s.heap.objs.size := fun z => by
      have z1 := c1 y c z
      obtain ⟨v, q⟩ := I.cell y c z1
      exact ⟨z1, q.lt⟩
    rcases Zbz (cl := cl) CO (s.heap.push { cls := .type "dict", data := .dict #[] }) (s.heap.objs.size + 1) with ⟨_, e1, _⟩ | ⟨_, e1, e2⟩
    · rw [e1] at e; exact .inl (old e)
    · rw [e1, List.lookup_cons] at e
      cases hy : y == x with
      | true =>
        rw [hy] at e
        cases e
        refine .inr ⟨beq_iff_eq.mp hy, rfl, ?_⟩
        rw [e2]
        exact ⟨_, by rw [← hsz]; exact Heap.get?_push_size _ rfl, rfl⟩
      | false => rw [hy] at e; exact .inl (old e)
  have F2 : ∀ y c, y ≠ x → cl.lookup y = some c → (cellsFrom (s.heap.objs.size + 1) sc.names cl).lookup y = some c := fun y c hy e => by
    rcases Zbz (cl := cl) CO (s.heap.push { cls := .type "dict", data := .dict #[] }) (s.heap.objs.size + 1) with ⟨_, e1, _⟩ | ⟨_, e1, _⟩
    · rw [e1]; exact e
    · rw [e1, List.lookup_cons, beq_false_of_ne hy]; exact e
  have fresh : ∀ a, s.heap.objs.size ≤ a → H a = none := fun a ha => I.hok.fresh ha
  refine ⟨⟨I.ok.mod, CO.kind, I.ok.glob, I.ok.blt, Nat.le_refl _, fun y z c h1 h2 => ?_, fun y hy => ?_, fun y c hy e => ?_, I.ok.hd, I.ok.frames, .inl rfl, fun b hb => ⟨?_, fun y c e z => ?_⟩, I.bs, Nat.le_trans I.ok.bsz I.sz, fun b o e hb => ?_, fun b hb z => ?_, I.stack, I.Zjj⟩,
    rfl, I.bare, Un.kept keep, ⟨_, hns, fun j y v h1 h2 h3 => ?_⟩, fun y c e => ?_, fresh _ (Nat.le_refl _), fun y c e => ?_, fun p hp => ?_, I.hok.kept keep, by rw [List.length_set]; exact I.len⟩
  · -- inj
    rcases F1 y c h1 with ⟨a1, a2⟩ | ⟨a1, a2, _⟩
    · rcases F1 z c h2 with ⟨b1, b2⟩ | ⟨b1, b2, _⟩
      · exact I.ok.inj y z c a1 b1
      · rw [b2] at a2; exact absurd a2 (Nat.not_lt.mpr (Nat.le_succ _))
    · rcases F1 z c h2 with ⟨b1, b2⟩ | ⟨b1, b2, _⟩
      · rw [a2] at b2; exact absurd b2 (Nat.not_lt.mpr (Nat.le_succ _))
      · rw [a1, b1]
  · -- has
    have hy' : (J0 sc osc).names.lookup y = some .cell ∨ (J0 sc osc).names.lookup y = some .free := hy
    have hk : sc.names.lookup y = some .cell ∨ sc.names.lookup y = some .free := by
      rcases hy' with z | z
      · obtain ⟨k0, e0, e1⟩ := Zbp z
        rcases e1 with e1 | ⟨e1, _⟩
        · rw [← e1] at e0; exact .inl e0
        · rw [e1] at e0; exact .inr e0
      · obtain ⟨k0, e0, e1⟩ := Zbp z
        rcases e1 with e1 | ⟨_, e1⟩
        · rw [← e1] at e0; exact .inr e0
        · cases e1
    rcases hk with z | z
    · have hm := PySem.mem_of_lookup z
      have hyx : y = x := CO.cell (y, .cell) hm rfl
      subst hyx
      rcases Zbz (cl := cl) CO (s.heap.push { cls := .type "dict", data := .dict #[] }) (s.heap.objs.size + 1) with ⟨n1, _, _⟩ | ⟨_, e1, _⟩
      · exact absurd rfl (n1 _ hm)
      · exact ⟨s.heap.objs.size + 1, by show (cellsFrom _ _ _).lookup y = _; rw [e1, List.lookup_cons]; simp⟩
    · obtain ⟨c, hc⟩ := c2 (y, .free) (PySem.mem_of_lookup z) rfl
      have hc' : cl.lookup y = some c := hc
      rcases Zbz (cl := cl) CO (s.heap.push { cls := .type "dict", data := .dict #[] }) (s.heap.objs.size + 1) with ⟨_, e1, _⟩ | ⟨_, e1, _⟩
      · exact ⟨c, by show (cellsFrom _ _ _).lookup y = _; rw [e1]; exact hc'⟩
      · cases hy : y == x with
        | true => exact ⟨_, by show (cellsFrom _ _ _).lookup y = _; rw [e1, List.lookup_cons, hy]⟩
        | false => exact ⟨c, by show (cellsFrom _ _ _).lookup y = _; rw [e1, List.lookup_cons, hy]; exact hc'⟩
  · -- cab
    have hy' : sc.names.lookup y = some .cell := of_decide_eq_true hy
    have hm := PySem.mem_of_lookup hy'
    have hyx : y = x := CO.cell (y, .cell) hm rfl
    subst hyx
    have e' : (cellsFrom (s.heap.objs.size + 1) sc.names cl).lookup y = some c := e
    rcases Zbz (cl := cl) CO (s.heap.push { cls := .type "dict", data := .dict #[] }) (s.heap.objs.size + 1) with ⟨n1, _, _⟩ | ⟨_, e1, _⟩
    · exact absurd rfl (n1 _ hm)
    · rw [e1, List.lookup_cons] at e'
      simp at e'
      show s.heap.objs.size ≤ c
      rw [← e']
      exact Nat.le_succ _
  · exact Nat.ne_of_lt (hl b hb)
  · rcases F1 y c e with ⟨a1, a2⟩ | ⟨_, a2, _⟩
    · obtain ⟨_, _, _, _, f5, _⟩ := hf b hb
      exact f5 y c a1 z
    · have h3 := hl b hb
      rw [← z, a2] at h3
      exact absurd h3 (Nat.not_lt.mpr (Nat.le_succ _))
  · obtain ⟨_, _, _, f4, _⟩ := hf b hb
    rcases f4 with z | z
    · exact I.ok.noex b o e z
    · exact absurd (Nat.lt_of_lt_of_le (Heap.lt_size e) I.ok.bsz) (Nat.not_lt.mpr z)
  · obtain ⟨_, f2, f3, _⟩ := hf b hb
    rcases List.mem_cons.mp (I.Zdi b z) with q | q
    · exact f2 q
    · exact f3 q
  · -- loc
    have hji : j ≠ i := fun e => by
      subst e
      by_cases hlt : j < σ.length
      · rw [List.getElem?_set_self hlt] at h2; cases h2
      · rw [List.getElem?_eq_none (by rw [List.length_set]; omega)] at h2; cases h2
    rw [List.getElem?_set_ne (Ne.symm hji)] at h2
    have hyx : y ≠ x := fun e => hji (L2.ZfC nd (by rw [← e]; exact h1) hi)
    have hmemN : y ∈ X.N := List.mem_of_getElem? h1
    have hk : sc.names.lookup y = some .free := by
      have h3' : (J0 sc osc).names.lookup y = some .local ∨ (J0 sc osc).names.lookup y = some .cell ∨ (J0 sc osc).names.lookup y = some .free := h3
      have own : ∀ k, sc.names.lookup y = some k → (k = .local ∨ k = .cell) → False := fun k e hk => by
        rcases CO.own (y, k) (PySem.mem_of_lookup e) hk with z | z
        · exact hyx z
        · exact z hmemN
      rcases h3' with z | z | z
      · obtain ⟨k0, e0, e1⟩ := Zbp z
        rcases e1 with e1 | ⟨_, e1⟩
        · exact (own k0 e0 (.inl e1.symm)).elim
        · cases e1
      · obtain ⟨k0, e0, e1⟩ := Zbp z
        rcases e1 with e1 | ⟨e1, _⟩
        · exact (own k0 e0 (.inr e1.symm)).elim
        · rw [e1] at e0; exact e0
      · obtain ⟨k0, e0, e1⟩ := Zbp z
        rcases e1 with e1 | ⟨_, e1⟩
        · rw [← e1] at e0; exact e0
        · cases e1
    have hm := PySem.mem_of_lookup hk
    have ho := CO.free (y, .free) hm rfl
    obtain ⟨m, hn, hloc⟩ := I.loc
    obtain ⟨u, ru, lk⟩ := hloc j y v h1 h2 (by rw [hosc]; rcases ho with z | z; exact .inr (.inl z); exact .inr (.inr z))
    refine ⟨u, ru, .inr ⟨Zkm hk, ?_⟩⟩
    rcases lk with ⟨k1, _⟩ | ⟨_, c, hc, hcell⟩
    · have k1' : X.env.scope.names.lookup y = some .local := k1
      rw [hosc] at k1'
      rcases ho with z | z <;> (rw [k1'] at z; cases z)
    · obtain ⟨c', hc'⟩ := c2 (y, .free) hm rfl
      have e1 := c1 y c' hc'
      rw [hc] at e1; cases e1
      exact ⟨c, F2 y c hyx hc', hcell.keeps keep⟩
  · rcases F1 y c e with ⟨a1, _⟩ | ⟨_, _, a3⟩
    · obtain ⟨v, q⟩ := I.cell y c a1
      exact ⟨v, q.keeps keep⟩
    · exact ⟨none, a3⟩
  · rcases F1 y c e with ⟨a1, _⟩ | ⟨_, a2, _⟩
    · exact I.freeC y c a1
    · exact fresh c (by rw [a2]; exact Nat.le_succ _)
  · have hp' : p ∈ X.pn ++ pins := by
      have : p ∈ (X.pn ++ pins) ++ [] := hp
      simpa using this
    obtain ⟨q1, q2, q3, q4, q5⟩ := I.pin p hp'
    refine ⟨keep _ _ q1, q2, Nat.ne_of_lt (Heap.lt_size q1), fun z => ?_, q5⟩
    rcases List.mem_cons.mp (I.Zdi _ z) with w | w
    · exact q3 w
    · exact q4 w
theorem Zl0 {cs:List (Str × Addr)}{C:Addr}{pinsB:List (Addr × Obj)}{σb:L2.St}{Hb:Hp}{s1:Shared}(I:Inv X pins σ H s)(hf:∀ b ∈ fp,L2.FpOk X pins H b)(Ib:Inv (blk X osc sc cs C s H fp pins) pinsB σb Hb s1):Inv X pins σ Hb s1 :=
 I.call' (ch:=fp) Ib.os Ib.base Ib.hok Ib.bare fun b hb=>by
  obtain ⟨_,f2,_,f4,f5,f6⟩:=hf b hb
  exact ⟨f4,f2,f5,f6⟩
end
section
variable {prog:Program} {w:World} {A:Around} {R:Result→Shared→Prop} {s:Shared}
theorem Zic {elt target iter : Expr}{ifs : List Expr}{scope : Scope}{pos : Pos}{it acc : Value}{env : PySem.Env}(I : Nat → Shared → Prop)
    (turn : ∀ n s, I n s → wpAny (model prog w) A (pyNext it) (fun r s₁ => match r with
      | none => R (.ok .next) s₁
      | some v => wpAny (model prog w) A (letOwnedTupleGo target it v) (fun _ s₁' => wpAny (model prog w) A (assign target env v) (fun _ s₂ =>
          wpAny (model prog w) A (forIn ifs true fun c r => if r = true then do let ok ← isTrue c env (eval c env); pure (ForInStep.yield ok) else pure (ForInStep.yield r)) (fun ok s₃ =>
            if ok = true then wpAny (model prog w) A (eval elt env) (fun x s₄ =>
              wpAny (model prog w) A (call (.builtin "list.append") [acc, x]) (fun _ s₅ => ∃ m, m < n ∧ I m s₅) (fun _ _ => False) s₄) (fun _ _ => False) s₃
            else ∃ m, m < n ∧ I m s₃) (fun _ _ => False) s₂) (fun _ _ => False) s₁') (fun _ _ => False) s₁) (fun _ _ => False) s)
    (n : Nat) (h : I n s) :
    codeAny (model prog w) A (.compLoop (.ListComp elt [⟨target, iter, ifs, 0⟩] scope pos) 0 it acc env) R s := by
  refine codeAny_loop rfl I (fun n s hI => ?_) n h
  show wpAny _ A ((compTurn (.ListComp elt [⟨target, iter, ifs, 0⟩] scope pos) 0 it acc env).onRaise (fun x => do noteFrame x env; theTreesLotGoes x)) _ _ s
  refine wpAny_noted ?_
  rw [compTurn_list]
  refine wpAny_bind (wpAny_standAt (wpAny_bind (wpAny_mono (turn n s hI) (fun r s₁ h₁ => ?_) fun _ _ h' => h'.elim)))
  cases r with
  | none => exact wpAny_pure h₁
  | some v =>
    refine wpAny_bind (wpAny_mono h₁ (fun _ s₁' h₁' => ?_) fun _ _ h' => h'.elim)
    refine wpAny_bind (wpAny_mono h₁' (fun _ s₂ h₂ => wpAny_bind (wpAny_mono h₂ (fun ok s₃ h₃ => ?_) fun _ _ h' => h'.elim)) fun _ _ h' => h'.elim)
    cases ok with
    | false => exact wpAny_pure ⟨rfl, h₃⟩
    | true =>
      exact wpAny_bind (wpAny_bind (wpAny_mono h₃ (fun x s₄ h₄ => wpAny_bind (wpAny_mono h₄ (fun _ s₅ h₅ => wpAny_pure (wpAny_pure ⟨rfl, h₅⟩)) fun _ _ h' => h'.elim)) fun _ _ h' => h'.elim))
end
end PV
set_option linter.all false
set_option Elab.async false
set_option maxRecDepth 100000
set_option maxHeartbeats 4000000
namespace PV
open PySem PySem.Spec PyProof.Rows
open L2 (V Hp HO Vals SqL SqT Same upd Cx PE PT PW PA PS PSs TE TT TA TS Inv RelV Yc Jd Jc Un)
noncomputable def Zcr (X:Cx) (ifs:List Expr) (tc:TT):Prop:=∀ (pins:List (Addr × Obj)) (s:Shared) (σ:L2.St) (H:Hp) (Q:Bool→Hp→Prop),Inv X pins σ H s→tc σ H Q →
 wpAny (model X.prog X.w) X.A (forIn ifs true fun c r=>if r=true then do let ok ← isTrue c X.env (eval c X.env);pure (ForInStep.yield ok) else pure (ForInStep.yield r)) (L2.TP X pins σ Q) X.xe s
theorem Zer {X:Cx}:Zcr X [] (fun _ H Q=>Q true H):=fun pins s σ H Q I h=>wpAny_tests_nil ⟨H,I,h⟩
theorem ZlV {X:Cx}{c:Expr}{tc:TT}(h:PT X c tc):Zcr X [c] tc:=fun pins s σ H Q I q=>wpAny_tests_one (h pins s σ H Q I q)
noncomputable def ZcU (J:L2.It) (i:Nat) (tc:TT) (te:TE) (σ:L2.St) (p:Addr) (Q:L2.VK) (H1:Hp):Prop :=
 ∃ W:Nat→Nat→Hp→List V→Prop,(∃ m,W 0 m (upd H1 p (.lst [])) [])∧∀ k m H2 acc,W k m H2 acc→H2 p=some (.lst acc)∧acc.length < sizeLine ∧
  ((J.stop k H2∧Q (.ref p) H2)∨(J.go k H2∧∀ v H3,J.yld k H2 v H3→tc (σ.set i (some v)) H3 fun b H4=>if b=true then te (σ.set i (some v)) H4 fun w H5=>H5 p=some (.lst acc)∧∃ m',m' < m∧W (k + 1) m' (upd H5 p (.lst (acc++[w]))) (acc++[w])
   else ∃ m',m' < m∧W (k + 1) m' H4 acc))
noncomputable def Zku (wi:L2.TI) (i:Nat) (tc:TT) (te:TE):TE:=fun σ H Q=>wi σ H fun J H1=>∀ p,H1 p=none→ZcU J i tc te σ p Q H1
section
variable {X:Cx} {sc:Scope} {x:Str} {i:Nat} {px pos:Pos} {iter elt:Expr} {ifs:List Expr} {wi:L2.TI} {tc:TT} {te:TE}
theorem Zf3 (nox : ∀ e s, X.xe e s → False)(hc : X.calm = true)(nd : X.N.Nodup)(CO : ZcF X.N X.env.scope sc x)(hi : X.N[i]? = some x)
    (hT : ∀ cs C s0 H0 fp pn, Zcr (blk X X.env.scope sc cs C s0 H0 fp pn) ifs tc) (hE : ∀ cs C s0 H0 fp pn, PE (blk X X.env.scope sc cs C s0 H0 fp pn) elt te)
    {pins : List (Addr × Obj)} {σ : L2.St} {H : Hp} {s : Shared} {E : Value → Shared → Prop} {Q : L2.VK} {it : Addr} {fp : List Addr} {tn : Nat → Heap → Prop} {J : L2.It} {cl : List (Str × Addr)} {RR : Value → Addr → Result → Shared → Prop}
    (I : Inv X pins σ H s) (T : L2.Turn X.prog X.w X.K (.Name x px) J fp it tn) (st : tn 0 s.heap) (hf : ∀ b ∈ fp, L2.FpOk X pins H b) (hq : ∀ p, H p = none → ZcU J i tc te σ p Q H)
    (c1 : ∀ n c, cl.lookup n = some c → X.env.cells.lookup n = some c) (c2 : ∀ y ∈ sc.names, y.2 = .free → ∃ c, cl.lookup y.1 = some c) (c3 : ∀ n c, cl.lookup n = some c → (n, NameKind.free) ∈ sc.names)
    (hRR : ∀ (p C : Addr) (Hb : Hp) (m : Str → Option Value) (s1 : Shared), Inv X pins σ Hb s1 → Q (.ref p) Hb → s1.heap.Ns C m → Hb C = none → C ≠ X.env.locals → X.s₀.heap.objs.size ≤ C → (∀ y c, X.env.cells.lookup y = some c → c ≠ C) → (∀ q ∈ X.pn ++ pins, q.1 ≠ C) → C ∉ X.fs → RR (.ref p) C (.ok .next) s1) :
    wpAny (model X.prog X.w) X.A (newList []) (fun acc s₃ => wpAny (model X.prog X.w) X.A (newFunctionEnv sc X.env.globals cl [] X.env.qual none .none (some X.env)) (fun cenv s₄ =>
      codeAny (model X.prog X.w) X.A (.compStart (.ListComp elt [⟨.Name x px, iter, ifs, 0⟩] sc pos) 0 (.ref it) acc { cenv with scope := relabel sc X.env }) (RR acc cenv.locals) s₄) E s₃) E s := by
  refine wpAny_newObj_type (Zja ?_)
  have hp : H s.heap.objs.size = none := I.fresh
  have I3 : Inv X pins σ (upd H s.heap.objs.size (.lst [])) { s with heap := s.heap.push { cls := .type "list", data := .seq ([] : List Value).toArray } } := I.lnew (t' := s.toks) (its := []) (ys := []) .nil (Nat.zero_le _)
  obtain ⟨W, ⟨m0, w0⟩, turn⟩ := hq _ hp
  generalize hs3 : ({ s with heap := s.heap.push { cls := .type "list", data := .seq ([] : List Value).toArray } } : Shared) = s3 at I3
  generalize hH3 : upd H s.heap.objs.size (.lst []) = H3 at I3 w0
  have hlt : ∀ b ∈ fp, b < s.heap.objs.size := fun b hb => by obtain ⟨o, e, _⟩ := T.obj 0 s.heap st b hb; exact Heap.lt_size e
  have hk3 : ∀ b o, s.heap.get? b = some o → s3.heap.get? b = some o := fun b o e => by rw [← hs3]; exact Heap.get?_push_of_some _ e
  have hf3 : ∀ b ∈ fp, L2.FpOk X pins H3 b := fun b hb => by
    obtain ⟨f1, f2⟩ := hf b hb
    refine ⟨?_, f2⟩
    rw [← hH3, Jd (Nat.ne_of_lt (hlt b hb))]
    exact f1
  have st3 : tn 0 s3.heap := T.keep 0 _ _ st fun b hb o e => hk3 b o e
  have hl3 : ∀ b ∈ fp, b < s3.heap.objs.size := fun b hb => by obtain ⟨o, e, _⟩ := T.obj 0 s3.heap st3 b hb; exact Heap.lt_size e
  have Ib := Zn3 (i := i) (fp := fp) I3 CO rfl nd hi c1 c2 c3 hf3 hl3
  let Xb := blk X X.env.scope sc (cellsFrom (s3.heap.objs.size + 1) sc.names cl) s3.heap.objs.size s3 H3 fp pins
  have hTb : Zcr Xb ifs tc := hT _ _ _ _ _ _
  have hEb : PE Xb elt te := hE _ _ _ _ _ _
  have stk : ∀ b, b ∈ L2.frs X.stack → b < s3.heap.objs.size := fun b hb => by
    refine Nat.lt_of_not_le fun hle => ?_
    rcases List.mem_cons.mp (I3.Zdi b hb) with z | z
    · rw [z] at hle; exact absurd I3.lt (Nat.not_lt.mpr hle)
    · exact I3.nofs hle z
  have st4 : tn 0 (pushCells (s3.heap.push { cls := .type "dict", data := .dict #[] }) sc.names) := T.keep 0 _ _ st3 fun b hb o e => pushCells_keeps _ _ b o (Heap.get?_push_of_some _ e)
  have xf : ∀ {α : Type} {t : Sem α} {Q : α → Shared → Prop} {s : Shared}, wpAny (model X.prog X.w) X.A t Q X.xe s → wpAny (model X.prog X.w) X.A t Q (fun _ _ => False) s := fun h => wpAny_mono h (fun _ _ q => q) fun e s q => nox e s q
  have pgx : L2.PG Xb (.Name x px) (L2.Zgz i) := by
    refine L2.ZeW nd hi ?_ ?_
    · rcases CO.var with z | z
      · exact .inl (Zfn z)
      · exact .inr (Zj5 z)
    · rcases CO.var with z | z
      · exact .inr (Zfn z)
      · exact .inl (decide_eq_true z)
  have loop : ∀ s4 : Shared, s4 = { s3 with heap := pushCells (s3.heap.push { cls := .type "dict", data := .dict #[] }) sc.names } →
      codeAny (model X.prog X.w) X.A (.compLoop (.ListComp elt [⟨.Name x px, iter, ifs, 0⟩] sc pos) 0 (.ref it) (.ref s.heap.objs.size) Xb.env) (RR (.ref s.heap.objs.size) s3.heap.objs.size) s4 := by
    rintro s4 rfl
    have stat : ∀ {Hc : Hp}, (∀ b ∈ fp, Hc b = none) → ∀ b ∈ fp, L2.FpOk Xb [] Hc b := fun {Hc} hn b hb => by
      obtain ⟨_, f2, f3, f4, f5, f6⟩ := hf3 b hb
      refine ⟨hn b hb, Nat.ne_of_lt (hl3 b hb), fun z => ?_, .inl hb, Ib.ok.exf b hb |>.2, fun q hq' => ?_⟩
      · rcases List.mem_cons.mp (I3.Zdi b z) with w | w
        · exact f2 w
        · exact f3 w
      · have hq2 : q ∈ (X.pn ++ pins) ++ [] := hq'
        exact f6 q (by simpa using hq2)
    refine Zic (fun n s' => ∃ k ov Hc acc, Inv Xb [] (σ.set i ov) Hc s' ∧ tn k s'.heap ∧ (∀ b ∈ fp, Hc b = none) ∧ W k n Hc acc) ?_ m0 ⟨0, none, H3, [], Ib, st4, fun b hb => (hf3 b hb).1, w0⟩
    rintro n s5 ⟨k, ov, Hc, acc, I5, st5, fr5, w5⟩
    obtain ⟨hacc, hlen, hcase⟩ := turn k n Hc acc w5
    rcases hcase with ⟨stop, qn⟩ | ⟨go, step⟩
    · refine xf (L2.thn (T.done Xb rfl rfl rfl hc k [] s5 (σ.set i ov) Hc X.xe I5 (stat fr5) st5 stop) fun r s6 ⟨hr, I6⟩ => ?_)
      subst hr
      obtain ⟨mm, hn6, _⟩ := I6.loc
      refine hRR _ _ Hc mm s6 (Zl0 (osc := X.env.scope) (sc := sc) I3 hf3 I6) qn hn6 I6.free (Ne.symm (Nat.ne_of_lt I3.lt)) I3.sz (fun y c e z => ?_) (fun q hq' z => ?_) fun z => ?_
      · obtain ⟨v, q⟩ := I3.cell y c e
        exact absurd q.lt (by rw [z]; exact Nat.lt_irrefl _)
      · exact absurd (Heap.lt_size (I3.pin q hq').1) (by rw [z]; exact Nat.lt_irrefl _)
      · exact I3.nofs (Nat.le_refl _) z
    · refine xf (L2.thn (T.item Xb rfl rfl rfl hc k [] s5 (σ.set i ov) Hc X.xe I5 (stat fr5) st5 go) fun r s6 ⟨u, hr, h6⟩ => ?_)
      subst hr
      refine xf (L2.thn h6 fun _ s7 ⟨v, H7, I7, r7, y7, st7, fr7⟩ => ?_)
      have I7' := I7.pinned (stat fr7) (T.obj _ _ st7)
      have hv := step v H7 y7
      refine xf (L2.thn (pgx _ s7 (σ.set i ov) H7 v u (fun σ' H' => σ' = σ.set i (some v) ∧ H' = H7) I7' r7 ⟨by rw [List.set_set], rfl⟩) fun _ s8 ⟨σ8, H8, I8, e8, e8'⟩ => ?_)
      subst e8 e8'
      refine xf (L2.thn (hTb _ s8 _ H8 _ I8 hv) fun ok s9 ⟨H9, I9, q9⟩ => ?_)
      have again : ∀ {σ10 : L2.St} {H10 : Hp} {acc' : List V} {s10 : Shared}, Inv Xb ([] ++ L2.Zem fp s7.heap) σ10 H10 s10 → σ10 = σ.set i (some v) → (∃ m', m' < n ∧ W (k + 1) m' H10 acc') →
          ∃ m, m < n ∧ ∃ k ov Hc acc, Inv Xb [] (σ.set i ov) Hc s10 ∧ tn k s10.heap ∧ (∀ b ∈ fp, Hc b = none) ∧ W k m Hc acc := fun {σ10 H10 acc' s10} I10 e10 ⟨m', hm, w10⟩ => by
        subst e10
        refine ⟨m', hm, k + 1, some v, H10, acc', I10.ZcG, T.keep _ _ _ st7 fun b hb o e => (I10.pin (b, o) (List.mem_append_right _ (List.mem_append_right _ (L2.Zch hb e)))).1, fun b hb => ?_, w10⟩
        obtain ⟨o, e, d⟩ := T.obj _ _ st7 b hb
        exact (I10.pin (b, o) (List.mem_append_right _ (List.mem_append_right _ (L2.Zch hb e)))).2.1
      cases ok with
      | false =>
        show ∃ m, m < n ∧ _
        rw [if_neg Bool.false_ne_true] at q9
        exact again I9 rfl q9
      | true =>
        rw [if_pos rfl] at q9
        show wpAny _ _ _ _ _ _
        refine xf (L2.thn (hEb _ s9 _ H9 _ I9 q9) fun ww s10 ⟨x10, H10, I10, r10, q10, m', hm, w10⟩ => ?_)
        refine xf (L2.thn (L2.Zei (X := Xb) _ s10 _ H10 (.ref s.heap.objs.size) [x10] (.ref s.heap.objs.size) [ww] (fun _ H' => H' = upd H10 s.heap.objs.size (.lst (acc ++ [x10]))) I10 rfl (.cons r10 .nil) ⟨_, acc, x10, rfl, rfl, q10, hlen, rfl⟩) fun _ s11 ⟨_, H11, I11, _, e11⟩ => ?_)
        subst e11
        exact again I11 rfl ⟨m', hm, w10⟩
  subst hs3
  have l := loop _ rfl
  exact codeAny_compStart_list l (T.self _ 0 _ _ _ st4 l)
theorem ZjC {pins:List (Addr × Obj)}{σ:L2.St}{H:Hp}{s:Shared}(I:Inv X pins σ H s)(CO:ZcF X.N X.env.scope sc x):∀ y ∈ sc.names,y.2=.free→∃ c,X.env.cells.lookup y.1=some c:=fun y hy e =>
 I.ok.has y.1 (CO.free y hy e)
theorem ZjJ (nox:∀ e s,X.xe e s→False)(hc:X.calm=true)(nd:X.N.Nodup)(CO:ZcF X.N X.env.scope sc x)(hi:X.N[i]?=some x)(hI:L2.PI X (.Name x px) iter wi)
  (hT:∀ cs C s0 H0 fp pn,Zcr (blk X X.env.scope sc cs C s0 H0 fp pn) ifs tc) (hE:∀ cs C s0 H0 fp pn,PE (blk X X.env.scope sc cs C s0 H0 fp pn) elt te)
  (hs:∀ x,foldedSetIterable iter X.env x=pure x):PE X (.ListComp elt [⟨.Name x px,iter,ifs,0⟩] sc pos) (Zku wi i tc te):=by
 intro pins s σ H Q I h
 obtain ⟨cl,hcl,c1,c2,c3⟩:=ZfZ (ZjC I CO)
 rw [eval_ListComp]
 refine wpAny_comprehension_free (use:=none) rfl hs hcl CO.kind CO.loc (L2.thn (hI pins s σ H _ I h) fun v s1 h1=>L2.thn h1 fun itv s2 h2=>?_)
 obtain ⟨it,fp,tn,J,H2,rfl,I2,T,st,hf,hq⟩:=h2
 refine Zf3 (RR:=fun acc C=>compPost (model X.prog X.w) X.A X.xe none (L2.EP X pins σ Q) acc C) nox hc nd CO hi hT hE I2 T st hf hq c1 c2 c3 ?_
 intro p C Hb m s1' I' q hns hC hL hsz hcell hpin hfs
 refine ⟨m,hns,fun h' hs'=>?_⟩
 have I'':=I'.turned (h':=h') (t':=s1'.toks) (it:=C) (fun b o hb e=>hs'.extBut b o hb e) hC hL (.inr hsz) hcell hpin
 exact ⟨.ref p,Hb,I'',rfl,q⟩
theorem Zgu {j:Nat}{y:Str}{py spos:Pos}(nox:∀ e s,X.xe e s→False)(hc:X.calm=true)(nd:X.N.Nodup)(CO:ZcF X.N X.env.scope sc x)(hi:X.N[i]?=some x)(hI:L2.PI X (.Name x px) iter wi)
  (hT:∀ cs C s0 H0 fp pn,Zcr (blk X X.env.scope sc cs C s0 H0 fp pn) ifs tc) (hE:∀ cs C s0 H0 fp pn,PE (blk X X.env.scope sc cs C s0 H0 fp pn) elt te)
  (hs:∀ x,foldedSetIterable iter X.env x=pure x) (hj:X.N[j]?=some y) (hy:L2.Loc X.env.scope y) (hfn:X.fn y=true∨X.env.scope.names.lookup y=some .local)
  (hsw:swapsWith (.ListComp elt [⟨.Name x px,iter,ifs,0⟩] sc pos) (some (.Name y py)) spos.line X.env=pure true) :
  PS X (.Assign [.Name y py] (.ListComp elt [⟨.Name x px,iter,ifs,0⟩] sc pos) spos) (L2.tAsg (Zku wi i tc te) (L2.Zgz j)):=by
 intro pins s σ H D0 I h
 obtain ⟨cl,hcl,c1,c2,c3⟩:=ZfZ (ZjC I CO)
 rw [exec_Assign_Name_used _ _ _ _ hsw]
 refine wpAny_bind (wpAny_standAt (wpAny_bind ?_))
 show wpAny _ X.A (do let _ ← comprehension (.ListComp elt [⟨.Name x px,iter,ifs,0⟩] sc pos) sc X.env _ (newList []) false (eval iter X.env) (some (assign (.Name y py) X.env))) _ _ s
 refine wpAny_bind (wpAny_mono (wpAny_comprehension_free (use:=some (assign (.Name y py) X.env)) (Q:=fun _ s'=>L2.SP X pins D0 .next s') rfl hs hcl CO.kind CO.loc
  (L2.thn (hI pins s σ H _ I h) fun v s1 h1=>L2.thn h1 fun itv s2 h2=>?_)) (fun _ s' hq=>wpAny_pure (wpAny_pure hq)) fun _ _ e=>e)
 obtain ⟨it,fp,tn,J,H2,rfl,I2,T,st,hf,hq⟩:=h2
 refine Zf3 (RR:=fun acc C=>compPost (model X.prog X.w) X.A X.xe (some (assign (.Name y py) X.env)) (fun _ s'=>L2.SP X pins D0 .next s') acc C) nox hc nd CO hi hT hE I2 T st hf hq c1 c2 c3 ?_
 intro p C Hb m s1' I' q hns hC hL hsz hcell hpin hfs
 show wpAny _ X.A (assign (.Name y py) X.env (.ref p)) _ _ _
 obtain ⟨oC,es,ep,hoC,hdC,rest⟩:=id hns
 have Ip:Inv X (pins++[(C,oC)]) σ Hb s1':=I'.Zdp fun q hq'=>(List.mem_append.mp hq').elim (fun z=>I'.pin q (List.mem_append_right _ z)) fun z=>by
  have e:q=(C,oC):=by simpa using z
  subst e
  exact ⟨hoC,hC,hL,hfs,fun v e=>by rw [hdC] at e;cases e⟩
 refine wpAny_assign_Name (L2.ZfS Ip nd hj hy (v:=.ref p) rfl (fun s2' I2'=>?_) hfn)
 have hC2:=(I2'.pin (C,oC) (List.mem_append_right _ (List.mem_append_right _ (by simp)))).1
 refine ⟨m,⟨oC,es,ep,hC2,hdC,rest⟩,fun h' hs'=>?_⟩
 have I3':Inv X pins (σ.set j (some (.ref p))) Hb s2':=I2'.ZcG
 have I4':=I3'.turned (h':=h') (t':=s2'.toks) (it:=C) (fun b o hb e=>hs'.extBut b o hb e) hC hL (.inr hsz) hcell hpin
 exact ⟨_,Hb,I4',q⟩
end
end PV
set_option linter.all false
set_option Elab.async false
set_option maxRecDepth 100000
set_option maxHeartbeats 4000000
namespace PV
open PySem PySem.Spec PyProof.Rows
open L2 (V Hp HO Vals SqL SqT Same upd Cx PE PT PW PA PS PSs TE TT TA TS Inv RelV Yc Jd Jc Un)
section
variable {X:Cx} {sc:Scope} {x:Str} {i:Nat} {px pos:Pos} {iter elt c:Expr} {lx:Lx} {t:Tx} {f:Ex} {m:Md} {r:RetP}
theorem Ext.Zju {F H F2 H2 F5 H5:Hp}(e:Ext F H F2 H2)(e5:Ext F2 H2 F5 H5){p:Addr}(hp:H p=none)(f2:F2 p=none)(h2:H2 p≠none)(o:HO):Ext F H F5 (upd H5 p o)∧F5 p=none:=by
 have f5:F5 p=none:=by
  cases z:F5 p with
  | none=>rfl
  | some u =>
   rcases e5.dm p u z with y | y
   ·rw [f2] at y;cases y
   ·exact absurd y h2
 have e':=e.trans e5
 refine ⟨⟨fun b u h=>by rw [Jd (Jc h hp)];exact e'.hh b u h,e'.ff,e'.dm,fun b u h=>by rw [Jd (Jc h f5)];exact e'.fh b u h⟩,f5⟩
theorem Znh {BH F H:Hp}{p:Addr}{o:HO}(hm:m≠.r):Same (hpM BH F H m) (hpM BH F (upd H p o) m):=by
 cases m with
 | r=>exact absurd rfl hm
 | k=>exact .refl _
 | f=>exact .refl _
theorem Zj0 {K:PySem.W.Frag}{tc:TT}(htc:∀ σ H Q,tTst K t σ H Q→tc σ H Q)(hm:m≠.r){BF BH F F1 H H1:Hp}{σ:L2.St}{env:Env}{L:Nat→List Addr}{ds xs:List D}{J:L2.It}{p:Addr}{Q:L2.VK}(S:SOk K BF BH F H σ env L)(z1:Ext F H F1 H1)(J1:ItOk K J F1 ds)
  (hl:ds.length≤lim) (hx:Z7 i t f env ds=some xs) (hp:H1 p=none) (q:∀ vs F' H',Ext F H F' H'→H p=none→H' p=some (.lst vs)→F' p=none→Reps K (hpM BH F' H' m) xs vs→Q (.ref p) H') :
  ZcU J i tc (tD K m f) σ p Q H1:=by
 have hp0:H p=none:=z1.hh.free hp
 have hpF:F1 p=none:=z1.fh.free hp
 refine ⟨fun k mm H2 acc=>mm=ds.length - k∧k≤ds.length∧H2 p=some (.lst acc)∧∃ F2 ys zs,Ext F H F2 H2∧Same F1 F2∧F2 p=none∧ys.length≤k∧Reps K (hpM BH F2 H2 m) ys acc∧Z7 i t f env (ds.drop k)=some zs∧xs=ys++zs,
  ⟨ds.length,by simp,Nat.zero_le _,Yc,F1,[],xs,z1.trans (Ext.own z1.fh hp),.refl _,hpF,Nat.zero_le _,Reps.nil,hx,rfl⟩,?_⟩
 rintro k mm H2 acc ⟨rfl,hk,hacc,F2,ys,zs,z2,s12,f2,hy,ra,hz,hxs⟩
 have hal:acc.length≤lim:=by rw [← ra.length];omega
 refine ⟨hacc,Nat.lt_of_le_of_lt hal Zlj,?_⟩
 by_cases hlt:k < ds.length
 ·refine .inr ⟨J1.go k H2 (s12.trans z2.fh) hlt,fun v H3 hy3=>?_⟩
  obtain ⟨d,F3,hd,z3,r3⟩:=J1.yld k H2 v H3 F2 s12 z2.fh hlt hy3
  have hd':ds[k]=d:=by rw [List.getElem?_eq_getElem hlt] at hd;exact Option.some.inj hd
  rw [List.drop_eq_getElem_cons hlt,hd'] at hz
  simp only [Z7] at hz
  have z13:=z2.trans z3
  have S3:=(S.ext z13).ZdH i r3
  have h2p:H2 p≠none:=by rw [hacc];simp
  split at hz
  ·rename_i ht
   refine htc _ _ _ ⟨BF,BH,F3,_,_,true,S3,ht,fun F4 H4 z4=>L2.iteT ?_⟩
   split at hz
   ·rename_i e1 zs' he hz'
    cases hz
    refine ⟨BF,BH,F4,_,_,e1,S3.ext z4,he,fun w F5 H5 z5 r5=>?_⟩
    have z25:=(z3.trans z4).trans z5
    obtain ⟨zz,f5⟩:=z2.Zju z25 hp0 f2 h2p (.lst (acc++[w]))
    refine ⟨z25.hh _ _ hacc,ds.length - (k + 1),by omega,rfl,hlt,Yc,F5,ys++[e1],zs',zz,s12.trans z25.ff,f5,by rw [List.length_append,List.length_singleton];omega,?_,hz',by rw [hxs,List.append_assoc];rfl⟩
    exact Reps.mono (Znh hm) _ _ ((Reps.mono (ZbM z25 m) _ _ ra).append (Reps.cons r5 Reps.nil))
   ·cases hz
  ·rename_i ht
   refine htc _ _ _ ⟨BF,BH,F3,_,_,false,S3,ht,fun F4 H4 z4=>L2.iteF ?_⟩
   have z24:=z3.trans z4
   have f4:F4 p=none:=by
    cases q4:F4 p with
    | none=>rfl
    | some u =>
     rcases z24.dm p u q4 with y | y
     ·rw [f2] at y;cases y
     ·exact absurd y h2p
   exact ⟨ds.length - (k + 1),by omega,rfl,hlt,z24.hh _ _ hacc,F4,ys,zs,z2.trans z24,s12.trans z24.ff,f4,by omega,Reps.mono (ZbM z24 m) _ _ ra,hz,hxs⟩
  ·cases hz
 ·have ek:k=ds.length:=by omega
  subst ek
  rw [List.drop_length] at hz
  have hz0:zs=[]:=by simp only [Z7] at hz;exact (Option.some.inj hz).symm
  subst hz0
  rw [List.append_nil] at hxs
  subst hxs
  exact .inl ⟨J1.stop H2 (s12.trans z2.fh),q acc F2 H2 z2 hp0 hacc f2 ra⟩
theorem Zb3 {env:Env}{d:D}(h:Yk i lx t f env=some d):∃ ds xs,lx env=some ds∧ds.length≤lim∧Z7 i t f env ds=some xs∧d=.lst xs:=by
 unfold Yk at h
 split at h
 ·rename_i ds h1
  split at h
  ·rename_i hl
   split at h
   ·rename_i xs h2
    cases h
    exact ⟨ds,xs,h1,hl,h2,rfl⟩
   ·cases h
  ·cases h
 ·cases h
theorem ZgO {tc:TT}(htc:∀ σ H Q,tTst X.K t σ H Q→tc σ H Q)(hm:m≠.r)(σ:L2.St)(H:Hp)(Q:L2.VK)(h:tO X.K m (Yk i lx t f) σ H Q):Zku (tIt X.K lx) i tc (tD X.K m f) σ H Q:=by
 obtain ⟨BF,BH,F,env,L,ds0,S,e,q⟩:=h
 obtain ⟨ds,xs,h1,hl,h2,e2⟩:=Zb3 e
 cases e2
 exact ⟨BF,BH,F,env,L,ds,S,h1,fun J F1 H1 z1 J1 p hp=>Zj0 htc hm S z1 J1 hl h2 hp fun vs F' H' z a b c d=>q p vs F' H' z a b c d⟩
theorem ZkT {K:PySem.W.Frag}:∀ σ H Q,tTst K Yq σ H Q→(fun (_:L2.St) (H:Hp) (Q:Bool→Hp→Prop)=>Q true H) σ H Q:=fun σ H Q hh_=>el9 hh_ fun BF BH F env L b S e q=>by
 cases e;exact q F H (.refl S.fh)
variable (nox:∀ e s,X.xe e s→False) (nd:X.N.Nodup)
include nox nd
theorem ZgL (i:Nat)(hI:PId X (.Name x px) iter lx)(hE:∀ cs C s0 H0 fp pn,PD (blk X X.env.scope sc cs C s0 H0 fp pn) m elt f)(hm:m≠.r:=by exact fun h=>nomatch h)(hc:X.calm=true:=by rfl)(hco:ZcR X.N X.env.scope sc x=true:=by kernel_rfl)(hi:X.N[i]?=some x:=by kernel_rfl)
  (hs:∀ x,foldedSetIterable iter X.env x=pure x:=by intro _;rfl):PDo X m (.ListComp elt [⟨.Name x px,iter,[],0⟩] sc pos) (Yk i lx Yq f) :=
 PE.of (ZjJ (te:=tD X.K m f) nox hc nd (ZdD hco) hi hI (fun _ _ _ _ _ _=>Zer) (fun cs C s0 H0 fp pn=>(hE cs C s0 H0 fp pn).h) hs) fun σ H Q h=>ZgO ZkT hm σ H Q h
theorem ZhY (i:Nat)(hI:PId X (.Name x px) iter lx)(hT:∀ cs C s0 H0 fp pn,PTd (blk X X.env.scope sc cs C s0 H0 fp pn) c t)(hE:∀ cs C s0 H0 fp pn,PD (blk X X.env.scope sc cs C s0 H0 fp pn) m elt f)(hm:m≠.r:=by exact fun h=>nomatch h)(hc:X.calm=true:=by rfl)
  (hco:ZcR X.N X.env.scope sc x=true:=by kernel_rfl) (hi:X.N[i]?=some x:=by kernel_rfl) (hs:∀ x,foldedSetIterable iter X.env x=pure x:=by intro _;rfl):PDo X m (.ListComp elt [⟨.Name x px,iter,[c],0⟩] sc pos) (Yk i lx t f) :=
 PE.of (ZjJ (tc:=tTst X.K t) (te:=tD X.K m f) nox hc nd (ZdD hco) hi hI (fun cs C s0 H0 fp pn=>ZlV (hT cs C s0 H0 fp pn)) (fun cs C s0 H0 fp pn=>(hE cs C s0 H0 fp pn).h) hs) fun σ H Q h=>ZgO (fun _ _ _ q=>q) hm σ H Q h
theorem Zai (i:Nat)(hI:PId X (.Name x px) iter lx)(hE:∀ cs C s0 H0 fp pn,PD (blk X X.env.scope sc cs C s0 H0 fp pn) m elt f)(hm:m≠.r:=by exact fun h=>nomatch h)(hc:X.calm=true:=by rfl)(hco:ZcR X.N X.env.scope sc x=true:=by kernel_rfl)(hi:X.N[i]?=some x:=by kernel_rfl)
  (hs:∀ x,foldedSetIterable iter X.env x=pure x:=by intro _;rfl):PD X m (.ListComp elt [⟨.Name x px,iter,[],0⟩] sc pos) (Yk i lx Yq f) :=
 (ZgL nox nd i hI hE hm hc hco hi hs).d fun env d h=>by obtain ⟨_,xs,_,_,_,e⟩:=Zb3 h;exact ⟨xs,e⟩
theorem ZfB (i:Nat)(hI:PId X (.Name x px) iter lx)(hT:∀ cs C s0 H0 fp pn,PTd (blk X X.env.scope sc cs C s0 H0 fp pn) c t)(hE:∀ cs C s0 H0 fp pn,PD (blk X X.env.scope sc cs C s0 H0 fp pn) m elt f)(hm:m≠.r:=by exact fun h=>nomatch h)(hc:X.calm=true:=by rfl)
  (hco:ZcR X.N X.env.scope sc x=true:=by kernel_rfl) (hi:X.N[i]?=some x:=by kernel_rfl) (hs:∀ x,foldedSetIterable iter X.env x=pure x:=by intro _;rfl):PD X m (.ListComp elt [⟨.Name x px,iter,[c],0⟩] sc pos) (Yk i lx t f) :=
 (ZhY nox nd i hI hT hE hm hc hco hi hs).d fun env d h=>by obtain ⟨_,xs,_,_,_,e⟩:=Zb3 h;exact ⟨xs,e⟩
omit nox nd
theorem Zne {te:TE}{j:Nat}(D0:L2.Ends)(σ:L2.St)(H:Hp)(h:tS X.K r (sSet j f) D0 σ H)(hf:∀ env d,f env=some d→∃ ds,d=.lst ds)(hte:∀ Q,tO X.K .k f σ H Q→te σ H Q):L2.tAsg te (L2.Zgz j) D0 σ H:=by
 obtain ⟨BF,BH,F,env,L,o,env',S,e,k⟩:=h
 unfold sSet at e
 split at e
 ·rename_i d h1
  cases e
  obtain ⟨ds,rfl⟩:=hf env d h1
  refine hte _ ⟨BF,BH,F,env,L,ds,S,h1,fun p vs F' H' z h0 h2 h3 rr=>?_⟩
  have z':=z.frz h0 h2 h3
  have rp:Rep X.K (upd F' p (.lst vs)) (.lst ds) (.ref p):=by
   simp only [Rep]
   exact ⟨p,vs,rfl,.inl (.inl Yc),Reps.mono (fun b u e=>by rw [Jd (Jc e h3)];exact e) _ _ rr⟩
  exact k _ H' _ _ ((S.ext z').ZdH j rp) z'.ff
 ·cases e
include nox nd
theorem ZmJ (j i:Nat){y:Str}{py spos:Pos}(hI:PId X (.Name x px) iter lx)(hE:∀ cs C s0 H0 fp pn,PD (blk X X.env.scope sc cs C s0 H0 fp pn) .k elt f)(hc:X.calm=true:=by rfl)(hco:ZcR X.N X.env.scope sc x=true:=by kernel_rfl)(hi:X.N[i]?=some x:=by kernel_rfl)
  (hs:∀ x,foldedSetIterable iter X.env x=pure x:=by intro _;rfl) (hj:X.N[j]?=some y:=by kernel_rfl) (hy:locB X.env.scope y=true:=by kernel_rfl) (hfn:fnB X y=true:=by kernel_rfl)
  (hsw:swapsWith (.ListComp elt [⟨.Name x px,iter,[],0⟩] sc pos) (some (.Name y py)) spos.line X.env=pure true:=by rfl):PS1 X r (.Assign [.Name y py] (.ListComp elt [⟨.Name x px,iter,[],0⟩] sc pos) spos) (sSet j (Yk i lx Yq f)) :=
 PS1.mk <| PS.of (Zgu (te:=tD X.K .k f) nox hc nd (ZdD hco) hi hI (fun _ _ _ _ _ _=>Zer) (fun cs C s0 H0 fp pn=>(hE cs C s0 H0 fp pn).h) hs hj (Zak hy) (ZaH hfn) hsw) fun D0 σ H h=>Zne D0 σ H h (fun env d h=>by obtain ⟨_,xs,_,_,_,e⟩:=Zb3 h;exact ⟨xs,e⟩) fun Q q=>ZgO (m:=.k) ZkT (fun h=>nomatch h) σ H Q q
omit nox nd
theorem Zfx {K:PySem.W.Frag}{F H:Hp}:∀ {rs:List (List D)} {as:List Addr},Jr K F H rs as→∀ b ∈ as,H b≠none
 | [],as,h,b,hb=>by have e:as=[]:=h;subst e;cases hb
 | r::rs,as,h,b,hb=>by
  obtain ⟨c,t,vs,rfl,h1,_,h3⟩:=h
  rcases List.mem_cons.mp hb with rfl | hb
  ·rw [h1];simp
  ·exact Zfx h3 b hb
theorem Zhk {K:PySem.W.Frag}{F H:Hp}{a:Addr}{vs:List V}{r:List D}(h1:H a=some (.lst vs))(h2:Reps K F r vs):∀ {rs:List (List D)} {as:List Addr},Jr K F H rs as→Jr K F H (rs++[r]) (as++[a])
 | [],as,h=>by have e:as=[]:=h;subst e;exact ⟨a,[],vs,rfl,h1,h2,rfl⟩
 | r0::rs,as,h=>by obtain ⟨b,t,ws,rfl,k1,k2,k3⟩:=h;exact ⟨b,t++[a],ws,rfl,k1,k2,Zhk h1 h2 k3⟩
theorem Zi6 {K : PySem.W.Frag}{BF BH F F1 H H1 : Hp}{σ : L2.St}{env : Env}{L : Nat → List Addr}{ds xs : List D}{J : L2.It}{p : Addr}{Q : L2.VK}(S : SOk K BF BH F H σ env L)(z1 : Ext F H F1 H1)(J1 : ItOk K J F1 ds)
    (hl : ds.length ≤ lim) (hx : Z7 i Yq f env ds = some xs) (hf : ∀ env d, f env = some d → ∃ ds, d = .lst ds) (hp : H1 p = none) (q : ∀ v F' H', Ext F H F' H' → rT K H F' H' (.lst xs) v → Q v H') :
    ZcU J i (fun _ H Q => Q true H) (tO K .k f) σ p Q H1 := by
  have hp0 : H p = none := z1.hh.free hp
  have hpF : F1 p = none := z1.fh.free hp
  refine ⟨fun k mm H2 acc => mm = ds.length - k ∧ k ≤ ds.length ∧ H2 p = some (.lst acc) ∧ ∃ F2 ys zs as, Ext F H F2 H2 ∧ Same F1 F2 ∧ (∀ b ∈ p :: as, H b = none ∧ F2 b = none) ∧ (p :: as).Nodup ∧ ys.length ≤ k ∧ acc = as.map .ref ∧ Jr K F2 H2 ys as ∧ Z7 i Yq f env (ds.drop k) = some zs ∧ xs = ys.map .lst ++ zs,
    ⟨ds.length, by simp, Nat.zero_le _, Yc, F1, [], xs, [], z1.trans (Ext.own z1.fh hp), .refl _, fun b hb => by
      rw [List.mem_singleton] at hb; subst hb; exact ⟨hp0, hpF⟩, by simp, Nat.zero_le _, rfl, rfl, hx, rfl⟩, ?_⟩
  rintro k mm H2 acc ⟨rfl, hk, hacc, F2, ys, zs, as, z2, s12, hown, nd, hy, rfl, hrows, hz, hxs⟩
  have hal : (as.map V.ref).length ≤ lim := by rw [List.length_map, ← hrows.length]; omega
  refine ⟨hacc, Nat.lt_of_le_of_lt hal Zlj, ?_⟩
  by_cases hlt : k < ds.length
  · refine .inr ⟨J1.go k H2 (s12.trans z2.fh) hlt, fun v H3 hy3 => L2.iteT ?_⟩
    obtain ⟨d, F3, hd, z3, r3⟩ := J1.yld k H2 v H3 F2 s12 z2.fh hlt hy3
    have hd' : ds[k] = d := by rw [List.getElem?_eq_getElem hlt] at hd; exact Option.some.inj hd
    rw [List.drop_eq_getElem_cons hlt, hd'] at hz
    simp only [Z7, Yq] at hz
    have z13 := z2.trans z3
    have S3 := (S.ext z13).ZdH i r3
    split at hz
    · rename_i e1 zs' he hz'
      cases hz
      obtain ⟨row, rfl⟩ := hf _ _ he
      refine ⟨BF, BH, F3, _, _, row, S3, he, fun a vs F5 H5 z5 ha0 ha1 ha2 rr => ?_⟩
      have z25 := z3.trans z5
      have h2p : H2 p ≠ none := by rw [hacc]; simp
      have ha2' : H2 a = none := z3.hh.free ha0
      have hpa : p ≠ a := fun e => by subst e; exact h2p ha2'
      have haas : a ∉ as := fun z => Zfx hrows a z ha2'
      obtain ⟨zz, f5⟩ := z2.Zju z25 hp0 (hown p List.mem_cons_self).2 h2p (.lst (as.map V.ref ++ [V.ref a]))
      have hpas : p ∉ as := (List.nodup_cons.mp nd).1
      have hrows5 : Jr K F5 (upd H5 p (.lst (as.map V.ref ++ [V.ref a]))) ys as := hrows.mono z25.ff fun b hb o e => by
        rw [Jd (fun q => hpas (by rw [← q]; exact hb))]; exact z25.hh _ _ e
      refine ⟨z25.hh _ _ hacc, ds.length - (k + 1), by omega, rfl, hlt, Yc, F5, ys ++ [row], zs', as ++ [a], zz, s12.trans z25.ff, fun b hb => ?_, ?_, by rw [List.length_append, List.length_singleton]; omega, by rw [List.map_append]; rfl, ?_, hz', by rw [hxs, List.map_append, List.append_assoc]; rfl⟩
      · have own5 : ∀ b, b ∈ p :: as → F5 b = none := fun b hb => by
          cases q5 : F5 b with
          | none => rfl
          | some u =>
            rcases z25.dm b u q5 with y | y
            · rw [(hown b hb).2] at y; cases y
            · rcases List.mem_cons.mp hb with e | e
              · rw [e] at y; exact absurd y h2p
              · exact absurd y (Zfx hrows b e)
        rcases List.mem_cons.mp hb with e | e
        · rw [e]; exact ⟨hp0, f5⟩
        · rcases List.mem_append.mp e with e | e
          · exact ⟨(hown b (List.mem_cons_of_mem _ e)).1, own5 b (List.mem_cons_of_mem _ e)⟩
          · rw [List.mem_singleton] at e; subst e; exact ⟨z2.hh.free ha2', ha2⟩
      · obtain ⟨n1, n2⟩ := List.nodup_cons.mp nd
        refine List.nodup_cons.mpr ⟨fun z => ?_, ?_⟩
        · rcases List.mem_append.mp z with e | e
          · exact n1 e
          · rw [List.mem_singleton] at e; exact hpa e
        · rw [List.nodup_append]
          exact ⟨n2, by simp, fun b hb c hc e => by rw [List.mem_singleton] at hc; subst hc; subst e; exact haas hb⟩
      · exact Zhk (by rw [Jd (Ne.symm hpa)]; exact ha1) rr hrows5
    · cases hz
  · have ek : k = ds.length := by omega
    subst ek
    rw [List.drop_length] at hz
    have hz0 : zs = [] := by simp only [Z7] at hz; exact (Option.some.inj hz).symm
    subst hz0
    rw [List.append_nil] at hxs
    subst hxs
    exact .inl ⟨J1.stop H2 (s12.trans z2.fh), q _ F2 H2 z2 ⟨p, as, ys, rfl, rfl, hacc, hrows, nd, hown⟩⟩
include nox nd
theorem Zni (j i:Nat){y:Str}{py spos:Pos}(hI:PId X (.Name x px) iter lx)(hE:∀ cs C s0 H0 fp pn,PDo (blk X X.env.scope sc cs C s0 H0 fp pn) .k elt f)(hf:∀ env d,f env=some d→∃ ds,d=.lst ds)(hc:X.calm=true:=by rfl)(hco:ZcR X.N X.env.scope sc x=true:=by kernel_rfl)(hi:X.N[i]?=some x:=by kernel_rfl)
  (hs:∀ x,foldedSetIterable iter X.env x=pure x:=by intro _;rfl) (hj:X.N[j]?=some y:=by kernel_rfl) (hy:locB X.env.scope y=true:=by kernel_rfl) (hfn:fnB X y=true:=by kernel_rfl)
  (hsw:swapsWith (.ListComp elt [⟨.Name x px,iter,[],0⟩] sc pos) (some (.Name y py)) spos.line X.env=pure true:=by rfl):PS1 X r (.Assign [.Name y py] (.ListComp elt [⟨.Name x px,iter,[],0⟩] sc pos) spos) (sTab j (Yk i lx Yq f)) :=
 PS1.mk <| PS.of (Zgu (te:=tO X.K .k f) nox hc nd (ZdD hco) hi hI (fun _ _ _ _ _ _=>Zer) hE hs hj (Zak hy) (ZaH hfn) hsw) fun D0 σ H hh_=>el10 hh_ fun BF BH F env L o env' S e k=>by
  unfold sTab at e
  split at e
  ·rename_i xs h1
   split at e
   ·rename_i rs hrs
    cases e
    obtain ⟨ds,xs',h2,hl,h3,e2⟩:=Zb3 h1
    cases e2
    refine ⟨BF,BH,F,env,L,ds,S,h2,fun J F1 H1 z1 J1 p hp=>Zi6 S z1 J1 hl h3 hf hp fun v F' H' z rr=>?_⟩
    obtain ⟨a,as,rs',hd,rfl,h4,h5,h6,h7⟩:=rr
    injection hd with hd
    rw [hd,ZiN] at hrs
    cases hrs
    exact k F' H' _ _ (ZnH S z j h4 h5 h6 h7) z.ff
   ·cases e
  ·cases e
end
end PV
set_option linter.all false
set_option Elab.async false
set_option maxRecDepth 100000
set_option maxHeartbeats 4000000
namespace PV
open PySem PySem.Spec PyProof.Rows
open L2 (V Hp HO Vals SqL SqT Same upd Cx PE PT PW PA PS PSs TE TT TA TS Inv RelV Yc Jd Jc Un)
section
variable {X:Cx} {m m1 m2:Md} {a b:Expr} {f g:Ex} {pos p p2:Pos}
theorem ZiZ:L2.ZbB X (.type "range") (fun xs H Q=>∃ j:Int,xs=[.int j]∧∀ q,H q=none→Q (.ref q) (upd H q (.rng 0 j))):=by
 intro pins s σ H xs us Q I r h
 obtain ⟨j,rfl,q⟩:=h
 obtain ⟨u,rfl,ru⟩:=r.one
 obtain ⟨t,rfl⟩:=ru
 refine call_range_1 ⟨.ref s.heap.objs.size,_,I.laid (o:=.rng 0 j) (fun b ob q=>Heap.get?_push_of_some _ q) (Nat.le_refl _) ⟨_,_,_,Heap.get?_push_size _ rfl⟩,rfl,q _ I.fresh⟩
theorem ZiO (hc:X.calm=true):L2.ZbB X (.type "list") (fun xs H Q=>∃ (q:Addr) (j:Int),xs=[.ref q]∧H q=some (.rng 0 j)∧-(lim:Int)≤j∧j≤lim∧∀ l,H l=none→Q (.ref l) (upd H l (.lst ((List.range j.toNat).map fun k=>V.int (0 + (k:Nat)))))):=by
 intro pins s σ H xs us Q I r h
 obtain ⟨q,j,rfl,hq,j0,j1,k⟩:=h
 obtain ⟨u,rfl,ru⟩:=r.one
 cases ru
 obtain ⟨t,u,v,e⟩:=(show L2.JC X.prog X.w H s.heap q (.rng 0 j) from I.hok q _ hq)
 have hl:(lim:Int)=100000:=rfl
 have hn:Builtin.Range.rangeSize 0 j 1=((j.toNat:Nat):Int):=by rw [rangeSize_one];split <;> omega
 refine call_list_range (n:=j.toNat) (I.ok.hd hc) e (small_one (by decide) (by decide) (by omega) (by omega)) hn (by omega) fun h' tk acc' c' hk hS' hacc=>?_
 have hv:Vals ((List.range j.toNat).map fun k=>V.int (0 + (k:Nat))) acc'.toList:=by
  have hlen:acc'.toList.length=j.toNat:=by rw [Array.length_toList];exact hacc.1
  have go:∀ (n:Nat) (l:List Value) (st:Nat),l.length=n→(∀ (i:Nat) (w:Value),l[i]?=some w→∃ t,w=.int (0 + ((st + i:Nat):Int)) t)→Vals ((List.range' st n).map fun k=>V.int (0 + (k:Nat))) l:=by
   intro n
   induction n with
   | zero=>intro l st hl _;rw [List.length_eq_zero_iff.mp hl];exact .nil
   | succ n ih =>
    intro l st hl hw
    cases l with
    | nil=>simp at hl
    | cons w l =>
     rw [List.range'_succ,List.map_cons]
     obtain ⟨t,e⟩:=hw 0 w rfl
     refine .cons ⟨t,by simpa using e⟩ (ih l (st + 1) (by simpa using hl) fun i w' e'=>?_)
     obtain ⟨t',e''⟩:=hw (i + 1) w' (by simpa using e')
     exact ⟨t',by rw [e''];congr 2;omega⟩
  rw [List.range_eq_range']
  refine go j.toNat acc'.toList 0 hlen fun i w e'=>?_
  obtain ⟨t,rfl⟩:=hacc.2 i w (by simpa using e')
  exact ⟨t,by rw [Int.mul_one,Nat.zero_add]⟩
 refine ⟨.ref s.heap.objs.size,_,I.laid (o:=.lst ((List.range j.toNat).map fun k=>V.int (0 + (k:Nat)))) hk (Nat.le_refl _) ?_,rfl,k _ I.fresh⟩
 refine ⟨by rw [List.length_map,List.length_range,sizeLine_eq];omega,acc'.toList,c',hv,?_⟩
 simpa using hS'
theorem ZhR {p3 p4:Pos} (T:Bt X.mg) (ha:PD X m1 a f) (hc:X.calm=true:=by rfl) (hg:X.env.kindOf "list"=some .globalImplicit:=by kernel_rfl) (hg2:X.env.kindOf "range"=some .globalImplicit:=by kernel_rfl) (hs:nst a=true:=by rfl) :
  PDo X m (.Call (.Name "list" p) [.Call (.Name "range" p3) [a] [] p4] [] pos) (eF1 YW f) :=
 PE.of (L2.Zb9 (ZiO hc) hg T.list (by decide +kernel) (L2.Jv (L2.Zb9 ZiZ hg2 T.range boot_range (L2.Jv ha.h L2.YG (Jq hs)) (by decide) (by decide) (Jk hs) rfl) L2.YG (Jq rfl)) (by decide) (by decide) (Jk rfl) rfl) fun σ H Q hh_=>el9 hh_ fun BF BH F env L ds S e q=>by
  unfold eF1 at e
  split at e
  ·rename_i y h1
   refine ⟨BF,BH,F,env,L,y,S,h1,fun v F' H' z r1=>?_⟩
   unfold YW at e
   split at e
   ·rename_i j
    split at e
    ·rename_i hj
     cases e
     refine ⟨j,by rw [Zr r1],fun q1 hq1=>⟨q1,j,rfl,Yc,hj.1,hj.2,fun l hl=>?_⟩⟩
     have hlq:l≠q1:=fun e=>by rw [e,Yc] at hl;cases hl
     rw [Jd hlq] at hl
     have y1:=z.trans (Ext.own (o:=HO.rng 0 j) z.fh hq1)
     have hl':upd H' q1 (.rng 0 j) l=none:=by rw [Jd hlq];exact hl
     obtain ⟨y2,h0,h2,s⟩:=Zbk (m:=m) S y1 hl' (HO.lst ((List.range j.toNat).map fun k=>V.int (0 + (k:Nat))))
     refine q l _ F' _ y2 h0 Yc h2 ?_
     have e:Ji 0 j.toNat=((List.range j.toNat).map fun k=>(0 + (k:Nat):Int)).map D.int:=by simp [Ji]
     have e2:((List.range j.toNat).map fun k=>V.int (0 + (k:Nat)))=((List.range j.toNat).map fun k=>(0 + (k:Nat):Int)).map V.int:=by simp
     rw [e,e2]
     exact Reps.ints _
    ·cases e
   ·cases e
  ·cases e
theorem ZnX {env:Env}{d:D}(h:eF1 YW f env=some d):∃ ds,d=.lst ds:=by
 unfold eF1 at h
 split at h
 ·unfold YW at h
  split at h
  ·split at h
   ·cases h;exact ⟨_,rfl⟩
   ·cases h
  ·cases h
 ·cases h
theorem Zh0 {p3 p4:Pos} (T:Bt X.mg) (ha:PD X m1 a f) (hc:X.calm=true:=by rfl) (hg:X.env.kindOf "list"=some .globalImplicit:=by kernel_rfl) (hg2:X.env.kindOf "range"=some .globalImplicit:=by kernel_rfl) (hs:nst a=true:=by rfl) :
  PD X m (.Call (.Name "list" p) [.Call (.Name "range" p3) [a] [] p4] [] pos) (eF1 YW f):=(ZhR T ha hc hg hg2 hs).d fun env d h=>ZnX h
theorem ZmP (hu:X.A.units + 64 < cLine){p3:Pos}(ha:PD X m1 a f)(hb:PD X m2 b g)(hst:nst b=true:=by rfl)
  (hbase:attributeBase a "index" X.env (eval a X.env)=eval a X.env:=by rfl) (hline:(p2.endLine == p3.line)=true:=by rfl) :
  PD X m (.Call (.Attribute a "index" p2) [b] [] p3) (eF2 Zim f g) :=
 PD.mk <| PE.of (L2.Zgt PySem.F.plainAttrs_list PySem.F.slot_list_index PySem.F.type_list_index (ZkS hu) ha.r.h (L2.Jv hb.r.h L2.YG (Jq hst)) hbase (by rw [ZbW (ZcC hst)];rfl) hline (Jk hst) rfl) fun σ H Q hh_=>el9 hh_ fun BF BH F env L d S e q=>by
  unfold eF2 at e
  split at e
  ·rename_i x y h1 h2
   unfold Zim at e
   split at e
   ·rename_i ys
    split at e
    ·rename_i hd
     split at e
     ·rename_i j hj
      cases e
      refine ⟨BF,BH,F,env,L,_,S,h1,fun v F1 H1 z1 r1=>⟨?_,BF,BH,F1,env,L,y,S.ext z1,h2,fun w F2 H2 z2 r2=>⟨y,w,ys,j,rfl,Rep.mono z2.hh _ _ r1,r2,hd,hj,q _ F2 H2 (z1.trans z2) (by simp [Rep])⟩⟩⟩
      have r1':=r1
      simp only [Rep,hpM] at r1'
      obtain ⟨p,vs,rfl,hs,_⟩:=r1'
      exact .inl ⟨rfl,vs,hs⟩
     ·cases e
    ·cases e
   ·cases e
  ·cases e
end
end PV
set_option linter.all false
set_option Elab.async false
set_option maxRecDepth 100000
set_option maxHeartbeats 4000000
namespace PV
open PySem
noncomputable def Ris (xs:Array Nat):Prop:=∀ i j (hi:i < xs.size) (hj:j < xs.size),i < j→xs[i] < xs[j]
theorem ZmA {xs:Array Nat}{j:Nat}(hr:Ris xs):∀ (fuel lo hi:Nat),hi≤xs.size→hi - lo < 2 ^ fuel→lo≤hi →
  (∀ i (h:i < xs.size),i < lo→xs[i] < j)→(∀ i (h:i < xs.size),hi≤i→j≤xs[i]) →
  SetTable.below.go xs j fuel lo hi≤xs.size∧(∀ i (h:i < xs.size),i < SetTable.below.go xs j fuel lo hi→xs[i] < j)∧(∀ i (h:i < xs.size),SetTable.below.go xs j fuel lo hi≤i→j≤xs[i]):=by
 intro fuel
 induction fuel with
 | zero =>
  intro lo hi h1 h2 h3 a b
  have:hi=lo:=by simp at h2;omega
  subst this
  unfold SetTable.below.go
  exact ⟨h1,a,b⟩
 | succ fuel ih =>
  intro lo hi h1 h2 h3 a b
  unfold SetTable.below.go
  by_cases hlt:lo < hi
  ·rw [if_pos hlt]
   have hm:(lo + hi) / 2 < xs.size:=by omega
   have e:xs.getD ((lo + hi) / 2) j=xs[(lo + hi) / 2]:=by simp [Array.getD,hm]
   dsimp only
   rw [e]
   have hp:2 ^ (fuel + 1)=2 ^ fuel * 2:=Nat.pow_succ ..
   by_cases hc:xs[(lo + hi) / 2] < j
   ·rw [if_pos hc]
    refine ih _ hi h1 (by omega) (by omega) (fun i h hi'=>?_) b
    rcases Nat.lt_or_ge i ((lo + hi) / 2) with h5 | h5
    ·exact Nat.lt_trans (hr i _ h hm h5) hc
    ·have:i=(lo + hi) / 2:=by omega
     subst this;exact hc
   ·rw [if_neg hc]
    refine ih lo _ (by omega) (by omega) (by omega) a (fun i h hi'=>?_)
    rcases Nat.lt_or_ge ((lo + hi) / 2) i with h5 | h5
    ·have:=hr _ i hm h h5;omega
    ·have:i=(lo + hi) / 2:=by omega
     subst this;omega
  ·rw [if_neg hlt]
   have:lo=hi:=by omega
   subst this
   exact ⟨h1,a,b⟩
theorem ZfE {xs:Array Nat}(hr:Ris xs)(j:Nat):SetTable.below xs j≤xs.size∧(∀ i (h:i < xs.size),i < SetTable.below xs j→xs[i] < j)∧(∀ i (h:i < xs.size),SetTable.below xs j≤i→j≤xs[i]):=by
 unfold SetTable.below
 refine ZmA hr xs.size 0 xs.size (Nat.le_refl _) ?_ (Nat.zero_le _) (fun i h h'=>by omega) (fun i h h'=>by omega)
 have:=Nat.lt_two_pow_self (n:=xs.size)
 omega
theorem Zkw {xs:Array Nat}(hr:Ris xs){k:Nat}(hk:k < xs.size):SetTable.below xs (xs[k] + 1)=k + 1:=by
 obtain ⟨h1,h2,h3⟩:=ZfE hr (xs[k] + 1)
 generalize SetTable.below xs (xs[k] + 1)=p at h1 h2 h3
 rcases Nat.lt_trichotomy p (k + 1) with h | h | h
 ·have:=h3 k hk (by omega);omega
 ·exact h
 ·have h4:=h2 (k + 1) (by omega) h
  have:=hr k (k + 1) hk (by omega) (by omega)
  omega
theorem Zkc {xs:Array Nat}(hr:Ris xs):SetTable.below xs 0=0:=by
 obtain ⟨h1,h2,h3⟩:=ZfE hr 0
 generalize SetTable.below xs 0=p at h1 h2 h3
 rcases Nat.eq_zero_or_pos p with h | h
 ·exact h
 ·have:=h2 0 (by omega) h;omega
theorem Zj3 {xs:Array Nat}(hr:Ris xs){j:Nat}(hj:xs[SetTable.below xs j]?≠some j):Ris (SetTable.insertAt xs (SetTable.below xs j) j):=by
 obtain ⟨h1,h2,h3⟩:=ZfE hr j
 generalize SetTable.below xs j=p at h1 h2 h3 hj
 have h4:∀ i (h:i < xs.size),p≤i→j < xs[i]:=fun i h hp=>by
  rcases Nat.lt_or_ge p i with h5 | h5
  ·have h6:=h3 p (by omega) (Nat.le_refl _)
   have:=hr p i (by omega) h h5
   omega
  ·have e:i=p:=by omega
   subst e
   have:=h3 i h (Nat.le_refl _)
   rw [Array.getElem?_eq_getElem h] at hj
   have:xs[i]≠j:=fun e=>hj (by rw [e])
   omega
 have sz:(SetTable.insertAt xs p j).size=xs.size + 1:=by unfold SetTable.insertAt;simp;omega
 have ent:∀ i (h:i < xs.size + 1),(SetTable.insertAt xs p j)[i]'(by rw [sz];exact h)=if hh:i < p then xs[i] else if h':i=p then j else xs[i - 1]:=by
  intro i h
  unfold SetTable.insertAt
  simp only [Array.getElem_append,Array.size_push,Array.size_extract,Array.getElem_push,Array.getElem_extract]
  split
  ·rename_i ha
   split
   ·rename_i hb
    rw [dif_pos (by omega)]
    simp
   ·rename_i hb
    rw [dif_neg (by omega),dif_pos (by omega)]
  ·rename_i ha
   rw [dif_neg (by omega),dif_neg (by omega)]
   congr 1
   omega
 intro a b ha hb hab
 rw [sz] at ha hb
 rw [ent a ha,ent b hb]
 by_cases a1:a < p
 ·rw [dif_pos a1]
  by_cases b1:b < p
  ·rw [dif_pos b1];exact hr a b (by omega) (by omega) hab
  ·rw [dif_neg b1]
   by_cases b2:b=p
   ·rw [dif_pos b2];exact h2 a (by omega) a1
   ·rw [dif_neg b2];exact hr a (b - 1) (by omega) (by omega) (by omega)
 ·rw [dif_neg a1,dif_neg (show ¬ b < p by omega),dif_neg (show ¬ b=p by omega)]
  by_cases a2:a=p
  ·rw [dif_pos a2];exact h4 (b - 1) (by omega) (by omega)
  ·rw [dif_neg a2];exact hr (a - 1) (b - 1) (by omega) (by omega) (by omega)
theorem ZiM {t:SetTable}{j:Nat}(h:t.slot j=.empty∨t.slot j=.dummy):t.place[SetTable.below t.place j]?≠some j:=fun e=>by
 unfold SetTable.slot at h
 dsimp only at h
 rw [e] at h
 simp at h
theorem Zlx {t:SetTable}{hashAt:Nat→Int}{h:Int}:∀ (fuel:Nat) (p:SetTable.Probe) (j:Nat) (d:Option Nat),(∀ x,p.dummy=some x→t.slot x=.dummy)→SetTable.probe.go t hashAt h fuel p=some (.empty j d) →
  t.place[SetTable.below t.place (d.getD j)]?≠some (d.getD j):=by
 intro fuel
 induction fuel with
 | zero=>intro p j d hd e;unfold SetTable.probe.go at e;cases e
 | succ fuel ih =>
  intro p j d hd e
  unfold SetTable.probe.go at e
  have adv:∀ q:SetTable.Probe,(t.advance q).dummy=q.dummy:=fun q=>by unfold SetTable.advance;split <;> rfl
  split at e
  ·rename_i hs
   injection e with e
   injection e with e1 e2
   subst e1;subst e2
   cases hq:p.dummy with
   | none=>exact ZiM (.inl hs)
   | some x=>exact ZiM (.inr (hd x hq))
  ·rename_i hs
   refine ih _ _ _ (fun x hx=>?_) e
   rw [adv] at hx
   injection hx with hx
   subst hx;exact hs
  ·split at e
   ·injection e with e;cases e
   ·refine ih _ _ _ (fun x hx=>?_) e
    rw [adv] at hx
    exact hd x hx
theorem Zms {t:SetTable}{h:Int}{j:Nat}{b:Bool}(e:t.freeSlot h=some (j,b)):t.place[SetTable.below t.place j]?≠some j:=by
 unfold SetTable.freeSlot at e
 split at e
 ·rename_i j' d hp
  injection e with e
  injection e with e1 e2
  subst e1
  exact Zlx _ _ _ _ (fun x hx=>by simp [SetTable.probeStart] at hx) hp
 ·cases e
structure TabOk (led:Bool)(t:SetTable):Prop where
 led:t.led=led
 ris:t.plain=true→Ris t.place
theorem Zjf (led:Bool)(a b:Nat):TabOk led (.fresh a b led):=⟨rfl,fun _ i j hi hj _=>by simp [SetTable.fresh] at hi⟩
theorem TabOk.stand {led:Bool}{t:SetTable}(h:TabOk led t)(n:Nat):TabOk led (t.standIn n):=⟨h.led,fun e=>by simp [SetTable.standIn] at e⟩
theorem TabOk.lay {led:Bool}{t:SetTable}(h:TabOk led t)(es:Array (Int × Value))(k:Int)(x:Value):TabOk led (layNew t es k x).2.1:=by
 unfold layNew
 split
 ·rename_i slot wd he
  have:TabOk led (t.put slot).1:=⟨h.led,fun e=>Zj3 (h.ris e) (Zms he)⟩
  dsimp only
  unfold SetTable.orStandIn
  split
  ·exact this
  ·exact this.stand _
 ·exact h.stand _
theorem Zml {l:List Nat}(h:l.Pairwise (· < ·)):Ris l.toArray:=fun i j hi hj hij=>by
 simp only [List.size_toArray] at hi hj
 simp only [List.getElem_toArray]
 exact List.pairwise_iff_getElem.mp h i j hi hj hij
theorem TabOk.Zps {led:Bool}{t:SetTable}(h:TabOk led t)(es:Array (Int × Value))(n:Nat):TabOk led (relayAll t es n).2.1:=by
 unfold relayAll
 split
 ·rename_i t' order he
  dsimp only
  split
  ·unfold SetTable.relaid SetTable.laid at he
   cases ho:SetTable.layClean (SetTable.sizeAbove n - 1) (es.map (·.1)) with
   | none=>rw [ho] at he;cases he
   | some owner =>
    rw [ho] at he
    injection he with he
    injection he with h1 h2
    subst h1
    refine ⟨h.led,fun _=>Zml ?_⟩
    rw [List.map_filterMap]
    refine (List.pairwise_lt_range (n:=SetTable.sizeAbove n - 1 + 1)).filterMap _ fun a a' haa b hb b' hb'=>?_
    simp only [Option.map_map,Option.mem_def,Option.map_eq_some_iff] at hb hb'
    obtain ⟨_,_,rfl⟩:=hb
    obtain ⟨_,_,rfl⟩:=hb'
    exact haa
  ·exact h.stand _
 ·exact h.stand _
end PV
set_option linter.all false
set_option Elab.async false
set_option maxRecDepth 100000
set_option maxHeartbeats 4000000
namespace PV
open PySem PyProof.Rows
noncomputable def valI:Value→Int
 | .int i _=>i
 | _=>0
noncomputable def isI:Value→Prop
 | .int _ _=>True
 | _=>False
theorem Zaq {vs:List Value}{ns:List Int}:IntsAre vs ns↔(∀ v ∈ vs,isI v)∧ns=vs.map valI:=by
 constructor
 ·intro h
  induction h with
  | nil=>simp
  | cons n t _ ih=>exact ⟨fun v hv=>(List.mem_cons.mp hv).elim (fun e=>e ▸ trivial) (ih.1 v),by simp [valI,ih.2]⟩
 ·rintro ⟨h,rfl⟩
  induction vs with
  | nil=>exact .nil
  | cons v vs ih =>
   have h1:=h v List.mem_cons_self
   cases v with
   | int i t=>exact .cons i t (ih fun v hv=>h v (List.mem_cons_of_mem _ hv))
   | _=>exact h1.elim
theorem Zet {vs vs':List Value}{ns:List Int}(p:vs'.Perm vs)(h:IntsAre vs ns):∃ ns',IntsAre vs' ns'∧ns'.Perm ns:=by
 rw [Zaq] at h
 exact ⟨vs'.map valI,Zaq.mpr ⟨fun v hv=>h.1 v (p.mem_iff.mp hv),rfl⟩,h.2 ▸ p.map _⟩
theorem ZmM {vs:List Value}{ns:List Int}(h:IntsAre vs ns){k:Int}:k ∈ ns↔∃ v ∈ vs,Value.isInt k v=true:=by
 rw [Zaq] at h
 rw [h.2,List.mem_map]
 constructor
 ·rintro ⟨v,hv,e⟩
  have:=h.1 v hv
  cases v with
  | int i t=>exact ⟨_,hv,by simp [valI] at e;simp [Value.isInt,e]⟩
  | _=>exact this.elim
 ·rintro ⟨v,hv,e⟩
  obtain ⟨t,rfl⟩:=Value.isInt_shape e
  exact ⟨_,hv,rfl⟩
section
variable {prog:Program} {w:World} {A:Around} {E:Value→Shared→Prop} {s:Shared}
structure SetO (prog:Program)(w:World)(led:Bool)(ks:List Int)(o:Obj)(es:Array (Int × Value))(ep:Nat)(t:SetTable):Prop where
 ex:o.ExactSet
 dat:o.data=.set es ep t
 el:ElemsOf (intKind prog w) es.toList
 ks:∃ js,IntsAre (es.toList.map (·.2)) js∧js.Perm ks
 few:es.size < scanBound
 fit:t.fits es.size=true
 ok:TabOk led t
noncomputable def SetX (prog:Program) (w:World) (h:Heap) (a:Addr) (led:Bool) (ks:List Int):Prop:=∃ o es ep t,h.get? a=some o∧SetO prog w led ks o es ep t
theorem SetO.len {led:Bool}{ks:List Int}{o:Obj}{es:Array (Int × Value)}{ep:Nat}{t:SetTable}(h:SetO prog w led ks o es ep t):es.size=ks.length:=by
 obtain ⟨js,h1,h2⟩:=h.ks
 have:=(Zaq.mp h1).2
 rw [← h2.length_eq,this];simp
theorem SetO.mem {led:Bool}{ks:List Int}{o:Obj}{es:Array (Int × Value)}{ep:Nat}{t:SetTable}(h:SetO prog w led ks o es ep t){k:Int}:k ∈ ks↔∃ e ∈ es.toList,(intKind prog w).is k e.2=true:=by
 obtain ⟨js,h1,h2⟩:=h.ks
 rw [← h2.mem_iff,ZmM h1]
 constructor
 ·rintro ⟨v,hv,e⟩
  obtain ⟨p,hp,rfl⟩:=List.mem_map.mp hv
  exact ⟨p,hp,e⟩
 ·rintro ⟨p,hp,e⟩
  exact ⟨p.2,List.mem_map.mpr ⟨p,hp,rfl⟩,e⟩
theorem ZjU {a:Addr}{led:Bool}{ks ks':List Int}{o:Obj}{es es':Array (Int × Value)}{ep:Nat}{t t':SetTable}{Q:Unit→Shared→Prop}(ho:s.heap.get? a=some o)(h:SetO prog w led ks o es ep t)
  (el:ElemsOf (intKind prog w) es'.toList) (hk:∃ js,IntsAre (es'.toList.map (·.2)) js∧js.Perm ks') (few:es'.size < scanBound) (fit:t'.fits es'.size=true) (ok:TabOk led t')
  (k:∀ h' o',Heap.SameBut a s.heap h'→h'.get? a=some o'→SetO prog w led ks' o' es' (ep + 1) t'→Q () { s with heap:=h' }):wpAny (model prog w) A (storeSet a es' t') Q E s:=by
 refine wpAny_storeSet_of ho h.dat ?_ (fits_of_scanBound few)
 have hg:(s.heap.update a (Obj.putSet es' t')).get? a=some { o with data:=.set es' (ep + 1) t' }:=by
  have:=Heap.get?_update_self (Obj.putSet es' t') ho (by rw [putSet_of es' t' h.dat];rfl)
  rw [putSet_of es' t' h.dat] at this
  exact this
 exact k _ _ (Heap.SameBut.update s.heap a _) hg ⟨h.ex,rfl,el,hk,few,fit,ok⟩
theorem ZpI {a : Addr}{led : Bool}{ks : List Int}{k : Int}{tk : Tok}{Q : Bool → Shared → Prop}(hS : SetX prog w s.heap a led ks)(room : ks.length + 1 < scanBound)
    (h : ∀ h' b, Heap.SameBut a s.heap h' → SetX prog w h' a led (addv ks k) → Q b { s with heap := h' }) : wpAny (model prog w) A (setAddHashed a (.int k tk) ((intKind prog w).hash k)) Q E s := by
  obtain ⟨o, es, ep, t, ho, S⟩ := hS
  have hkey : (intKind prog w).is k (.int k tk) = true := intKind_is _ _ _ _
  have same : s = { s with heap := s.heap } := by cases s; rfl
  unfold setAddHashed setAddHashedIn
  refine wpAny_holding (wpAny_bind (wpAny_setState_of ho S.dat S.fit ?_))
  dsimp only
  rw [byScan_of (x := .int k tk) rfl S.few S.el]
  simp only [↓reduceIte]
  unfold setAddByScan
  refine wpAny_bind (wpAny_bind (wpAny_rule (wpAny_bind (wpAny_setScan_of hkey ho S.dat S.fit S.el ?_))))
  cases hr : List.findIdx? (fun e => (intKind prog w).is k e.2) es.toList with
  | some j =>
    obtain ⟨hj, hpj, _⟩ := List.findIdx?_eq_some_iff_getElem.mp hr
    have hm : k ∈ ks := S.mem.mpr ⟨_, List.getElem_mem hj, hpj⟩
    refine wpAny_pure (wpAny_pure ?_)
    rw [same]
    exact h s.heap _ (Heap.SameBut.refl a s.heap) ⟨o, es, ep, t, ho, by unfold addv; rw [if_pos hm]; exact S⟩
  | none =>
    have hm : k ∉ ks := fun hm => by
      obtain ⟨e, he, hp⟩ := S.mem.mp hm
      have := List.findIdx?_eq_none_iff.mp hr e he
      rw [hp] at this; cases this
    dsimp only
    have p1 := layNew_perm t es ((intKind prog w).hash k) (.int k tk)
    have f1 := layNew_fits t es ((intKind prog w).hash k) (.int k tk)
    have o1 := S.ok.lay es ((intKind prog w).hash k) (.int k tk)
    generalize layNew t es ((intKind prog w).hash k) (.int k tk) = Z at p1 f1 o1 ⊢
    obtain ⟨es1, t1, wd, gv⟩ := Z
    dsimp only at p1 f1 o1 ⊢
    rw [Array.toList_push] at p1
    have el1 : ElemsOf (intKind prog w) es1.toList := (S.el.push hkey rfl).perm p1
    have k1 : ∃ js, IntsAre (es1.toList.map (·.2)) js ∧ js.Perm (addv ks k) := by
      obtain ⟨js, j1, j2⟩ := S.ks
      have q1 : IntsAre ((es.toList ++ [((intKind prog w).hash k, Value.int k tk)]).map (·.2)) (js ++ [k]) := by
        rw [Zaq] at j1 ⊢
        refine ⟨fun v hv => ?_, by rw [j1.2]; simp [valI]⟩
        rw [List.map_append, List.mem_append] at hv
        rcases hv with hv | hv
        · exact j1.1 v hv
        · simp at hv; subst hv; trivial
      obtain ⟨js', r1, r2⟩ := Zet (p1.map (·.2)) q1
      refine ⟨js', r1, r2.trans ?_⟩
      unfold addv; rw [if_neg hm]
      exact j2.append_right _
    have sz1 : es1.size = es.size + 1 := by rw [← Array.length_toList, p1.length_eq, List.length_append, Array.length_toList]; rfl
    have few1 : es1.size < scanBound := by rw [sz1, S.len]; exact room
    have gw : ∀ (b : Bool) {s₁ : Shared} {Q' : Unit → Shared → Prop}, Q' () s₁ → wpAny (model prog w) A (match b with | true => rule "set.scan.the-table-gave-way" | false => pure ()) Q' E s₁ :=
      fun b _ _ hq => by cases b <;> first | exact wpAny_pure hq | exact wpAny_rule hq
    refine wpAny_bind (gw _ ?_)
    have last : ∀ t2 : SetTable, t2.fits es1.size = true → TabOk led t2 → ∀ wd : Bool, wpAny (model prog w) A (do
        storeSet a es1 t2
        if (!wd && t2.tooFull) = true then do
            (match (relayAll t2 es1 (SetTable.grown es1.size)).2.2 with | true => rule "set.scan.the-table-gave-way" | false => pure ())
            storeSet a (relayAll t2 es1 (SetTable.grown es1.size)).1 (relayAll t2 es1 (SetTable.grown es1.size)).2.1
            pure (some true)
          else pure (some true)) (fun r s' => wpAny (model prog w) A (match r with | some added => pure added | none => setAddHashedIn a (.int k tk) ((intKind prog w).hash k) 99999) Q E s') E s := by
      intro t2 f2 o2 wd
      refine wpAny_bind (ZjU ho S el1 k1 few1 f2 o2 fun h' o' sb g' S' => ?_)
      split
      · have p2 := relayAll_perm t2 es1 (SetTable.grown es1.size)
        have f3 := relayAll_fits t2 es1 (SetTable.grown es1.size)
        have o3 := o2.Zps es1 (SetTable.grown es1.size)
        generalize relayAll t2 es1 (SetTable.grown es1.size) = Z at p2 f3 o3 ⊢
        obtain ⟨es2, t3, gv2⟩ := Z
        dsimp only at p2 f3 o3 ⊢
        have sz2 : es2.size = es1.size := by rw [← Array.length_toList, p2.length_eq, Array.length_toList]
        refine wpAny_bind (gw _ ?_)
        refine wpAny_bind (ZjU (ks' := addv ks k) g' S' (el1.perm p2) ?_ (by rw [sz2]; exact few1) f3 o3 fun h2 o2 sb2 g2 S2 => ?_)
        · obtain ⟨js, j1, j2⟩ := k1
          obtain ⟨js', r1, r2⟩ := Zet (p2.map (·.2)) j1
          exact ⟨js', r1, r2.trans j2⟩
        · exact wpAny_pure (wpAny_pure (h _ _ (sb.trans sb2) ⟨_, _, _, _, g2, S2⟩))
      · exact wpAny_pure (wpAny_pure (h _ _ sb ⟨_, _, _, _, g', S'⟩))
    split
    · refine wpAny_bind ?_
      rw [hashByValue_scannable 8 (x := .int k tk) rfl]
      refine wpAny_pure ?_
      exact last _ (by simp only [plainKind, ↓reduceIte]; exact f1) (by simp only [plainKind, ↓reduceIte]; exact o1) wd
    · refine wpAny_bind (wpAny_pure ?_)
      simp only [↓reduceIte]
      exact last _ f1 o1 wd
end
end PV
set_option linter.all false
set_option Elab.async false
set_option maxRecDepth 100000
set_option maxHeartbeats 4000000
namespace PV
open PySem PyProof.Rows
theorem Zbl:Slot "set_iterator" "__next__" "set_iterator.__next__":=.of (owner:="set_iterator") (n:="__next__") (by rw [typeLookup_type,builtinLookup_eq_fast];kernel_rfl) (by decide +kernel) (by decide +kernel) (by decide +kernel) (by first | exact .inl (by decide +kernel) | exact .inr (by decide +kernel)) (by rw [isSubtype_type];kernel_rfl)
theorem Zhh:Slot "set_iterator" "__iter__" "set_iterator.__iter__":=.of (owner:="set_iterator") (n:="__iter__") (by rw [typeLookup_type,builtinLookup_eq_fast];kernel_rfl) (by decide +kernel) (by decide +kernel) (by decide +kernel) (by first | exact .inl (by decide +kernel) | exact .inr (by decide +kernel)) (by rw [isSubtype_type];kernel_rfl)
theorem Zgs:entryFor table "set_iterator.__next__"=some Builtin.«set_iterator.__next__»:=entryFor_of_tree (by kernel_rfl)
theorem ZjZ:entryFor table "set_iterator.__iter__"=some Builtin.«dict_keyiterator.__iter__»:=entryFor_alias (id':="dict_keyiterator.__iter__") (by kernel_rfl) rfl (by decide +kernel) (by kernel_rfl)
theorem Zhw (a:Value):argsOk "set_iterator.__next__" ⟨[a],[]⟩:=by unfold argsOk;kernel_rfl
theorem Zln (a:Value):argsOk "set_iterator.__iter__" ⟨[a],[]⟩:=by unfold argsOk;kernel_rfl
theorem Zkb:entryFor table "set.__iter__"=some Builtin.«frozenset.__iter__»:=entryFor_alias (id':="frozenset.__iter__") (by kernel_rfl) rfl (by decide +kernel) (by kernel_rfl)
theorem ZfJ {α:Type}:∀ (l:List α) (i:Nat) (h:i < l.length),(l[i]::l.eraseIdx i).Perm l
 | [],i,h=>by simp at h
 | x::l,0,_=>by simp
 | x::l,i + 1,h=>by
  have h':i < l.length:=by simpa using h
  simp only [List.getElem_cons_succ,List.eraseIdx_cons_succ]
  exact (List.Perm.swap _ _ _).trans ((ZfJ l i h').cons _)
noncomputable def byT (w:World):Bool:=w.params.followText "set-order"
theorem ZkR {M:Model}{A:Around}{E:Value→Shared→Prop}{s:Shared}{src:Source}{n:Nat}{Q:Nat→Shared→Prop}(hn:n≠0)(h:∀ i dr,i < n→Q i { s with drawn:=dr }):wpAny M A (choose src n) Q E s :=
 fun _ _ _=>⟨hn,h _ _ (Nat.mod_lt _ (by omega))⟩
theorem ZpE {α:Type}{M:Model}{A:Around}{E:Value→Shared→Prop}:∀ (n:Nat) (xs:List α) (s:Shared) (Q:List α→Shared→Prop),n=xs.length→(∀ ys dr,ys.Perm xs→Q ys { s with drawn:=dr })→wpAny M A (drawOrder n xs) Q E s:=by
 intro n
 induction n with
 | zero =>
  intro xs s Q hn h
  have:xs=[]:=List.length_eq_zero_iff.mp hn.symm
  subst this
  unfold drawOrder
  exact wpAny_pure (h [] s.drawn (.refl _))
 | succ n ih =>
  intro xs s Q hn h
  cases xs with
  | nil=>cases hn
  | cons x xs =>
   unfold drawOrder
   refine wpAny_bind (ZkR (by simp) fun i dr hi=>?_)
   rw [List.getElem?_eq_getElem hi]
   refine wpAny_bind (ih _ _ _ (by rw [List.length_eraseIdx,if_pos hi];omega) fun ys dr' hp=>wpAny_pure (h _ _ ?_))
   exact (hp.cons _).trans (ZfJ _ _ hi)
theorem Znq {α:Type}(next:Nat→Nat):∀ (fuel k:Nat) (left:List α) (out:Array α),fuel=left.length→(pickOrder.go next fuel k left out).toList.Perm (out.toList++left):=by
 intro fuel
 induction fuel with
 | zero =>
  intro k left out h
  have:left=[]:=List.length_eq_zero_iff.mp h.symm
  subst this
  unfold pickOrder.go
  simp
 | succ fuel ih =>
  intro k left out h
  unfold pickOrder.go
  have hl:next k % left.length < left.length:=Nat.mod_lt _ (by omega)
  rw [List.getElem?_eq_getElem hl]
  refine (ih _ _ _ (by rw [List.length_eraseIdx,if_pos hl];omega)).trans ?_
  rw [Array.toList_push,List.append_assoc]
  exact List.Perm.append_left _ (ZfJ _ _ hl)
theorem ZlF {α:Type}(next:Nat→Nat)(xs:Array α):(pickOrder next xs).toList.Perm xs.toList:=by
 unfold pickOrder
 simpa using Znq next xs.size 0 xs.toList #[] (by simp)
inductive Wk (w : World) (h : Heap) (a : Addr) (es : Array (Int × Value)) (ep : Nat) (t : SetTable) : List Value → (Nat → Value) → List Addr → Prop
  | text (hb : byT w = true) : Wk w h a es ep t ((pickOrder (w.params.setOrder a ep) es).toList.map (·.2)) (fun _ => rawInt 0) []
  | plain (hb : byT w = false) (hd : (!t.plain && decide (es.size > 1)) = false) (hl : t.led = true) (hr : Ris t.place) : Wk w h a es ep t (es.toList.map (·.2)) (fun i => rawInt (((if i = 0 then 0 else t.place.getD (i - 1) 0 + 1) : Nat) : Int)) []
  | drawn (hb : byT w = false) (p : Addr) (c : Nat) (pl : List Nat) (hp : pl.Perm (List.range es.size)) (o : Obj) (ho : h.get? p = some o) (hd : o.data = .seq (pl.map fun (j : Nat) => rawInt j).toArray c) :
      Wk w h a es ep t (pl.map fun j => (es.getD j (0, .none)).2) (fun _ => .ref p) [p]
theorem Wk.perm {w:World}{h:Heap}{a:Addr}{es:Array (Int × Value)}{ep:Nat}{t:SetTable}{ord:List Value}{fst:Nat→Value}{ps:List Addr}(k:Wk w h a es ep t ord fst ps):ord.Perm (es.toList.map (·.2)):=by
 cases k with
 | text hb=>exact (ZlF _ _).map _
 | plain hb hd hl hr=>exact .refl _
 | drawn hb p c pl hp o ho hd =>
  refine (hp.map _).trans ?_
  have:(List.range es.size).map (fun j=>(es.getD j (0,.none)).2)=es.toList.map (·.2):=by
   apply List.ext_getElem
   ·simp
   ·intro i h1 h2
    simp at h1
    simp [Array.getD,h1]
  rw [this]
theorem Wk.mono {w:World}{h h':Heap}{a:Addr}{es:Array (Int × Value)}{ep:Nat}{t:SetTable}{ord:List Value}{fst:Nat→Value}{ps:List Addr}(k:Wk w h a es ep t ord fst ps)(hk:∀ b ∈ ps,∀ o,h.get? b=some o→h'.get? b=some o):Wk w h' a es ep t ord fst ps:=by
 cases k with
 | text hb=>exact .text hb
 | plain hb hd hl hr=>exact .plain hb hd hl hr
 | drawn hb p c pl hp o ho hd=>exact .drawn hb p c pl hp o (hk p (by simp) o ho) hd
noncomputable def SIt (h:Heap) (I a:Addr) (f:Value) (i n ep:Nat):Prop:=∃ o,h.get? I=some o∧o.cls=.type "set_iterator"∧o.data=.fields #[f,rawInt (i:Nat),.ref a,rawInt (n:Nat),rawInt (ep:Nat)]
theorem SIt.ty {s:Shared}{I a:Addr}{f:Value}{i n ep:Nat}(h:SIt s.heap I a f i n ep):s.TypeIs (.ref I) "set_iterator":=let ⟨o,ho,hc,_⟩:=h;⟨o,ho,hc⟩
section
variable {prog:Program} {w:World} {A:Around} {E:Value→Shared→Prop} {s:Shared}
theorem Wk.next {a:Addr}{es:Array (Int × Value)}{ep:Nat}{t:SetTable}{ord:List Value}{o:Obj}{i:Nat}{zi:Nat}
  (ho:s.heap.get? a=some o) (hd:o.data=.set es ep t) (hf:t.fits es.size=true) {Q:Option (Value × Nat)→Shared→Prop} (fst:Nat→Value) (k:Wk w s.heap a es ep t ord fst []) (hz:fst i=rawInt (zi:Nat)) (hi:i≤es.size)
  (h:∀ zn:Nat,(i < es.size→rawInt zn=fst (i + 1))→Q (ord[i]?.map fun v=>(v,zn)) s):wpAny (model prog w) A (setNext a zi i ep) Q E s:=by
 have hfit:t.place.size=es.size:=by simp only [SetTable.fits,Bool.and_eq_true,beq_iff_eq] at hf;exact hf.1
 unfold setNext
 refine wpAny_bind (wpAny_setState_of ho hd hf ?_)
 dsimp only
 cases k with
 | text hb =>
  refine wpAny_bind (m:=setsByText) (wpAny_bind (wpAny_askSetting (wpAny_pure ?_)))
  rw [if_pos (show (model prog w).w.params.followText "set-order"=true from hb)]
  rw [if_neg (by simp)]
  unfold setWalk
  refine wpAny_bind (wpAny_bind (wpAny_setState_of ho hd hf ?_))
  dsimp only
  refine wpAny_bind (m:=setsByText) (wpAny_bind (wpAny_askSetting (wpAny_pure ?_)))
  rw [if_pos (show (model prog w).w.params.followText "set-order"=true from hb)]
  refine wpAny_bind (wpAny_askSetting (wpAny_pure (wpAny_pure ?_)))
  have:=h zi fun _=>hz.symm
  rw [List.getElem?_map] at this
  show Q (Option.map (fun e=>(e.snd,zi)) (pickOrder (w.params.setOrder a ep) es)[i]?) s
  simpa [Option.map_map,Function.comp_def] using this
 | plain hb hdr hl hr =>
  refine wpAny_bind (m:=setsByText) (wpAny_bind (wpAny_askSetting (wpAny_pure ?_)))
  rw [if_neg (show ¬ (model prog w).w.params.followText "set-order"=true from by rw [show (model prog w).w.params.followText "set-order"=false from hb];simp)]
  show wpAny _ _ (if (!t.plain && decide (es.size > 1))=true then _ else _) _ _ _
  rw [if_neg (by rw [hdr];simp)]
  refine wpAny_bind (m:=_) (show wpAny _ _ (if (!t.led && !es.isEmpty)=true then _ else _) _ _ _ from ?_)
  rw [if_neg (by rw [hl];simp)]
  refine wpAny_pure ?_
  have hz':zi=if i=0 then 0 else t.place.getD (i - 1) 0 + 1:=by
   have:((if i=0 then 0 else t.place.getD (i - 1) 0 + 1:Nat):Int)=zi:=by simpa [rawInt] using hz
   omega
  have hbl:SetTable.below t.place zi=i:=by
   rw [hz']
   by_cases h0:i=0
   ·subst h0;simpa using Zkc hr
   ·have hlt:i - 1 < t.place.size:=by omega
    rw [if_neg h0,show t.place.getD (i - 1) 0=t.place[i - 1] by simp [Array.getD,hlt],Zkw hr hlt]
    omega
  rw [hbl]
  rcases Nat.lt_or_ge i es.size with hlt | hge
  ·have hlt':i < t.place.size:=by omega
   rw [Array.getElem?_eq_getElem hlt,Array.getElem?_eq_getElem hlt']
   have:=h (t.place[i] + 1) fun _=>by simp [rawInt,Array.getD,hlt']
   rw [List.getElem?_map,List.getElem?_eq_getElem (by simpa using hlt)] at this
   exact wpAny_pure (by simpa using this)
  ·rw [Array.getElem?_eq_none hge]
   have:=h 0 fun hh=>by omega
   rw [List.getElem?_eq_none (by simpa using hge)] at this
   exact wpAny_pure (by simpa using this)
end
end PV
set_option linter.all false
set_option Elab.async false
set_option maxRecDepth 100000
set_option maxHeartbeats 4000000
namespace PV
open PySem PyProof.Rows
section
variable {prog:Program} {w:World} {A:Around} {E:Value→Shared→Prop} {s:Shared}
theorem ZeM {h:Heap}{I a:Addr}{f:Value}{i n ep:Nat}(x:SIt h I a f i n ep)(j:Nat)(v:Value){f':Value}{i':Nat}(e:(#[f,rawInt (i:Nat),.ref a,rawInt (n:Nat),rawInt (ep:Nat)]:Array Value).setIfInBounds j v=#[f',rawInt (i':Nat),.ref a,rawInt (n:Nat),rawInt (ep:Nat)]) :
  SIt (h.update I (Obj.mapFields (·.setIfInBounds j v))) I a f' i' n ep:=by
 obtain ⟨o,ho,hc,hd⟩:=x
 exact ⟨_,Heap.get?_update_self _ ho (Obj.isFreed_of_fields (Obj.data_mapFields hd _)),(Obj.cls_mapFields ..).trans hc,by rw [Obj.data_mapFields hd,e]⟩
theorem ZmE {I a : Addr}{es : Array (Int × Value)}{ep : Nat}{t : SetTable}{ord : List Value}{fst : Nat → Value}{ps : List Addr}{o : Obj}{i : Nat}{Q : Option Value → Shared → Prop}
    (hit : SIt s.heap I a (fst i) i es.size ep) (ho : s.heap.get? a = some o) (hd : o.data = .set es ep t) (hf : t.fits es.size = true) (hne : a ≠ I) (k : Wk w s.heap a es ep t ord fst ps) (hps : I ∉ ps) (hi : i < es.size)
    (hQ : ∀ v h', ord[i]? = some v → SIt h' I a (fst (i + 1)) (i + 1) es.size ep → Heap.SameBut I s.heap h' → Q (some v) { s with heap := h' }) : wpAny (model prog w) A (pyNext (.ref I)) Q E s := by
  obtain ⟨oi, hoi, hci, hdi⟩ := id hit
  have hol : ord.length = es.size := by rw [k.perm.length_eq]; simp
  unfold pyNext
  refine wpAny_bind (wpAny_attempt (wpAny_callSpecial?_slot (name := Str.ofString "__next__") hit.ty Zbl (wpAny_call_entry Zbl hit.ty Zgs ?_ (Zhw _))))
  show wpAny _ _ (fieldsOf (.ref I) >>= _) _ _ s
  refine wpAny_bind (wpAny_fieldsOf hoi hdi ?_)
  dsimp only
  show wpAny _ _ (setEntries a >>= _) _ _ s
  refine wpAny_bind (wpAny_setEntries_of ho hd hf ?_)
  rw [if_neg (by simp)]
  have main : ∀ (E' : Value → Shared → Prop) (zi : Nat), fst i = rawInt (zi : Nat) → Wk w s.heap a es ep t ord fst [] → wpAny (model prog w) A.in1 (do
      match ← setNext a zi i ep with
      | some (x, next) =>
        setField (.ref I) 0 (rawInt next)
        setField (.ref I) 1 (rawInt ((i : Int) + 1))
        ret x
      | none => setField (.ref I) 2 .none; raiseNew (← newExc (.type "StopIteration") [])) (fun fin s' => ∃ v, fin = .done (.ret v) ∧ wpAny (model prog w) A (pure (some v)) Q E s') E' s := by
    intro E' zi hz k0
    refine wpAny_bind (Wk.next ho hd hf fst k0 hz (by omega) fun zn hzn => ?_)
    rw [List.getElem?_eq_getElem (by omega)]
    show wpAny _ _ (setField (.ref I) 0 (rawInt zn) >>= _) _ _ s
    refine wpAny_bind (wpAny_setField hoi hdi (by simp) ?_)
    have h1 := ZeM (i' := i) hit 0 (rawInt (zn : Nat)) (f' := rawInt (zn : Nat)) (by simp)
    obtain ⟨o1, g1, c1, d1⟩ := id h1
    refine wpAny_bind (wpAny_setField g1 d1 (by simp) (wpAny_pure ⟨_, rfl, wpAny_pure (hQ _ _ (by rw [List.getElem?_eq_getElem (by omega)]) ?_ ((Heap.SameBut.update ..).trans (Heap.SameBut.update ..)))⟩))
    rw [← hzn hi]
    exact ZeM h1 1 _ (by simp [rawInt])
  cases k with
  | text hb => exact main _ 0 rfl (.text hb)
  | plain hb hdr hl hr => exact main _ _ rfl (.plain hb hdr hl hr)
  | drawn hb p c pl hp op hop hdp =>
    show wpAny _ _ (seqItems? (.ref p) >>= _) _ _ s
    refine wpAny_bind (wpAny_seqItems hop hdp ?_)
    have hpl : pl.length = es.size := by rw [hp.length_eq]; simp
    have hj : pl[i]'(by omega) < es.size := by have := hp.mem_iff.mp (List.getElem_mem (l := pl) (n := i) (by omega)); simpa using this
    have e1 : ((pl.map fun (j : Nat) => rawInt j).toArray)[(i : Int).toNat]? = some (.int (pl[i]'(by omega) : Nat) 0) := by simp [rawInt, hpl, hi]
    dsimp only
    rw [e1]
    dsimp only
    unfold setNextDrawn
    refine wpAny_bind (wpAny_bind (wpAny_setState_of ho hd hf ?_))
    dsimp only
    rw [if_neg (by simp)]
    rw [show ((pl[i]'(by omega) : Nat) : Int).toNat = pl[i]'(by omega) by simp, Array.getElem?_eq_getElem hj]
    refine wpAny_pure ?_
    refine wpAny_bind (wpAny_setField hoi hdi (by simp) (wpAny_pure ⟨_, rfl, wpAny_pure (hQ _ _ ?_ ?_ (Heap.SameBut.update ..))⟩))
    · simp [hpl, hi, Array.getD, hj]
    · exact ZeM hit 1 _ (by simp [rawInt])
theorem ZkY {Q:Option Value→Shared→Prop}(hh:A.handled=none)(h:∀ h',(∀ b o,s.heap.get? b=some o→h'.get? b=some o)→Q none { s with heap:=h' }) :
  wpAny (model prog w) A.in1 (do raiseNew (← newExc (.type "StopIteration") []):Sem PySem.Fin) (fun fin s'=>∃ v,fin=.done (.ret v)∧wpAny (model prog w) A (pure (some v)) Q E s')
   (fun e s'=>wpAny (model prog w) A (do if ← isInstance e (.type "StopIteration") then pure none else throw e) Q E s') s:=by
 refine wpAny_bind ?_
 simp only [newExc,newTuple]
 refine wpAny_bind (wpAny_newObj_type ?_ (by size_fits))
 refine wpAny_bind (m:=firstArgMember _ _) (wpAny_of_eq (a:=Value.none) (by first | rfl | (simp only [firstArgMember];rfl)) (wpAny_newObj_type ?_ (by size_fits)))
 simp only [raiseNew]
 refine wpAny_bind (wpAny_handled ?_)
 rw [show A.in1.handled=none from hh]
 refine wpAny_bind (wpAny_pure (wpAny_throw ?_))
 refine wpAny_bind (wpAny_isInstance (b:=true) (T:="StopIteration") ⟨_,Heap.get?_push_size _ rfl,rfl⟩ isSubtype_stop ?_)
 exact wpAny_pure (h _ fun b o e=>Heap.get?_push_of_some _ (Heap.get?_push_of_some _ e))
theorem Zob {I a : Addr}{es : Array (Int × Value)}{ep : Nat}{t : SetTable}{ord : List Value}{fst : Nat → Value}{ps : List Addr}{o : Obj}{Q : Option Value → Shared → Prop}(hh : A.handled = none)
    (hit : SIt s.heap I a (fst es.size) es.size es.size ep) (ho : s.heap.get? a = some o) (hd : o.data = .set es ep t) (hf : t.fits es.size = true) (k : Wk w s.heap a es ep t ord fst ps)
    (hQ : ∀ h', Heap.ExtBut I s.heap h' → Q none { s with heap := h' }) : wpAny (model prog w) A (pyNext (.ref I)) Q E s := by
  obtain ⟨oi, hoi, hci, hdi⟩ := id hit
  have hol : ord.length = es.size := by rw [k.perm.length_eq]; simp
  unfold pyNext
  refine wpAny_bind (wpAny_attempt (wpAny_callSpecial?_slot (name := Str.ofString "__next__") hit.ty Zbl (wpAny_call_entry Zbl hit.ty Zgs ?_ (Zhw _))))
  show wpAny _ _ (fieldsOf (.ref I) >>= _) _ _ s
  refine wpAny_bind (wpAny_fieldsOf hoi hdi ?_)
  dsimp only
  show wpAny _ _ (setEntries a >>= _) _ _ s
  refine wpAny_bind (wpAny_setEntries_of ho hd hf ?_)
  rw [if_neg (by simp)]
  have main : ∀ (zi : Nat), fst es.size = rawInt (zi : Nat) → Wk w s.heap a es ep t ord fst [] → wpAny (model prog w) A.in1 (do
      match ← setNext a zi es.size ep with
      | some (x, next) =>
        setField (.ref I) 0 (rawInt next)
        setField (.ref I) 1 (rawInt ((es.size : Int) + 1))
        ret x
      | none => setField (.ref I) 2 .none; raiseNew (← newExc (.type "StopIteration") [])) (fun fin s' => ∃ v, fin = .done (.ret v) ∧ wpAny (model prog w) A (pure (some v)) Q E s')
        (fun e s' => wpAny (model prog w) A (do if ← isInstance e (.type "StopIteration") then pure none else throw e) Q E s') s := by
    intro zi hz k0
    refine wpAny_bind (Wk.next ho hd hf fst k0 hz (Nat.le_refl _) fun zn hzn => ?_)
    rw [List.getElem?_eq_none (by omega)]
    show wpAny _ _ (setField (.ref I) 2 .none >>= _) _ _ s
    refine wpAny_bind (wpAny_setField hoi hdi (by simp) ?_)
    exact ZkY hh fun h' hk => hQ h' fun b o hb e => hk b o ((Heap.SameBut.update s.heap I _).extBut b o hb e)
  cases k with
  | text hb => exact main 0 rfl (.text hb)
  | plain hb hdr hl hr => exact main _ rfl (.plain hb hdr hl hr)
  | drawn hb p c pl hp op hop hdp =>
    show wpAny _ _ (seqItems? (.ref p) >>= _) _ _ s
    refine wpAny_bind (wpAny_seqItems hop hdp ?_)
    have hpl : pl.length = es.size := by rw [hp.length_eq]; simp
    have e1 : ((pl.map fun (j : Nat) => rawInt j).toArray)[(es.size : Int).toNat]? = none := by simp [hpl]
    dsimp only
    rw [e1]
    dsimp only
    refine wpAny_bind (wpAny_setField hoi hdi (by simp) ?_)
    have h1 := ZeM (i' := es.size) hit 0 (rawInt 0) (f' := rawInt 0) (by simp)
    obtain ⟨o1, g1, c1, d1⟩ := id h1
    refine wpAny_bind (wpAny_setField g1 d1 (by simp) ?_)
    exact ZkY hh fun h' hk => hQ h' fun b o hb e => hk b o (((Heap.SameBut.update s.heap I _).trans (Heap.SameBut.update _ I _)).extBut b o hb e)
theorem Zl5 {I a:Addr}{f:Value}{i n ep:Nat}{Q:Value→Shared→Prop}(hit:SIt s.heap I a f i n ep)(h:Q (.ref I) s):wpAny (model prog w) A (pyIter (.ref I)) Q E s:=by
 refine wpAny_pyIter_slot hit.ty Zhh (wpAny_call_entry Zhh hit.ty ZjZ ?_ (Zln _))
 show wpAny _ _ (ret (.ref I)) _ _ s
 exact wpAny_pure ⟨_,rfl,"set_iterator",_,hit.ty,Zbl.lookup,h⟩
end
end PV
set_option linter.all false
set_option Elab.async false
set_option maxRecDepth 100000
set_option maxHeartbeats 4000000
namespace PV
open PySem PyProof.Rows
section
variable {prog:Program} {w:World} {A:Around} {E:Value→Shared→Prop} {s:Shared}
theorem Zl7 (hh:A.handled=none){I a:Addr}(hne:a≠I){es:Array (Int × Value)}{ep:Nat}{t:SetTable}{ord:List Value}{fst:Nat→Value}{ps:List Addr}(hps:I ∉ ps){o:Obj}(hd:o.data=.set es ep t)(hf:t.fits es.size=true) :
  WalksS prog w A I (I::a::ps) [I] (fun a b=>b=a) es.size (fun i v=>ord[i]?=some v) (fun i s=>SIt s.heap I a (fst i) i es.size ep∧s.heap.get? a=some o∧Wk w s.heap a es ep t ord fst ps) where
 sub:=fun b hb=>by simp at hb;simp [hb]
 grefl:=fun _=>rfl
 gtrans:=fun _ _ _ h1 h2=>h2.trans h1
 frame:=fun i s h' tk st _ hk=>⟨let ⟨oi,h1,h2⟩:=st.1;⟨oi,hk I (by simp) _ h1,h2⟩,hk a (by simp) _ st.2.1,st.2.2.mono fun b hb=>hk b (by simp [hb])⟩
 item:=fun i s Q E hi st hQ=>ZmE st.1 st.2.1 hd hf hne st.2.2 hps hi fun v h' hv hit' sb =>
  hQ v _ hv ⟨hit',sb.extBut a _ hne st.2.1,st.2.2.mono fun b hb o e=>sb.extBut b o (fun e=>hps (e ▸ hb)) e⟩ ⟨fun b o hb e=>sb.extBut b o (fun h=>hb (by simp [h])) e,rfl,rfl,rfl,Nat.le_refl _⟩
 done:=fun s Q E st hQ=>Zob hh st.1 st.2.1 hd hf st.2.2 fun h' he=>hQ _ ⟨fun b o hb e=>he b o (fun h=>hb (by simp [h])) e,rfl,rfl,rfl,Nat.le_refl _⟩
 self:=fun i s Q E st hQ=>Zl5 st.1 hQ
theorem ZkL {xs:Array Nat}(h:xs.size≤1):Ris xs:=fun i j hi hj hij=>by omega
theorem Zn6 {a:Addr}{led:Bool}{ks:List Int}{o:Obj}{es:Array (Int × Value)}{ep:Nat}{t:SetTable}(ho:s.heap.get? a=some o)(S:SetO prog w led ks o es ep t):s.TypeIs (.ref a) "set":=⟨o,ho,S.ex.1⟩
theorem Zmd {a : Addr}{ks : List Int}{o : Obj}{es : Array (Int × Value)}{ep : Nat}{t : SetTable}{Q : Value → Shared → Prop}(ho : s.heap.get? a = some o)(S : SetO prog w (!byT w) ks o es ep t)
    (h : ∀ h' dr I ord fst ps, (∀ b o, s.heap.get? b = some o → h'.get? b = some o) → (∀ b ∈ I :: ps, s.heap.objs.size ≤ b) → I ∉ ps → SIt h' I a (fst 0) 0 es.size ep → Wk w h' a es ep t ord fst ps → Q (.ref I) { s with heap := h', drawn := dr }) :
    wpAny (model prog w) A (pyIter (.ref a)) Q E s := by
  have hT := Zn6 ho S
  have hsz : es.size ≤ sizeLine := fits_of_scanBound S.few
  have hfit : t.place.size = es.size := by have := S.fit; simp only [SetTable.fits, Bool.and_eq_true, beq_iff_eq] at this; exact this.1
  refine wpAny_pyIter_slot hT F.slot_set_iter (wpAny_call_entry F.slot_set_iter hT Zkb ?_ (F.args_set_iter_1 _))
  show wpAny _ _ (Builtin.Frozenset.sizeOf a >>= _) _ _ s
  unfold Builtin.Frozenset.sizeOf
  refine wpAny_bind (wpAny_bind (wpAny_setEntries_of ho S.dat S.fit (wpAny_pure ?_)))
  unfold setDrawn
  refine wpAny_bind (wpAny_bind (wpAny_setState_of ho S.dat S.fit ?_))
  dsimp only
  refine wpAny_bind (m := setsByText) (wpAny_bind (wpAny_askSetting (wpAny_pure (wpAny_pure ?_))))
  show wpAny _ _ (if (!byT w && (!t.plain && decide (es.size > 1))) = true then _ else _) _ _ s
  have fin : ∀ (f : Value) (s1 : Shared) (dr) (ord fst ps), s1 = { s with heap := s1.heap, drawn := dr } → (∀ b o, s.heap.get? b = some o → s1.heap.get? b = some o) → s.heap.objs.size ≤ s1.heap.objs.size → (∀ b ∈ ps, s.heap.objs.size ≤ b ∧ b < s1.heap.objs.size) →
      Wk w s1.heap a es ep t ord fst ps → f = fst 0 → wpAny (model prog w) A.in1 (do
        let __do_lift ← setEpoch a
        let __do_lift ← newFields "set_iterator" [f, rawInt 0, .ref a, rawInt (es.size : Nat), rawInt (__do_lift : Nat)]
        ret __do_lift) (fun fin s' => ∃ v, fin = .done (.ret v) ∧ ∃ T' r, s'.TypeIs v T' ∧ typeLookup (.type T') "__next__" = pure (some r) ∧ Q v s') E s1 := by
    intro f s1 dr ord fst ps es1 hk hle hps k hf
    refine wpAny_bind (wpAny_setEpoch_of (hk _ _ ho) S.dat S.fit ?_)
    unfold newFields
    refine wpAny_bind (wpAny_newObj_type ?_ (by show sizeOk _; simp [sizeOk, sizeLine_eq]))
    refine wpAny_pure ⟨_, rfl, "set_iterator", _, ⟨_, Heap.get?_push_size _ rfl, rfl⟩, Zbl.lookup, ?_⟩
    rw [es1]
    refine h _ dr _ ord fst ps (fun b o e => Heap.get?_push_of_some _ (hk b o e)) (fun b hb => ?_) (fun hI => ?_) ?_ (k.mono fun b hb o e => Heap.get?_push_of_some _ e)
    · rcases List.mem_cons.mp hb with rfl | hb
      · exact hle
      · exact (hps b hb).1
    · exact Nat.lt_irrefl _ (hps _ hI).2
    · subst hf; exact ⟨_, Heap.get?_push_size _ rfl, rfl, rfl⟩
  have same : s = { s with heap := s.heap, drawn := s.drawn } := by cases s; rfl
  cases hb : byT w with
  | true =>
    rw [if_neg (by simp)]
    refine wpAny_bind (wpAny_pure ?_)
    exact fin (rawInt 0) s s.drawn _ _ [] same (fun _ _ e => e) (Nat.le_refl _) (by simp) (.text hb) rfl
  | false =>
    by_cases hdr : (!t.plain && decide (es.size > 1)) = true
    · rw [if_pos (by rw [hdr]; rfl)]
      refine wpAny_bind (ZpE es.size (List.range es.size) s _ (by simp) fun ys dr hp => ?_)
      refine wpAny_bind (wpAny_newTuple ?_ (by rw [List.length_map, hp.length_eq, List.length_range]; exact hsz))
      refine fin _ _ dr _ _ [s.heap.objs.size] rfl (fun b o e => Heap.get?_push_of_some _ e) (by show s.heap.objs.size ≤ (s.heap.push _).objs.size; rw [Heap.size_push]; omega) (fun b hb => by
        simp at hb; subst hb; refine ⟨Nat.le_refl _, ?_⟩; show _ < (s.heap.push _).objs.size; rw [Heap.size_push]; omega) (.drawn hb s.heap.objs.size 0 ys hp _ (Heap.get?_push_size _ rfl) rfl) rfl
    · rw [if_neg (by simp at hdr ⊢; exact hdr)]
      refine wpAny_bind (wpAny_pure ?_)
      refine fin (rawInt 0) s s.drawn _ _ [] same (fun _ _ e => e) (Nat.le_refl _) (by simp) (.plain hb (by simpa using hdr) (by rw [S.ok.led, hb]; rfl) ?_) rfl
      cases hp : t.plain with
      | true => exact S.ok.ris hp
      | false => exact ZkL (by rw [hp] at hdr; simp at hdr; omega)
end
end PV
set_option linter.all false
set_option Elab.async false
set_option maxRecDepth 100000
set_option maxHeartbeats 4000000
namespace PV
open PySem PyProof.Rows
section
variable {prog:Program} {w:World} {A:Around} {E:Value→Shared→Prop} {s:Shared}
theorem Zi0 {a:Addr}{ks:List Int}{Q:List Value→Shared→Prop}(hh:A.handled=none)(hS:SetX prog w s.heap a (!byT w) ks)
  (h:∀ h' dr tk vs js,(∀ b o,s.heap.get? b=some o→h'.get? b=some o)→s.heap.objs.size < h'.objs.size→IntsAre vs js→js.Perm ks→Q vs { s with heap:=h',drawn:=dr,toks:=tk }):wpAny (model prog w) A (collect (.ref a)) Q E s:=by
 obtain ⟨o,es,ep,t,ho,S⟩:=hS
 have hn:es.size≤sizeLine:=fits_of_scanBound S.few
 have ha:a < s.heap.objs.size:=Heap.lt_size ho
 unfold collect
 refine wpAny_bind (wpAny_runValue (codeAny_builtin F.entry_proto_collect ?_))
 rw [Around.under_plainId F.plain_proto_collect _]
 show wpAny _ A.in1 (newList [] >>= fun l=>again (.builtin "list.__iadd__" ⟨[l,.ref a],[]⟩)) _ _ s
 refine wpAny_bind (wpAny_newObj_type (wpAny_pure ⟨plainId_quiet F.plain_list_iadd _,codeAny_builtin F.entry_list_iadd ?_⟩))
 rw [Around.under_plainId F.plain_list_iadd _]
 generalize hP:s.heap.push { cls:=.type "list",data:=.seq ([]:List Value).toArray }=hp1
 have hL1:hp1.get? s.heap.objs.size=some { cls:=.type "list",data:=.seq ([]:List Value).toArray }:=hP ▸ Heap.get?_push_size _ rfl
 have up1:∀ b o,s.heap.get? b=some o→hp1.get? b=some o:=fun b o e=>hP ▸ Heap.get?_push_of_some _ e
 have sz1:s.heap.objs.size < hp1.objs.size:=Heap.lt_size hL1
 have hT:Shared.TypeIs { s with heap:=hp1 } (.ref a) "set":=⟨o,up1 _ _ ho,S.ex.1⟩
 show wpAny _ A.in1 (Builtin.List.listExtendWith (.ref s.heap.objs.size) (.ref a) (.ref s.heap.objs.size)) _ _ { s with heap:=hp1 }
 unfold Builtin.List.listExtendWith
 refine wpAny_bind (wpAny_typeOf hT ?_)
 have c1:Builtin.List.listSameRef (.ref s.heap.objs.size) (.ref a)=false:=by simp only [Builtin.List.listSameRef,beq_eq_false_iff_ne,ne_eq];exact Nat.ne_of_gt ha
 have c2:(Value.type "set" == Value.type "list")=false:=by decide
 have c3:(Value.type "set" == Value.type "tuple")=false:=by decide
 simp only [c1,c2,c3,Bool.or_false,Bool.false_eq_true,if_false]
 refine wpAny_bind (Zmd (s:={ s with heap:=hp1 }) (up1 _ _ ho) S fun h2 dr I ord fst ps up2 new hI hit k=>?_)
 have hT2:Shared.TypeIs { s with heap:=h2,drawn:=dr } (.ref a) "set":=⟨o,up2 _ _ (up1 _ _ ho),S.ex.1⟩
 refine wpAny_bind (wpAny_holding ?_)
 unfold Builtin.List.listLengthHint
 refine wpAny_bind (wpAny_specialOf hT2 F.slot_set_len.lookup ?_)
 have sp:splitId "set.__len__"=some ("set","__len__"):=by decide +kernel
 dsimp only
 rw [sp]
 dsimp only
 refine wpAny_bind (wpAny_isInstance (b:=true) hT2 sub_set_self ?_)
 rw [if_neg (by simp),if_pos (by decide +kernel)]
 refine wpAny_bind (wpAny_typeOf hT2 (wpAny_pure ?_))
 rw [if_pos (by decide +kernel)]
 refine wpAny_bind (wpAny_rule (wpAny_bind ?_))
 show wpAny _ A.in1 (updateSeq s.heap.objs.size (·.push .none) >>= fun _=>updateSeq s.heap.objs.size (·.pop)) _ _ _
 have g1:=up2 _ _ hL1
 refine wpAny_bind (wpAny_updateSeq g1 rfl ?_)
 have g2:=Heap.get?_update_self (Obj.mapSeq (·.push Value.none)) g1 rfl
 refine wpAny_updateSeq g2 rfl ?_
 have g3:=Heap.get?_update_self (Obj.mapSeq (·.pop)) g2 rfl
 have oth0:∀ b o,b≠s.heap.objs.size→h2.get? b=some o→((h2.update s.heap.objs.size (Obj.mapSeq (·.push Value.none))).update s.heap.objs.size (Obj.mapSeq (·.pop))).get? b=some o :=
  fun b o hb e=>(Heap.get?_update_other _ _ (Ne.symm hb)).trans ((Heap.get?_update_other _ _ (Ne.symm hb)).trans e)
 obtain ⟨h4,e4⟩:∃ h4,h4=(h2.update s.heap.objs.size (Obj.mapSeq (·.push Value.none))).update s.heap.objs.size (Obj.mapSeq (·.pop)):=⟨_,rfl⟩
 have oth:∀ b o,b≠s.heap.objs.size→h2.get? b=some o→h4.get? b=some o:=by rw [e4];exact oth0
 have g4:∃ c,h4.get? s.heap.objs.size=some { cls:=.type "list",dict:=none,data:=.seq #[] c,slots:=#[] }:=⟨_,by rw [e4];exact g3⟩
 obtain ⟨c4,g4⟩:=g4
 show wpAny _ A.in1 _ _ _ { s with heap:=(h2.update s.heap.objs.size (Obj.mapSeq (·.push Value.none))).update s.heap.objs.size (Obj.mapSeq (·.pop)),drawn:=dr }
 rw [← e4]
 clear e4 oth0 g3 g2
 have out:∀ b ∈ I::a::ps,b≠s.heap.objs.size:=fun b hb=>by
  rcases List.mem_cons.mp hb with rfl | hb
  ·have:=new b (by simp);simp only at this;omega
  ·rcases List.mem_cons.mp hb with rfl | hb
   ·exact Nat.ne_of_lt ha
   ·have:=new b (by simp [hb]);simp only at this;omega
 have hne:a≠I:=Nat.ne_of_lt (Nat.lt_of_lt_of_le (Nat.lt_trans ha sz1) (new I (by simp)))
 have W:=Zl7 (prog:=prog) (w:=w) (A:=A.in1) (by simpa using hh) hne (ord:=ord) (fst:=fst) hI (o:=o) S.dat S.fit
 have st:SIt h4 I a (fst 0) 0 es.size ep:=by
  obtain ⟨oi,h1,h3⟩:=hit
  exact ⟨oi,oth I _ (out I (by simp)) h1,h3⟩
 have st2:h4.get? a=some o:=oth _ _ (out a (by simp)) (up2 _ _ (up1 _ _ ho))
 have st3:Wk w h4 a es ep t ord fst ps:=k.mono fun b hb o e=>oth b o (out b (by simp [hb])) e
 refine wpAny_pure ⟨plainId_quiet F.plain_extend_loop _,codeAny_extend_loopS W hn s.heap.objs.size (fun hm=>out _ hm rfl) (.ref s.heap.objs.size) es.size 0 { s with heap:=h4,drawn:=dr } #[] c4 rfl (Nat.zero_le _) ⟨st,st2,st3⟩ g4 (ItemsOf.nil _) fun s' acc' c' hm hS' hacc=>?_⟩
 show wpAny _ A (load s.heap.objs.size >>= _) _ _ s'
 refine wpAny_bind (wpAny_load hS' (wpAny_pure ?_))
 have e1:acc'.toList=ord:=by
  have hol:ord.length=es.size:=by rw [k.perm.length_eq];simp
  apply List.ext_getElem?
  intro j
  rcases Nat.lt_or_ge j acc'.size with hj | hj
  ·have:=hacc.2 j acc'[j] (by simp [hj])
   rw [this];simp [hj]
  ·rw [List.getElem?_eq_none (by simpa using hj),List.getElem?_eq_none (by rw [hol,← hacc.1];exact hj)]
 obtain ⟨js,j1,j2⟩:=S.ks
 obtain ⟨js',r1,r2⟩:=Zet (e1 ▸ k.perm) j1
 obtain ⟨h9,g9,d9,t9,o9⟩:=s'
 have eg:g9=s.gens:=hm.gens
 have ed:d9=dr:=hm.drawn
 have eo:o9=s.os:=hm.os
 subst eg;subst ed;subst eo
 refine h h9 d9 t9 acc'.toList js' (fun b ob e=>?_) (Heap.lt_size hS') r1 (r2.trans j2)
 have hb:b≠s.heap.objs.size:=Nat.ne_of_lt (Heap.lt_size e)
 have hbI:b≠I:=Nat.ne_of_lt (Nat.lt_of_lt_of_le (Heap.lt_size (up1 _ _ e)) (new I (by simp)))
 exact hm.heap b ob (by simp [hb,hbI]) (oth b ob hb (up2 _ _ (up1 _ _ e)))
theorem Zkd {a:Addr}{ks:List Int}{Q:Value→Shared→Prop}(hh:A.handled=none)(hS:SetX prog w s.heap a (!byT w) ks)(h64:ks.length < 64)
  (h:∀ h' dr tk D vs js c,(∀ b o,s.heap.get? b=some o→h'.get? b=some o)→s.heap.objs.size≤D→h'.get? D=some (seqObj "list" vs.toArray c)→IntsAre vs js→js.Perm ks→js.Pairwise (·≤·)→Q (.ref D) { s with heap:=h',drawn:=dr,toks:=tk }) :
  wpAny (model prog w) A (call (.builtin "sorted") [.ref a]) Q E s:=by
 refine Calls.call_function_entry kind_sorted plain_sorted entry_sorted (args_sorted1 _) ?_
 unfold Builtin.«sorted»
 refine wpAny_bind (m:=checkCount "sorted" 1 1 _) (wpAny_pure (wpAny_bind (Zi0 (by simpa using hh) hS fun h1 dr tk vs js up1 sz1 hv hj=>?_)))
 have hlen:vs.length=ks.length:=by rw [← hj.length_eq,(Zaq.mp hv).2];simp
 refine wpAny_bind (wpAny_newList ?_ (by rw [sizeLine_eq];omega))
 generalize hP:h1.push { cls:=.type "list",data:=.seq vs.toArray }=h2
 have g2:h2.get? h1.objs.size=some (seqObj "list" vs.toArray 0):=hP ▸ Heap.get?_push_size _ rfl
 have up2:∀ b o,h1.get? b=some o→h2.get? b=some o:=fun b o e=>hP ▸ Heap.get?_push_of_some _ e
 show wpAny _ _ _ _ _ { s with heap:=h2,drawn:=dr,toks:=tk }
 refine wpAny_bind (wpAny_holding (wpAny_call_entry slot_list_sort ⟨_,g2,rfl⟩ entry_list_sort (list_sort_tree g2 hv (by omega) fun out ns' a1 a2 a3=>⟨_,rfl,wpAny_pure ⟨_,rfl,?_⟩⟩) (args_list_sort _)))
 have hlt:h1.objs.size < h2.objs.size:=Heap.lt_size g2
 have key:∃ c,(sortedHeap h2 h1.objs.size vs out).get? h1.objs.size=some (seqObj "list" out c):=by
  unfold sortedHeap
  obtain ⟨e1,q1⟩:∃ e1,(h2.update h1.objs.size (Obj.mapSeq fun _=>#[])).get? h1.objs.size=some (seqObj "list" #[] e1):=⟨_,get?_update_seq g2 (fun _=>#[])⟩
  exact ⟨_,get?_update_seq (c:="list") (n:=e1) (xs:=#[]) (Heap.get?_push_of_some _ (Heap.get?_push_of_some _ q1)) (fun _=>out)⟩
 obtain ⟨c,hc⟩:=key
 refine h _ dr tk h1.objs.size out.toList ns' c (fun b ob e=>?_) (by omega) (by simpa using hc) a1 (a2.trans hj) a3
 have hb:b≠h1.objs.size:=Nat.ne_of_lt (Heap.lt_size (up1 _ _ e))
 unfold sortedHeap
 rw [Heap.get?_update_other _ _ (Ne.symm hb)]
 refine Heap.get?_push_of_some _ (Heap.get?_push_of_some _ ?_)
 rw [Heap.get?_update_other _ _ (Ne.symm hb)]
 exact up2 _ _ (up1 _ _ e)
end
end PV
set_option linter.all false
set_option Elab.async false
set_option maxRecDepth 100000
set_option maxHeartbeats 4000000
namespace PV
open PySem PyProof.Rows PySem.Spec
section
variable {prog:Program} {w:World} {A:Around} {E:Value→Shared→Prop} {s:Shared}
theorem SetX.keep {h h':Heap}{a:Addr}{led:Bool}{ks:List Int}(x:SetX prog w h a led ks)(hk:∀ o,h.get? a=some o→h'.get? a=some o):SetX prog w h' a led ks:=by
 obtain ⟨o,es,ep,t,ho,S⟩:=x
 exact ⟨o,es,ep,t,hk o ho,S⟩
theorem Zkj {h:Heap} {a:Addr} {led:Bool} (ho:h.get? a=some { cls:=.type "set",dict:=none,data:=.set #[] 0 (.fresh 0 0 led) }):SetX prog w h a led [] :=
 ⟨_,#[],0,_,ho,⟨rfl,rfl,rfl⟩,rfl,fun e he=>by simp at he,⟨[],.nil,.refl _⟩,by decide,rfl,Zjf _ _ _⟩
theorem ZmK {R:Result→Shared→Prop}{I:Addr}{fp wr:List Addr}{G:Array GenState→Array GenState→Prop}{P:Nat→Value→Prop}{St:Nat→Shared→Prop}{ns:List Int}{led:Bool}
  (W:WalksS prog w A.in1 I fp wr G ns.length P St) (a:Addr) (ha:a ∉ fp) (hv:∀ i v,P i v→∃ t,v=.int (ns.getD i 0) t) (hb:ns.length + 1 < scanBound) :
  ∀ (k i:Nat) (s:Shared),ns.length - i=k→i≤ns.length→St i s→SetX prog w s.heap a led (seen (ns.take i)) →
   (∀ s',Moved (a::wr) G s s'→SetX prog w s'.heap a led (seen ns)→R (.ok (.ret .none)) s')→codeAny (model prog w) A (.builtin "set.update.loop" ⟨[.ref a,.ref I],[]⟩) R s:=by
 have haw:a ∉ wr:=fun h=>ha (W.sub _ h)
 have sub:∀ b ∈ wr,b ∈ a::wr:=fun b hb=>List.mem_cons_of_mem _ hb
 intro k
 induction k with
 | zero =>
  intro i s hk hi st hS hR
  have e:i=ns.length:=by omega
  subst e
  rw [List.take_length] at hS
  refine codeAny_builtin F.entry_set_update_loop ?_
  rw [Around.under_plainId F.plain_set_update_loop _]
  show wpAny _ A.in1 (pyNext (.ref I) >>= _) _ _ s
  exact wpAny_bind (W.done s _ _ st fun s' hm=>wpAny_pure (hR s' (hm.mono sub) (hS.keep fun o e=>hm.heap a o haw e)))
 | succ k ih =>
  intro i s hk hi st hS hR
  have hlt:i < ns.length:=by omega
  refine codeAny_builtin F.entry_set_update_loop ?_
  rw [Around.under_plainId F.plain_set_update_loop _]
  show wpAny _ A.in1 (pyNext (.ref I) >>= _) _ _ s
  refine wpAny_bind (W.item i s _ _ hlt st fun v s' hP st' hm=>?_)
  obtain ⟨t,rfl⟩:=hv i v hP
  have hS':=hS.keep fun o e=>hm.heap a o haw e
  show wpAny _ A.in1 (holding [Value.int (ns.getD i 0) t] (setAdd a (.int (ns.getD i 0) t)) >>= _) _ _ s'
  refine wpAny_bind (wpAny_holding ?_)
  unfold setAdd
  refine wpAny_holding (wpAny_bind ((intKind prog w).pyHash (k:=ns.getD i 0) (intKind_is _ _ _ _) ?_))
  have room:(seen (ns.take i)).length + 1 < scanBound:=by have:=ZfI (ns.take i);rw [List.length_take] at this;omega
  refine ZpI (s:={ s' with toks:=s'.toks + 1 }) hS' room fun h' b sb hS2=>?_
  have e2:addv (seen (ns.take i)) (ns.getD i 0)=seen (ns.take (i + 1)):=by rw [← Zlu,List.take_add_one,List.getElem?_eq_getElem hlt,List.getD_eq_getElem?_getD,List.getElem?_eq_getElem hlt];rfl
  rw [e2] at hS2
  refine wpAny_pure ⟨plainId_quiet F.plain_set_update_loop _,ih (i + 1) _ (by omega) hlt (W.frame _ s' _ _ st' (Nat.le_succ _) fun b hb o e=>?_) hS2 fun s2 hm2 hS3=>?_⟩
  ·rw [sb.2 b fun h=>ha (h ▸ hb)];exact e
  ·refine hR s2 (Moved.trans W.gtrans ((hm.mono sub).then_heap (Nat.le_succ _) fun b o hb e=>?_) hm2) hS3
   rw [sb.2 b fun h=>hb (h ▸ List.mem_cons_self)];exact e
theorem Znc (x:Value) {Q:Value→Shared→Prop} (h:Q (.ref s.heap.objs.size) { s with heap:=s.heap.push { cls:=.type "set",dict:=none,data:=.set #[] 0 (.fresh 0 0 (!byT w)) } }) :
  codeAny (model prog w) A (.call (.builtin "set.__new__") ⟨[.type "set",x],[]⟩) (wants Q E) s:=by
 refine codeAny_of_tree ?_
 show wpAny _ A.in1 (do checkBuiltinCall "set.__new__" ⟨[.type "set",x],[]⟩;again (.builtin "set.__new__" ⟨[.type "set",x],[]⟩)) _ _ s
 refine wpAny_bind (wpAny_of_eq (PySem.F.newCall_set_1 x) (wpAny_pure ⟨plainId_quiet F.plain_set_new _,codeAny_builtin F.entry_set_new ?_⟩))
 rw [Around.under_plainId F.plain_set_new _]
 unfold Builtin.«set.__new__» Builtin.Frozenset.newClass
 have hsub:=sub_set_self
 obtain ⟨hp,g,d,tk,os⟩:=s
 dsimp only
 wp_walk
 refine wpAny_askSetting (wpAny_pure ?_)
 dsimp only
 simp only [newObj]
 exact wpAny_bind (wpAny_alloc (wpAny_pure (wpAny_pure h)))
set_option maxHeartbeats 3200000 in
theorem Zit {l:Addr}{its:Array Value}{ns:List Int}{Q:Value→Shared→Prop}(hh:A.handled=none)(hl:s.heap.IsList l its)(hi:IntsAre its.toList ns)(hb:ns.length + 1 < scanBound)
  (h:∀ (h':Heap) (tk:Nat),SetX prog w h' s.heap.objs.size (!byT w) (seen ns)→(∀ b o,b < s.heap.objs.size→s.heap.get? b=some o→h'.get? b=some o)→Q (.ref s.heap.objs.size) { s with heap:=h',toks:=tk }) :
  wpAny (model prog w) A (call (.type "set") [.ref l]) Q E s:=by
 have hlen:its.size=ns.length:=by rw [(Zaq.mp hi).2];simp
 obtain ⟨c,tl,hmro⟩:=F.called_set.mro
 have hmade:=F.called_set.made
 have hsub:=F.called_set.sub
 refine wpAny_call (codeAny_of_tree ?_)
 show wpAny _ _ (callAny (.type "set") _) _ _ _
 refine wpAny_pure ⟨Code.quiet_builtin _ (by decide +kernel),codeAny_builtin F.entry_type_call ?_⟩
 rw [Around.under_plain (weight_type_call_type "set" [.ref l] []) rfl]
 have h1:=F.called_set.notType
 have h2:=F.called_set.canCreate
 have hct:=PySem.F.typeCall_set_1 (.ref l)
 repeat (any_goals (first | assumption | wp_step))
 refine codeAny_mono (Znc (.ref l) (E:=E) (Q:=fun obj s₁=>obj=.ref s.heap.objs.size∧s₁={ s with heap:=s.heap.push { cls:=.type "set",dict:=none,data:=.set #[] 0 (.fresh 0 0 (!byT w)) } }) ⟨rfl,rfl⟩) fun r s₁ hr=>?_
 cases r with
 | error e=>exact hr
 | ok fl =>
  cases fl with
  | ret obj =>
   obtain ⟨rfl,rfl⟩:=hr
   have g0:(s.heap.push { cls:=.type "set",dict:=none,data:=.set #[] 0 (.fresh 0 0 (!byT w)) }).get? s.heap.objs.size=some { cls:=.type "set",dict:=none,data:=.set #[] 0 (.fresh 0 0 (!byT w)) }:=Heap.get?_push_size _ rfl
   have hT:Shared.TypeIs { s with heap:=s.heap.push { cls:=.type "set",dict:=none,data:=.set #[] 0 (.fresh 0 0 (!byT w)) } } (.ref s.heap.objs.size) "set":=⟨_,g0,rfl⟩
   have hli:=F.called_set.init.lookup
   have hbi:=F.called_set.init.bind (.ref s.heap.objs.size)
   repeat (any_goals (first | assumption | wp_step))
   refine codeAny_mono (codeAny_call_builtin (R:=wants (fun r s₂=>r=.none∧∃ h' tk,s₂={ s with heap:=h',toks:=tk }∧SetX prog w h' s.heap.objs.size (!byT w) (seen ns)∧(∀ b o,b < s.heap.objs.size→s.heap.get? b=some o→h'.get? b=some o)) E)
    F.called_set.init.plain F.entry_set_init (check_set_init_1 hT ?_)) fun r₂ s₂ hr₂=>?_
   ·obtain ⟨ol,hol,hcl,nl,hdl⟩:=hl
    obtain ⟨ocls,odict,odata,oslots⟩:=ol
    simp only at hcl hdl
    subst hcl;subst hdl
    have hol':(s.heap.push { cls:=.type "set",dict:=none,data:=.set #[] 0 (.fresh 0 0 (!byT w)) }).get? l=some { cls:=.type "list",dict:=odict,data:=.seq its nl,slots:=oslots }:=Heap.get?_push_of_some _ hol
    have hsls:=PySem.F.sub_list_set
    have hslf:=PySem.F.sub_list_frozenset
    have hne:(Value.type "list" == Value.type "dict")=false:=by decide
    have hl1:(s.heap.push { cls:=.type "set",dict:=none,data:=.set #[] 0 (.fresh 0 0 (!byT w)) }).IsList l its:=⟨_,hol',rfl,nl,rfl⟩
    unfold Builtin.«set.__init__» noKeywords Builtin.Frozenset.updateFrom
    generalize hPI:pyIter=PI
    wp_walk
    subst hPI
    refine wpAny_pyIter_list hl1 (wpAny_bind (wpAny_runValue ?_))
    have hlS:l < s.heap.objs.size:=Heap.lt_size hol
    have sz:(s.heap.push { cls:=.type "set",dict:=none,data:=.set #[] 0 (.fresh 0 0 (!byT w)) }).objs.size=s.heap.objs.size + 1:=Heap.size_push ..
    have hneI:l≠(s.heap.push { cls:=.type "set",dict:=none,data:=.set #[] 0 (.fresh 0 0 (!byT w)) }).objs.size:=by
     rw [sz];exact Nat.ne_of_lt (Nat.lt_succ_of_lt hlS)
    have W:=(Walks.list (prog:=prog) (w:=w) (A:=A.in1.in1.in1) (by simpa using hh) _ l hneI its).toS
    rw [hlen] at W
    refine ZmK W s.heap.objs.size ?_ (fun i v hv=>IntsAre.int_at hi i v (by rw [Array.getElem?_toList];exact hv)) hb (ns.length - 0) 0 _ rfl (Nat.zero_le _) ⟨⟨_,Heap.get?_push_size _ rfl,rfl,rfl⟩,hl1.push _⟩ (Zkj (led:=!byT w) (Heap.get?_push_of_some _ g0)) ?_
    ·rw [sz];simp only [List.mem_cons,List.not_mem_nil,or_false,not_or]
     exact ⟨Nat.ne_of_lt (Nat.lt_succ_self _),Nat.ne_of_gt hlS⟩
    ·intro s' hm hS'
     obtain ⟨h',g',d',tk',os'⟩:=s'
     have eg:g'=s.gens:=hm.gens
     have ed:d'=s.drawn:=hm.drawn
     have eo:os'=s.os:=hm.os
     subst eg;subst ed;subst eo
     show wpAny _ _ _ _ _ _
     refine wpAny_pure ?_
     show wpAny _ _ (ret Value.none) _ _ _
     refine wpAny_pure ⟨rfl,h',tk',rfl,hS',fun b o hb e=>hm.heap b o ?_ (Heap.get?_push_of_some _ (Heap.get?_push_of_some _ e))⟩
     rw [sz]
     simp only [List.mem_cons,List.not_mem_nil,or_false,not_or]
     exact ⟨Nat.ne_of_lt hb,Nat.ne_of_lt (Nat.lt_succ_of_lt hb)⟩
   ·cases r₂ with
    | error e=>exact hr₂
    | ok fl₂ =>
     cases fl₂ with
     | ret r =>
      obtain ⟨rfl,h',tk,rfl,hS',hk'⟩:=hr₂
      repeat (any_goals (first | assumption | wp_step))
      exact h _ _ hS' hk'
     | _=>exact hr₂.elim
  | _=>exact hr.elim
end
end PV
set_option linter.all false
set_option Elab.async false
set_option maxRecDepth 100000
set_option maxHeartbeats 4000000
namespace PV
open PySem PySem.Spec PyProof.Rows
open L2 (V Hp HO Vals SqL SqT Same upd Cx PE PT PW PA PS PSs TE TT TA TS Inv RelV Yc Jd Jc Un)
theorem Zh4 {F A B:Hp}(s:Same A B):Same (cut F B) (cut F A):=fun b o h=>by
 unfold cut at h ⊢
 split at h
 ·rename_i hn;rw [s.free hn];exact h
 ·cases h
theorem ZgV {K:PySem.W.Frag}{H H':Hp}:∀ {ds:List D} {vs:List V},ds.all ZaN=true→Reps K H ds vs→Zi H' ds vs
 | [],vs,_,h=>by simp only [Reps,Zi] at h ⊢;exact h
 | d::ds,vs,hs,h=>by
  simp only [Reps,Zi] at h ⊢
  rw [List.all_cons,Bool.and_eq_true] at hs
  obtain ⟨v,r,rfl,h2,h3⟩:=h
  refine ⟨v,r,rfl,?_,ZgV hs.2 h3⟩
  have h1:=hs.1
  cases d <;> simp_all [Rep,RepN,ZaN]
noncomputable def tN (K:PySem.W.Frag) (f:Ex):TE:=fun σ H Q=>∃ BF BH F env L d,SOk K BF BH F H σ env L∧f env=some d∧∀ v F' H',Ext F H F' H'→RepN (cut F' BH) d v→Q v H'
noncomputable def tW (K:PySem.W.Frag) (f:Ex):TE:=fun σ H Q=>∃ BF BH F env L d,SOk K BF BH F H σ env L∧f env=some d∧∀ v F' H',Ext F H F' H'→RepN (cut F' H) d v→Q v H'
structure PDn (X:Cx)(e:Expr)(f:Ex):Prop where
 h:PE X e (tN X.K f)
structure PDw (X:Cx)(e:Expr)(f:Ex):Prop where
 h:PE X e (tW X.K f)
noncomputable def rN:RetP:=fun BH F' H' d v=>RepN (cut F' BH) d v
theorem Za0:∀ BH F' H',rN BH F' H' .non .non:=fun _ _ _=>by simp [rN,RepN]
section
variable {X:Cx} {m m1 m2:Md} {r:RetP} {a b e:Expr} {es:List Expr} {f g:Ex} {fs:List Ex} {pos pos' p p2:Pos}
theorem PDw.n (h:PDw X e f):PDn X e f:=⟨PE.of h.h fun σ H Q ⟨BF,BH,F,env,L,d,S,e,q⟩=>⟨BF,BH,F,env,L,d,S,e,fun v F' H' z r=>q v F' H' z (RepN.mono (Zh4 S.s0) _ _ r)⟩⟩
theorem PDn.d (h:PDn X e f):PD X .k e f:=PD.mk <| PE.of h.h fun σ H Q ⟨BF,BH,F,env,L,d,S,e,q⟩=>⟨BF,BH,F,env,L,d,S,e,fun v F' H' z r=>q v F' H' z (RepN.rep _ _ (RepN.mono ZaT _ _ r))⟩
theorem PDo.w (h:PDo X m e f)(hf:∀ env d,f env=some d→∃ ds,d=.lst ds∧ds.all ZaN=true):PDw X e f:=⟨PE.of h fun σ H Q hh_=>el9 hh_ fun BF BH F env L d S e q=>by
 obtain ⟨ds,rfl,hs⟩:=hf env d e
 refine ⟨BF,BH,F,env,L,ds,S,e,fun a vs F' H' z h0 h1 h2 r=>?_⟩
 have y:Ext F H (upd F' a (.lst vs)) H':=z.frz h0 h1 h2
 refine q _ _ H' y ?_
 simp only [RepN]
 exact ⟨a,vs,rfl,by rw [ZbO h0];exact Yc,ZgV hs r⟩⟩
theorem Zdr (i:Nat) {x:Str} (hN:X.N[i]?=some x:=by kernel_rfl) (hv:visB X.env.scope x=true:=by kernel_rfl) (hd:(x == ("__debug__":Str))=false:=by kernel_rfl)
  (hcd:(x == ("__classdict__":Str))=false:=by kernel_rfl):PDn X (.Name x pos) (ZcX i):=⟨PE.of (L2.Zag hN (JZ hv) hd hcd) fun σ H Q hh_=>el9 hh_ fun BF BH F env L d S e q=>by
 unfold ZcX at e
 cases he:env[i]? with
 | none=>rw [he] at e;cases e
 | some s =>
  rw [he] at e
  obtain ⟨ov,h1,h2⟩:=S.sl i s he
  cases s with
  | fr d'=>cases e;obtain ⟨v,rfl,r⟩:=h2;exact ⟨v,h1,q v F H (.refl S.fh) r⟩
  | sh d'=>cases e
  | un=>cases e
  | ow _=>cases e
  | tab _=>cases e
  | dc _=>cases e
  | nw _=>cases e
  | jk _=>cases e
  | jl _=>cases e
  | xc _=>cases e⟩
theorem ZbV (nd:X.N.Nodup)(i:Nat){x:Str}(ha:PDn X e f)(hi:X.N[i]?=some x:=by kernel_rfl)(hx:locB X.env.scope x=true:=by kernel_rfl)(hs:swapsWith e (some (.Name x pos')) pos.line X.env=pure false:=by rfl)
  (hf:fnB X x=true:=by kernel_rfl):PS1 X r (.Assign [.Name x pos'] e pos) (Zbr i f) :=
 PS1.mk <| PS.of (L2.Zdy nd hi (Zak hx) ha.h hs (ZaH hf)) fun D0 σ H hh_=>el10 hh_ fun BF BH F env L o env' S e k=>by
  unfold Zbr at e
  split at e
  ·rename_i d h1
   cases e
   exact ⟨BF,BH,F,env,L,d,S,h1,fun v F' H' z r=>k F' H' _ _ ((S.ext z).set (l:=[]) i ⟨v,rfl,r⟩ (fun a h=>by cases h) (fun a h=>by cases h)) z.ff⟩
  ·cases e
theorem JX (ha:PDn X e f):PS1 X rN (.Return (some e) pos) (sRet f):=PS1.mk <| PS.of (L2.Zgp ha.h) fun D0 σ H hh_=>el10 hh_ fun BF BH F env L o env' S e k=>by
 unfold sRet at e
 split at e
 ·rename_i d h1
  cases e
  exact ⟨BF,BH,F,env,L,d,S,h1,fun v F' H' z r=>k F' H' σ L (S.ext z) z.ff v r⟩
 ·cases e
theorem JB {k:Nat} {x:Str} {φ:List D→Option D} (G:Cal X.prog X.w X.K X.mg X.base k x rN φ) (hr:L2.Room k X.A) (ha:PAd X .k (e::es) fs) (hg:X.env.kindOf x=some .globalImplicit:=by kernel_rfl) (hdb:(x == ("__debug__":Str))=false:=by kernel_rfl)
  (hn:nst e=true:=by rfl) (hns:nsts es=true:=by rfl):PDw X (.Call (.Name x p) (e::es) [] pos) (Zd φ fs) :=
 ⟨PE.of (ZfU G hr ha hg hdb (Jk hn) (ZcL hns)) fun σ H Q ⟨BF,BH,F,env,L,d,S,e,q⟩ =>
  ⟨BF,BH,F,env,L,d,S,e,fun v F' H' H0 s0 s1 z r=>q v F' H' z (RepN.mono (Zh4 s1) _ _ r)⟩⟩
theorem Zo2 (i:Nat) {x:Str} {p1 p2 p3 p4:Pos} (ha:PDo X .k e f) (hN:X.N[i]?=some x:=by kernel_rfl) (hv:visB X.env.scope x=true:=by kernel_rfl) (hd:(x == ("__debug__":Str))=false:=by kernel_rfl)
  (hcd:(x == ("__classdict__":Str))=false:=by kernel_rfl) (hst:nst e=true:=by rfl)
  (hbase:attributeBase (.Name x p1) "extend" X.env (eval (.Name x p1) X.env)=eval (.Name x p1) X.env:=by rfl)
  (hline:(p2.endLine == p3.line)=true:=by rfl)
  (hsw:swapsWith (.Call (.Attribute (.Name x p1) "extend" p2) [e] [] p3) none p4.line X.env=pure false:=by rfl) :
  PS1 X r (.Expr (.Call (.Attribute (.Name x p1) "extend" p2) [e] [] p3) p4) (sExt i f) :=
 PS1.mk <| PS.of (L2.Zc6 (L2.Zgt PySem.F.plainAttrs_list PySem.F.slot_list_extend PySem.F.type_list_extend L2.Zly (L2.Zag hN (JZ hv) hd hcd) (L2.Jv ha L2.YG (Jq hst)) hbase (by rw [ZbW (ZcC hst)];rfl) hline (Jk hst) rfl) hsw) fun D0 σ H hh_=>el10 hh_ fun BF BH F env L o env' S e k=>by
  unfold sExt at e
  split at e
  ·rename_i ds xs he h1
   split at e
   ·rename_i hlen
    cases e
    obtain ⟨p,vs,hσ,hl,hp,r⟩:=Zkx S he
    refine ⟨_,hσ,Zgi hp,BF,BH,F,env,L,xs,S,h1,fun q zs F' H' z h0 hq fq rz=>?_⟩
    have S':=S.ext z
    have r':Reps X.K F' (ds++xs) (vs++zs):=(Reps.mono z.ff _ _ r).append rz
    refine ⟨p,q,vs,zs,rfl,rfl,z.hh _ _ hp,hq,by rw [← r.length,← rz.length];exact Nat.le_trans hlen Zd0,?_⟩
    exact k F' _ σ L (Ziy S' he hl hσ r') z.ff
   ·cases e
  ·cases e
theorem Zan:∀ {ns:List Int} {us:List Value},Vals (ns.map V.int) us→IntsAre us ns
 | [],_,h=>by cases h;exact .nil
 | n::ns,_,h=>by
  cases h with
  | cons h1 h2=>obtain ⟨t,rfl⟩:=h1;exact .cons n t (Zan h2)
theorem ZeG:∀ {ns:List Int} {us:List Value},IntsAre us ns→Vals (ns.map V.int) us
 | [],_,h=>by cases h;exact .nil
 | n::ns,_,h=>by
  cases h with
  | cons _ t h2=>exact .cons ⟨t,rfl⟩ (ZeG h2)
theorem ZoC {pins:List (Addr × Obj)}{σ:L2.St}{H:Hp}{s:Shared}(I:Inv X pins σ H s)(dr:Drawn):Inv X pins σ H { s with drawn:=dr }:=⟨I.ok,I.os,I.bare,I.base,I.loc,I.cell,I.free,I.freeC,I.pin,I.hok,I.len⟩
noncomputable def tSS (ta:TE):TE:=fun σ H Q=>ta σ H fun x H1=>∃ y,[x]=[y]∧∃ (l:Addr) (ns:List Int),y=.ref l∧SqL X.K H1 l (ns.map V.int)∧ns.length≤3000∧(seen ns).length < 64∧∀ p,H1 p=none→Q (.ref p) (upd H1 p (.lst ((srt (seen ns)).map V.int)))
theorem Zj1 {p3 p4 : Pos} {ta : TE} (T : Bt X.mg) (ha : PE X a ta) (hc : X.calm = true) (hg : X.env.kindOf "sorted" = some .globalImplicit) (hg2 : X.env.kindOf "set" = some .globalImplicit) (hs : nst a = true) :
    PE X (.Call (.Name "sorted" p) [.Call (.Name "set" p3) [a] [] p4] [] pos) (tSS (X := X) ta) := by
  intro pins s σ H Q I h
  refine wpAny_Call_Name_kw (L2.ZbJ I hg T.sorted boot_sorted ?_ (by decide) (by decide))
  refine PyProof.Rows.callWith_builtin1 ?_ (Jk rfl) rfl
  rw [Jq (env := X.env) (e := .Call (.Name "set" p3) [a] [] p4) rfl]
  show wpAny _ _ (spliced ((false, eval (.Call (.Name "set" p3) [a] [] p4) X.env) :: [])) _ _ s
  refine Calls.spliced_cons (L2.thn (Q := fun u s1 => ∃ (q : Addr) (ns : List Int) (H1 : Hp) (s0 : Shared) (h' : Heap) (tk : Nat), u = .ref q ∧ s1 = { s0 with heap := h', toks := tk } ∧ Inv X pins σ H1 s0 ∧ (∀ b o, s0.heap.get? b = some o → h'.get? b = some o) ∧ s0.heap.objs.size ≤ h'.objs.size ∧
      SetX X.prog X.w h' q (!byT X.w) (seen ns) ∧ (seen ns).length < 64 ∧ ∀ p, H1 p = none → Q (.ref p) (upd H1 p (.lst ((srt (seen ns)).map V.int)))) ?inner fun u s1 hu => Calls.spliced_nil ?outer)
  case inner =>
    refine wpAny_Call_Name_kw (L2.ZbJ I hg2 T.set PyProof.Rows.boot_set ?_ (by decide) (by decide))
    refine PyProof.Rows.callWith_type1 (L2.thn (L2.Jv ha L2.YG (Jq hs) p4 pins s σ H (fun xs H1 => ∃ x, xs = [x] ∧ ∃ (l : Addr) (ns : List Int), x = .ref l ∧ SqL X.K H1 l (ns.map V.int) ∧ ns.length ≤ 3000 ∧ (seen ns).length < 64 ∧ ∀ p, H1 p = none → Q (.ref p) (upd H1 p (.lst ((srt (seen ns)).map V.int)))) I h) fun us s1 ⟨vs, H1, I1, r1, q1⟩ => ?_) (Jk hs) rfl
    obtain ⟨x, rfl, l, ns, rfl, hS, h3, h64, q⟩ := q1
    obtain ⟨u, rfl, ru⟩ := r1.one
    cases ru
    obtain ⟨its, r, p, z⟩ := I1.list hS
    have hi := Zan r
    refine Zit (I1.ok.hd hc) p.isList (by simpa using hi) (by rw [show scanBound = 4096 from rfl]; omega) fun h' tk hX hk => ?_
    obtain ⟨o, es, ep, t, ho, _⟩ := id hX
    have hlt : s1.heap.objs.size < h'.objs.size := Heap.lt_size ho
    exact ⟨_, ns, H1, s1, h', tk, rfl, rfl, I1, fun b o e => hk b o (Heap.lt_size e) e, Nat.le_of_lt hlt, hX, h64, q⟩
  case outer =>
    obtain ⟨q, ns, H1, s0, h', tk, rfl, rfl, I1, hk, hsz, hX, h64, k⟩ := hu
    refine Zkd (s := { s0 with heap := h', toks := tk }) (I1.ok.hd hc) hX h64 fun h2 dr tk2 D vs js c up hD hg hv hj hle => ?_
    have ej : js = srt (seen ns) := Zif hj hle
    have I2 := (ZoC I1 dr).laid (a := D) (o := .lst ((srt (seen ns)).map V.int)) (h' := h2) (t' := tk2) (fun b u e => up b u (hk b u e)) (Nat.le_trans hsz hD) ⟨by rw [List.length_map, (ZG _).length_eq, sizeLine_eq]; omega, vs, c, ej ▸ ZeG hv, hg⟩
    exact ⟨.ref D, _, I2, rfl, k D (I1.hok.fresh (Nat.le_trans hsz hD))⟩
theorem ints_of:∀ {xs:List D} {ns:List Int},Jx xs=some ns→xs=ns.map D.int
 | [],ns,h=>by simp only [Jx] at h;cases h;rfl
 | .int i::xs,ns,h=>by
  simp only [Jx] at h
  split at h
  ·rename_i r hr;cases h;rw [ints_of hr];rfl
  ·cases h
 | .non::_,_,h=>by simp [Jx] at h
 | .bl _::_,_,h=>by simp [Jx] at h
 | .str _::_,_,h=>by simp [Jx] at h
 | .lst _::_,_,h=>by simp [Jx] at h
 | .tup _::_,_,h=>by simp [Jx] at h
 | .dct _::_,_,h=>by simp [Jx] at h
theorem Zbu {K:PySem.W.Frag}{H:Hp}:∀ {ns:List Int} {vs:List V},Reps K H (ns.map D.int) vs→vs=ns.map V.int
 | [],vs,h=>by simpa [Reps] using h
 | n::ns,vs,h=>by
  simp only [List.map_cons,Reps] at h
  obtain ⟨v,r,rfl,h2,h3⟩:=h
  rw [Zr h2,Zbu h3,List.map_cons]
theorem ZjS {x d:D}(h:Zar x=some d):∃ ns,x=.lst (ns.map D.int)∧ns.length≤3000∧(seen ns).length < 64∧d=.lst ((srt (seen ns)).map D.int):=by
 unfold Zar at h
 split at h
 ·rename_i xs
  split at h
  ·rename_i ns hn
   split at h
   ·rename_i hl;cases h;exact ⟨ns,by rw [ints_of hn],hl.1,hl.2,rfl⟩
   ·cases h
  ·cases h
 ·cases h
theorem Zj6 {p3 p4:Pos} (T:Bt X.mg) (ha:PD X m1 a f) (hc:X.calm=true:=by rfl) (hg:X.env.kindOf "sorted"=some .globalImplicit:=by kernel_rfl) (hg2:X.env.kindOf "set"=some .globalImplicit:=by kernel_rfl) (hs:nst a=true:=by rfl) :
  PDo X m (.Call (.Name "sorted" p) [.Call (.Name "set" p3) [a] [] p4] [] pos) (eF1 Zar f) :=
 PE.of (Zj1 T ha.h hc hg hg2 hs) fun σ H Q hh_=>el9 hh_ fun BF BH F env L ds S e q=>by
  unfold eF1 at e
  split at e
  ·rename_i x hx
   obtain ⟨ns,rfl,h3,h64,e2⟩:=ZjS e
   refine ⟨BF,BH,F,env,L,_,S,hx,fun v F' H' z rx=>?_⟩
   simp only [Rep] at rx
   obtain ⟨l,vs,rfl,hS,hr⟩:=rx
   have ev:=Zbu hr
   subst ev
   refine ⟨_,rfl,l,ns,rfl,?_,h3,h64,fun p hp=>?_⟩
   ·cases m1 with
    | r=>exact hS
    | k=>exact z.fh.seq hS
    | f=>exact (ZaT.trans z.fh).seq hS
   ·obtain ⟨y2,h0,h2,s⟩:=Zbk (m:=m) S z hp (HO.lst ((srt (seen ns)).map V.int))
    cases e2
    refine q p _ F' _ y2 h0 Yc h2 ?_
    exact Reps.ints _
  ·cases e
theorem Zmt {env:Env}{d:D}(h:eF1 Zar f env=some d):∃ ds,d=.lst ds∧ds.all ZaN=true:=by
 unfold eF1 at h
 split at h
 ·obtain ⟨ns,_,_,_,rfl⟩:=ZjS h
  exact ⟨_,rfl,by simp [List.all_map,ZaN,Function.comp_def]⟩
 ·cases h
theorem ZgA {p3 p4:Pos} (T:Bt X.mg) (ha:PD X m1 a f) (hc:X.calm=true:=by rfl) (hg:X.env.kindOf "sorted"=some .globalImplicit:=by kernel_rfl) (hg2:X.env.kindOf "set"=some .globalImplicit:=by kernel_rfl) (hs:nst a=true:=by rfl) :
  PDw X (.Call (.Name "sorted" p) [.Call (.Name "set" p3) [a] [] p4] [] pos) (eF1 Zar f):=PDo.w (m:=.k) (Zj6 T ha hc hg hg2 hs) fun env d h=>Zmt h
theorem ZmQ (i:Nat) {x:Str} {p1:Pos} (T:Bt X.mg) (hg:X.env.kindOf "list"=some .globalImplicit:=by kernel_rfl) (hN:X.N[i]?=some x:=by kernel_rfl) (hv:visB X.env.scope x=true:=by kernel_rfl) (hd:(x == ("__debug__":Str))=false:=by kernel_rfl)
  (hcd:(x == ("__classdict__":Str))=false:=by kernel_rfl):PDo X .k (.Call (.Name "list" p) [.Name x p1] [] pos) (eF1 Y5 (ZhH i)) :=
 PE.of (L2.Zb9 L2.ZeB hg T.list (by decide +kernel) (L2.Jv (L2.Zag hN (JZ hv) hd hcd) L2.YG (Jq rfl)) (by decide) (by decide) (Jk rfl) rfl) fun σ H Q hh_=>el9 hh_ fun BF BH F env L ds S e q=>by
  have fin:∀ (p:Addr) (vs:List V),SqL X.K H p vs∨SqT X.K H p vs→Reps X.K F ds vs→σ[i]?=some (some (.ref p))→∃ v,σ[i]?=some (some v)∧∃ (p:Addr) (vs:List V),[v]=[.ref p]∧(SqL X.K H p vs∨SqT X.K H p vs)∧∀ l,H l=none→Q (.ref l) (upd H l (.lst vs)):=fun p vs h1 h2 h3 =>
   ⟨_,h3,p,vs,rfl,h1,fun l hl=>by
    obtain ⟨y,h0,h2',s⟩:=Zbk (m:=.k) S (.refl S.fh) hl (HO.lst vs)
    exact q l vs F _ y h0 Yc h2' (Reps.mono s _ _ h2)⟩
  unfold eF1 ZhH at e
  cases he:env[i]? with
  | none=>rw [he] at e;cases e
  | some sl =>
   rw [he] at e
   obtain ⟨ov,h1,h2⟩:=S.sl i sl he
   have sh:∀ (d:D) (v:V),ov=some v→Rep X.K F d v→Y5 d=some (.lst ds)→∃ v,σ[i]?=some (some v)∧∃ (p:Addr) (vs:List V),[v]=[.ref p]∧(SqL X.K H p vs∨SqT X.K H p vs)∧∀ l,H l=none→Q (.ref l) (upd H l (.lst vs)):=by
    intro d v ev rv hl
    subst ev
    unfold Y5 at hl
    split at hl
    ·cases hl
     simp only [Rep] at rv
     obtain ⟨p,vs,rfl,s1,t1⟩:=rv
     exact fin p vs (.inl (S.fh.seq s1)) t1 h1
    ·cases hl
     simp only [Rep] at rv
     obtain ⟨p,vs,rfl,s1,t1⟩:=rv
     exact fin p vs (.inr (seqT S.fh s1)) t1 h1
    ·cases hl
   cases sl with
   | un=>cases e
   | dc _=>cases e
   | sh d=>obtain ⟨v,hv',rv⟩:=h2;exact sh d v hv' rv e
   | fr d=>obtain ⟨v,hv',rv⟩:=h2;exact sh d v hv' (RepN.rep _ _ (RepN.mono ZaT _ _ rv)) e
   | ow ds' =>
    obtain ⟨p,vs,rfl,_,h3,r⟩:=h2
    have e':some (D.lst ds')=some (.lst ds):=e
    cases e'
    exact fin p vs (.inl (.inl (.inl h3))) r h1
   | tab rs=>cases e
   | nw ds' =>
    obtain ⟨p,vs,rfl,_,h3,r⟩:=h2
    have e':some (D.lst ds')=some (.lst ds):=e
    cases e'
    exact fin p vs (.inl (.inl (.inl h3))) (Zi.reps _ _ (Zi.mono ZaT _ _ r)) h1
   | jk _=>cases e
   | jl _=>cases e
   | xc _=>cases e
theorem Zmx (i:Nat) {x:Str} {p1:Pos} (T:Bt X.mg) (hg:X.env.kindOf "list"=some .globalImplicit:=by kernel_rfl) (hN:X.N[i]?=some x:=by kernel_rfl) (hv:visB X.env.scope x=true:=by kernel_rfl) (hd:(x == ("__debug__":Str))=false:=by kernel_rfl)
  (hcd:(x == ("__classdict__":Str))=false:=by kernel_rfl):PD X .k (.Call (.Name "list" p) [.Name x p1] [] pos) (eF1 Y5 (ZhH i)):=(ZmQ i T hg hN hv hd hcd).d fun env d h=>Zef h
end
end PV
set_option linter.all false
set_option Elab.async false
set_option maxRecDepth 100000
set_option maxHeartbeats 4000000
namespace PV
open PySem PySem.W PyProof.Rows
section
variable {n:Nat} {key:Nat→List Int}
noncomputable def Kp (key:Nat→List Int) (p:Array Nat) (i:Nat):List Int:=key (p.getD i 0)
noncomputable def Upp (key:Nat→List Int) (p:Array Nat) (m:Nat):Prop:=∀ i j,i≤j→j < m→leL (Kp key p i) (Kp key p j)
noncomputable def Dwn (key:Nat→List Int) (p:Array Nat) (m:Nat):Prop:=∀ i j,i≤j→j < m→leL (Kp key p j) (Kp key p i)
structure Val (n:Nat)(p:Array Nat):Prop where
 sz:p.size=n
 pm:p.toList.Perm (List.range n)
theorem Val.lt (h:Val n p){i:Nat}(hi:i < n):p.getD i 0 < n:=by
 have hs:i < p.size:=by rw [h.sz];exact hi
 rw [show p.getD i 0=p[i] by simp [Array.getD,hs]]
 have:=h.pm.mem_iff.mp (Array.getElem_mem_toList hs)
 simpa using this
theorem Val.rev (h:Val n p)(i j:Nat):Val n (kas_rev p i j):=⟨(mirror_size _ _ _ _).trans h.sz,(Array.perm_iff_toList_perm.mp (mirror_perm _ _ _ _)).trans h.pm⟩
theorem Val.bub (h:Val n p)(i j:Nat):Val n (bubble p i j):=⟨(bubble_size _ _ _).trans h.sz,(Array.perm_iff_toList_perm.mp (bubble_perm _ _ _)).trans h.pm⟩
theorem getD_eq {p:Array Nat}{i:Nat}:p.getD i 0=(p[i]?).getD 0:=by simp [Array.getD];split <;> simp_all
theorem ZeE (h:Val n p){i j k:Nat}(hj:j≤n):Kp key (kas_rev p i j) k=if i≤k∧k < j then Kp key p (i + j - 1 - k) else Kp key p k:=by
 unfold Kp kas_rev
 rw [getD_eq,getElem?_mirror_all (by rw [h.sz];exact hj)]
 split
 ·rw [getD_eq]
 ·rw [getD_eq]
theorem ZlH (h:Val n p){src d k:Nat}(hs:src < n)(hd:d≤src):Kp key (bubble p src d) k=if k=src - d then Kp key p src else if src - d < k∧k≤src then Kp key p (k - 1) else Kp key p k:=by
 unfold Kp
 rw [getD_eq,getElem?_bubble (by rw [h.sz];exact hs) d hd]
 split
 ·rw [getD_eq]
 ·split
  ·rw [getD_eq]
  ·rw [getD_eq]
theorem Upp.snoc {p:Array Nat}{m:Nat}(hm:1≤m)(h:Upp key p m)(k:leL (Kp key p (m - 1)) (Kp key p m)):Upp key p (m + 1):=fun i j hij hj=>by
 rcases Nat.lt_or_ge j m with h1 | h1
 ·exact h i j hij h1
 ·have:j=m:=by omega
  subst this
  rcases Nat.lt_or_ge i j with h2 | h2
  ·exact (h i (j - 1) (by omega) (by omega)).trans k
  ·have:i=j:=by omega
   subst this;exact leL.refl _
theorem Dwn.snoc {p:Array Nat}{m:Nat}(hm:1≤m)(h:Dwn key p m)(k:leL (Kp key p m) (Kp key p (m - 1))):Dwn key p (m + 1):=fun i j hij hj=>by
 rcases Nat.lt_or_ge j m with h1 | h1
 ·exact h i j hij h1
 ·have:j=m:=by omega
  subst this
  rcases Nat.lt_or_ge i j with h2 | h2
  ·exact k.trans (h i (j - 1) (by omega) (by omega))
  ·have:i=j:=by omega
   subst this;exact leL.refl _
noncomputable def Alk (key:Nat→List Int) (p:Array Nat) (m q:Nat):Prop:=∀ i,m - (q + 1)≤i→i < m→Kp key p i=Kp key p (m - 1)
theorem Dwn.rev (hv:Val n p){m q:Nat}(hq:q + 1≤m)(hm:m≤n)(h:Dwn key p m)(a:Alk key p m q):Dwn key (kas_rev p (m - (q + 1)) m) m∧(∀ k,k < m→Kp key (kas_rev p (m - (q + 1)) m) k=Kp key p k)∧∀ k,m≤k→Kp key (kas_rev p (m - (q + 1)) m) k=Kp key p k:=by
 have e:∀ k,k < m→Kp key (kas_rev p (m - (q + 1)) m) k=Kp key p k:=fun k hk=>by
  rw [ZeE hv hm]
  split
  ·rename_i hc
   rw [a _ (by omega) (by omega),a k hc.1 hc.2]
  ·rfl
 refine ⟨fun i j hij hj=>?_,e,fun k hk=>?_⟩
 ·rw [e i (by omega),e j hj];exact h i j hij hj
 ·rw [ZeE hv hm,if_neg (by omega)]
theorem Dwn.up (hv:Val n p){m:Nat}(hm:m≤n)(h:Dwn key p m):Upp key (kas_rev p 0 m) m:=fun i j hij hj=>by
 rw [ZeE hv hm,ZeE hv hm,if_pos (by omega),if_pos (by omega)]
 exact h _ _ (by omega) (by omega)
end
section
variable {n:Nat} {key:Nat→List Int} {cmp:Nat→Nat→(Bool→Shared→Prop)→Shared→Prop} {P:Shared→Prop}
variable (hc:∀ i j,i < n→j < n→∀ (C:Bool→Shared→Prop) s,P s→(∀ s',P s'→C (ltL (key i) (key j)) s')→cmp i j C s)
include hc
theorem Zm5 {p:Array Nat}(hv:Val n p){Q:Nat→Shared→Prop}:∀ (f m:Nat) (s:Shared),1≤m→m + f≤n→Upp key p m→P s →
  (∀ m' s',m≤m'→m'≤m + f→Upp key p m'→(m' < m + f→ltL (Kp key p m') (Kp key p (m' - 1))=true)→P s'→Q m' s')→(kas_asc p f m).kasWp cmp Q s:=by
 intro f
 induction f with
 | zero=>intro m s h1 h2 hu hp hQ;exact hQ m s (Nat.le_refl _) (Nat.le_refl _) hu (fun h=>by omega) hp
 | succ f ih =>
  intro m s h1 h2 hu hp hQ
  unfold kas_asc
  refine hc _ _ (hv.lt (by omega)) (hv.lt (by omega)) _ s hp fun s' hp'=>?_
  cases hl:ltL (Kp key p m) (Kp key p (m - 1)) with
  | true =>
   have hl':ltL (key (p.getD m 0)) (key (p.getD (m - 1) 0))=true:=hl
   simp only [hl',↓reduceIte]
   exact hQ m s' (Nat.le_refl _) (by omega) hu (fun _=>hl) hp'
  | false =>
   have hl':ltL (key (p.getD m 0)) (key (p.getD (m - 1) 0))=false:=hl
   simp only [hl',Bool.false_eq_true,↓reduceIte]
   exact ih (m + 1) s' (by omega) (by omega) (hu.snoc h1 hl) hp' fun m' s2 a b c d e=>hQ m' s2 (by omega) (by omega) c (fun h=>d (by omega)) e
theorem ZoQ {Q:Array Nat × Nat × Nat→Shared→Prop}:∀ (f:Nat) (p:Array Nat) (m q:Nat) (s:Shared),Val n p→m + f≤n→q + 1≤m→Dwn key p m→Alk key p m q→P s →
  (∀ p' m' q' s',Val n p'→m≤m'→m'≤n→q' + 1≤m'→Dwn key p' m'→Alk key p' m' q'→P s'→Q (p',m',q') s')→(kas_desc f p m q).kasWp cmp Q s:=by
 intro f
 induction f with
 | zero=>intro p m q s hv h2 hq hd ha hp hQ;exact hQ p m q s hv (Nat.le_refl _) (by omega) hq hd ha hp
 | succ f ih =>
  intro p m q s hv h2 hq hd ha hp hQ
  unfold kas_desc
  refine hc _ _ (hv.lt (by omega)) (hv.lt (by omega)) _ s hp fun s' hp'=>?_
  cases hl:ltL (Kp key p m) (Kp key p (m - 1)) with
  | true =>
   have hl':ltL (key (p.getD m 0)) (key (p.getD (m - 1) 0))=true:=hl
   simp only [hl',↓reduceIte]
   have one:∀ p',Alk key p' (m + 1) 0:=fun p' i h3 h4=>by rw [show i=m + 1 - 1 by omega]
   by_cases hq0:q > 0
   ·rw [if_pos hq0]
    obtain ⟨r1,r2,r3⟩:=hd.rev hv hq (by omega) ha
    refine ih _ (m + 1) 0 s' (hv.rev _ _) (by omega) (by omega) (r1.snoc (by omega) ?_) (one _) hp' fun p' m' q' s2 a b c d e g k=>hQ p' m' q' s2 a (by omega) c d e g k
    rw [r3 m (Nat.le_refl _),r2 (m - 1) (by omega)]
    exact leL.of hl
   ·rw [if_neg hq0]
    exact ih p (m + 1) 0 s' hv (by omega) (by omega) (hd.snoc (by omega) (leL.of hl)) (one _) hp' fun p' m' q' s2 a b c d e g k=>hQ p' m' q' s2 a (by omega) c d e g k
  | false =>
   have hl':ltL (key (p.getD m 0)) (key (p.getD (m - 1) 0))=false:=hl
   simp only [hl',Bool.false_eq_true,↓reduceIte]
   refine hc _ _ (hv.lt (by omega)) (hv.lt (by omega)) _ s' hp' fun s2 hp2=>?_
   cases hk:ltL (Kp key p (m - 1)) (Kp key p m) with
   | true =>
    have hk':ltL (key (p.getD (m - 1) 0)) (key (p.getD m 0))=true:=hk
    simp only [hk',↓reduceIte]
    exact hQ p m q s2 hv (Nat.le_refl _) (by omega) hq hd ha hp2
   | false =>
    have hk':ltL (key (p.getD (m - 1) 0)) (key (p.getD m 0))=false:=hk
    simp only [hk',Bool.false_eq_true,↓reduceIte]
    have e:Kp key p m=Kp key p (m - 1):=ZeX _ _ hl hk
    refine ih p (m + 1) (q + 1) s2 hv (by omega) (by omega) (hd.snoc (by omega) (by rw [e];exact leL.refl _)) (fun i h3 h4=>?_) hp2 fun p' m' q' s3 a b c d e g k=>hQ p' m' q' s3 a (by omega) c d e g k
    rw [show m + 1 - 1=m by omega,e]
    rcases Nat.lt_or_ge i m with h5 | h5
    ·exact ha i (by omega) h5
    ·rw [show i=m by omega,e]
theorem Zk7 {p:Array Nat}(hv:Val n p){Q:Nat × Array Nat→Shared→Prop}{m:Nat}{s:Shared}(h1:1≤m)(hm:m≤n)(hd:Dwn key p m)(hp:P s)(hQ:∀ m' p' s',Val n p'→1≤m'→m'≤n→Upp key p' m'→P s'→Q (m',p') s'):(kas_tail3 m n p).kasWp cmp Q s:=by
 unfold kas_tail3
 rw [KasT.kasWp_bind]
 exact Zm5 hc (hv.rev 0 m) (n - m) m s h1 (by omega) (hd.up hv hm) hp fun m' s' a b c d e=>hQ m' _ s' (hv.rev 0 m) (by omega) (by omega) c e
theorem Zlq {p:Array Nat}(hv:Val n p){Q:Nat × Array Nat→Shared→Prop}{m:Nat}{s:Shared}(h1:1≤m)(hm:m + 1≤n)(hd:Dwn key p (m + 1))(hp:P s)(hQ:∀ m' p' s',Val n p'→1≤m'→m'≤n→Upp key p' m'→P s'→Q (m',p') s'):(kas_descPart m n p).kasWp cmp Q s:=by
 unfold kas_descPart
 rw [KasT.kasWp_bind]
 refine ZoQ hc (n - (m + 1)) p (m + 1) 0 s hv (by omega) (by omega) hd (fun i h3 h4=>by rw [show i=m + 1 - 1 by omega]) hp fun p' m' q' s' a b c d e g k=>?_
 by_cases hq:q' > 0
 ·dsimp only
  rw [if_pos hq]
  exact Zk7 hc (a.rev _ _) (by omega) c (e.rev a d c g).1 k hQ
 ·dsimp only
  rw [if_neg hq]
  exact Zk7 hc a (by omega) c e k hQ
theorem Znj {p:Array Nat}(hv:Val n p)(h2:2≤n){Q:Nat × Array Nat→Shared→Prop}{s:Shared}(hp:P s)(hQ:∀ m' p' s',Val n p'→1≤m'→m'≤n→Upp key p' m'→P s'→Q (m',p') s'):(kas_count n p).kasWp cmp Q s:=by
 unfold kas_count
 rw [KasT.kasWp_bind]
 refine Zm5 hc hv (n - 1) 1 s (Nat.le_refl _) (by omega) (fun i j hij hj=>by rw [show i=j by omega];exact leL.refl _) hp fun m s' a b c d e=>?_
 by_cases hm:(m == n)=true
 ·rw [if_pos hm]
  exact hQ m p s' hv a (by omega) c e
 ·rw [if_neg hm]
  have hm':m≠n:=by simpa using hm
  have hlt:=d (by omega)
  by_cases h3:m > 1
  ·rw [if_pos h3]
   refine hc _ _ (hv.lt (by omega)) (hv.lt (by omega)) _ s' e fun s2 hp2=>?_
   cases hl:ltL (Kp key p 0) (Kp key p (m - 1)) with
   | true =>
    have hl':ltL (key (p.getD 0 0)) (key (p.getD (m - 1) 0))=true:=hl
    simp only [hl',↓reduceIte]
    exact hQ m p s2 hv a (by omega) c hp2
   | false =>
    have hl':ltL (key (p.getD 0 0)) (key (p.getD (m - 1) 0))=false:=hl
    simp only [hl',Bool.false_eq_true,↓reduceIte]
    have same:∀ i,i < m→Kp key p i=Kp key p (m - 1):=fun i hi=>leL.anti (c i (m - 1) (by omega) (by omega)) (leL.trans (show leL (Kp key p (m - 1)) (Kp key p 0) from hl) (c 0 i (by omega) hi))
    have hr:∀ k,Kp key (kas_rev p 0 m) k=Kp key p k:=fun k=>by
     rw [ZeE hv (by omega)]
     split
     ·rename_i hk;rw [same _ (by omega),same k (by omega)]
     ·rfl
    refine Zlq hc (hv.rev 0 m) a (by omega) (fun i j hij hj=>?_) hp2 hQ
    rw [hr,hr]
    rcases Nat.lt_or_ge j m with h5 | h5
    ·rw [same i (by omega),same j h5];exact leL.refl _
    ·rw [show j=m by omega]
     rcases Nat.lt_or_ge i m with h6 | h6
     ·rw [same i h6];exact leL.of hlt
     ·rw [show i=m by omega];exact leL.refl _
  ·rw [if_neg h3]
   have e1:m=1:=by omega
   subst e1
   refine Zlq hc hv (by omega) (by omega) (fun i j hij hj=>?_) e hQ
   rcases Nat.lt_or_ge j 1 with h5 | h5
   ·rw [show i=j by omega];exact leL.refl _
   ·rcases Nat.lt_or_ge i 1 with h6 | h6
    ·rw [show i=0 by omega,show j=1 by omega];exact leL.of hlt
    ·rw [show i=j by omega];exact leL.refl _
theorem ZnF {p:Array Nat}(hv:Val n p){k:Nat}(hk:k < n){Q:Nat→Shared→Prop}(hu:Upp key p k):∀ (f l r:Nat) (s:Shared),r - l≤f→l≤r→r≤k→(∀ i,i < l→leL (Kp key p i) (Kp key p k))→(∀ i,r≤i→i < k→leL (Kp key p k) (Kp key p i))→P s →
  (∀ l' s',l'≤k→(∀ i,i < l'→leL (Kp key p i) (Kp key p k))→(∀ i,l'≤i→i < k→leL (Kp key p k) (Kp key p i))→P s'→Q l' s')→(kas_place p k f l r).kasWp cmp Q s:=by
 intro f
 induction f with
 | zero =>
  intro l r s h1 h2 h3 ha hb hp hQ
  have:l=r:=by omega
  subst this
  exact hQ l s h3 ha hb hp
 | succ f ih =>
  intro l r s h1 h2 h3 ha hb hp hQ
  unfold kas_place
  by_cases hlr:l ≥ r
  ·rw [if_pos hlr]
   have:l=r:=by omega
   subst this
   exact hQ l s h3 ha hb hp
  ·rw [if_neg hlr]
   refine hc _ _ (hv.lt hk) (hv.lt (by omega)) _ s hp fun s' hp'=>?_
   cases hl:ltL (Kp key p k) (Kp key p ((l + r) / 2)) with
   | true =>
    have hl':ltL (key (p.getD k 0)) (key (p.getD ((l + r) / 2) 0))=true:=hl
    simp only [hl',↓reduceIte]
    exact ih l ((l + r) / 2) s' (by omega) (by omega) (by omega) ha (fun i h5 h6=>(leL.of hl).trans (hu _ i h5 h6)) hp' hQ
   | false =>
    have hl':ltL (key (p.getD k 0)) (key (p.getD ((l + r) / 2) 0))=false:=hl
    simp only [hl',Bool.false_eq_true,↓reduceIte]
    refine ih ((l + r) / 2 + 1) r s' (by omega) (by omega) h3 (fun i h5=>?_) hb hp' hQ
    exact (hu i ((l + r) / 2) (by omega) (by omega)).trans hl
theorem ZpD {Q : Array Nat → Shared → Prop} : ∀ (f : Nat) (p : Array Nat) (k : Nat) (s : Shared), Val n p → k + f = n → Upp key p k → P s → (∀ p' s', Val n p' → Upp key p' n → P s' → Q p' s') → (kas_bin f p k).kasWp cmp Q s := by
  intro f
  induction f with
  | zero => intro p k s hv h1 hu hp hQ; have : k = n := by omega
            subst this; exact hQ p s hv hu hp
  | succ f ih =>
    intro p k s hv h1 hu hp hQ
    unfold kas_bin
    rw [KasT.kasWp_bind]
    refine ZnF hc hv (by omega) hu k 0 k s (by omega) (by omega) (Nat.le_refl _) (fun i h => by omega) (fun i h h' => by omega) hp fun l s' hl ha hb hp' => ?_
    refine ih _ (k + 1) s' (hv.bub _ _) (by omega) (fun i j hij hj => ?_) hp' hQ
    rw [ZlH hv (by omega) (by omega), ZlH hv (by omega) (by omega)]
    have e : k - (k - l) = l := by omega
    rw [e]
    by_cases i1 : i = l
    · rw [if_pos i1]
      by_cases j1 : j = l
      · rw [if_pos j1]; exact leL.refl _
      · rw [if_neg j1, if_pos (by omega)]
        exact hb (j - 1) (by omega) (by omega)
    · rw [if_neg i1]
      by_cases i2 : l < i ∧ i ≤ k
      · rw [if_pos i2, if_neg (by omega), if_pos (by omega)]
        exact hu _ _ (by omega) (by omega)
      · rw [if_neg i2]
        by_cases j1 : j = l
        · rw [if_pos j1]; exact ha i (by omega)
        · rw [if_neg j1]
          by_cases j2 : l < j ∧ j ≤ k
          · rw [if_pos j2]; exact hu _ _ (by omega) (by omega)
          · rw [if_neg j2]; exact hu _ _ hij (by omega)
theorem ZkN (h2:2≤n){Q:Array Nat→Shared→Prop}{s:Shared}(hp:P s)(hQ:∀ p' s',Val n p'→Upp key p' n→P s'→Q p' s'):(kas_sort n).kasWp cmp Q s:=by
 unfold kas_sort
 rw [KasT.kasWp_bind]
 have v0:Val n (List.toArray (List.range n)):=⟨by simp,by simp⟩
 refine Znj hc v0 h2 hp fun m p s' hv h1 hm hu hp'=>?_
 dsimp only
 by_cases h:m < n
 ·rw [if_pos h]
  exact ZpD hc _ p (max m 1) s' hv (by omega) (by rw [show max m 1=m by omega];exact hu) hp' hQ
 ·rw [if_neg h]
  exact hQ p s' hv (by rw [show n=m by omega];exact hu) hp'
end
end PV
set_option linter.all false
set_option Elab.async false
set_option maxRecDepth 100000
set_option maxHeartbeats 4000000
namespace PV
open PySem PySem.W PyProof.Rows PySem.MeetsSeq PySem.MeetsSeq3
theorem ZjD {vs:List Value}{ns:List Int}(h:IntsAre vs ns){i:Nat}(hi:i < vs.length):∃ t,vs[i]=.int (ns.getD i 0) t∧i < ns.length:=by
 obtain ⟨h1,rfl⟩:=Zaq.mp h
 have:=h1 _ (List.getElem_mem hi)
 cases e:vs[i] with
 | int k t=>exact ⟨t,by simp [List.getD,hi,e,valI],by simpa using hi⟩
 | _=>rw [e] at this;exact this.elim
theorem Zfw {vs:List Value}{ns:List Int}(h:IntsAre vs ns):vs.length=ns.length:=by rw [(Zaq.mp h).2];simp
theorem Zcg {ns:List Int}{i:Nat}(hi:i < ns.length):ns.drop i=ns.getD i 0::ns.drop (i + 1):=by
 rw [List.drop_eq_getElem_cons hi,List.getD_eq_getElem?_getD,List.getElem?_eq_getElem hi];rfl
theorem ZmI (l b:Addr)(xs ys:Array Value)(n n2:Nat)(dd dd2:Option Addr)(sl sl2:Array (Option Value))(nx ny:List Int)(hx:IntsAre xs.toList nx)(hy:IntsAre ys.toList ny)(k:Nat) :
  ∀ i:Nat,xs.size - i=k→i≤xs.size→i≤ys.size→Meets (Builtin.«list.__eq__.loop» ⟨[.ref l,.ref b,rawInt i,rawInt 0],[]⟩)
   (fun A R s=>s.heap.get? l=some { cls:=.type "list",dict:=dd,data:=.seq xs n,slots:=sl }∧s.heap.get? b=some { cls:=.type "list",dict:=dd2,data:=.seq ys n2,slots:=sl2 } ∧
    R (.ok (.ret (.bool (ltL (nx.drop i) (ny.drop i))))) s):=by
 have lx:xs.size=nx.length:=by simpa using Zfw hx
 have ly:ys.size=ny.length:=by simpa using Zfw hy
 induction k with
 | zero =>
  intro i hk h1 h2 prog w A R s h
  obtain ⟨hp,g,d,tk,os⟩:=s;obtain ⟨hl,hb,h⟩:=h
  wp_walk using wpAny_loadPart' hl,wpAny_loadPart' hb
  have hi1:xs[((i:Nat):Int).toNat]?=none:=by simp;omega
  rw [hi1]
  have e0:nx.drop i=[]:=by simp;omega
  rw [e0] at h
  have fin:ltL [] (ny.drop i)=decide (xs.size < ys.size):=by
   rcases Nat.lt_or_ge i ys.size with h5 | h5
   ·rw [Zcg (by omega)];simp only [ltL];exact (decide_eq_true (by omega)).symm
   ·rw [List.drop_of_length_le (by omega)];simp only [ltL];exact (decide_eq_false (by omega)).symm
  rw [fin] at h
  wp_walk using wpAny_loadPart' hl,wpAny_loadPart' hb
  exact h
 | succ k ih =>
  intro i hk h1 h2 prog w A R s h
  obtain ⟨hp,g,d,tk,os⟩:=s;obtain ⟨hl,hb,h⟩:=h
  wp_walk using wpAny_loadPart' hl,wpAny_loadPart' hb
  have hlt:i < xs.size:=by omega
  have hi1:xs[((i:Nat):Int).toNat]?=some xs[i]:=by simp [hlt]
  obtain ⟨t1,q1,_⟩:=ZjD hx (i:=i) (by simpa using hlt)
  rcases Nat.lt_or_ge i ys.size with hlt2 | hge
  ·have hi2:ys[((i:Nat):Int).toNat]?=some ys[i]:=by simp [hlt2]
   obtain ⟨t2,q2,_⟩:=ZjD hy (i:=i) (by simpa using hlt2)
   have q1':xs[i]=.int (nx.getD i 0) t1:=by simpa using q1
   have q2':ys[i]=.int (ny.getD i 0) t2:=by simpa using q2
   have hc:((i:Int) + 1)=((i + 1:Nat):Int):=by push_cast;rfl
   rw [Zcg (ns:=nx) (by omega),Zcg (ns:=ny) (by omega)] at h
   rw [hi1,hi2,q1',q2']
   refine wpAny_bind (wpAny_eqBool_int ?_)
   by_cases e:nx.getD i 0=ny.getD i 0
   ·rw [if_pos (by simpa using e)]
    simp only [ltL,if_pos e] at h
    wp_walk
    rw [hc]
    exact ⟨plainId_quiet plain_eq_loop _,codeAny_builtin entry_eq_loop (by
     rw [Around.under_plainId plain_eq_loop _]
     exact ih (i + 1) (by omega) (by omega) (by omega) prog w A R _ ⟨hl,hb,h⟩)⟩
   ·rw [if_neg (by simpa using e)]
    simp only [ltL,if_neg e] at h
    wp_walk using wpAny_loadPart' hl,wpAny_loadPart' hb
    rw [hi1,hi2,q1',q2']
    refine wpAny_bind (m:=richCompare .Lt _ _) (wpAny_lt_int (wpAny_pure h))
  ·have hi2:ys[((i:Nat):Int).toNat]?=none:=Array.getElem?_eq_none (by rw [Int.toNat_natCast];exact hge)
   rw [Zcg (ns:=nx) (by omega),List.drop_of_length_le (l:=ny) (by omega)] at h
   rw [hi1,hi2]
   simp only [ltL] at h
   wp_walk using wpAny_loadPart' hl,wpAny_loadPart' hb
   rw [show false=decide (xs.size < ys.size) from (decide_eq_false (by omega)).symm] at h
   exact h
section
variable {prog:Program} {w:World} {A:Around} {E:Value→Shared→Prop} {s:Shared}
noncomputable def Zap (h:Heap) (a:Addr) (ns:List Int):Prop:=∃ vs,h.IsList a vs∧IntsAre vs.toList ns
theorem Zap.keep {h h':Heap}{a:Addr}{ns:List Int}(x:Zap h a ns)(k:∀ o,h.get? a=some o→h'.get? a=some o):Zap h' a ns:=by
 obtain ⟨vs,⟨o,ho,r⟩,hi⟩:=x
 exact ⟨vs,⟨o,k o ho,r⟩,hi⟩
theorem ZjE {l b:Addr}{nx ny:List Int}{Q:Value→Shared→Prop}(hx:Zap s.heap l nx)(hy:Zap s.heap b ny)(h:Q (.bool (ltL nx ny)) s):wpAny (model prog w) A (call (.builtin "list.__lt__") [.ref l,.ref b]) Q E s:=by
 obtain ⟨xs,⟨⟨cx,dx,datx,slx⟩,hox,hcx,n,hdx⟩,ix⟩:=hx
 obtain ⟨ys,⟨⟨cy,dy,daty,sly⟩,hoy,hcy,n2,hdy⟩,iy⟩:=hy
 simp only at hcx hdx hcy hdy
 subst hcx hdx hcy hdy
 refine wpAny_call (codeAny_call_builtin (F.slot_list_lt).plain F.entry_list_lt ((F.slot_list_lt).check _ _ _ _ _ _ _ _ ⟨_,hox,rfl⟩ (F.args_list_lt_2 _ _) ?_))
 have f3:=AutoSeq1.sub_list_list
 obtain ⟨hp,g,d,tk,os⟩:=s
 wp_walk using AutoSeq1.wpAny_loadPart' hox,AutoSeq1.wpAny_loadPart' hoy
 exact ⟨plainId_quiet plain_eq_loop _,codeAny_builtin entry_eq_loop (by
  rw [Around.under_plainId plain_eq_loop _]
  exact ZmI l b xs ys n n2 dx dy slx sly nx ny ix iy _ 0 rfl (Nat.zero_le _) (Nat.zero_le _) prog w A (wants Q E) _ ⟨hox,hoy,h⟩)⟩
theorem ZlO {l b:Addr}{nx ny:List Int}{Q:Bool→Shared→Prop}{t:Bool}(hu:A.units < cLine)(hx:Zap s.heap l nx)(hy:Zap s.heap b ny)(h:Q (ltL nx ny) s):wpAny (model prog w) A (oneLt' true (.ref l) (.ref b)) Q E s:=by
 rw [oneLt'_eq]
 simp only [if_true]
 have hT:s.TypeIs (.ref l) "list":=by obtain ⟨vs,⟨o,ho,hc,_⟩,_⟩:=hx;exact ⟨o,ho,hc⟩
 refine wpAny_bind (wpAny_cRoomFor hu ?_)
 refine wpAny_bind (wpAny_callSpecialIfBound?_slot hT F.slot_list_lt (ZjE hx hy ?_))
 exact wpAny_truthy_bool h
end
end PV
set_option linter.all false
set_option Elab.async false
set_option maxRecDepth 100000
set_option maxHeartbeats 4000000
namespace PV
open PySem PySem.W PyProof.Rows
section
variable {prog:Program} {w:World} {A:Around} {E:Value→Shared→Prop} {s:Shared}
noncomputable def ZcN (h:Heap) (vs:List Value) (rs:List (List Int)):Prop:=vs.length=rs.length∧∀ i,i < vs.length→∃ b,vs.getD i .none=.ref b∧Zap h b (rs.getD i [])
theorem ZcN.keep {h h':Heap}{vs:List Value}{rs:List (List Int)}(x:ZcN h vs rs)(k:∀ b r,Zap h b r→∀ o,h.get? b=some o→h'.get? b=some o):ZcN h' vs rs :=
 ⟨x.1,fun i hi=>let ⟨b,e,r⟩:=x.2 i hi;⟨b,e,r.keep (k b _ r)⟩⟩
theorem Zj8 {M:Model}{h:Heap}{a:Addr}{ns:List Int}(x:Zap h a ns):Looks M h (typeOf (.ref a)) (.type "list"):=by
 obtain ⟨vs,⟨o,ho,hc,_⟩,_⟩:=x
 exact fun A Q E s k q=>wpAny_typeOf (T:="list") ⟨o,k _ _ ho,hc⟩ q
theorem getD_mem' {vs:List Value}{v:Value}(h:v ∈ vs):∃ i,i < vs.length∧vs.getD i .none=v:=by
 obtain ⟨i,hi,e⟩:=List.getElem_of_mem h
 exact ⟨i,hi,by rw [List.getD_eq_getElem?_getD,List.getElem?_eq_getElem hi];exact e⟩
structure Ord (n:Nat)(key:Nat→List Int)(p:List Nat):Prop where
 pm:p.Perm (List.range n)
 up:∀ i j,i≤j→j < n→leL (key (p.getD i 0)) (key (p.getD j 0))
theorem Zk1 {n:Nat}{key:Nat→List Int}{p:Array Nat}(hv:Val n p)(hu:Upp key p n):Ord n key p.toList :=
 ⟨hv.pm,fun i j hij hj=>by
  have e:∀ k,p.toList.getD k 0=p.getD k 0:=fun k=>by rw [getD_eq,List.getD_eq_getElem?_getD,Array.getElem?_toList]
  rw [e,e];exact hu i j hij hj⟩
theorem Zhr {n:Nat}{key:Nat→List Int}(h:n < 2):Ord n key (List.range n):=⟨.refl _,fun i j hij hj=>by rw [show i=j by omega];exact leL.refl _⟩
theorem ZkM {a : Addr} {vs : List Value} {rs : List (List Int)} {n : Nat} {P : PySem.Fin → Shared → Prop} (hu : A.units < cLine) (ho : s.heap.get? a = some (seqObj "list" vs.toArray n)) (hr : ZcN s.heap vs rs) (hne : ∀ v ∈ vs, v ≠ .ref a) (h64 : vs.length < 64)
    (h : ∀ p h' c, Ord vs.length (fun i => rs.getD i []) p → h'.get? a = some (seqObj "list" (p.map fun i => vs.getD i .none).toArray c) → (∀ b o, b ≠ a → s.heap.get? b = some o → h'.get? b = some o) → P (.done (.ret .none)) { s with heap := h' }) :
    wpAny (model prog w) A (Builtin.«list.sort» ⟨[.ref a], []⟩) P E s := by
  have hsl := sizeLine_eq
  rw [list_sort_plain]
  refine wpAny_bind (listItems_at ho rfl ?_)
  refine wpAny_bind (listUpdate_at ho rfl ?_ (by rw [List.size_toArray]; omega) (Nat.zero_le _))
  obtain ⟨e1, ho1⟩ : ∃ e1, (s.heap.update a (Obj.mapSeq fun _ => (#[] : Array Value))).get? a = some (seqObj "list" #[] e1) := ⟨_, get?_update_seq ho fun _ => #[]⟩
  refine wpAny_bind (seqEpoch_at ho1 rfl (wpAny_bind (wpAny_newTuple ?_ (by show vs.length ≤ _; omega))))
  refine wpAny_bind (wpAny_newList (wpAny_holding ?_) (Nat.zero_le _))
  obtain ⟨h3, e3⟩ : ∃ h3, h3 = ((s.heap.update a (Obj.mapSeq fun _ => (#[] : Array Value))).push (seqObj "tuple" vs.toArray 0)).push (seqObj "list" #[] 0) := ⟨_, rfl⟩
  have ho3 : h3.get? a = some (seqObj "list" #[] e1) := by rw [e3]; exact Heap.get?_push_of_some _ (Heap.get?_push_of_some _ ho1)
  have oth : ∀ b o, b ≠ a → s.heap.get? b = some o → h3.get? b = some o := fun b o hb e => by
    rw [e3]
    refine Heap.get?_push_of_some _ (Heap.get?_push_of_some _ ?_)
    rw [Heap.get?_update_other _ _ (Ne.symm hb)]; exact e
  show wpAny _ _ _ _ _ { s with heap := ((s.heap.update a (Obj.mapSeq fun _ => (#[] : Array Value))).push (seqObj "tuple" vs.toArray 0)).push (seqObj "list" #[] 0) }
  rw [← e3]
  have hr3 : ZcN h3 vs rs := ⟨hr.1, fun i hi => by
    obtain ⟨b, e, r⟩ := hr.2 i hi
    refine ⟨b, e, r.keep fun o q => oth b o (fun hb => ?_) q⟩
    subst hb
    refine hne (.ref b) ?_ rfl
    rw [← e, List.getD_eq_getElem?_getD, List.getElem?_eq_getElem hi]; exact List.getElem_mem hi⟩
  have fin : ∀ (st : SortSt) (p : List Nat), (arrOf st).map (·.2) = (p.map fun i => vs.getD i .none).toArray → failedOf st = none → Ord vs.length (fun i => rs.getD i []) p → wpAny (model prog w) A (do
      let touched := (← seqEpoch a) != e1
      Builtin.List.listUpdate (.ref a) fun _ => (arrOf st).map (·.2)
      if let some e := failedOf st then rule "list.sort.comparison-raised"; throw e
      if touched then rule "list.sort.modified"; raiseError "ValueError" "list modified during sort"
      ret .none) P E { s with heap := h3 } := by
    intro st p hout hf hord
    have hlen : p.length = vs.length := by rw [hord.pm.length_eq]; simp
    refine wpAny_bind (seqEpoch_at ho3 rfl ?_)
    rw [hout]
    refine wpAny_bind (listUpdate_at ho3 rfl ?_ (Nat.zero_le _) (by rw [List.size_toArray, List.length_map]; omega))
    rw [hf]
    simp only [bne_self_eq_false, Bool.false_eq_true, if_false]
    refine wpAny_pure (h p _ _ hord (get?_update_seq ho3 (fun _ => (p.map fun i => vs.getD i .none).toArray)) fun b o hb e => ?_)
    rw [Heap.get?_update_other _ _ (Ne.symm hb)]; exact oth b o hb e
  by_cases h2 : vs.toArray.size < 2
  · rw [if_pos h2, if_pos h2]
    refine wpAny_bind (wpAny_pure ?_)
    dsimp only
    rw [StateT.run_pure]
    refine wpAny_bind (wpAny_pure ?_)
    have hz : vs.length < 2 := by simpa using h2
    refine fin (SortSt.mk' general' (vs.toArray.zip vs.toArray) #[] 7 none) (List.range vs.length) ?_ rfl (Zhr hz)
    show (vs.toArray.zip vs.toArray).map (·.2) = _
    match vs, hz with
    | [], _ => simp
    | [v], _ => simp
  · rw [if_neg h2, if_neg h2]
    have hz : 2 ≤ vs.length := by simp at h2; exact h2
    refine wpAny_bind (kas_kind (T := .type "list") hz (fun v hv => ?_) (by decide) (by decide) ?_)
    · obtain ⟨i, hi, rfl⟩ := getD_mem' hv
      obtain ⟨b, e, r⟩ := hr3.2 i hi
      rw [e]; exact Zj8 r
    have est : SortSt.mk' oneType' (vs.toArray.zip vs.toArray) #[] 7 none = kas_st oneType' (pairsOf vs) (List.toArray (List.range vs.length)) := by
      have e := kas_range (pairsOf vs)
      rw [pairsOf_size] at e
      show SortSt.mk' oneType' (pairsOf vs) #[] 7 none = SortSt.mk' oneType' ((List.toArray (List.range vs.length)).map (kas_item (pairsOf vs))) #[] 7 none
      rw [e]
    have run := kas_runs (prog := prog) (w := w) (A := A) (E := E) (κ := oneType') (it := pairsOf vs) (s := { s with heap := h3 }) (Q := fun _ st' s' => s' = { s with heap := h3 } ∧ ∃ p : List Nat, (arrOf st').map (·.2) = (p.map fun i => vs.getD i .none).toArray ∧ failedOf st' = none ∧ Ord vs.length (fun i => rs.getD i []) p)
      (G := fun p s' => s' = { s with heap := h3 } ∧ Ord vs.length (fun i => rs.getD i []) p.toList) hz h64 (fun p' st' s' a1 a2 a3 a4 => ⟨a4.1, p'.toList, ?_, a3, a4.2⟩)
      (ZkN (P := fun s' => s' = { s with heap := h3 }) (key := fun i => rs.getD i []) (fun i j hi hj C s' hs' hC => ?_) hz rfl fun p' s' hv hu hs' => ⟨hs', Zk1 hv hu⟩)
    · rw [← est] at run
      refine wpAny_bind (wpAny_mono run ?_ fun _ _ e => e)
      rintro ⟨⟨⟩, st'⟩ s' ⟨rfl, p, hp, hf, hord⟩
      exact fin st' p hp hf hord
    · apply Array.toList_inj.mp
      rw [a2, Array.map_map, Array.toList_map]
      exact List.map_congr_left fun i _ => by show (kas_item (pairsOf vs) i).2 = _; rw [kas_item_eq]
    · subst hs'
      obtain ⟨b1, q1, r1⟩ := hr3.2 i hi
      obtain ⟨b2, q2, r2⟩ := hr3.2 j hj
      show wpAny (model prog w) A (keyLt' oneType' (kas_item (pairsOf vs) i).1 (kas_item (pairsOf vs) j).1) C (fun _ _ => False) _
      rw [kas_item_eq, kas_item_eq, keyLt'_oneType]
      show wpAny (model prog w) A (oneLt' true (vs.getD i .none) (vs.getD j .none)) C (fun _ _ => False) _
      rw [q1, q2]
      exact ZlO (t := true) hu r1 r2 (hC _ rfl)
theorem ZiT {l:Addr}{vs:List Value}{rs:List (List Int)}{Q:Value→Shared→Prop}(hu:A.units + 4 < cLine)(hl:s.heap.IsList l vs.toArray)(hr:ZcN s.heap vs rs)(h64:vs.length < 64)
  (h:∀ p h' c D,Ord vs.length (fun i=>rs.getD i []) p→s.heap.objs.size≤D→h'.get? D=some (seqObj "list" (p.map fun i=>vs.getD i .none).toArray c)→(∀ b o,s.heap.get? b=some o→h'.get? b=some o)→Q (.ref D) { s with heap:=h' }) :
  wpAny (model prog w) A (call (.builtin "sorted") [.ref l]) Q E s:=by
 have hsl:=sizeLine_eq
 refine Calls.call_function_entry kind_sorted plain_sorted entry_sorted (args_sorted1 _) ?_
 unfold Builtin.«sorted»
 refine wpAny_bind (m:=checkCount "sorted" 1 1 _) (wpAny_pure (wpAny_bind (collect_list hl ?_ (by omega))))
 refine wpAny_bind (wpAny_newList ?_ (by omega))
 obtain ⟨h2,e2⟩:∃ h2,h2=(s.heap.push (seqObj "list" #[] 0)).update s.heap.objs.size (Obj.mapSeq (·++vs.toArray)):=⟨_,rfl⟩
 have sz2:h2.objs.size=s.heap.objs.size + 1:=by rw [e2,Heap.size_update,size_push']
 have up2:∀ b o,s.heap.get? b=some o→h2.get? b=some o:=fun b o e=>by
  rw [e2,Heap.get?_update_other _ _ (Nat.ne_of_gt (Heap.lt_size e))]
  exact Heap.get?_push_of_some _ e
 show wpAny _ _ _ _ _ { s with heap:=((s.heap.push (seqObj "list" #[] 0)).update s.heap.objs.size (Obj.mapSeq (·++vs.toArray))).push (seqObj "list" vs.toArray 0) }
 rw [← e2]
 have g3:(h2.push (seqObj "list" vs.toArray 0)).get? h2.objs.size=some (seqObj "list" vs.toArray 0):=Heap.get?_push_size _ rfl
 have up3:∀ b o,s.heap.get? b=some o→(h2.push (seqObj "list" vs.toArray 0)).get? b=some o:=fun b o e=>Heap.get?_push_of_some _ (up2 b o e)
 refine wpAny_bind (wpAny_holding (wpAny_call_entry slot_list_sort ⟨_,g3,rfl⟩ entry_list_sort ?_ (args_list_sort _)))
 have hu2:A.in1.in1.units < cLine:=by
  have:A.in1.in1.units≤A.units + 4:=by simp [Around.in1]
  omega
 refine ZkM (s:={ s with heap:=h2.push (seqObj "list" vs.toArray 0) }) hu2 g3 (hr.keep fun b r _ o e=>up3 b o e) (fun v hv e=>?_) h64 fun p h' c hp hg hk=>⟨_,rfl,wpAny_pure ⟨_,rfl,h p h' c _ hp (by show s.heap.objs.size≤h2.objs.size;omega) hg fun b o e=>hk b o ?_ (up3 b o e)⟩⟩
 ·obtain ⟨i,hi,q⟩:=getD_mem' hv
  obtain ⟨b,e',vs',⟨o,ho,_⟩,_⟩:=hr.2 i hi
  rw [q,e] at e'
  injection e' with e'
  have h9:b < s.heap.objs.size:=Heap.lt_size ho
  rw [← e'] at h9
  exact Nat.lt_irrefl _ (Nat.lt_of_lt_of_le h9 (by show s.heap.objs.size≤h2.objs.size;omega))
 ·have:=Heap.lt_size e
  exact Nat.ne_of_lt (by rw [sz2];exact Nat.lt_succ_of_lt this)
end
end PV
set_option linter.all false
set_option Elab.async false
set_option maxRecDepth 100000
set_option maxHeartbeats 4000000
namespace PV
open PySem PySem.Spec PyProof.Rows
open L2 (V Hp HO Vals SqL SqT Same upd Cx PE PT PW PA PS PSs TE TT TA TS Inv RelV Yc Jd Jc Un)
noncomputable def tNL (K:PySem.W.Frag) (f:Ex):TE:=fun σ H Q=>∃ BF BH F env L ds,SOk K BF BH F H σ env L∧f env=some (.lst ds) ∧
 ∀ a vs F' H',Ext F H F' H'→H a=none→H' a=some (.lst vs)→F' a=none→Zi (cut F' BH) ds vs→Q (.ref a) H'
structure PDl (X:Cx)(e:Expr)(f:Ex):Prop where
 h:PE X e (tNL X.K f)
theorem Zn0 {f:Ex}{env:Env}{d:D}(h:eFl f env=some d):∃ ds,f env=some (.lst ds)∧d=.lst ds∧ds.all ZaN=true:=by
 unfold eFl at h
 split at h
 ·rename_i ds e
  split at h
  ·rename_i hs;cases h;exact ⟨ds,e,rfl,hs⟩
  ·cases h
 ·cases h
section
variable {X:Cx} {m m1 m2:Md} {r:RetP} {a b e:Expr} {es:List Expr} {f g:Ex} {fs:List Ex} {t:Tx} {pos pos' p p2:Pos}
theorem PDo.fl (h:PDo X m e f):PDw X e (eFl f):=⟨PE.of h fun σ H Q hh_=>el9 hh_ fun BF BH F env L d S e q=>by
 obtain ⟨ds,e1,rfl,hs⟩:=Zn0 e
 refine ⟨BF,BH,F,env,L,ds,S,e1,fun a vs F' H' z h0 h1 h2 r=>?_⟩
 have y:Ext F H (upd F' a (.lst vs)) H':=z.frz h0 h1 h2
 refine q _ _ H' y ?_
 simp only [RepN]
 exact ⟨a,vs,rfl,by rw [ZbO h0];exact Yc,ZgV hs r⟩⟩
theorem ZoL:PDl X (.List [] pos) (eLst []):=⟨PE.of (Za3 (m:=.k) (pos:=pos) (X:=X) Zc) fun σ H Q hh_=>el9 hh_ fun BF BH F env L ds S e q=>by
 refine ⟨BF,BH,F,env,L,ds,S,e,fun a vs F' H' z h0 h1 h2 r=>q a vs F' H' z h0 h1 h2 ?_⟩
 cases e
 simp only [Reps,Zi] at r ⊢
 exact r⟩
theorem Zpg (ha:PDn X e f)(hs:nst e=true:=by rfl):PDl X (.List [e] pos) (eLst [f]):=⟨PE.of (L2.ZlQ (L2.Jv ha.h L2.YG (Jq hs))) fun σ H Q hh_=>el9 hh_ fun BF BH F env L ds S e q=>by
 unfold eLst evs evs at e
 cases h1:f env with
 | none=>rw [h1] at e;cases e
 | some d =>
  rw [h1] at e
  cases e
  refine ⟨BF,BH,F,env,L,d,S,h1,fun v F' H' z r=>⟨by rw [sizeLine_eq];simp,fun p hp=>?_⟩⟩
  have y:=z.trans (Ext.own (o:=HO.lst [v]) z.fh hp)
  refine q p [v] F' _ y (z.hh.free hp) Yc (z.fh.free hp) ?_
  simp only [Zi]
  exact ⟨v,[],rfl,r,rfl⟩⟩
theorem PDl.n (h:PDl X e f)(hf:∀ env d,f env=some d→∃ ds,d=.lst ds):PDn X e f:=⟨PE.of h.h fun σ H Q hh_=>el9 hh_ fun BF BH F env L d S e q=>by
 obtain ⟨ds,rfl⟩:=hf env d e
 refine ⟨BF,BH,F,env,L,ds,S,e,fun a vs F' H' z h0 h1 h2 r=>?_⟩
 have y:Ext F H (upd F' a (.lst vs)) H':=z.frz h0 h1 h2
 refine q _ _ H' y ?_
 simp only [RepN]
 refine ⟨a,vs,rfl,by rw [ZbO (S.s0.free h0)];exact Yc,Zi.mono (ZaI fun b o hb=>?_) _ _ r⟩
 have hne:b≠a:=fun e=>by rw [e,h2] at hb;cases hb
 rw [Jd hne];exact hb⟩
theorem ZoB {K:PySem.W.Frag}{BF BH F F' H H':Hp}{σ:L2.St}{env:Env}{L:Nat→List Addr}(S:SOk K BF BH F H σ env L)(z:Ext F H F' H')(i:Nat){p:Addr}{vs:List V}{ds:List D}(h0:H p=none)(h1:H' p=some (.lst vs))(h2:F' p=none)(r:Zi (cut F' BH) ds vs) :
  SOk K BF BH F' H' (σ.set i (some (.ref p))) (env.set i (.nw ds)) (putL L i [p]) :=
 (S.ext z).set i ⟨p,vs,rfl,rfl,h1,r⟩ (fun a h=>by
  rw [List.mem_singleton] at h;subst h
  exact ⟨h2,S.s0.free h0,by rw [h1];simp⟩) (fun a h j hj hm=>by
  rw [List.mem_singleton] at h;subst h
  exact (S.ow j a hm).2.2 h0)
theorem Zlw (nd:X.N.Nodup)(i:Nat){x:Str}(ha:PDl X e f)(hi:X.N[i]?=some x:=by kernel_rfl)(hx:locB X.env.scope x=true:=by kernel_rfl)(hs:swapsWith e (some (.Name x pos')) pos.line X.env=pure false:=by rfl)
  (hf:fnB X x=true:=by kernel_rfl):PS1 X r (.Assign [.Name x pos'] e pos) (sNew i f) :=
 PS1.mk <| PS.of (L2.Zdy nd hi (Zak hx) ha.h hs (ZaH hf)) fun D0 σ H hh_=>el10 hh_ fun BF BH F env L o env' S e k=>by
  unfold sNew at e
  split at e
  ·rename_i ds h1
   cases e
   exact ⟨BF,BH,F,env,L,ds,S,h1,fun p vs F' H' z h0 h2 h3 r=>k F' H' _ _ (ZoB S z i h0 h2 h3 r) z.ff⟩
  ·cases e
theorem ZmV {K:PySem.W.Frag}{BF BH F H:Hp}{σ:L2.St}{env:Env}{L:Nat→List Addr}(S:SOk K BF BH F H σ env L){i:Nat}{ds:List D}(h:env[i]?=some (.nw ds)):∃ p vs,σ[i]?=some (some (.ref p))∧L i=[p]∧H p=some (.lst vs)∧Zi (cut F BH) ds vs:=by
 obtain ⟨ov,h1,h2⟩:=S.sl i _ h
 obtain ⟨p,vs,rfl,h3,h4,h5⟩:=h2
 exact ⟨p,vs,h1,h3,h4,h5⟩
theorem Zhb {H:Hp}:∀ {ds es:List D} {vs ws:List V},Zi H ds vs→Zi H es ws→Zi H (ds++es) (vs++ws)
 | [],es,vs,ws,h,k=>by simp only [Zi] at h;subst h;exact k
 | d::ds,es,vs,ws,h,k=>by
  simp only [Zi] at h
  obtain ⟨v,r,rfl,h2,h3⟩:=h
  show Zi H (d::(ds++es)) (v::(r++ws))
  simp only [Zi]
  exact ⟨v,_,rfl,h2,Zhb h3 k⟩
theorem Zi.len {H:Hp}:∀ {ds:List D} {vs:List V},Zi H ds vs→ds.length=vs.length
 | [],vs,h=>by simp only [Zi] at h;subst h;rfl
 | d::ds,vs,h=>by
  simp only [Zi] at h
  obtain ⟨v,r,rfl,h2,h3⟩:=h
  simp [h3.len]
theorem Zjg (i:Nat) {x:Str} {p1 p2 p3 p4:Pos} (ha:PDn X e f) (hN:X.N[i]?=some x:=by kernel_rfl) (hv:visB X.env.scope x=true:=by kernel_rfl) (hd:(x == ("__debug__":Str))=false:=by kernel_rfl)
  (hcd:(x == ("__classdict__":Str))=false:=by kernel_rfl) (hst:nst e=true:=by rfl)
  (hbase:attributeBase (.Name x p1) "append" X.env (eval (.Name x p1) X.env)=eval (.Name x p1) X.env:=by rfl)
  (hline:(p2.endLine == p3.line)=true:=by rfl)
  (hsw:swapsWith (.Call (.Attribute (.Name x p1) "append" p2) [e] [] p3) none p4.line X.env=pure false:=by rfl) :
  PS1 X r (.Expr (.Call (.Attribute (.Name x p1) "append" p2) [e] [] p3) p4) (ZeT i f) :=
 PS1.mk <| PS.of (L2.Zc6 (L2.Zgt PySem.F.plainAttrs_list PySem.F.slot_list_append PySem.F.type_list_append L2.Zei (L2.Zag hN (JZ hv) hd hcd) (L2.Jv ha.h L2.YG (Jq hst)) hbase (by rw [ZbW (ZcC hst)];rfl) hline (Jk hst) rfl) hsw) fun D0 σ H hh_=>el10 hh_ fun BF BH F env L o env' S e k=>by
  unfold ZeT at e
  split at e
  ·rename_i ds d he h1
   split at e
   ·rename_i hlen
    cases e
    obtain ⟨p,vs,hσ,hl,hp,rr⟩:=ZmV S he
    refine ⟨_,hσ,Zgi hp,BF,BH,F,env,L,d,S,h1,fun v F' H' z rv=>?_⟩
    have S':=S.ext z
    have r':Zi (cut F' BH) (ds++[d]) (vs++[v]):=Zhb (Zi.mono (ZaI z.ff) _ _ rr) (by simp only [Zi];exact ⟨v,[],rfl,rv,rfl⟩)
    refine ⟨p,vs,v,rfl,rfl,z.hh _ _ hp,by rw [← rr.len];exact Nat.lt_of_lt_of_le hlen Zd0,?_⟩
    refine k F' _ σ L (S'.own (i:=i) (a:=p) (by rw [hl];simp) _ fun s ov h1 h2 h3=>?_) z.ff
    rw [hσ] at h2;cases h2
    exact ⟨p,_,rfl,hl,Yc,r'⟩
   ·cases e
  ·cases e
end
end PV
set_option linter.all false
set_option Elab.async false
set_option maxRecDepth 100000
set_option maxHeartbeats 4000000
namespace PV
open PySem PySem.Spec PyProof.Rows
open L2 (V Hp HO Vals SqL SqT Same upd Cx PE PT PW PA PS PSs TE TT TA TS Inv RelV Yc Jd Jc Un)
section
variable {X:Cx} {m m1 m2:Md} {r:RetP} {a b e:Expr} {es:List Expr} {f g:Ex} {fs:List Ex} {t:Tx} {pos pos' p p2:Pos}
theorem ZnY {pins:List (Addr × Obj)}{σ:L2.St}{H:Hp}{s:Shared}(I:Inv X pins σ H s):∀ {vs:List V} {us:List Value} {rs:List (List Int)},Vals vs us→(vs.length=rs.length∧∀ i,i < vs.length→∃ b,vs[i]?=some (.ref b)∧SqL X.K H b ((rs.getD i []).map V.int))→ZcN s.heap us rs:=by
 intro vs us rs hv ⟨h1,h2⟩
 have hl:=hv.length
 refine ⟨by rw [← hl];exact h1,fun i hi=>?_⟩
 obtain ⟨b,e,hS⟩:=h2 i (by omega)
 obtain ⟨u,hu,ru⟩:=hv.get e
 cases ru
 refine ⟨b,by rw [List.getD_eq_getElem?_getD,hu];rfl,?_⟩
 obtain ⟨its,r,p,z⟩:=I.list hS
 exact ⟨_,p.isList,by simpa using Zan r⟩
noncomputable def ZpQ (K:PySem.W.Frag):List V→Hp→L2.VK→Prop:=fun xs H Q =>
 (∃ (l:Addr) (ns:List Int),xs=[.ref l]∧SqL K H l (ns.map V.int)∧ns.length < 64∧∀ q,H q=none→Q (.ref q) (upd H q (.lst ((srt ns).map V.int)))) ∨
 (∃ (l:Addr) (vs:List V) (rs:List (List Int)),xs=[.ref l]∧SqL K H l vs∧(vs.length=rs.length∧∀ i,i < vs.length→∃ b,vs[i]?=some (.ref b)∧SqL K H b ((rs.getD i []).map V.int))∧vs.length < 64 ∧
  ∀ q p,H q=none→Ord vs.length (fun i=>rs.getD i []) p→Q (.ref q) (upd H q (.lst (p.map fun i=>vs.getD i .non))))
theorem ZeD {vs:List V}{us:List Value}(h:Vals vs us):∀ (p:List Nat),(∀ i ∈ p,i < vs.length)→Vals (p.map fun i=>vs.getD i .non) (p.map fun i=>us.getD i .none)
 | [],_=>.nil
 | i::p,hp=>by
  have hi:=hp i List.mem_cons_self
  obtain ⟨u,hu,ru⟩:=h.get (i:=i) (x:=vs.getD i .non) (by simp [List.getD,hi])
  refine .cons ?_ (ZeD h p fun j hj=>hp j (List.mem_cons_of_mem _ hj))
  show L2.RelV (vs.getD i .non) (us.getD i .none)
  rw [List.getD_eq_getElem?_getD (l:=us),hu];exact ru
theorem Zlt (hu:X.A.units + 64 < cLine):L2.ZbB X (.builtin "sorted") (ZpQ X.K):=by
 intro pins s σ H xs us Q I r h
 rcases h with ⟨l,ns,rfl,hS,h64,k⟩ | ⟨l,vs,rs,rfl,hS,hR,h64,k⟩
 ·obtain ⟨u,rfl,ru⟩:=r.one
  cases ru
  obtain ⟨its,rv,pl,z⟩:=I.list hS
  have hi:=Zan rv
  have hl:=Zfw hi
  refine sorted_ints pl.isList hi (by omega) fun out ns' a1 a2 a3=>?_
  have ej:ns'=srt ns:=Zif a2 a3
  obtain ⟨c,hc⟩:=sortedAll_at s.heap its out
  have I2:=I.laid (a:=s.heap.objs.size + 1) (o:=.lst ((srt ns).map V.int)) (h':=sortedAll s.heap its out) (t':=s.toks) (fun b u e=>sortedAll_old e) (Nat.le_succ _) ⟨by rw [List.length_map,(ZG _).length_eq,sizeLine_eq];omega,out.toList,c,ej ▸ ZeG a1,by simpa using hc⟩
  exact ⟨.ref _,_,I2,rfl,k _ (I.hok.fresh (Nat.le_succ _))⟩
 ·obtain ⟨u,rfl,ru⟩:=r.one
  cases ru
  obtain ⟨its,rv,pl,z⟩:=I.list hS
  have hl:=rv.length
  refine ZiT (by omega) pl.isList (ZnY I rv hR) (by omega) fun p h' c D hp hD hg hk=>?_
  rw [← hl] at hp
  have hlt:∀ i ∈ p,i < vs.length:=fun i hi=>by simpa using hp.pm.mem_iff.mp hi
  have I2:=I.laid (a:=D) (o:=.lst (p.map fun i=>vs.getD i .non)) (h':=h') (t':=s.toks) hk hD ⟨by rw [List.length_map,hp.pm.length_eq,List.length_range,sizeLine_eq];omega,_,c,ZeD rv p hlt,hg⟩
  exact ⟨.ref D,_,I2,rfl,k D p (I.hok.fresh hD) hp⟩
theorem Zhi {α:Type}(l:List α)(d:α):(List.range l.length).map (fun i=>l.getD i d)=l:=by
 apply List.ext_getElem
 ·simp
 ·intro i h1 h2
  simp at h1
  simp [List.getD,h1]
theorem Zn8 {rs:List (List Int)}{p:List Nat}(h:Ord rs.length (fun i=>rs.getD i []) p):p.map (fun i=>rs.getD i [])=srtB (fun r=>r) rs:=by
 have hlen:p.length=rs.length:=by rw [h.pm.length_eq];simp
 have p1:(p.map fun i=>rs.getD i []).Perm rs:=by
  have:=h.pm.map fun i=>rs.getD i []
  rwa [Zhi] at this
 refine (p1.trans (Zbn _ rs).symm).eq_of_pairwise (fun x y _ _ h1 h2=>leL.anti h1 h2) ?_ (Ze5 (fun r=>r) rs)
 rw [List.pairwise_iff_getElem]
 intro i j hi hj hij
 simp only [List.length_map] at hi hj
 have:=h.up i j (Nat.le_of_lt hij) (by omega)
 simpa [List.getD,hi,hj] using this
theorem Zmz {d:D}{r:List Int}(h:Zck d=some r):d=rowD r:=by
 cases d with
 | lst xs=>simp only [Zck] at h;rw [ints_of h];rfl
 | _=>simp [Zck] at h
theorem Zhg:∀ {xs:List D} {rs:List (List Int)},ZdX xs=some rs→xs=rs.map rowD
 | [],rs,h=>by simp only [ZdX] at h;cases h;rfl
 | x::xs,rs,h=>by
  simp only [ZdX] at h
  split at h
  ·rename_i r q h1 h2;cases h;rw [Zmz h1,Zhg h2];rfl
  ·cases h
theorem Zhl {K:PySem.W.Frag}{H:Hp}{ds:List D}{vs:List V}(h:Reps K H ds vs):∀ (p:List Nat),(∀ i ∈ p,i < vs.length)→Reps K H (p.map fun i=>ds.getD i .non) (p.map fun i=>vs.getD i .non)
 | [],_=>Reps.nil
 | i::p,hp=>by
  have hi:=hp i List.mem_cons_self
  obtain ⟨d,hd,rd⟩:=h.getV (i:=i) (v:=vs.getD i .non) (by simp [List.getD,hi])
  refine Reps.cons ?_ (Zhl h p fun j hj=>hp j (List.mem_cons_of_mem _ hj))
  show Rep K H (ds.getD i .non) (vs.getD i .non)
  rw [List.getD_eq_getElem?_getD (l:=ds),hd];exact rd
theorem ZjT {p:Pos} (T:Bt X.mg) (hu:X.A.units + 64 < cLine) (ha:PD X m a f) (hg:X.env.kindOf "sorted"=some .globalImplicit:=by kernel_rfl) (hs:nst a=true:=by rfl):PDo X m (.Call (.Name "sorted" p) [a] [] pos) (eF1 ZeH f) :=
 PE.of (L2.Zix (Zlt hu) hg T.sorted boot_sorted (L2.Jv ha.h L2.YG (Jq hs)) (by decide) (by decide) (Jk hs) rfl) fun σ H Q hh_=>el9 hh_ fun BF BH F env L ds S e q=>by
  unfold eF1 at e
  split at e
  ·rename_i x hx
   refine ⟨BF,BH,F,env,L,x,S,hx,fun v F' H' z rx=>?_⟩
   have hm:=Zgr (BH:=BH) z.fh m
   unfold ZeH at e
   split at e
   ·rename_i xs
    simp only [Rep] at rx
    obtain ⟨l,vs,rfl,hS,hr⟩:=rx
    split at e
    ·rename_i ns hn
     split at e
     ·rename_i h64
      cases e
      have ex:=ints_of hn
      subst ex
      have ev:=Zbu hr
      subst ev
      refine .inl ⟨l,ns,rfl,hm.seq hS,h64,fun p hp=>?_⟩
      obtain ⟨y2,h0,h2,s⟩:=Zbk (m:=m) S z hp (HO.lst ((srt ns).map V.int))
      exact q p _ F' _ y2 h0 Yc h2 (Reps.ints _)
     ·cases e
    ·split at e
     ·rename_i rs hrs
      split at e
      ·rename_i h64
       cases e
       have ex:=Zhg hrs
       subst ex
       have hl:vs.length=rs.length:=by rw [← hr.length];simp
       refine .inr ⟨l,vs,rs,rfl,hm.seq hS,⟨hl,fun i hi=>?_⟩,by omega,fun p ps hp hord=>?_⟩
       ·obtain ⟨v,hv,rv⟩:=hr.get (i:=i) (d:=rowD (rs.getD i [])) (by simp [List.getD,show i < rs.length by omega])
        simp only [rowD,Rep] at rv
        obtain ⟨b,ws,rfl,hS2,hr2⟩:=rv
        have ew:=Zbu hr2
        subst ew
        exact ⟨b,hv,hm.seq hS2⟩
       ·have hlt:∀ i ∈ ps,i < vs.length:=fun i hi=>by simpa using hord.pm.mem_iff.mp hi
        obtain ⟨y2,h0,h2,s⟩:=Zbk (m:=m) S z hp (HO.lst (ps.map fun i=>vs.getD i .non))
        refine q p _ F' _ y2 h0 Yc h2 ?_
        have e3:(srtB (fun r=>r) rs).map (fun r=>D.lst (r.map .int))=ps.map fun i=>(rs.map rowD).getD i .non:=by
         rw [← Zn8 (by rw [← hl];exact hord),List.map_map]
         refine List.map_congr_left fun i hi=>?_
         have hi':i < rs.length:=by rw [← hl];exact hlt i hi
         simp [List.getD,hi',rowD]
        rw [e3]
        exact Reps.mono s _ _ (Zhl hr ps hlt)
      ·cases e
     ·cases e
   ·cases e
  ·cases e
end
end PV
set_option linter.all false
set_option Elab.async false
namespace PV
noncomputable def Zbs (φ:List D→Option D):D→Option D
 | .lst xs=>match ZbY φ xs with
  | some ks=>if ks.length < 64∧(ks.map (·.1)).Nodup then some (.lst ((srtB (fun p:List Int × D=>p.1) ks).map fun p=>p.2)) else none
  | none=>none
 | _=>none
noncomputable def ZfX (i:Nat):Ex:=fun env=>match env[i]? with
 | some (.nw ds)=>some (.lst ds)
 | _=>none
end PV
set_option linter.all false
set_option Elab.async false
set_option maxRecDepth 100000
set_option maxHeartbeats 4000000
namespace PV
open PySem PySem.W PySem.Spec PyProof.Rows
open L2 (V Hp HO Vals SqL SqT Same upd Cx PE PT PW PA PS PSs TE TT TA TS Inv RelV Yc Jd Jc Un)
section
variable {prog:Program} {w:World} {A:Around} {E:Value→Shared→Prop} {s:Shared}
noncomputable def ZeY (h:Heap) (v:Value) (n:Int) (r:List Int):Prop:=∃ a o c b tk,v=.ref a∧h.get? a=some o∧o.cls=.type "tuple"∧o.data=.seq #[.int n tk,.ref b] c∧Zap h b r
theorem ZhZ {s:Shared}:∀ {its:List Value} {ns:List Int},IntsAre its ns→Hrs s (ns.map D.int) its
 | _,_,.nil=>by simp [Hrs]
 | _,_,.cons n t h=>by simp only [List.map_cons,Hrs,Hr];exact ⟨_,_,rfl,⟨t,rfl⟩,ZhZ h⟩
theorem Zlb {b:Addr}{r:List Int}(h:Zap s.heap b r):Hr s (rowD r) (.ref b):=by
 obtain ⟨x,l,i⟩:=h
 simp only [rowD,Hr]
 exact ⟨b,x.toList,rfl,by simpa using l,ZhZ i⟩
theorem ZnB {b1 b2:Addr}{r1 r2:List Int}{Q:Bool→Shared→Prop}(hu:A.units < cLine)(h1:Zap s.heap b1 r1)(h2:Zap s.heap b2 r2)(h:Q (ltL r1 r2) s):wpAny (model prog w) A (oneLt' false (.ref b1) (.ref b2)) Q E s:=by
 have ty:∀ {b:Addr} {r:List Int},Zap s.heap b r→s.TypeIs (.ref b) "list":=fun h=>by obtain ⟨vs,⟨o,ho,hc,_⟩,_⟩:=h;exact ⟨o,ho,hc⟩
 refine kat_one _ _ (show wpAny (model prog w) A (richCompare .Lt (.ref b1) (.ref b2)) (PySem.W.BoolBack Q) E s from ?_)
 exact wpAny_richCompare_same_or (op:=.Lt) (ty h1) (ty h2) F.slot_list_lt (ZjE h1 h2 ⟨by simp,h⟩) (.inr hu)
theorem Zoj {v1 v2:Value}{n1 n2:Int}{r1 r2:List Int}{Q:Bool→Shared→Prop}(hu:A.units + 8 < cLine)(h1:ZeY s.heap v1 n1 r1)(h2:ZeY s.heap v2 n2 r2)(h:Q (ltL (n1::r1) (n2::r2)) s):wpAny (model prog w) A (keyLt' (tuples' true) v1 v2) Q E s:=by
 obtain ⟨a1,o1,c1,b1,t1,rfl,g1,_,d1,q1⟩:=h1
 obtain ⟨a2,o2,c2,b2,t2,rfl,g2,_,d2,q2⟩:=h2
 refine kat_lt g1 d1 g2 d2 ?_
 show KatLex prog w A true _ Q [(.int n1 t1,.int n2 t2),(.ref b1,.ref b2)] 0 s
 refine kat_cons (wpAny_eqBool_int ?_)
 by_cases e:n1=n2
 ·rw [show (n1 == n2)=true from by simpa using e]
  simp only [ltL,if_pos e] at h
  refine kat_yes (kat_cons (ZiF (rowD r1) (rowD r2) _ _ (by rw [Zct];omega) (Zlb q1) (Zlb q2) prog w _ _ ?_))
  rw [Zdq]
  by_cases er:r1=r2
  ·rw [decide_eq_true er]
   subst er
   rw [Ze0] at h
   exact kat_yes (kat_nil h)
  ·rw [decide_eq_false er]
   exact kat_no (ZnB (by omega) q1 q2 h)
 ·rw [show (n1 == n2)=false from by simpa using e]
  simp only [ltL,if_neg e] at h
  exact kat_no (oneLt_int h)
end
section
variable {X:Cx} {m m1 m2:Md} {r:RetP} {a b e:Expr} {f g:Ex} {pos p p2:Pos}
theorem ZnM {pins:List (Addr × Obj)}{σ:L2.St}{H:Hp}{s:Shared}{Q:L2.VK}{k:Nat}{fa:Addr}{fd:FuncData}{ps:List Str}{φ:List D→Option D}{v:V}{u:Value}(F:L2.FnOk X.prog X.w X.K X.mg X.base L2.CX0 k fa fd ps (spR X.K (rk X.K .k) φ))(hr:L2.Room (k + 2) X.A)(hb:L2.Binds X.K fd ps [])
  (I:Inv X pins σ H s) (r:RelV v u) (h:spR X.K (rk X.K .k) φ [v] H Q L2.E0):wpAny (model X.prog X.w) X.A.in1.in1 (call (.ref fa) [u]) (L2.EP X pins σ Q) (fun _ _=>False) s:=by
 have r2:Vals [v] [u]:=.cons r .nil
 have hl:([u]++([]:List Value)).length=ps.length:=by have:=F.len _ _ _ _ h;simpa using this
 have hb':=hb s [u] I.kIn hl
 rw [List.append_nil] at hb'
 refine wpAny_call (codeAny_mono (F.run X.A.in1.in1 X.stack s H ⟨[u],[]⟩ [u] [v] Q L2.E0 (L2.Room.in1 (L2.Room.in1 hr)) I.env0.in1.in1 hb' r2 h) fun r s' hq=>?_)
 cases r with
 | error e=>exact hq.elim
 | ok fl =>
  cases fl with
  | ret u=>exact I.after hq
  | next=>exact False.elim hq
  | brk=>exact False.elim hq
  | cont=>exact False.elim hq
theorem Zo7 {pins:List (Addr × Obj)}{σ:L2.St}{H:Hp}{s:Shared}(I:Inv X pins σ H s){kd:D}{l:List Int}{v:V}{u:Value}(hk:keyD kd=some l)(hr:Rep X.K H kd v)(ru:RelV v u):∃ n r,l=n::r∧ZeY s.heap u n r:=by
 unfold keyD at hk
 split at hk
 ·rename_i n xs
  split at hk
  ·rename_i r hr'
   cases hk
   have ex:=ints_of hr'
   subst ex
   refine ⟨n,r,rfl,?_⟩
   have hh:=J7 I _ _ _ (by simp [D.dep,D.deps,ZcS]) hr ru
   simp only [Hr] at hh
   obtain ⟨a,its,rfl,⟨o,ho,hc,c,hd⟩,h2⟩:=hh
   simp only [Hrs,Hr] at h2
   obtain ⟨u1,r1,rfl,⟨t,rfl⟩,u2,r2,rfl,⟨b,its2,rfl,hl2,h3⟩,h4⟩:=h2
   subst h4
   refine ⟨a,o,c,b,t,rfl,ho,hc,hd,its2.toArray,hl2,?_⟩
   have ii:∀ {ns:List Int} {us:List Value},Hrs s (ns.map D.int) us→IntsAre us ns:=by
    intro ns
    induction ns with
    | nil=>intro us h;simp only [List.map_nil,Hrs] at h;subst h;exact .nil
    | cons n ns ih=>intro us h;simp only [List.map_cons,Hrs,Hr] at h;obtain ⟨u,r,rfl,⟨t,rfl⟩,h⟩:=h;exact .cons n t (ih h)
   simpa using ii h3
  ·cases hk
 ·cases hk
end
end PV
set_option linter.all false
set_option Elab.async false
set_option maxRecDepth 100000
set_option maxHeartbeats 4000000
namespace PV
open PySem PySem.W PySem.Spec PyProof.Rows
open L2 (V Hp HO Vals SqL SqT Same upd Cx PE PT PW PA PS PSs TE TT TA TS Inv RelV Yc Jd Jc Un)
section
variable {X:Cx} {pins:List (Addr × Obj)} {σ:L2.St} {H:Hp} {s:Shared} {a b:Addr}
structure Own (X:Cx)(pins:List (Addr × Obj))(b:Addr):Prop where
 nl:b≠X.env.locals
 s0:X.s₀.heap.objs.size≤b
 nc:∀ x c,X.env.cells.lookup x=some c→c≠b
 np:∀ p ∈ X.pn++pins,p.1≠b
 nf:b ∉ X.fs
theorem Zle (I:Inv X pins σ H s)(h:s.heap.objs.size≤b):Own X pins b :=
 ⟨Nat.ne_of_gt (Nat.lt_of_lt_of_le I.lt h),Nat.le_trans I.sz h,fun x c e z=>by
  obtain ⟨v,o,ho,_⟩:=I.cell x c e
  have:=Heap.lt_size ho
  rw [z] at this
  exact absurd (Nat.lt_of_lt_of_le this h) (Nat.lt_irrefl _),fun p hp z=>by
  have:=Heap.lt_size (I.pin p hp).1
  rw [z] at this
  exact absurd (Nat.lt_of_lt_of_le this h) (Nat.lt_irrefl _),I.nofs h⟩
theorem pin2 {c:Addr}{oa oc:Obj}(I:Inv X pins σ H s)(wa:Own X pins a)(wc:Own X pins c)(ga:s.heap.get? a=some oa)(gc:s.heap.get? c=some oc)(na:H a=none)(nc:H c=none)(da:∀ v,oa.data≠.cell v)(dc:∀ v,oc.data≠.cell v):Inv X ((a,oa)::(c,oc)::pins) σ H s :=
 I.Zdp fun p hp=>by
  rcases List.mem_cons.mp hp with rfl | hp
  ·exact ⟨ga,na,wa.nl,wa.nf,da⟩
  ·rcases List.mem_cons.mp hp with rfl | hp
   ·exact ⟨gc,nc,wc.nl,wc.nf,dc⟩
   ·exact I.pin p (List.mem_append_right _ hp)
theorem Zh1 {pa pc:Addr × Obj}(I:Inv X (pa::pc::pins) σ H s):Inv X pins σ H s:=I.Zdp fun p hp=>I.pin p (List.mem_append_right _ (List.mem_cons_of_mem _ (List.mem_cons_of_mem _ hp)))
theorem track {h':Heap} {vs:List V} {us:List Value} {c t':Nat} (I:Inv X pins σ H s) (w:Own X pins a) (na:H a=none) (k:∀ b o,b≠a→s.heap.get? b=some o→h'.get? b=some o) (g:h'.get? a=some (seqObj "list" us.toArray c)) (hv:Vals vs us) (hz:vs.length≤sizeLine) :
  Inv X pins σ (upd H a (.lst vs)) { s with heap:=h',toks:=t' }:=by
 refine I.step (g':=s.gens) (d':=s.drawn) (ch:=[a]) (fun b hb=>?_) (fun b o _ _ hc e _=>k b o (fun z=>hc (by simp [z])) e) (fun b o _ _ hc e _=>⟨o.slots,k b o (fun z=>hc (by simp [z])) e⟩) (fun b o hc e n=>?_)
  (fun b o hc e=>⟨o,k b o (fun z=>hc (by simp [z])) e⟩) (fun b xs e=>?_) (fun b o u e=>?_) (fun b ps e=>⟨#[],?_⟩) (fun m hm=>?_) (fun b u e=>?_) I.bare
 ·have e:b=a:=by simpa using hb
  subst e
  exact ⟨.inr w.s0,w.nl,w.nc,w.np⟩
 ·rw [Jd (fun z=>hc (by simp [z]))];exact n
 ·rw [Jd (Jc e na)];exact e
 ·rw [Jd (Jc e na)];exact e
 ·rw [Jd (Jc e na),e];simp
 ·obtain ⟨o,es,ep,ho,r⟩:=hm
  exact ⟨o,es,ep,k _ o (Ne.symm w.nl) ho,r⟩
 ·by_cases hb:b=a
  ·subst hb
   rw [Yc] at e
   cases e
   exact ⟨hz,us,c,hv,g⟩
  ·rw [Jd hb] at e
   refine (I.hok b u e).stay (fun c v hc q=>k c v ?_ q) (fun c q=>by rw [Jd (Jc q na)];exact q) fun c xs q=>by rw [Jd (Jc q na)];exact q
   rcases hc with z | z
   ·rw [z];exact hb
   ·exact Jc z na
end
section
variable {X:Cx} {pins:List (Addr × Obj)} {σ:L2.St} {H F:Hp} {s:Shared} {a kS:Addr} {E:Value→Shared→Prop} {P:PySem.Fin→Shared→Prop}
theorem Zh2 {h:Heap}:∀ {us:List Value} {ls:List (List Int)},us.length=ls.length→(∀ i,i < us.length→∃ n r,ls.getD i []=n::r∧ZeY h (us.getD i .none) n r)→∃ fs,KatTups h us fs∧fs.length=us.length∧∀ v ∈ fs,∃ n t,v=.int n t
 | [],[],_,_=>⟨[],KatTups.nil,rfl,by simp⟩
 | u::us,l::ls,hl,hk=>by
  obtain ⟨n,r,_,ka⟩:=hk 0 (by simp)
  obtain ⟨fs,h1,h2,h3⟩:=Zh2 (us:=us) (ls:=ls) (by simpa using hl) fun i hi=>by
   obtain ⟨n,r,e,k⟩:=hk (i + 1) (by simpa using hi)
   exact ⟨n,r,by simpa [List.getD] using e,by simpa [List.getD] using k⟩
  have ka':ZeY h u n r:=by simpa [List.getD] using ka
  obtain ⟨a,o,c,b,tk,rfl,g,hc,hd,_⟩:=ka'
  refine ⟨.int n tk::fs,KatTups.cons g hc hd (by simp) h1,by simp [h2],fun v hv=>?_⟩
  rcases List.mem_cons.mp hv with rfl | hv
  ·exact ⟨n,tk,rfl⟩
  ·exact h3 v hv
 | [],_::_,hl,_=>by simp at hl
 | _::_,[],hl,_=>by simp at hl
theorem ZlE {kA us:List Value}{vs:List V}{ls:List (List Int)}{e e1:Nat}(hu:X.A.units + 64 < cLine)(I:Inv X pins σ H s)(wa:Own X pins a)(wk:Own X pins kS)(hka:kS≠a)(na:H a=none)(nk:H kS=none)
  (ga:s.heap.get? a=some (seqObj "list" #[] e1)) (gk:s.heap.get? kS=some (seqObj "list" kA.toArray e)) (hv:Vals vs us) (hl:kA.length=us.length) (hll:us.length=ls.length) (h64:us.length < 64)
  (hk:∀ i,i < us.length→∃ n r,ls.getD i []=n::r∧ZeY s.heap (kA.getD i .none) n r)
  (h:∀ p s',Ord us.length (fun i=>ls.getD i []) p→Inv X pins σ (upd H a (.lst (p.map fun i=>vs.getD i .non))) s'→P (.done (.ret .none)) s') :
  wpAny (model X.prog X.w) X.A.in1.in1 (ksk_end a false us.toArray e1 (.ref kS) kA.toArray) P E s:=by
 have hsl:=sizeLine_eq
 have hvl:=hv.length
 have fin:∀ (st:SortSt) (p:List Nat),(arrOf st).map (·.2)=(p.map fun i=>us.getD i .none).toArray→failedOf st=none→Ord us.length (fun i=>ls.getD i []) p→wpAny (model X.prog X.w) X.A.in1.in1 (ksk_tail a false e1 (.ref kS) st) P E s:=by
  intro st p hout hf hord
  have hlen:p.length=us.length:=by rw [hord.pm.length_eq];simp
  have hlt:∀ i ∈ p,i < vs.length:=fun i hi=>by rw [hvl];simpa using hord.pm.mem_iff.mp hi
  unfold ksk_tail
  rw [hout]
  have ga1:(s.heap.update kS (Obj.mapSeq fun _=>(#[]:Array Value))).get? a=some (seqObj "list" #[] e1):=by rw [Heap.get?_update_other _ _ hka];exact ga
  refine wpAny_bind (listUpdate_at gk rfl ?_ (by rw [List.size_toArray];omega) (Nat.zero_le _))
  refine wpAny_bind (wpAny_letGo ?_)
  refine wpAny_bind (seqEpoch_at ga1 rfl ?_)
  simp only [Bool.false_eq_true,if_false]
  refine wpAny_bind (listUpdate_at ga1 rfl ?_ (Nat.zero_le _) (by rw [List.size_toArray,List.length_map];omega))
  rw [hf]
  simp only [bne_self_eq_false,Bool.false_eq_true,if_false]
  refine wpAny_pure (h p _ hord ?_)
  have I1:=I.turned (t':=s.toks) (h':=s.heap.update kS (Obj.mapSeq fun _=>(#[]:Array Value))) (it:=kS) (fun b o hb e=>by rw [Heap.get?_update_other _ _ (Ne.symm hb)];exact e) nk wk.nl (.inr wk.s0) wk.nc wk.np
  exact track (s:={ s with heap:=s.heap.update kS (Obj.mapSeq fun _=>(#[]:Array Value)) }) (t':=s.toks) I1 wa na (fun b o hb e=>by rw [Heap.get?_update_other _ _ (Ne.symm hb)];exact e) (get?_update_seq ga1 fun _=>(p.map fun i=>us.getD i .none).toArray) (ZeD hv p hlt) (by rw [List.length_map];omega)
 unfold ksk_end
 dsimp only
 simp only [Bool.false_eq_true,if_false]
 by_cases h2:us.toArray.size < 2
 ·rw [if_pos h2,if_pos h2]
  refine wpAny_bind (wpAny_pure ?_)
  rw [StateT.run_pure]
  refine wpAny_bind (wpAny_pure ?_)
  have hz:us.length < 2:=by simpa using h2
  refine fin (SortSt.mk' general' (kA.toArray.zip us.toArray) #[] 7 none) (List.range us.length) ?_ rfl (Zhr hz)
  show (kA.toArray.zip us.toArray).map (·.2)=_
  match us,kA,hz,hl with
  | [],[],_,_=>simp
  | [v],[w],_,_=>simp
 ·rw [if_neg h2,if_neg h2]
  have hz:2≤us.length:=by simp at h2;exact h2
  obtain ⟨fs,t1,t2,t3⟩:=Zh2 (us:=kA) (ls:=ls) (by omega) (fun i hi=>hk i (by omega))
  refine wpAny_bind (kat_kind (T:=.type "int") t1 (by omega) (fun v hv=>?_) (by decide) ?_)
  ·obtain ⟨n,t,rfl⟩:=t3 v hv
   exact fun A Q E s k q=>wpAny_typeOf (T:="int") rfl q
  ·rw [show (Value.type "int" != Value.type "tuple")=true from by decide]
   refine wpAny_bind (wpAny_mono (kat_run (ks:=kA) (vs:=us) (κ:=tuples' true) (Q:=fun st' s'=>s'=s∧∃ p:List Nat,(arrOf st').map (·.2)=(p.map fun i=>us.getD i .none).toArray∧failedOf st'=none∧Ord us.length (fun i=>ls.getD i []) p)
    (G:=fun p s'=>s'=s∧Ord us.length (fun i=>ls.getD i []) p.toList) hl hz h64 (fun p' st' s' a1 a2 a3 a4=>⟨a4.1,p'.toList,kat_snds hl a2,a3,a4.2⟩)
    (ZkN (P:=fun s'=>s'=s) (key:=fun i=>ls.getD i []) (fun i j hi hj C s' hs' hC=>?_) hz rfl fun p' s' hv hu hs'=>⟨hs',Zk1 hv hu⟩)) ?_ fun _ _ e=>e)
   ·subst hs'
    obtain ⟨n1,r1,q1,k1⟩:=hk i hi
    obtain ⟨n2,r2,q2,k2⟩:=hk j hj
    show wpAny _ _ (keyLt' (tuples' true) (kA.getD i .none) (kA.getD j .none)) C (fun _ _=>False) _
    have hc:=hC _ rfl
    rw [q1,q2] at hc
    exact Zoj (by simp only [Around.in1];omega) k1 k2 hc
   ·rintro ⟨⟨⟩,st'⟩ s' ⟨rfl,p,hp,hf,hord⟩
    exact fin st' p hp hf hord
end
theorem Zep {φ:List D→Option D}:∀ {ds:List D} {ks:List (List Int × D)},ZbY φ ds=some ks→ks.length=ds.length∧ks.map (·.2)=ds∧∀ (i:Nat) d,ds[i]?=some d→∃ kd l,φ [d]=some kd∧keyD kd=some l∧ks[i]?=some (l,d)
 | [],ks,h=>by simp only [ZbY] at h;cases h;exact ⟨rfl,rfl,by simp⟩
 | x::xs,ks,h=>by
  simp only [ZbY] at h
  split at h
  ·rename_i k q h1 h2
   split at h
   ·rename_i l hl
    cases h
    obtain ⟨a1,a2,a3⟩:=Zep h2
    refine ⟨by simp [a1],by simp [a2],fun i d hd=>?_⟩
    cases i with
    | zero=>simp at hd;subst hd;exact ⟨k,l,h1,hl,by simp⟩
    | succ i=>simpa using a3 i d (by simpa using hd)
   ·cases h
  ·cases h
theorem Zhv {K:PySem.W.Frag}{F:Hp}{d:D}{v:V}:∀ {ds:List D} {vs:List V},Reps K F ds vs→Rep K F d v→Reps K F (ds++[d]) (vs++[v])
 | [],vs,h,k=>by simp only [Reps] at h;subst h;exact Reps.cons k Reps.nil
 | x::ds,vs,h,k=>by
  simp only [Reps] at h
  obtain ⟨v',r,rfl,h2,h3⟩:=h
  exact Reps.cons h2 (Zhv h3 k)
theorem ZkB {v:V}{u:Value}{vs:List V}{us:List Value}(h:Vals vs us)(r:RelV v u):Vals (vs++[v]) (us++[u]):=h.append (.cons r .nil)
section
variable {X:Cx} {pins:List (Addr × Obj)} {σ:L2.St} {H F:Hp} {s:Shared} {a kS:Addr} {E:Value→Shared→Prop} {P:PySem.Fin→Shared→Prop}
theorem Zke {k : Nat}{fa : Addr}{fd : FuncData}{ps : List Str}{φ : List D → Option D}{us : List Value}{vs : List V}{ds : List D}{ks : List (List Int × D)}{e1 : Nat}(Fn : L2.FnOk X.prog X.w X.K X.mg X.base L2.CX0 k fa fd ps (spR X.K (rk X.K .k) φ))(hroom : L2.Room (k + 2) X.A)(hb : L2.Binds X.K fd ps [])
    (hu : X.A.units + 64 < cLine) (I : Inv X pins σ H s) (wa : Own X pins a) (wk : Own X pins kS) (hka : kS ≠ a) (na : H a = none) (nk : H kS = none)
    (ga : s.heap.get? a = some (seqObj "list" #[] e1)) (gk : s.heap.get? kS = some (seqObj "list" #[] 0)) (hv : Vals vs us) (h64 : us.length < 64) (fh : Same F H) (hr : Reps X.K F ds vs) (hks : ZbY φ ds = some ks)
    (h : ∀ p F' H' s', Ord us.length (fun i => (ks.map (·.1)).getD i []) p → Ext F H F' H' → H' a = none → Inv X pins σ (upd H' a (.lst (p.map fun i => vs.getD i .non))) s' → P (.done (.ret .none)) s') :
    wpAny (model X.prog X.w) X.A.in1.in1 (ksk_rest a (.ref fa) false us.toArray e1 (.ref kS)) P E s := by
  have hsl := sizeLine_eq
  have hvl := hv.length
  have hdl := hr.length
  obtain ⟨kl, k2, k3⟩ := Zep hks
  unfold ksk_rest
  refine wpAny_bind (wpAny_rule ?_)
  rw [List.forIn_toArray]
  refine wpAny_bind (ksk_fold (fun i s' => ∃ (F' H' : Hp) (kds : List D) (kvs : List V) (kA : List Value) (e : Nat), Ext F H F' H' ∧ Inv X ((a, seqObj "list" #[] e1) :: (kS, seqObj "list" (List.toArray kA) e) :: pins) σ H' s' ∧ Vals kvs kA ∧ Reps X.K F' kds kvs ∧ kds.length = i ∧ (∀ (j : Nat) (kd : D), kds[j]? = some kd → ∃ d, ds[j]? = some d ∧ φ [d] = some kd)) us 0 s
    ⟨F, H, [], [], [], 0, Ext.refl fh, pin2 I wa wk ga gk na nk (fun v h => by cases h) (fun v h => by cases h), .nil, Reps.nil, rfl, fun j kd q => by cases q⟩ ?step ?done)
  case step =>
    rintro j x s' hx ⟨F', H', kds, kvs, kA, e, z, I', hV, hR, hn, hD⟩
    simp only [Nat.zero_add] at hn ⊢
    have hj : j < us.length := (List.getElem?_eq_some_iff.mp hx).1
    have hjd : j < ds.length := by omega
    have hjv : j < vs.length := by omega
    obtain ⟨kd, l, f1, f2, f3⟩ := k3 j ds[j] (by simp [hjd])
    obtain ⟨u, hu', ru⟩ := hv.get (i := j) (x := vs[j]) (by simp [hjv])
    rw [hx] at hu'; cases hu'
    have hrj : Rep X.K F ds[j] vs[j] := by
      obtain ⟨d, hd, rd⟩ := hr.getV (i := j) (v := vs[j]) (by simp [hjv])
      rw [List.getElem?_eq_getElem hjd] at hd; cases hd; exact rd
    refine wpAny_bind (wpAny_attempt (wpAny_mono (ZnM (Q := fun v H2 => ∃ F2, Ext F' H' F2 H2 ∧ Rep X.K F2 kd v) Fn hroom hb I' ru ⟨F', [ds[j]], kd, z.fh, Reps.cons (Rep.mono z.ff _ _ hrj) Reps.nil, f1, fun v F2 H2 z2 r2 => ⟨F2, z2, r2⟩⟩) (fun v s'' he => ?_) fun _ _ hF => hF.elim))
    obtain ⟨v', H2, I2, rv, F2, z2, r2⟩ := he
    dsimp only
    have pk := I2.pin (kS, seqObj "list" (List.toArray kA) e) (List.mem_append_right _ (.tail _ (.head _)))
    have pa := I2.pin (a, seqObj "list" #[] e1) (List.mem_append_right _ (.head _))
    have hkl : kA.length = j := by rw [← hV.length, ← hR.length]; exact hn
    obtain ⟨c2, hc2⟩ : ∃ c2, (s''.heap.update kS (Obj.mapSeq (·.push v))).get? kS = some (seqObj "list" ((List.toArray kA).push v) c2) := ⟨_, get?_update_seq pk.1 (·.push v)⟩
    refine wpAny_bind (listUpdate_at pk.1 rfl ?_ (by rw [List.size_toArray]; omega) (Nat.le_trans (Nat.le_of_eq (Array.size_push ..)) (by rw [List.size_toArray]; omega)))
    refine wpAny_pure ⟨rfl, F2, H2, kds ++ [kd], kvs ++ [v'], kA ++ [v], c2, z.trans z2, ?_, ZkB hV rv, Zhv (Reps.mono z2.ff _ _ hR) r2, by simp [hn], fun i q hq => ?_⟩
    · have I3 : Inv X pins σ H2 { s'' with heap := s''.heap.update kS (Obj.mapSeq (·.push v)), toks := s''.toks } := (Zh1 I2).turned (it := kS) (fun b o hb e => by rw [Heap.get?_update_other _ _ (Ne.symm hb)]; exact e) pk.2.1 wk.nl (.inr wk.s0) wk.nc wk.np
      refine pin2 I3 wa wk ?_ ?_ pa.2.1 pk.2.1 (fun v h => by cases h) (fun v h => by cases h)
      · show (s''.heap.update kS _).get? a = _
        rw [Heap.get?_update_other _ _ hka]; exact pa.1
      · rw [show (kA ++ [v]).toArray = kA.toArray.push v from by simp]
        exact hc2
    · by_cases hi : i < kds.length
      · rw [List.getElem?_append_left hi] at hq
        exact hD i q hq
      · have hi' : i = kds.length := by
          have := (List.getElem?_eq_some_iff.mp hq).1
          simp at this
          omega
        subst hi'
        simp at hq
        subst hq
        exact ⟨ds[j], by rw [hn]; simp [hjd], f1⟩
  case done =>
    rintro s' ⟨F', H', kds, kvs, kA, e, z, I', hV, hR, hn, hD⟩
    simp only [Nat.zero_add] at hn
    have pk := I'.pin (kS, seqObj "list" (List.toArray kA) e) (List.mem_append_right _ (.tail _ (.head _)))
    have pa := I'.pin (a, seqObj "list" #[] e1) (List.mem_append_right _ (.head _))
    have hkl : kA.length = us.length := by rw [← hV.length, ← hR.length]; exact hn
    refine wpAny_bind (listItems_at pk.1 rfl ?_)
    refine ZlE (ls := ks.map (·.1)) hu (Zh1 I') wa wk hka pa.2.1 pk.2.1 pa.1 pk.1 hv hkl (by rw [List.length_map, kl]; omega) h64 (fun i hi => ?_) fun p s2 hp I2 => h p F' H' s2 hp z pa.2.1 I2
    have hi1 : i < ds.length := by omega
    have hi2 : i < kds.length := by omega
    obtain ⟨kd, l, f1, f2, f3⟩ := k3 i ds[i] (List.getElem?_eq_getElem hi1)
    obtain ⟨v, hv', rv⟩ := hR.get (i := i) (d := kds[i]) (List.getElem?_eq_getElem hi2)
    obtain ⟨d, hd1, hd2⟩ := hD i kds[i] (List.getElem?_eq_getElem hi2)
    have ed : d = ds[i] := by rw [List.getElem?_eq_getElem hi1] at hd1; cases hd1; rfl
    subst ed
    rw [f1] at hd2
    injection hd2 with hd2
    rw [← hd2] at rv
    obtain ⟨u, hu2, ru⟩ := hV.get hv'
    obtain ⟨n, r, e2, ka⟩ := Zo7 (Zh1 I') f2 (Rep.mono z.fh _ _ rv) ru
    refine ⟨n, r, ?_, ?_⟩
    · rw [List.getD_eq_getElem?_getD, List.getElem?_map, f3]; exact e2
    · rw [List.getD_eq_getElem?_getD, hu2]; exact ka
theorem ZjX {k:Nat}{fa:Addr}{fd:FuncData}{ps:List Str}{φ:List D→Option D}{us:List Value}{vs:List V}{ds:List D}{ks:List (List Int × D)}{n:Nat}(Fn:L2.FnOk X.prog X.w X.K X.mg X.base L2.CX0 k fa fd ps (spR X.K (rk X.K .k) φ))(hroom:L2.Room (k + 2) X.A)(hb:L2.Binds X.K fd ps [])
  (hu:X.A.units + 64 < cLine) (I:Inv X pins σ H s) (wa:Own X pins a) (na:H a=none)
  (ga:s.heap.get? a=some (seqObj "list" us.toArray n)) (hv:Vals vs us) (h64:us.length < 64) (fh:Same F H) (hr:Reps X.K F ds vs) (hks:ZbY φ ds=some ks)
  (h:∀ p F' H' s',Ord us.length (fun i=>(ks.map (·.1)).getD i []) p→Ext F H F' H'→H' a=none→Inv X pins σ (upd H' a (.lst (p.map fun i=>vs.getD i .non))) s'→P (.done (.ret .none)) s') :
  wpAny (model X.prog X.w) X.A.in1.in1 (ksk_tree a (.ref fa) false) P E s:=by
 have hsl:=sizeLine_eq
 unfold ksk_tree
 refine wpAny_bind (listItems_at ga rfl ?_)
 refine wpAny_bind (listUpdate_at ga rfl ?_ (by rw [List.size_toArray];omega) (Nat.zero_le _))
 obtain ⟨e1,ho1⟩:∃ e1,(s.heap.update a (Obj.mapSeq fun _=>(#[]:Array Value))).get? a=some (seqObj "list" #[] e1):=⟨_,get?_update_seq ga fun _=>#[]⟩
 refine wpAny_bind (seqEpoch_at ho1 rfl (wpAny_bind (wpAny_newTuple ?_ (by show us.length≤_;omega))))
 refine wpAny_bind (wpAny_newList (wpAny_holding ?_) (Nat.zero_le _))
 obtain ⟨h2,e2⟩:∃ h2,h2=(s.heap.update a (Obj.mapSeq fun _=>(#[]:Array Value))).push (seqObj "tuple" us.toArray 0):=⟨_,rfl⟩
 have sz2:h2.objs.size=s.heap.objs.size + 1:=by rw [e2,size_push',Heap.size_update]
 show wpAny _ _ (ksk_rest a (.ref fa) false us.toArray e1 (.ref ((s.heap.update a (Obj.mapSeq fun _=>(#[]:Array Value))).push (seqObj "tuple" us.toArray 0)).objs.size)) _ _ { s with heap:=((s.heap.update a (Obj.mapSeq fun _=>(#[]:Array Value))).push (seqObj "tuple" us.toArray 0)).push (seqObj "list" #[] 0) }
 rw [← e2]
 have hlt:a < s.heap.objs.size:=Heap.lt_size ga
 have I3:Inv X pins σ H { s with heap:=h2.push (seqObj "list" #[] 0),toks:=s.toks }:=I.turned (it:=a) (fun b o hb e=>by
  rw [e2]
  refine Heap.get?_push_of_some _ (Heap.get?_push_of_some _ ?_)
  rw [Heap.get?_update_other _ _ (Ne.symm hb)];exact e) na wa.nl (.inr wa.s0) wa.nc wa.np
 refine Zke (s:={ s with heap:=h2.push (seqObj "list" #[] 0),toks:=s.toks }) Fn hroom hb hu I3 wa (Zle I (by omega)) (by rw [sz2];exact Nat.ne_of_gt (Nat.lt_succ_of_lt hlt)) na (I.hok.fresh (by omega)) ?_ (Heap.get?_push_size _ rfl) hv h64 fh hr hks h
 show (h2.push _).get? a=_
 rw [e2]
 exact Heap.get?_push_of_some _ (Heap.get?_push_of_some _ ho1)
theorem ZiK {k:Nat}{fa l:Addr}{fd:FuncData}{ps:List Str}{φ:List D→Option D}{vs:List V}{ds:List D}{ks:List (List Int × D)}{Q:Value→Shared→Prop}(Fn:L2.FnOk X.prog X.w X.K X.mg X.base L2.CX0 k fa fd ps (spR X.K (rk X.K .k) φ))(hroom:L2.Room (k + 2) X.A)(hb:L2.Binds X.K fd ps [])
  (hu:X.A.units + 64 < cLine) (I:Inv X pins σ H s) (hS:SqL X.K H l vs) (h64:vs.length < 64) (fh:Same F H) (hr:Reps X.K F ds vs) (hks:ZbY φ ds=some ks)
  (h:∀ p q F' H' s',Ord vs.length (fun i=>(ks.map (·.1)).getD i []) p→Ext F H F' H'→H q=none→H' q=none→Inv X pins σ (upd H' q (.lst (p.map fun i=>vs.getD i .non))) s'→Q (.ref q) s') :
  wpAny (model X.prog X.w) X.A (call (.builtin "sorted") [.ref l] [(Str.ofString "key",.ref fa)]) Q E s:=by
 have hsl:=sizeLine_eq
 obtain ⟨us,rv,pl,z⟩:=I.list hS
 have hvl:=rv.length
 refine call_function_entry_kw kind_sorted plain_sorted entry_sorted (ksk_s1 _ _) ?_
 unfold Builtin.«sorted»
 refine wpAny_bind (m:=checkCount "sorted" 1 1 _) (wpAny_pure (wpAny_bind (collect_list pl.isList ?_ (by omega))))
 refine wpAny_bind (wpAny_newList ?_ (by omega))
 obtain ⟨h2,e2⟩:∃ h2,h2=(s.heap.push (seqObj "list" #[] 0)).update s.heap.objs.size (Obj.mapSeq (·++us.toArray)):=⟨_,rfl⟩
 have sz2:h2.objs.size=s.heap.objs.size + 1:=by rw [e2,Heap.size_update,size_push']
 have up3:∀ b o,s.heap.get? b=some o→(h2.push (seqObj "list" us.toArray 0)).get? b=some o:=fun b o e=>by
  refine Heap.get?_push_of_some _ ?_
  rw [e2,Heap.get?_update_other _ _ (Nat.ne_of_gt (Heap.lt_size e))]
  exact Heap.get?_push_of_some _ e
 show wpAny _ _ _ _ _ { s with heap:=((s.heap.push (seqObj "list" #[] 0)).update s.heap.objs.size (Obj.mapSeq (·++us.toArray))).push (seqObj "list" us.toArray 0) }
 rw [← e2]
 have g3:(h2.push (seqObj "list" us.toArray 0)).get? h2.objs.size=some (seqObj "list" us.toArray 0):=Heap.get?_push_size _ rfl
 refine wpAny_bind (wpAny_holding (wpAny_call_entry_kw slot_list_sort ⟨_,g3,rfl⟩ entry_list_sort ?_ (ksk_l1 _ _)))
 show wpAny (model X.prog X.w) X.A.in1.in1 (Builtin.«list.sort» ⟨[.ref h2.objs.size],[(Str.ofString "key",.ref fa)]⟩) _ _ _
 rw [ksk_t1]
 refine ZjX (s:={ s with heap:=h2.push (seqObj "list" us.toArray 0),toks:=s.toks }) Fn hroom hb hu (I.kept up3) (Zle I (by omega)) (I.hok.fresh (by omega)) g3 rv (by omega) fh hr hks fun p F' H' s' hp z' hn I'=>⟨_,rfl,wpAny_pure ⟨_,rfl,h p h2.objs.size F' H' s' (by rw [hvl];exact hp) z' (I.hok.fresh (by omega)) hn I'⟩⟩
end
end PV
set_option linter.all false
set_option Elab.async false
set_option maxRecDepth 100000
set_option maxHeartbeats 4000000
namespace PV
open PySem PySem.W PySem.Spec PyProof.Rows
open L2 (V Hp HO Vals SqL SqT Same upd Cx PE PT PW PA PS PSs TE TT TA TS Inv RelV Yc Jd Jc Un)
theorem Zgl {H:Hp}{ds:List D}{vs:List V}(h:Zi H ds vs):∀ (p:List Nat),(∀ i ∈ p,i < vs.length)→Zi H (p.map fun i=>ds.getD i .non) (p.map fun i=>vs.getD i .non)
 | [],_=>by simp [Zi]
 | i::p,hp=>by
  have hi:=hp i List.mem_cons_self
  have at':∀ {ds:List D} {vs:List V} (i:Nat),Zi H ds vs→i < vs.length→RepN H (ds.getD i .non) (vs.getD i .non):=by
   intro ds
   induction ds with
   | nil=>intro vs i h hi;simp only [Zi] at h;subst h;simp at hi
   | cons d ds ih =>
    intro vs i h hi
    simp only [Zi] at h
    obtain ⟨v,r,rfl,h2,h3⟩:=h
    cases i with
    | zero=>simpa using h2
    | succ i=>simpa using ih i h3 (by simpa using hi)
  simp only [List.map_cons,Zi]
  exact ⟨_,_,rfl,at' i h hi,Zgl h p fun j hj=>hp j (List.mem_cons_of_mem _ hj)⟩
theorem ZmN {ks:List (List Int × D)}(nd:(ks.map (·.1)).Nodup){x y:List Int × D}(hx:x ∈ ks)(hy:y ∈ ks)(h:x.1=y.1):x=y:=by
 induction ks with
 | nil=>cases hx
 | cons k ks ih =>
  simp only [List.map_cons,List.nodup_cons] at nd
  rcases List.mem_cons.mp hx with rfl | hx' <;> rcases List.mem_cons.mp hy with rfl | hy'
  ·rfl
  ·exact absurd (List.mem_map.mpr ⟨y,hy',h.symm⟩) nd.1
  ·exact absurd (List.mem_map.mpr ⟨x,hx',h⟩) nd.1
  ·exact ih nd.2 hx' hy'
theorem Zme {ks:List (List Int × D)}{p:List Nat}(nd:(ks.map (·.1)).Nodup)(h:Ord ks.length (fun i=>(ks.map (·.1)).getD i []) p):(srtB (fun p:List Int × D=>p.1) ks).map (fun p=>p.2)=p.map fun i=>(ks.map (·.2)).getD i .non:=by
 have hlen:p.length=ks.length:=by rw [h.pm.length_eq];simp
 have hlt:∀ i ∈ p,i < ks.length:=fun i hi=>by simpa using h.pm.mem_iff.mp hi
 have p1:(p.map fun i=>ks.getD i ([],.non)).Perm ks:=by
  have:=h.pm.map fun i=>ks.getD i ([],.non)
  rwa [Zhi] at this
 have e:p.map (fun i=>ks.getD i ([],.non))=srtB (fun p:List Int × D=>p.1) ks:=by
  refine (p1.trans (Zbn _ ks).symm).eq_of_pairwise (fun x y hx hy h1 h2=>ZmN nd (p1.mem_iff.mp hx) ((Zbn _ ks).mem_iff.mp hy) (leL.anti h1 h2)) ?_ (Ze5 (fun p:List Int × D=>p.1) ks)
  rw [List.pairwise_iff_getElem]
  intro i j hi hj hij
  simp only [List.length_map] at hi hj
  have:=h.up i j (Nat.le_of_lt hij) (by omega)
  have hi':=hlt p[i] (List.getElem_mem hi)
  have hj':=hlt p[j] (List.getElem_mem hj)
  simpa [List.getD,hi,hj,hi',hj'] using this
 rw [← e,List.map_map]
 refine List.map_congr_left fun i hi=>?_
 have:=hlt i hi
 simp [List.getD,this]
section
variable {X:Cx} {m m1 m2:Md} {r:RetP} {a b e:Expr} {f g:Ex} {pos p p2:Pos}
theorem ZlP (i:Nat) {k:Nat} {x fx:Str} {φ:List D→Option D} {p1 p3 kpos:Pos} (G:Cal X.prog X.w X.K X.mg X.base k fx (rk X.K .k) φ) (hr:L2.Room (k + 2) X.A) (T:Bt X.mg) (hu:X.A.units + 64 < cLine) (hg:X.env.kindOf "sorted"=some .globalImplicit:=by kernel_rfl) (hgf:X.env.kindOf fx=some .globalImplicit:=by kernel_rfl) (hdf:(fx == ("__debug__":Str))=false:=by kernel_rfl)
  (hN:X.N[i]?=some x:=by kernel_rfl) (hv:visB X.env.scope x=true:=by kernel_rfl) (hd:(x == ("__debug__":Str))=false:=by kernel_rfl) (hcd:(x == ("__classdict__":Str))=false:=by kernel_rfl) :
  PDl X (.Call (.Name "sorted" p) [.Name x p1] [⟨some "key",.Name fx p3,kpos⟩] pos) (eF1 (Zbs φ) (ZfX i)):=⟨fun pins s σ H Q I hh_=>el9 hh_ fun BF BH F env L ds' S e q=>by
 unfold eF1 ZfX at e
 split at e
 ·rename_i y hy
  split at hy
  ·rename_i ds he
   cases hy
   simp only [Zbs] at e
   split at e
   ·rename_i ks hks
    split at e
    ·rename_i hc
     cases e
     obtain ⟨p0,vs,hσ,hl,hp,rr⟩:=ZmV S he
     have reps:Reps X.K F ds vs:=Zi.reps _ _ (Zi.mono ZaT _ _ rr)
     obtain ⟨kl,k2,_⟩:=Zep hks
     have hvl:vs.length=ks.length:=by rw [kl];exact reps.length.symm
     obtain ⟨fa,fd,ps,h1,h2,h3,h4⟩:=G.ex
     refine wpAny_Call_Name_kw (L2.ZbJ I hg T.sorted boot_sorted ?_)
     refine callWith_kw (L2.thn ((L2.Jv (L2.Zag hN (JZ hv) hd hcd) L2.YG (Jq rfl)) pos pins s σ H (fun xs H1=>xs=[.ref p0]∧H1=H) I ⟨_,hσ,rfl,rfl⟩) fun us s1 ⟨xs,H1,I1,r1,e1,e2⟩=>?_)
     subst e1 e2
     obtain ⟨u,rfl,ru⟩:=r1.one
     cases ru
     refine L2.thn ((L2.Znb (nm:=some "key") (kpos:=kpos) (L2.Zjo (pos:=p3) hgf h1 (v:=.ref fa) rfl hdf) L2.ZoZ) pos pins s1 σ H1 (fun zs H2=>zs=[.ref fa]∧H2=H1) I1 ⟨rfl,rfl⟩) fun ws s2 ⟨zs,H2,I2,rz,e1,e2⟩=>?_
     subst e1 e2
     obtain ⟨u,rfl,ru⟩:=rz.one
     cases ru
     show wpAny _ _ (call (.builtin "sorted") [.ref p0] [(Str.ofString "key",.ref fa)]) _ _ _
     refine ZiK h3 hr h4 hu I2 (.inl (.inl hp)) (by omega) S.fh reps hks fun pm q' F' H' s' hord z hq hq' I'=>⟨.ref q',_,I',rfl,q q' _ F' _ (z.trans (Ext.own z.fh hq')) hq Yc (z.fh.free hq') ?_⟩
     rw [hvl] at hord
     have hlt:∀ i ∈ pm,i < vs.length:=fun i hi=>by rw [hvl];simpa using hord.pm.mem_iff.mp hi
     rw [Zme hc.2 hord,k2]
     exact Zgl (Zi.mono (ZaI z.ff) _ _ rr) pm hlt
    ·cases e
   ·cases e
  ·cases hy
 ·cases e⟩
theorem Zkr {φ:List D→Option D}{env:Env}{d:D}(h:eF1 (Zbs φ) f env=some d):∃ ds,d=.lst ds:=by
 unfold eF1 at h
 split at h
 ·unfold Zbs at h
  split at h
  ·split at h
   ·split at h
    ·cases h;exact ⟨_,rfl⟩
    ·cases h
   ·cases h
  ·cases h
 ·cases h
theorem ZlW (i:Nat) {k:Nat} {x fx:Str} {φ:List D→Option D} {p1 p3 kpos:Pos} (G:Cal X.prog X.w X.K X.mg X.base k fx (rk X.K .k) φ) (hr:L2.Room (k + 2) X.A) (T:Bt X.mg) (hu:X.A.units + 64 < cLine) (hg:X.env.kindOf "sorted"=some .globalImplicit:=by kernel_rfl) (hgf:X.env.kindOf fx=some .globalImplicit:=by kernel_rfl) (hdf:(fx == ("__debug__":Str))=false:=by kernel_rfl)
  (hN:X.N[i]?=some x:=by kernel_rfl) (hv:visB X.env.scope x=true:=by kernel_rfl) (hd:(x == ("__debug__":Str))=false:=by kernel_rfl) (hcd:(x == ("__classdict__":Str))=false:=by kernel_rfl) :
  PDn X (.Call (.Name "sorted" p) [.Name x p1] [⟨some "key",.Name fx p3,kpos⟩] pos) (eF1 (Zbs φ) (ZfX i)):=(ZlP i G hr T hu hg hgf hdf hN hv hd hcd).n fun env d h=>Zkr h
end
end PV
set_option Elab.async false
set_option linter.all false
set_option maxRecDepth 100000
namespace L2
open PySem PySem.Spec PyProof.Rows
section
variable {κ:Type} [DecidableEq κ]
noncomputable def valV (kvs:List (κ × V)) (k:κ):Option V:=(kvs.find? fun kv=>decide (kv.1=k)).map (·.2)
noncomputable def putK (kvs:List (κ × V)) (k:κ) (v:V):List (κ × V) :=
 if (kvs.any fun kv=>decide (kv.1=k))=true then kvs.map (fun kv=>if kv.1=k then (kv.1,v) else kv) else kvs++[(k,v)]
noncomputable def ZpZ (kvs:List (κ × V)) (k:κ):List (κ × V):=kvs.filter fun kv=>decide (kv.1≠k)
theorem Zfz {p:κ × V}{r:List (κ × V)}{k:κ}(e:p.1=k):valV (p::r) k=some p.2:=by simp [valV,List.find?_cons,e]
theorem ZfF {p:κ × V}{r:List (κ × V)}{k:κ}(e:¬ p.1=k):valV (p::r) k=valV r k:=by simp [valV,List.find?_cons,e]
theorem Zig (k:κ):∀ kvs:List (κ × V),(kvs.any fun kv=>decide (kv.1=k))=(valV kvs k).isSome
 | []=>rfl
 | p::r=>by
  rw [List.any_cons]
  by_cases e:p.1=k
  ·simp only [Zfz e,decide_eq_true e,Bool.true_or,Option.isSome_some]
  ·rw [ZfF e,decide_eq_false e,Bool.false_or];exact Zig k r
theorem Zc5 (kvs:List (κ × V))(k:κ)(v:V):(putK kvs k v).length≤kvs.length + 1:=by
 unfold putK
 split
 ·rw [List.length_map];omega
 ·rw [List.length_append,List.length_cons,List.length_nil];omega
theorem RelO.Zey {o:Option V}{u:Option Value}(r:RelO o u):o.isSome=u.isSome:=by
 cases o with
 | none=>cases u with
  | none=>rfl
  | some _=>exact (show False from r).elim
 | some _=>cases u with
  | none=>exact (show False from r).elim
  | some _=>rfl
theorem RelO.getD {o:Option V}{u:Option Value}{d:V}{d':Value}(r:RelO o u)(rd:RelV d d'):RelV (o.getD d) (u.getD d'):=by
 cases o with
 | none=>cases u with
  | none=>exact rd
  | some _=>exact (show False from r).elim
 | some _=>cases u with
  | none=>exact (show False from r).elim
  | some _=>exact r
theorem KV.val {kvs:List (κ × V)}{vs:List (κ × Value)}(r:KV kvs vs)(k:κ):RelO (valV kvs k) (valueAt vs k):=by
 unfold KV at r
 induction r with
 | nil=>exact True.intro
 | @cons p q ps qs h t ih =>
  obtain ⟨h1,h2⟩:=h
  by_cases e:p.1=k
  ·have e':q.1=k:=h1.symm.trans e
   have b:valueAt (q::qs) k=some q.2:=by simp [valueAt,List.find?_cons,e']
   rw [Zfz e,b];exact h2
  ·have e':¬ q.1=k:=fun z=>e (h1.trans z)
   have b:valueAt (q::qs) k=valueAt qs k:=by simp [valueAt,List.find?_cons,e']
   rw [ZfF e,b];exact ih
theorem KV.any {kvs:List (κ × V)}{vs:List (κ × Value)}(r:KV kvs vs)(k:κ):(kvs.any fun kv=>decide (kv.1=k))=vs.any fun kv=>decide (kv.1=k):=by
 unfold KV at r
 induction r with
 | nil=>rfl
 | cons h t ih=>rw [List.any_cons,List.any_cons,ih,h.1]
theorem KV.repl {kvs:List (κ × V)}{vs:List (κ × Value)}(r:KV kvs vs)(k:κ){y:V}{u:Value}(ry:RelV y u) :
  KV (kvs.map fun kv=>if kv.1=k then (kv.1,y) else kv) (vs.map fun kv=>if kv.1=k then (kv.1,u) else kv):=by
 unfold KV at r ⊢
 induction r with
 | nil=>exact .nil
 | @cons p q ps qs h t ih =>
  rw [List.map_cons,List.map_cons]
  refine .cons ?_ ih
  obtain ⟨h1,h2⟩:=h
  by_cases e:p.1=k
  ·rw [if_pos e,if_pos (h1.symm.trans e)];exact ⟨h1,ry⟩
  ·rw [if_neg e,if_neg (fun z=>e (h1.trans z))];exact ⟨h1,h2⟩
theorem KV.put {kvs:List (κ × V)}{vs:List (κ × Value)}(r:KV kvs vs)(k:κ){y:V}{u:Value}(ry:RelV y u):KV (putK kvs k y) (stored vs k u):=by
 unfold putK stored
 rw [r.any k]
 by_cases e:(vs.any fun kv=>decide (kv.1=k))=true
 ·rw [if_pos e,if_pos e];exact r.repl k ry
 ·rw [if_neg e,if_neg e];exact Paired.snoc r ⟨rfl,ry⟩
theorem KV.keys {kvs:List (κ × V)}{vs:List (κ × Value)}(r:KV kvs vs):kvs.map (·.1)=vs.map (·.1):=by
 unfold KV at r
 induction r with
 | nil=>rfl
 | cons h t ih=>rw [List.map_cons,List.map_cons,ih,h.1]
theorem KV.length {kvs:List (κ × V)}{vs:List (κ × Value)}(r:KV kvs vs):kvs.length=vs.length:=Paired.length r
end
theorem Ze3 {P:Program}{w:World}{k:Key}{u:Value}(r:RelV (kV k) u):(Yx P w).is k u=true:=by
 cases k with
 | inl i=>obtain ⟨t,e⟩:=(show ∃ t,u=Value.int i t from r);subst e;exact Zjb P w i t
 | inr x=>obtain ⟨t,e⟩:=(show ∃ t,u=Value.str x t from r);subst e;exact Zi5 P w x t
theorem Zhp {P:Program}{w:World}:∀ {ks:List Key} {us:List Value},Vals (ks.map kV) us→ItemsAre (Yx P w) ks us
 | [],_,r=>by rw [List.map_nil] at r;cases r;exact .nil
 | k::ks,_,r=>by
  rw [List.map_cons] at r
  cases r with
  | cons h t=>exact .cons (Ze3 h) (Zhp t)
noncomputable abbrev KT (H:Hp):List (List Key × V)→List (List Key × Addr × Value)→Prop:=Paired fun p q=>p.1=q.1∧H q.2.1=some (.tup (p.1.map kV))∧RelV p.2 q.2.2
theorem KT.val {H:Hp}{kvs:List (List Key × V)}{xs:List (List Key × Addr × Value)}(r:KT H kvs xs)(k:List Key):RelO (valV kvs k) ((atKey xs k).map (·.2)):=by
 induction r with
 | nil=>exact True.intro
 | @cons p q ps qs h t ih =>
  obtain ⟨h1,_,h2⟩:=h
  by_cases e:p.1=k
  ·have e':q.1=k:=h1.symm.trans e
   have b:atKey (q::qs) k=some q.2:=by simp [atKey,List.find?_cons,e']
   rw [Zfz e,b];exact h2
  ·have e':¬ q.1=k:=fun z=>e (h1.trans z)
   have b:atKey (q::qs) k=atKey qs k:=by simp [atKey,List.find?_cons,e']
   rw [ZfF e,b];exact ih
theorem KT.repl {H:Hp}{kvs:List (List Key × V)}{xs:List (List Key × Addr × Value)}(r:KT H kvs xs)(k:List Key){y:V}{u:Value}(ry:RelV y u) :
  KT H (kvs.map fun kv=>if kv.1=k then (kv.1,y) else kv) (xs.map (putAt k u)):=by
 induction r with
 | nil=>exact .nil
 | @cons p q ps qs h t ih =>
  rw [List.map_cons,List.map_cons]
  refine .cons ?_ ih
  obtain ⟨h1,h2,h3⟩:=h
  unfold putAt
  by_cases e:p.1=k
  ·rw [if_pos e,if_pos (h1.symm.trans e)];exact ⟨h1,h2,ry⟩
  ·rw [if_neg e,if_neg (fun z=>e (h1.trans z))];exact ⟨h1,h2,h3⟩
theorem KT.put {H:Hp}{kvs:List (List Key × V)}{xs:List (List Key × Addr × Value)}(r:KT H kvs xs)(k:List Key){b:Addr}{y:V}{u:Value}(hb:H b=some (.tup (k.map kV)))(ry:RelV y u) :
  KT H (putK kvs k y) (storedH xs k b u):=by
 have e:(kvs.any fun kv=>decide (kv.1=k))=(atKey xs k).isSome:=by
  rw [Zig,(r.val k).Zey,Option.isSome_map]
 unfold putK storedH
 rw [e]
 by_cases q:(atKey xs k).isSome=true
 ·rw [if_pos q,if_pos q];exact r.repl k ry
 ·rw [if_neg q,if_neg q];exact Paired.snoc r ⟨rfl,hb,ry⟩
theorem KT.keeps {H H':Hp}{kvs:List (List Key × V)}{xs:List (List Key × Addr × Value)}(r:KT H kvs xs)(ht:∀ b ys,H b=some (.tup ys)→H' b=some (.tup ys)):KT H' kvs xs :=
 Paired.mapP r fun _ _ z=>⟨z.1,ht _ _ z.2.1,z.2.2⟩
section
variable {P:Program} {w:World} {H:Hp} {h:Heap} {a:Addr}
theorem Zm1 {u:HO}(ok:HOk P w H h)(e:Rd H a u):JC P w H h a u:=e.ok ok
theorem ZcY {kvs:List (Key × V)}(ok:HOk P w H h)(e:Rd H a (.dK kvs)):kvs.length≤sizeLine∧(a == sysModules)=false∧∃ vs,KV kvs vs∧h.DictOf (Yx P w) a vs :=
 show JC P w H h a (.dK kvs) from Zm1 ok e
theorem ZmW {kvs:List (Key × V)}(ok:HOk P w H h)(e:H a=some (.dK kvs)):kvs.length≤sizeLine∧(a == sysModules)=false∧∃ vs,KV kvs vs∧h.DictOf (Yx P w) a vs:=ZcY ok (.inl e)
theorem ZeF {ks:List Key}(ok:HOk P w H h)(e:H a=some (.tup (ks.map kV))):(tupleKind (Yx P w)).is h ks a:=by
 obtain ⟨_,its,r,o,h1,h2,n,h3⟩:=(show JC P w H h a (.tup (ks.map kV)) from ok a _ e)
 exact ⟨o,its.toArray,n,h1,h2,h3,by simpa using Zhp r⟩
theorem ZeS {kvs:List (List Key × V)}(ok:HOk P w H h)(e:Rd H a (.dT kvs)):kvs.length≤sizeLine∧(a == sysModules)=false ∧
  ∃ xs,KT H kvs xs∧h.DictOfH (tupleKind (Yx P w)) a xs:=by
 obtain ⟨z,y,xs,r,o,es,ep,h1,h2,h3,h4,h5⟩:=(show JC P w H h a (.dT kvs) from Zm1 ok e)
 refine ⟨z,y,xs,r,o,es,ep,h1,h2,h3,h4,fun x hx=>?_,h5⟩
 have all:∀ {l:List (List Key × V)} {m:List (List Key × Addr × Value)},KT H l m→∀ x ∈ m,(tupleKind (Yx P w)).is h x.1 x.2.1:=by
  intro l m q
  induction q with
  | nil=>intro x hx;exact nomatch hx
  | @cons p q ps qs hq t ih =>
   intro x hx
   rcases List.mem_cons.mp hx with e | hx
   ·subst e
    exact ZeF ok (by rw [← hq.1];exact hq.2.1)
   ·exact ih x hx
 exact all r x hx
theorem ZpV {kvs:List (List Key × V)}(ok:HOk P w H h)(e:H a=some (.dT kvs)):kvs.length≤sizeLine∧(a == sysModules)=false ∧
  ∃ xs,KT H kvs xs∧h.DictOfH (tupleKind (Yx P w)) a xs:=ZeS ok (.inl e)
end
noncomputable def DGet (H:Hp) (a:Addr) (y:V) (r:Option V):Prop :=
 (∃ kvs k,Rd H a (.dK kvs)∧y=kV k∧r=valV kvs k)∨∃ kvs k b,Rd H a (.dT kvs)∧y=.ref b∧H b=some (.tup (k.map kV))∧r=valV kvs k
noncomputable def DPut (H:Hp) (a:Addr) (y v:V) (H':Hp):Prop :=
 (∃ kvs k,H a=some (.dK kvs)∧y=kV k∧kvs.length < sizeLine∧H'=upd H a (.dK (putK kvs k v))) ∨
 ∃ kvs k b,H a=some (.dT kvs)∧y=.ref b∧H b=some (.tup (k.map kV))∧kvs.length < sizeLine∧H'=upd H a (.dT (putK kvs k v))
theorem DGet.k {H:Hp}{a:Addr}{kvs:List (Key × V)}{k:Key}(e:H a=some (.dK kvs)):DGet H a (kV k) (valV kvs k):=.inl ⟨kvs,k,.inl e,rfl,rfl⟩
theorem DPut.k {H:Hp}{a:Addr}{kvs:List (Key × V)}{k:Key}{v:V}(e:H a=some (.dK kvs))(hl:kvs.length < sizeLine):DPut H a (kV k) v (upd H a (.dK (putK kvs k v))):=.inl ⟨kvs,k,e,rfl,hl,rfl⟩
section
variable {X:Cx} {pins:List (Addr × Obj)} {σ:St} {H:Hp} {s:Shared} {a:Addr} {y v:V} {u r:Value} {o:Option V} {A:Around} {E:Value→Shared→Prop}
theorem Inv.big (I:Inv X pins σ H s):sysModules < s.heap.objs.size:=by
 have h:mainGlobals < s.heap.objs.size:=(I.mod.glob.keeps I.bk).lt
 exact Nat.lt_trans (by decide) h
theorem ZlS {Q:Value→Shared→Prop}(hu:A.units + 1 < cLine)(I:Inv X pins σ H s)(g:DGet H a y (some v))(ry:RelV y u)(h:∀ w' s',Inv X pins σ H s'→RelV v w'→Q w' s') :
  wpAny (model X.prog X.w) A (getItem (.ref a) u) Q E s:=by
 rcases g with ⟨kvs,k,e,ey,l⟩ | ⟨kvs,k,b,e,ey,eb,l⟩
 ·subst ey
  obtain ⟨z,hd,vs,rel,dd⟩:=ZcY I.hok e
  obtain ⟨w',hw,rw'⟩:=RelO.some_of (v:=v) (o:=valueAt vs k) (by rw [l];exact rel.val k)
  exact wpAny_getItem_of (Ze3 ry) dd.mapOf hw (h w' _ (I.tok _) rw')
 ·subst ey
  cases (show u=Value.ref b from ry)
  obtain ⟨z,hd,xs,rel,dd⟩:=ZeS I.hok e
  obtain ⟨w',hw,rw'⟩:=RelO.some_of (v:=v) (o:=(atKey xs k).map (·.2)) (by rw [l];exact rel.val k)
  obtain ⟨p,hp,hp2⟩:=Option.map_eq_some_iff.mp hw
  refine wpAny_getItem_heap (tupleKind_room_in1 hu) (ZeF I.hok eb) dd hp ?_
  rw [hp2]
  exact h w' _ (I.tok _) rw'
theorem d_in {Q:Value→Shared→Prop}(hu:A.units + 1 < cLine)(I:Inv X pins σ H s)(g:DGet H a y o)(ry:RelV y u)(h:∀ s',Inv X pins σ H s'→Q (.bool o.isSome) s') :
  wpAny (model X.prog X.w) A (compareOp .In u (.ref a)) Q E s:=by
 rcases g with ⟨kvs,k,e,ey,l⟩ | ⟨kvs,k,b,e,ey,eb,l⟩
 ·subst ey
  obtain ⟨z,hd,vs,rel,dd⟩:=ZcY I.hok e
  refine wpAny_in_of (Ze3 ry) hd dd.mapOf ?_
  rw [← (rel.val k).Zey,← l]
  exact h _ (I.tok _)
 ·subst ey
  cases (show u=Value.ref b from ry)
  obtain ⟨z,hd,xs,rel,dd⟩:=ZeS I.hok e
  refine wpAny_in_heap (tupleKind_room_in1 hu) (ZeF I.hok eb) hd dd ?_
  have q:=(rel.val k).Zey
  rw [Option.isSome_map] at q
  rw [← q,← l]
  exact h _ (I.tok _)
theorem ZgY {h':Heap}{t':Nat}{ob:HO}(I:Inv X pins σ H s)(mu:Mut (H a))(hs:Heap.SameBut a s.heap h')(he:∃ q,h'.get? a=some q)(new:JC X.prog X.w (upd H a ob) h' a ob) :
  Inv X pins σ (upd H a ob) { s with heap:=h',toks:=t' } :=
 I.write (x:=a) (e:=a) mu (.inl rfl) (fun b q hb z=>(hs.2 b hb).trans z) he new
theorem ZhT {P:Program}{w:World}{H':Hp}{h':Heap}{kvs:List (Key × V)}{vs:List (Key × Value)}(z:kvs.length≤sizeLine)(hd:(a == sysModules)=false)(rel:KV kvs vs)(dd:h'.DictOf (Yx P w) a vs) :
  JC P w H' h' a (.dK kvs):=⟨z,hd,vs,rel,dd⟩
theorem ZlC {H':Hp}{Q:Unit→Shared→Prop}(hu:A.units + 1 < cLine)(I:Inv X pins σ H s)(g:DPut H a y v H')(ry:RelV y u)(rv:RelV v r)(h:∀ s',Inv X pins σ H' s'→Q () s') :
  wpAny (model X.prog X.w) A (setItem (.ref a) u r) Q E s:=by
 rcases g with ⟨kvs,k,e,ey,l,eH⟩ | ⟨kvs,k,b,e,ey,eb,l,eH⟩
 ·subst ey eH
  obtain ⟨z,hd,vs,rel,dd⟩:=ZmW I.hok e
  have hz:vs.length≤sizeLine:=by rw [← rel.length];exact z
  have hl:(putK kvs k v).length≤sizeLine:=by have:=Zc5 kvs k v;omega
  refine wpAny_setItem_pairs (hsz:=hz) (Ze3 ry) dd fun h' dd' hs=>h _ ?_
  have he:∃ q,h'.get? a=some q:=let ⟨q,_,_,hq,_⟩:=dd';⟨q,hq⟩
  exact ZgY I (by rw [e];exact True.intro) hs he (ZhT hl hd (rel.put k rv) dd')
 ·subst ey eH
  cases (show u=Value.ref b from ry)
  obtain ⟨z,hd,xs,rel,dd⟩:=ZpV I.hok e
  have hz:xs.length≤sizeLine:=by rw [← Paired.length rel];exact z
  have hl:(putK kvs k v).length≤sizeLine:=by have:=Zc5 kvs k v;omega
  refine wpAny_setItem_heap (hsz:=hz) (tupleKind_room_in1 hu) (ZeF I.hok eb) dd fun h' dd' hs=>h _ ?_
  obtain ⟨q,es,ep,hq,h2,h3,h4,_,h5⟩:=dd'
  refine ZgY I (by rw [e];exact True.intro) hs ⟨q,hq⟩ ⟨hl,hd,_,(rel.put k eb rv).keeps fun c ys ec=>?_,q,es,ep,hq,h2,h3,h4,h5⟩
  rw [Jd (Zpx ec e (fun z=>nomatch z))]
  exact ec
end
section
variable {X:Cx} {pins:List (Addr × Obj)} {σ:St} {H:Hp} {s:Shared} {a:Addr} {kvs:List (Key × V)} {k:Key} {u:Value} {A:Around} {E:Value→Shared→Prop}
theorem ZpK {Q:Value→Shared→Prop}(I:Inv X pins σ H s)(e:Rd H a (.dK kvs))(h:∀ t s',Inv X pins σ H s'→Q (.int kvs.length t) s'):wpAny (model X.prog X.w) A (call (.builtin "len") [.ref a]) Q E s:=by
 obtain ⟨z,hd,vs,rel,dd⟩:=ZcY I.hok e
 refine call_len_dict hd dd (by rw [← rel.length];rw [sizeLine_eq] at z;omega) ?_
 rw [← rel.length]
 exact h _ _ (I.tok _)
end
noncomputable def NoSl (i:Expr):Prop:=∀ ov iv,subscripted i false ov iv=operate [ov,iv] (getItem ov iv)
theorem Zno {prog:Program}{w:World}{A:Around}{E:Value→Shared→Prop}{s:Shared}{env:Env}{value slice:Expr}{pos:Pos}{T id:String}{Q:Value→Shared→Prop}
  (hl:typeLookup (.type T) "__getitem__"=pure (some (.builtin id))) (hs:NoSl slice)
  (h:wpAny (model prog w) A (eval value env) (fun o s₁=>wpAny (model prog w) A (eval slice env) (fun i s₂=>s₂.TypeIs o T∧wpAny (model prog w) A (getItem o i) Q E s₂) E s₁) E s) :
  wpAny (model prog w) A (eval (.Subscript value slice pos) env) Q E s:=by
 refine Subscript_ (wpAny_mono h (fun o s₁ h₁=>wpAny_mono h₁ (fun i s₂ h₂=>?_) fun _ _ x=>x) fun _ _ x=>x)
 obtain ⟨hT,h₂⟩:=h₂
 unfold subscriptTail
 refine wpAny_bind ?_
 rw [getitemInPython_of_ne hT.not_modules]
 refine wpAny_bind (wpAny_specialOf hT hl ?_)
 have fin:wpAny (model prog w) A (subscripted slice false o i) (fun r s₃=>wpAny (model prog w) A (letTemporaryGo value o r >>= fun _=>pure r) Q E s₃) E s₂:=by
  rw [hs o i]
  exact wpAny_operating (wpAny_mono h₂ (fun r s₃ h₃=>wpAny_bind (wpAny_letTemporaryGo (wpAny_pure h₃))) fun _ _ x=>x)
 first
  | exact wpAny_pure (wpAny_bind fin)
  | exact wpAny_bind (wpAny_pure (wpAny_bind fin))
  | exact wpAny_bind fin
theorem Zi9 {X:Cx}{pins:List (Addr × Obj)}{σ:St}{H:Hp}{s:Shared}{a:Addr}{y:V}{o:Option V}(I:Inv X pins σ H s)(g:DGet H a y o):s.TypeIs (.ref a) "dict":=by
 rcases g with ⟨kvs,k,e,_,_⟩ | ⟨kvs,k,b,e,_,_,_⟩
 ·obtain ⟨_,_,vs,_,dd⟩:=ZcY I.hok e
  exact dd.typeIs
 ·obtain ⟨_,_,xs,_,dd⟩:=ZeS I.hok e
  exact dd.typeIs
noncomputable def ZpX (td ty:TE):TE:=fun σ H Q=>td σ H fun x H1=>ty σ H1 fun y H2=>∃ a v,x=.ref a∧DGet H2 a y (some v)∧Q v H2
noncomputable def tDIn (ty td:TE):TE:=fun σ H Q=>ty σ H fun y H1=>td σ H1 fun x H2=>∃ a o,x=.ref a∧DGet H2 a y o∧Q (.bl o.isSome) H2
noncomputable def Zcm (td ty tv:TE):TS:=fun D σ H=>tv σ H fun v H1=>td σ H1 fun x H2=>ty σ H2 fun y H3=>∃ a H4,x=.ref a∧DPut H3 a y v H4∧D.nx σ H4
section
variable {X:Cx} {o i e value:Expr} {pos pos' tpos:Pos} {td ty tv:TE}
theorem Znf (hu:X.A.units + 1 < cLine)(ho:PE X o td)(hi:PE X i ty)(hs:NoSl i):PE X (.Subscript o i pos) (ZpX td ty):=by
 intro pins s σ H Q I h
 refine Zno PySem.F.slot_dict_getitem.lookup hs (thn (ho pins s σ H _ I h) fun u s1 ⟨x,H1,I1,rx,q1⟩=>thn (hi pins s1 σ H1 _ I1 q1) fun iv s2 ⟨y,H2,I2,ry,a,v,ex,g,q2⟩=>?_)
 subst ex
 obtain rfl:u=Value.ref a:=rx
 exact ⟨Zi9 I2 g,ZlS hu I2 g ry fun w' s3 I3 rw'=>⟨v,H2,I3,rw',q2⟩⟩
theorem ZoN (hu:X.A.units + 1 < cLine)(hi:PE X i ty)(ho:PE X o td):PC X .In i o (tDIn ty td):=by
 intro pins s σ H Q I h
 refine thn (hi pins s σ H _ I h) fun iv s1 ⟨y,H1,I1,ry,q1⟩=>thn (ho pins s1 σ H1 _ I1 q1) fun u s2 ⟨x,H2,I2,rx,a,ov,ex,g,q2⟩=>?_
 subst ex
 obtain rfl:u=Value.ref a:=rx
 exact d_in hu I2 g ry fun s3 I3=>⟨.bl ov.isSome,H2,I3,rfl,q2⟩
theorem Zdx (hu:X.A.units + 1 < cLine)(ho:PE X o td)(hi:PE X i ty)(hv:PE X value tv)(hs:swapsWith value (some (.Subscript o i pos')) pos.line X.env=pure false) :
  PS X (.Assign [.Subscript o i pos'] value pos) (Zcm td ty tv):=by
 intro pins s σ H D I h
 refine wpAny_Assign_Subscript (thn (hv pins s σ H _ I h) fun r s1 ⟨v,H1,I1,rv,q1⟩=>thn (ho pins s1 σ H1 _ I1 q1) fun u s2 ⟨x,H2,I2,rx,q2⟩=>thn (hi pins s2 σ H2 _ I2 q2) fun iv s3 ⟨y,H3,I3,ry,a,H4,ex,g,q3⟩=>?_) hs
 subst ex
 obtain rfl:u=Value.ref a:=rx
 exact ZlC hu I3 g ry rv fun s4 I4=>⟨σ,H4,I4,q3⟩
end
theorem ZhP {P:Program}{w:World}{H:Hp}(h:Heap)(hb:sysModules < h.objs.size):JC P w H (h.push { cls:=.type "dict",data:=.dict #[] }) h.objs.size (.dK []) :=
 ⟨Nat.zero_le _,beq_eq_false_iff_ne.mpr (Ne.symm (Nat.ne_of_lt hb)),[],.nil,Heap.DictOf.new h⟩
noncomputable def Zpd:TE:=fun _ H Q=>∀ p,H p=none→Q (.ref p) (upd H p (.dK []))
section
variable {X:Cx} {pos:Pos}
theorem ZlY:PE X (.Dict [] [] pos) Zpd:=fun pins s σ H Q I h =>
 wpAny_Dict_empty ⟨.ref s.heap.objs.size,_,I.laid (a:=s.heap.objs.size) (o:=.dK []) (t':=s.toks) (fun _ _ q=>Heap.get?_push_of_some _ q) (Nat.le_refl _) (ZhP s.heap I.big),rfl,h _ (I.hok.fresh (Nat.le_refl _))⟩
end
noncomputable def Zh5:List (TE × TE)→St→Hp→(List (V × V)→Hp→Prop)→Prop
 | [],_,H,Q=>Q [] H
 | (tk,tv)::r,σ,H,Q=>tk σ H fun x H1=>tv σ H1 fun y H2=>Zh5 r σ H2 fun ps H3=>Q ((x,y)::ps) H3
noncomputable abbrev VV:List (V × V)→List (Value × Value)→Prop:=Paired fun p q=>RelV p.1 q.1∧RelV p.2 q.2
noncomputable def PPs (X:Cx) (pos:Pos) (keys:List (Option Expr)) (values:List Expr) (trs:List (TE × TE)):Prop :=
 ∀ (pins:List (Addr × Obj)) (s:Shared) (σ:St) (H:Hp) (Q:List (V × V)→Hp→Prop),Inv X pins σ H s→Zh5 trs σ H Q →
  wpAny (model X.prog X.w) X.A (evalPairs (pairTrees keys values X.env pos)) (fun vs s'=>∃ ps H',Inv X pins σ H' s'∧VV ps vs∧Q ps H') X.xe s
theorem ZnZ {X:Cx}{pos:Pos}:PPs X pos [] [] []:=fun pins s σ H Q I h=>pairTrees_nil_walk ⟨[],H,I,.nil,h⟩
theorem Zmb {X:Cx}{pos:Pos}{k v:Expr}{ks:List (Option Expr)}{vs:List Expr}{tk tv:TE}{trs:List (TE × TE)}(hk:PE X k tk)(hv:PE X v tv)(hr:PPs X pos ks vs trs) :
  PPs X pos (some k::ks) (v::vs) ((tk,tv)::trs):=fun pins s σ H Q I h =>
 pairTrees_cons_walk (thn (hk pins s σ H _ I h) fun u s1 ⟨x,H1,I1,rx,q1⟩=>thn (hv pins s1 σ H1 _ I1 q1) fun w2 s2 ⟨y,H2,I2,ry,q2⟩ =>
  thn (hr pins s2 σ H2 _ I2 q2) fun ws s3 ⟨ps,H3,I3,rel,q3⟩=>⟨(x,y)::ps,H3,I3,.cons ⟨rx,ry⟩ rel,q3⟩)
noncomputable def Zev (kvs more:List (Key × V)):List (Key × V):=more.foldl (fun acc kv=>putK acc kv.1 kv.2) kvs
theorem KV.merge:∀ {more:List (Key × V)} {rs:List (Key × Value)} {kvs:List (Key × V)} {vs:List (Key × Value)},KV more rs→KV kvs vs→KV (Zev kvs more) (merged vs rs):=by
 intro more rs kvs vs r
 unfold KV at r
 induction r generalizing kvs vs with
 | nil=>intro q;exact q
 | @cons p q ps qs h t ih =>
  intro r0
  have e:KV (putK kvs p.1 p.2) (stored vs q.1 q.2):=by
   have:=r0.put p.1 h.2
   rw [← h.1];exact this
  exact ih e
theorem ZdM:∀ (more kvs:List (Key × V)),(Zev kvs more).length≤kvs.length + more.length
 | [],kvs=>by show kvs.length≤kvs.length + 0;omega
 | p::r,kvs=>by
  have h1:=ZdM r (putK kvs p.1 p.2)
  have h2:=Zc5 kvs p.1 p.2
  show (Zev (putK kvs p.1 p.2) r).length≤_
  rw [List.length_cons];omega
theorem Zgh {P:Program}{w:World}:∀ {kvs:List (Key × V)} {ws:List (Value × Value)},VV (kvs.map fun kv=>(kV kv.1,kv.2)) ws→∃ rs,Carries (Yx P w) ws rs∧KV kvs rs
 | [],_,r=>by rw [List.map_nil] at r;cases r;exact ⟨[],True.intro,.nil⟩
 | p::kvs,_,r=>by
  rw [List.map_cons] at r
  cases r with
  | @cons a b as bs h t =>
   obtain ⟨rs,c,q⟩:=Zgh (P:=P) (w:=w) t
   obtain ⟨b1,b2⟩:=b
   exact ⟨(p.1,b2)::rs,⟨Ze3 h.1,rfl,c⟩,.cons ⟨rfl,h.2⟩ q⟩
noncomputable def ZpS (trs:List (TE × TE)):TE:=fun σ H Q=>∀ p,H p=none→Zh5 trs σ (upd H p (.dK [])) fun ps H2=>H2 p=some (.dK [])∧∃ kvs:List (Key × V),ps=kvs.map (fun kv=>(kV kv.1,kv.2))∧kvs.length≤15∧Q (.ref p) (upd H2 p (.dK (Zev [] kvs)))
theorem Znr {X:Cx}{pos:Pos}{keys:List (Option Expr)}{values:List Expr}{trs:List (TE × TE)}(h:PPs X pos keys values trs)(hall:keys.all (·.isSome)=true)(hl:keys.length=values.length)(h0:keys≠[])
  (h15:keys.length≤15):PE X (.Dict keys values pos) (ZpS trs):=by
 intro pins s σ H Q I q
 have hn:=I.hok.fresh (Nat.le_refl s.heap.objs.size)
 have I1:=I.laid (a:=s.heap.objs.size) (o:=.dK []) (h':=s.heap.push { cls:=.type "dict",data:=.dict #[] }) (t':=s.toks) (fun _ _ q=>Heap.get?_push_of_some _ q) (Nat.le_refl _) (ZhP s.heap I.big)
 refine wpAny_Dict_walk (knd:=Yx X.prog X.w) hall hl h0 h15 (thn (h pins _ σ _ _ I1 (q _ hn)) fun ws s2 ⟨ps,H2,I2,rel,e,kvs,ep,lk,q2⟩=>?_)
 subst ep
 obtain ⟨rs,c,rk⟩:=Zgh (P:=X.prog) (w:=X.w) rel
 obtain ⟨z,hd,vs0,r0,dd⟩:=ZmW I2.hok e
 cases r0
 refine ⟨rs,c,dd,fun h' dd' hs=>⟨.ref s.heap.objs.size,_,?_,rfl,q2⟩⟩
 have hz:(Zev [] kvs).length≤sizeLine:=by
  have h1:=ZdM kvs []
  rw [List.length_nil] at h1
  rw [sizeLine_eq];omega
 have he:∃ q,h'.get? s.heap.objs.size=some q:=let ⟨q,_,_,hq,_⟩:=dd';⟨q,hq⟩
 exact ZgY I2 (by rw [e];exact True.intro) hs he (ZhT hz hd (rk.merge .nil) dd')
structure M2 (X:Cx)(o:Expr)(m:Str)(apos:Pos)(e f:Expr)(cpos:Pos):Prop where
 base:attributeBase o m X.env (eval o X.env)=eval o X.env
 few:((backTo cpos (starEach [e,f] X.env)).all (fun x=>!x.1) && (backToKw cpos (keywordEach [] X.env)).all (fun x=>x.1.isSome)
  && decide (([e,f]:List Expr).length + ([]:List Keyword).length + (if ([]:List Keyword).isEmpty then 0 else 1) < 30))=true
 line:(apos.endLine == cpos.line)=true
 trees:backTo cpos (starEach [e,f] X.env)=[(false,eval e X.env),(false,eval f X.env)]
noncomputable def IsD (H:Hp) (a:Addr):Prop:=(∃ kvs,Rd H a (.dK kvs))∨∃ kvs,Rd H a (.dT kvs)
theorem ZoH {X:Cx}{pins:List (Addr × Obj)}{σ:St}{H:Hp}{s:Shared}{a:Addr}(I:Inv X pins σ H s)(d:IsD H a) :
  s.TypeIs (.ref a) "dict"∧(∀ b,Value.ref a=.ref b→∃ ob,s.heap.get? b=some ob∧ob.dict=none)∧(a == sysModules)=false:=by
 rcases d with ⟨kvs,e⟩ | ⟨kvs,e⟩
 ·obtain ⟨_,hd,vs,_,dd⟩:=ZcY I.hok e
  refine ⟨dd.typeIs,fun b q=>?_,hd⟩
  cases q
  obtain ⟨ob,_,_,h1,h2,_⟩:=dd
  exact ⟨ob,h1,h2.2.1⟩
 ·obtain ⟨_,hd,xs,_,dd⟩:=ZeS I.hok e
  refine ⟨dd.typeIs,fun b q=>?_,hd⟩
  cases q
  obtain ⟨ob,_,_,h1,h2,_⟩:=dd
  exact ⟨ob,h1,h2.2.1⟩
section
variable {X:Cx} {pins:List (Addr × Obj)} {σ:St} {H:Hp} {s:Shared} {a:Addr} {y d:V} {u r:Value} {o:Option V} {A:Around} {E:Value→Shared→Prop}
theorem Zo1 {Q:Value→Shared→Prop}(hu:A.units + 1 < cLine)(I:Inv X pins σ H s)(g:DGet H a y o)(ry:RelV y u)(rd:RelV d r)(h:∀ w' s',Inv X pins σ H s'→RelV (o.getD d) w'→Q w' s') :
  wpAny (model X.prog X.w) A (call (.builtin "dict.get") [.ref a,u,r]) Q E s:=by
 rcases g with ⟨kvs,k,e,ey,l⟩ | ⟨kvs,k,b,e,ey,eb,l⟩
 ·subst ey
  obtain ⟨z,hd,vs,rel,dd⟩:=ZcY I.hok e
  refine call_meetsIn PySem.F.slot_dict_get dd.typeIs PySem.F.entry_dict_get (PySem.F.args_dict_get_3 _ _ _) (meets_dict_get_default (Yx X.prog X.w) a (Ze3 ry) hd r) ⟨_,dd.mapOf,h _ _ (I.tok _) ?_⟩
  rw [l]
  exact (rel.val k).getD rd
 ·subst ey
  cases (show u=Value.ref b from ry)
  obtain ⟨z,hd,xs,rel,dd⟩:=ZeS I.hok e
  refine call_meetsIn PySem.F.slot_dict_get dd.typeIs PySem.F.entry_dict_get (PySem.F.args_dict_get_3 _ _ _) (meetsH_dict_get_default (tupleKind (Yx X.prog X.w)) a b hd r) ⟨tupleKind_room_in1 hu,k,xs,ZeF I.hok eb,dd,h _ _ (I.tok _) ?_⟩
  rw [l]
  exact (rel.val k).getD rd
end
noncomputable def Zo0 (td ty tx:TE):TE:=fun σ H Q=>td σ H fun x H1=>∃ a,x=.ref a∧IsD H1 a∧ty σ H1 fun y H2=>tx σ H2 fun z H3=>∃ o,DGet H3 a y o∧Q (o.getD z) H3
section
variable {X:Cx} {o e f:Expr} {apos cpos:Pos} {td ty tx:TE}
theorem Zmk (hu:X.A.units + 1 < cLine) (ho:PE X o td) (he:PE X e ty) (hf:PE X f tx) (m:M2 X o "get" apos e f cpos):PE X (.Call (.Attribute o "get" apos) [e,f] [] cpos) (Zo0 td ty tx):=by
 intro pins s σ H Q I h
 refine wpAny_Call_method m.base m.few m.line PySem.F.plainAttrs_dict PySem.F.slot_dict_get PySem.F.type_dict_get (thn (ho pins s σ H _ I h) fun u s1 ⟨x,H1,I1,rx,a,ex,d,q1⟩=>?_)
 subst ex
 obtain rfl:u=Value.ref a:=rx
 obtain ⟨t1,t2,_⟩:=ZoH I1 d
 refine ⟨t1,t2,?_⟩
 rw [m.trees]
 refine Calls.callWith_builtin rfl (Calls.evalArgs_plain (Calls.spliced_cons (thn (he pins s1 σ H1 _ I1 q1) fun iv s2 ⟨y,H2,I2,ry,q2⟩ =>
  Calls.spliced_cons (thn (hf pins s2 σ H2 _ I2 q2) fun fv s3 ⟨z,H3,I3,rz,ov,g,q3⟩=>Calls.spliced_nil ?_))))
 exact Zo1 hu I3 g ry rz fun w' s4 I4 rw'=>⟨_,H3,I4,rw',q3⟩
end
section
variable {X:Cx} {pins:List (Addr × Obj)} {σ:St} {H:Hp} {s:Shared} {a:Addr} {kvs:List (Key × V)} {A:Around} {E:Value→Shared→Prop}
theorem Zmr {Q:Value→Shared→Prop}(I:Inv X pins σ H s)(e:Rd H a (.dK kvs))(h:∀ p s',H p=none→Inv X pins σ (upd H p (.dK kvs)) s'→Q (.ref p) s'):wpAny (model X.prog X.w) A (call (.type "dict") [.ref a]) Q E s:=by
 obtain ⟨z,hd,vs,rel,dd⟩:=ZcY I.hok e
 refine kt_call_dict hd dd (by rw [← rel.length];exact z) fun h' dd' hs=>?_
 refine h _ _ (I.hok.fresh (Nat.le_refl _)) (I.laid (a:=s.heap.objs.size) (o:=.dK kvs) (t':=s.toks) (fun b q hq=>?_) (Nat.le_refl _) (ZhT z (beq_eq_false_iff_ne.mpr (Ne.symm (Nat.ne_of_lt I.big))) rel dd'))
 exact (hs.2 b (Nat.ne_of_lt (Heap.lt_size hq))).trans (Heap.get?_push_of_some _ hq)
end
section
variable {X:Cx} {pins:List (Addr × Obj)} {σ:St} {H:Hp} {s:Shared} {a:Addr} {y:V} {u:Value} {A:Around} {E:Value→Shared→Prop}
end
end L2
namespace L2
open PySem PySem.Spec PyProof.Rows
section
variable {X:Cx}
end
end L2
set_option linter.all false
set_option Elab.async false
namespace PV
open PySem (Str)
noncomputable def dget (kvs:List (Int × Int)) (k:Int):Option Int:=(kvs.find? fun p=>decide (p.1=k)).map (·.2)
noncomputable def dput (kvs:List (Int × Int)) (k v:Int):List (Int × Int) :=
 if (kvs.any fun p=>decide (p.1=k))=true then kvs.map (fun p=>if p.1=k then (p.1,v) else p) else kvs++[(k,v)]
noncomputable def Zkk:D→D→Option D
 | .dct kvs,.int k=>match dget kvs k with
  | some v=>some (.int v)
  | none=>none
 | _,_=>none
noncomputable def Zbx (a b:Ex):Ex:=eF2 Zkk a b
noncomputable def ZhJ (i:Nat) (b c:Ex):Ex:=fun env=>match env[i]?,b env,c env with
 | some (.dc kvs),some (.int k),some (.int x)=>some (.int ((dget kvs k).getD x))
 | _,_,_=>none
noncomputable def tInD (a b:Ex):Tx:=fun env=>match a env,b env with
 | some (.int k),some (.dct kvs)=>some (dget kvs k).isSome
 | _,_=>none
noncomputable def Ze9 (a b:Ex):Ex:=fun env=>match a env,b env with
 | some (.int k),some (.int v)=>some (.dct [(k,v)])
 | _,_=>none
noncomputable def ZcT:D→Option D
 | .dct kvs=>some (.int kvs.length)
 | _=>none
noncomputable def Zco (a:Ex):Lx:=fun env=>match a env with
 | some (.dct kvs)=>some (kvs.map fun p=>.int p.1)
 | _=>none
noncomputable def ZeO (i:Nat) (e:Ex):St:=fun env=>match e env with
 | some (.dct kvs)=>some (.nx,env.set i (.dc kvs))
 | _=>none
noncomputable def ZjY (i:Nat):St:=fun env=>some (.nx,env.set i (.dc []))
noncomputable def Zcm (i:Nat) (a e:Ex):St:=fun env=>match env[i]?,e env,a env with
 | some (.dc kvs),some (.int v),some (.int k)=>if kvs.length < lim then some (.nx,env.set i (.dc (dput kvs k v))) else none
 | _,_,_=>none
noncomputable def Zdn:D→Option D
 | .lst xs=>match Jx xs with
  | some ns=>if ns.length≤3000 then some (.int (seen ns).length) else none
  | none=>none
 | _=>none
end PV
namespace PV
end PV
namespace PV
noncomputable def Zaf:Nat→List D→List D
 | _,[]=>[]
 | k,d::ds=>.tup [.int k,d]::Zaf (k + 1) ds
noncomputable def Zgk (a:Ex):Lx:=fun env=>match a env with
 | some (.lst xs)=>some (Zaf 0 xs)
 | _=>none
end PV
set_option linter.all false
set_option Elab.async false
set_option maxRecDepth 100000
set_option maxHeartbeats 4000000
namespace PV
open PySem PySem.Spec PyProof.Rows
open L2 (V Hp HO Vals SqL SqT Same upd Cx PE PT PW PA PS PSs TE TT TA TS Inv RelV Yc Jd Jc Un)
theorem ZiC (kvs:List (Int × Int))(k:Int):L2.valV (kvV kvs) (Sum.inl k:L2.Key)=(dget kvs k).map V.int:=by
 unfold L2.valV kvV dget
 rw [List.find?_map]
 have e:((fun kv:L2.Key × V=>decide (kv.1=(Sum.inl k:L2.Key))) ∘ fun p:Int × Int=>((Sum.inl p.1:L2.Key),V.int p.2))=fun p:Int × Int=>decide (p.1=k):=by
  funext p
  simp
 rw [e]
 cases kvs.find? fun p=>decide (p.1=k) <;> rfl
theorem Zpb (kvs:List (Int × Int))(k v:Int):L2.putK (kvV kvs) (Sum.inl k:L2.Key) (V.int v)=kvV (dput kvs k v):=by
 unfold L2.putK dput
 have e:((kvV kvs).any fun kv=>decide (kv.1=(Sum.inl k:L2.Key)))=kvs.any fun p=>decide (p.1=k):=by
  unfold kvV
  rw [List.any_map]
  congr 1
  funext p
  simp
 rw [e]
 split
 ·unfold kvV
  rw [List.map_map,List.map_map]
  refine List.map_congr_left fun p _=>?_
  simp only [Function.comp]
  by_cases h:p.1=k
  ·rw [if_pos h,if_pos (by rw [h])]
  ·rw [if_neg h,if_neg (fun e=>h (Sum.inl.inj e))]
 ·unfold kvV
  rw [List.map_append]
  rfl
theorem Zde {K:PySem.W.Frag}{H:Hp}{kvs:List (Int × Int)}{v:V}(h:Rep K H (.dct kvs) v):∃ a o,v=.ref a∧H a=some (.frz o (.dK (kvV kvs))):=by simpa [Rep] using h
theorem ZiD {H:Hp}{a:Addr}{o:Obj}{kvs:List (L2.Key × V)}{k:L2.Key}(e:H a=some (.frz o (.dK kvs))):L2.DGet H a (L2.kV k) (L2.valV kvs k):=.inl ⟨kvs,k,.inr ⟨o,e⟩,rfl,rfl⟩
section
variable {X:Cx} {m m1 m2 m3:Md} {r:RetP} {a b c e:Expr} {f g h:Ex} {pos p p2 pos':Pos}
theorem Zda (hu:X.A.units + 64 < cLine)(ha:PD X m1 a f)(hb:PD X m2 b g)(hs:L2.NoSl b:=by exact fun _ _=>rfl):PD X m (.Subscript a b pos) (Zbx f g) :=
 PD.mk <| PE.of (L2.Znf (by omega) ha.r.h hb.r.h hs) fun σ H Q hh_=>el9 hh_ fun BF BH F env L d S e q=>by
  unfold Zbx eF2 at e
  split at e
  ·rename_i x y h1 h2
   unfold Zkk at e
   split at e
   ·split at e
    ·rename_i kvs k _ v hv
     cases e
     refine two S h1 h2 fun v' w F' H' z r1 r2=>?_
     obtain ⟨p,o,rfl,hp⟩:=Zde r1
     refine ⟨p,.int v,rfl,?_,q _ F' H' z (by simp [Rep])⟩
     rw [Zr r2]
     have:=ZiD (k:=(Sum.inl k:L2.Key)) hp
     rw [ZiC,hv] at this
     exact this
    ·cases e
   ·cases e
  ·cases e
theorem Zol (hu:X.A.units + 64 < cLine)(ha:PD X m1 a f)(hb:PD X m2 b g)(hm:behindInMarks .In b=false:=by with_unfolding_all rfl):PTd X (.Compare a [.In] [b] pos) (tInD f g) :=
 PT.of (L2.ZaV (L2.ZoN (by omega) ha.r.h hb.r.h) hm) fun σ H Q hh_=>el9 hh_ fun BF BH F env L d S e q=>by
  unfold tInD at e
  split at e
  ·rename_i k kvs h1 h2
   cases e
   refine two S h1 h2 fun v' w F' H' z r1 r2=>?_
   obtain ⟨p,o,rfl,hp⟩:=Zde r2
   have e2:((dget kvs k).map V.int).isSome=(dget kvs k).isSome:=by cases dget kvs k <;> rfl
   refine ⟨p,(dget kvs k).map V.int,rfl,?_,_,rfl,by rw [e2];exact q F' H' z⟩
   rw [Zr r1]
   have:=ZiD (k:=(Sum.inl k:L2.Key)) hp
   rw [ZiC] at this
   exact this
  ·cases e
theorem Znn (hu:X.A.units + 64 < cLine) (i:Nat) {x:Str} {p1 p3 p4:Pos} (hb:PD X m2 b g) (hc:PD X m3 c h) (hN:X.N[i]?=some x:=by kernel_rfl) (hv:visB X.env.scope x=true:=by kernel_rfl) (hd:(x == ("__debug__":Str))=false:=by kernel_rfl)
  (hcd:(x == ("__classdict__":Str))=false:=by kernel_rfl)
  (hbase:attributeBase (.Name x p1) "get" X.env (eval (.Name x p1) X.env)=eval (.Name x p1) X.env:=by rfl) (hline:(p3.endLine == p4.line)=true:=by rfl)
  (hfew:((backTo p4 (starEach [b,c] X.env)).all (fun x=>!x.1) && (backToKw p4 (keywordEach [] X.env)).all (fun x=>x.1.isSome)
  && decide (([b,c]:List Expr).length + ([]:List Keyword).length + (if ([]:List Keyword).isEmpty then 0 else 1) < 30))=true:=by rfl)
  (htr:backTo p4 (starEach [b,c] X.env)=[(false,eval b X.env),(false,eval c X.env)]:=by rfl):PD X m (.Call (.Attribute (.Name x p1) "get" p3) [b,c] [] p4) (ZhJ i g h) :=
 PD.mk <| PE.of (L2.Zmk (by omega) (L2.Zag hN (JZ hv) hd hcd) hb.r.h hc.r.h ⟨hbase,hfew,hline,htr⟩) fun σ H Q hh_=>el9 hh_ fun BF BH F env L d S e q=>by
  unfold ZhJ at e
  split at e
  ·rename_i kvs k x h1 h2 h3
   cases e
   obtain ⟨ov,hσ,hso⟩:=S.sl i _ h1
   obtain ⟨p,rfl,hl,hp⟩:=hso
   refine ⟨_,hσ,p,rfl,.inl ⟨_,.inl hp⟩,BF,BH,F,env,L,_,S,h2,fun v2 F2 H2 z2 r2=>⟨BF,BH,F2,env,L,_,S.ext z2,h3,fun v3 F3 H3 z3 r3=>?_⟩⟩
   have hp3:H3 p=some (.dK (kvV kvs)):=z3.hh _ _ (z2.hh _ _ hp)
   have g1:=L2.DGet.k (k:=(Sum.inl k:L2.Key)) hp3
   rw [ZiC] at g1
   refine ⟨_,by rw [Zr r2];exact g1,?_⟩
   rw [Zr r3]
   have e2:((dget kvs k).map V.int).getD (.int x)=.int ((dget kvs k).getD x):=by cases dget kvs k <;> rfl
   rw [e2]
   exact q _ F3 H3 (z2.trans z3) (by simp [Rep])
  ·cases e
theorem Zk3:L2.ZbB X (.builtin "len") (fun xs H Q=>∃ a o kvs,xs=[V.ref a]∧H a=some (.frz o (.dK kvs))∧Q (.int kvs.length) H):=by
 intro pins s σ H xs us Q I r h
 obtain ⟨a,o,kvs,rfl,ha,q⟩:=h
 obtain ⟨u,rfl,ru⟩:=r.one
 cases ru
 exact L2.ZpK I (.inr ⟨o,ha⟩) fun t s' I'=>⟨.int kvs.length,H,I',⟨t,rfl⟩,q⟩
theorem ZeQ {p:Pos} (T:Bt X.mg) (ha:PD X m1 a f) (hg:X.env.kindOf "len"=some .globalImplicit:=by kernel_rfl) (hs:nst a=true:=by rfl):PD X m (.Call (.Name "len" p) [a] [] pos) (eF1 ZcT f) :=
 Zkt Zk3 T.len PySem.boot_len (fun d y H' v Q e r k=>by
  unfold ZcT at e
  split at e
  ·cases e
   obtain ⟨p,o,rfl,hp⟩:=Zde r
   refine ⟨⟨p,o,_,rfl,hp,?_⟩,rfl⟩
   have:(kvV ‹_›).length=List.length ‹_›:=by unfold kvV;exact List.length_map ..
   rw [this]
   exact k _ (by simp [Rep])
  ·cases e) ha hg (by decide) (by decide) hs
noncomputable def tDN (K:PySem.W.Frag) (f:Ex):TE:=fun σ H Q=>∃ BF BH F env L kvs,SOk K BF BH F H σ env L∧f env=some (.dct kvs)∧∀ a F' H',Ext F H F' H'→H a=none→H' a=some (.dK (kvV kvs))→F' a=none→Q (.ref a) H'
theorem Znl (h:PE X e (tDN X.K f))(hf:∀ env d,f env=some d→∃ kvs,d=.dct kvs):PD X .k e f:=PD.mk fun pins s σ H Q I hh_=>el9 hh_ fun BF BH F env L d S e q=>by
 obtain ⟨kvs,rfl⟩:=hf env d e
 refine L2.thn (h pins s σ H (fun v H'=>∃ a F',v=.ref a∧Ext F H F' H'∧H a=none∧H' a=some (.dK (kvV kvs))∧F' a=none) I ⟨BF,BH,F,env,L,kvs,S,e,fun a F' H' z h0 h1 h2=>⟨a,F',rfl,z,h0,h1,h2⟩⟩) fun u s' ⟨v,H',I',rv,a,F',e1,z,h0,h1,h2⟩=>?_
 subst e1
 obtain ⟨o,I2⟩:=ZiA I' h1
 refine ⟨.ref a,_,I2,rv,q _ (upd F' a (.frz o (.dK (kvV kvs)))) _ ⟨fun b o hb=>?_,fun b o hb=>?_,fun b o hb=>?_,fun b o hb=>?_⟩ ?_⟩
 ·have hne:b≠a:=Jc hb h0
  rw [Jd hne];exact z.hh _ _ hb
 ·have hne:b≠a:=Jc (S.fh _ _ hb) h0
  rw [Jd hne];exact z.ff _ _ hb
 ·by_cases hbp:b=a
  ·subst hbp;exact .inr h0
  ·rw [Jd hbp] at hb;exact z.dm _ _ hb
 ·by_cases hbp:b=a
  ·subst hbp;rw [Yc] at hb ⊢;exact hb
  ·rw [Jd hbp] at hb ⊢;exact z.fh _ _ hb
 ·show Rep X.K (upd F' a (.frz o (.dK (kvV kvs)))) (.dct kvs) (.ref a)
  simp only [Rep]
  exact ⟨a,o,rfl,Yc⟩
theorem Zoc (ha:PD X m1 a f)(hb:PD X m2 b g):PD X .k (.Dict [some a] [b] pos) (Ze9 f g) :=
 Znl (PE.of (L2.Znr (L2.Zmb ha.r.h hb.r.h L2.ZnZ) rfl rfl (by simp) (by simp)) fun σ H Q hh_=>el9 hh_ fun BF BH F env L kvs S e q=>by
  unfold Ze9 at e
  split at e
  ·rename_i k v h1 h2
   cases e
   intro p hp
   have z0:=Ext.own (o:=HO.dK []) S.fh hp
   refine two (S.ext z0) h1 h2 fun v' w F' H' z r1 r2=>?_
   have hp':H' p=some (.dK []):=z.hh _ _ Yc
   refine ⟨hp',[(Sum.inl k,.int v)],by rw [Zr r1,Zr r2];rfl,by simp,?_⟩
   have zz:=z0.trans z
   have fp:F' p=none:=by
    cases hq:F' p with
    | none=>rfl
    | some o =>
     rcases z.dm p o hq with h' | h'
     ·rw [S.fh.free hp] at h';cases h'
     ·rw [Yc] at h';cases h'
   refine q p F' _ ⟨fun b o hb=>?_,zz.ff,zz.dm,fun b o hb=>?_⟩ hp Yc fp
   ·have hne:b≠p:=Jc hb hp
    rw [Jd hne];exact zz.hh _ _ hb
   ·have hne:b≠p:=Jc hb fp
    rw [Jd hne];exact zz.fh _ _ hb
  ·cases e) fun env d h=>by
  unfold Ze9 at h
  split at h
  ·cases h;exact ⟨_,rfl⟩
  ·cases h
theorem Zi8:L2.ZbB X (.type "dict") (fun xs H Q=>∃ a o kvs,xs=[.ref a]∧H a=some (.frz o (.dK kvs))∧∀ p,H p=none→Q (.ref p) (upd H p (.dK kvs))):=by
 intro pins s σ H xs us Q I r h
 obtain ⟨a,o,kvs,rfl,ha,q⟩:=h
 obtain ⟨u,rfl,ru⟩:=r.one
 cases ru
 exact L2.Zmr I (.inr ⟨o,ha⟩) fun p s' hp I'=>⟨.ref p,_,I',rfl,q p hp⟩
theorem Zlp {K:PySem.W.Frag}{BF BH F F' H H':Hp}{σ:L2.St}{env:Env}{L:Nat→List Addr}(S:SOk K BF BH F H σ env L)(z:Ext F H F' H')(i:Nat){p:Addr}{kvs:List (Int × Int)}(h0:H p=none)(h1:H' p=some (.dK (kvV kvs)))(h2:F' p=none) :
  SOk K BF BH F' H' (σ.set i (some (.ref p))) (env.set i (.dc kvs)) (putL L i [p]) :=
 (S.ext z).set i ⟨p,rfl,rfl,h1⟩ (fun a h=>by
  rw [List.mem_singleton] at h;subst h
  exact ⟨h2,S.s0.free h0,by rw [h1];simp⟩) (fun a h j hj hm=>by
  rw [List.mem_singleton] at h;subst h
  exact (S.ow j a hm).2.2 h0)
theorem Zjx (nd:X.N.Nodup) (i:Nat) {x:Str} {p3:Pos} (T:Bt X.mg) (ha:PD X m1 a f) (hg:X.env.kindOf "dict"=some .globalImplicit:=by kernel_rfl) (hst:nst a=true:=by rfl) (hi:X.N[i]?=some x:=by kernel_rfl) (hx:locB X.env.scope x=true:=by kernel_rfl) (hs:swapsWith (.Call (.Name "dict" p) [a] [] p3) (some (.Name x pos')) pos.line X.env=pure false:=by rfl)
  (hf:fnB X x=true:=by kernel_rfl):PS1 X r (.Assign [.Name x pos'] (.Call (.Name "dict" p) [a] [] p3) pos) (ZeO i f) :=
 PS1.mk <| PS.of (L2.Zdy nd hi (Zak hx) (L2.Zb9 Zi8 hg T.dict (by decide +kernel) (L2.Jv ha.r.h L2.YG (Jq hst)) (by decide) (by decide) (Jk hst) rfl) hs (ZaH hf)) fun D0 σ H hh_=>el10 hh_ fun BF BH F env L o env' S e k=>by
  unfold ZeO at e
  split at e
  ·rename_i kvs h1
   cases e
   refine ⟨BF,BH,F,env,L,_,S,h1,fun v F' H' z rv=>?_⟩
   obtain ⟨p,o,rfl,hp⟩:=Zde rv
   refine ⟨p,o,_,rfl,hp,fun q hq=>?_⟩
   exact k F' _ _ _ (Zlp S (z.trans (Ext.own z.fh hq)) i (z.hh.free hq) Yc (z.fh.free hq)) z.ff
  ·cases e
theorem Znx (nd:X.N.Nodup)(i:Nat){x:Str}{p3:Pos}(hi:X.N[i]?=some x:=by kernel_rfl)(hx:locB X.env.scope x=true:=by kernel_rfl)(hs:swapsWith (.Dict [] [] p3) (some (.Name x pos')) pos.line X.env=pure false:=by rfl)
  (hf:fnB X x=true:=by kernel_rfl):PS1 X r (.Assign [.Name x pos'] (.Dict [] [] p3) pos) (ZjY i) :=
 PS1.mk <| PS.of (L2.Zdy nd hi (Zak hx) L2.ZlY hs (ZaH hf)) fun D0 σ H hh_=>el10 hh_ fun BF BH F env L o env' S e k=>by
  cases e
  exact fun q hq=>k F _ _ _ (Zlp S (Ext.own S.fh hq) i hq Yc (S.fh.free hq)) (.refl _)
theorem Zdx (hu:X.A.units + 64 < cLine) (i:Nat) {x:Str} {p1:Pos} (hb:PD X m1 b g) (ha:PD X m2 e f) (hN:X.N[i]?=some x:=by kernel_rfl) (hv:visB X.env.scope x=true:=by kernel_rfl) (hd:(x == ("__debug__":Str))=false:=by kernel_rfl)
  (hcd:(x == ("__classdict__":Str))=false:=by kernel_rfl) (hs:swapsWith e (some (.Subscript (.Name x p1) b pos')) pos.line X.env=pure false:=by rfl):PS1 X r (.Assign [.Subscript (.Name x p1) b pos'] e pos) (Zcm i g f) :=
 PS1.mk <| PS.of (L2.Zdx (by omega) (L2.Zag hN (JZ hv) hd hcd) hb.r.h ha.r.h hs) fun D0 σ H hh_=>el10 hh_ fun BF BH F env L o env' S e k=>by
  unfold Zcm at e
  split at e
  ·rename_i kvs v kk he h1 h2
   split at e
   ·rename_i hlen
    cases e
    obtain ⟨ov,hσ,hso⟩:=S.sl i _ he
    obtain ⟨p,rfl,hl,hp⟩:=hso
    refine ⟨BF,BH,F,env,L,_,S,h1,fun v1 F1 H1 z1 r1=>⟨_,hσ,BF,BH,F1,env,L,_,S.ext z1,h2,fun v2 F2 H2 z2 r2=>?_⟩⟩
    have z:=z1.trans z2
    have hp2:H2 p=some (.dK (kvV kvs)):=z.hh _ _ hp
    refine ⟨p,_,rfl,by rw [Zr r1,Zr r2];exact L2.DPut.k (k:=(Sum.inl kk:L2.Key)) hp2 (by unfold kvV;rw [List.length_map];exact Nat.lt_of_lt_of_le hlen Zd0),?_⟩
    rw [Zpb]
    refine k F2 _ σ L ((S.ext z).own (i:=i) (a:=p) (by rw [hl];simp) _ fun s ov e1 e2 e3=>?_) z.ff
    rw [hσ] at e2;cases e2
    exact ⟨p,rfl,hl,Yc⟩
   ·cases e
  ·cases e
end
end PV
set_option linter.all false
set_option Elab.async false
set_option maxRecDepth 100000
set_option maxHeartbeats 4000000
namespace PV
open PySem PySem.Spec PyProof.Rows
open L2 (V Hp HO Vals SqL SqT Same upd Cx PE PT PW PA PS PSs TE TT TA TS Inv RelV Yc Jd Jc Un)
noncomputable def Itk (a:Addr) (o:Obj) (kvs:List (L2.Key × V)):L2.It :=
 ⟨fun i H=>H a=some (.frz o (.dK kvs))∧i < kvs.length,fun i H x H'=>H'=H∧∃ p,kvs[i]?=some p∧x=L2.kV p.1,fun i H=>H a=some (.frz o (.dK kvs))∧kvs.length≤i⟩
theorem Zns {P:Program}{w:World}{k:L2.Key}{u:Value}(h:(L2.Yx P w).is k u=true):RelV (L2.kV k) u:=by
 rcases L2.YC (k:=k) (v:=u) h with ⟨i,t,rfl,rfl⟩ | ⟨x,t,rfl,rfl⟩
 ·exact ⟨t,rfl⟩
 ·exact ⟨t,rfl⟩
theorem ZiH {X:Cx}{pins:List (Addr × Obj)}{σ:L2.St}{H:Hp}{s:Shared}(I:Inv X pins σ H s){a:Addr}{o:Obj}{kvs:List (L2.Key × V)}(h:H a=some (.frz o (.dK kvs))) :
  ∃ vs es ep,L2.KV kvs vs∧o.data=.dict es ep∧s.heap.DictAt (L2.Yx X.prog X.w) a vs ep∧(a == sysModules)=false:=by
 obtain ⟨h0,z,y,vs,r,ob,es,ep,e,c1,c2,c3⟩:=I.hok a _ h
 rw [h0] at e;cases e
 exact ⟨vs,es,ep,r,c2,⟨o,es,h0,c1,c2,c3⟩,y⟩
theorem ZkH {P:Program}{w:World}{K:PySem.W.Frag}{tg:Expr}(a it:Addr)(o:Obj)(kvs:List (L2.Key × V))(ep:Nat)(hep:∃ es,o.data=.dict es ep):L2.Turn P w K tg (Itk a o kvs) [it] it (fun i h=>h.IsKeyIter it a i kvs.length ep) where
 mem:=by simp
 obj:=fun i h st b hb=>by
  have e:b=it:=by simpa using hb
  subst e
  obtain ⟨o,e,c,d⟩:=st
  exact ⟨o,e,fun v z=>by rw [d] at z;cases z⟩
 keep:=fun i h h' st k=>st.at fun o e=>k it (by simp) o e
 item:=by
  intro X hP hw hK hc i pins s σ H E I hf st hg
  subst hP hw hK
  obtain ⟨h1,h2⟩:=hg
  obtain ⟨vs,es,ep',r,hd,hm,_⟩:=ZiH I h1
  have eep:ep'=ep:=by
   obtain ⟨es',hep⟩:=hep
   rw [hd] at hep
   cases hep;rfl
  subst eep
  obtain ⟨f0,f1,f2,f3,f4,f5⟩:=hf it (by simp)
  have hlen:kvs.length=vs.length:=r.length
  have hk:=r.keys
  have hi:i < vs.length:=by omega
  have hkey:vs[i].1=kvs[i].1:=by
   have:=congrArg (fun l=>l[i]?) hk
   simpa [h2,hi] using this.symm
  rw [hlen] at st
  refine wpAny_pyNext_dict_item st hm (k:=vs[i].1) (v:=vs[i].2) (by simp [hi]) fun key h' hkk st' sb=>?_
  have I1:Inv X pins σ H { s with heap:=h' }:=I.turned (t':=s.toks) (fun b o hb e=>(sb.2 b hb).trans e) f0 f1 f3 f4 f5
  obtain ⟨oi,e,c,d⟩:=id st'
  rw [← hlen] at st'
  exact ⟨key,rfl,L2.ZhI (s:={ s with heap:=h' }) e c d (by decide) ⟨L2.kV kvs[i].1,H,I1,by rw [← hkey];exact Zns hkk,⟨rfl,kvs[i],by simp [h2],rfl⟩,st',fun b hb=>(hf b hb).1⟩⟩
 done:=by
  intro X hP hw hK hc i pins s σ H E I hf st hg
  subst hP hw hK
  obtain ⟨h1,h2⟩:=hg
  obtain ⟨vs,es,ep',r,hd,hm,_⟩:=ZiH I h1
  have eep:ep'=ep:=by
   obtain ⟨es',hep⟩:=hep
   rw [hd] at hep
   cases hep;rfl
  subst eep
  obtain ⟨f0,f1,f2,f3,f4,f5⟩:=hf it (by simp)
  have hlen:kvs.length=vs.length:=r.length
  rw [hlen] at st
  exact wpAny_pyNext_dict_end (I.ok.hd hc) st hm (by simp;omega) fun h' eb=>⟨rfl,I.turned (t':=s.toks) (fun b o hb e=>eb b o hb e) f0 f1 f3 f4 f5⟩
 self:=fun _ _ _ _ _ st h=>wpAny_pyIter_keyiter st h
section
variable {X:Cx} {m m1:Md} {a e:Expr} {f:Ex} {tg:Expr}
noncomputable def iKey (tl:TE):L2.TI:=fun σ H R=>tl σ H fun x H1=>∃ a o kvs,x=.ref a∧H1 a=some (.frz o (.dK kvs))∧R (Itk a o kvs) H1
theorem Zpn {l:Expr}{tl:TE}(hl:PE X l tl):L2.PI X tg l (iKey tl):=by
 intro pins s σ H R I h
 refine L2.thn (hl pins s σ H _ I h) fun v s1 ⟨x,H1,I1,r1,q1⟩=>?_
 obtain ⟨a,o,kvs,e,hq,q⟩:=q1
 subst e
 cases r1
 obtain ⟨vs,es,ep,r,hd,hm,hsm⟩:=ZiH I1 hq
 refine wpAny_pyIter_dict hsm hm ?_
 have hlen:kvs.length=vs.length:=r.length
 refine ⟨s1.heap.objs.size,[s1.heap.objs.size],_,_,H1,rfl,I1.kept (t':=s1.toks) fun b o e=>Heap.get?_push_of_some _ e,ZkH a _ o kvs ep ⟨es,hd⟩,⟨_,Heap.get?_push_size _ rfl,rfl,by rw [hlen];rfl⟩,fun b hb=>?_,q⟩
 have e:b=s1.heap.objs.size:=by simpa using hb
 subst e
 exact I1.fpOk (Nat.le_refl _) (I1.hok.fresh (Nat.le_refl _))
theorem ZgR {tg:Expr}(ha:PD X .k a f):PId X tg a (Zco f):=PI.of (Zpn ha.h) fun σ H R hh_=>el9 hh_ fun BF BH F env L ds S e q=>by
 unfold Zco at e
 split at e
 ·rename_i kvs h1
  cases e
  refine ⟨BF,BH,F,env,L,_,S,h1,fun v F' H' z r=>?_⟩
  obtain ⟨p,o,rfl,hp⟩:=Zde r
  have hp':F' p=some (.frz o (.dK (kvV kvs))):=hp
  have hl:(kvV kvs).length=kvs.length:=by unfold kvV;exact List.length_map ..
  refine ⟨p,o,_,rfl,z.fh _ _ hp',q _ F' H' z ⟨fun H2 s2=>⟨s2 _ _ hp',by rw [hl,List.length_map];exact Nat.le_refl _⟩,fun i H2 s2 hi=>⟨s2 _ _ hp',by rw [hl];rwa [List.length_map] at hi⟩,fun i H2 x H3 F0 s1 s2 hi hy=>?_⟩⟩
  obtain ⟨rfl,pp,hpp,rfl⟩:=hy
  rw [List.length_map] at hi
  have e1:pp=(Sum.inl kvs[i].1,V.int kvs[i].2):=by
   unfold kvV at hpp
   rw [List.getElem?_map,List.getElem?_eq_getElem hi] at hpp
   exact (Option.some.inj hpp).symm
  subst e1
  exact ⟨.int kvs[i].1,F0,by simp [hi],.refl s2,by simp [Rep,L2.kV]⟩
 ·cases e
end
end PV
set_option linter.all false
set_option Elab.async false
set_option maxRecDepth 100000
set_option maxHeartbeats 4000000
namespace PV
open PySem PySem.Spec PyProof.Rows
open L2 (V Hp HO Vals SqL SqT Same upd Cx PE PT PW PA PS PSs TE TT TA TS Inv RelV Yc Jd Jc Un)
section
variable {X:Cx} {m m1 m2:Md} {r:RetP} {a b e:Expr} {f g:Ex} {pos p p2 pos':Pos}
noncomputable def tLS (X:Cx) (ta:TE):TE:=fun σ H Q=>ta σ H fun x H1=>∃ y,[x]=[y]∧∃ (l:Addr) (ns:List Int),y=.ref l∧SqL X.K H1 l (ns.map V.int)∧ns.length≤3000∧Q (.int (seen ns).length) H1
theorem ZlM {p3 p4 : Pos} {ta : TE} (T : Bt X.mg) (ha : PE X a ta) (hc : X.calm = true) (hg : X.env.kindOf "len" = some .globalImplicit) (hg2 : X.env.kindOf "set" = some .globalImplicit) (hs : nst a = true) :
    PE X (.Call (.Name "len" p) [.Call (.Name "set" p3) [a] [] p4] [] pos) (tLS X ta) := by
  intro pins s σ H Q I h
  refine wpAny_Call_Name_kw (L2.ZbJ I hg T.len boot_len ?_ (by decide) (by decide))
  refine PyProof.Rows.callWith_builtin1 ?_ (Jk rfl) rfl
  rw [Jq (env := X.env) (e := .Call (.Name "set" p3) [a] [] p4) rfl]
  show wpAny _ _ (spliced ((false, eval (.Call (.Name "set" p3) [a] [] p4) X.env) :: [])) _ _ s
  refine Calls.spliced_cons (L2.thn (Q := fun u s1 => ∃ (q : Addr) (ns : List Int) (H1 : Hp) (s0 : Shared) (h' : Heap) (tk : Nat), u = .ref q ∧ s1 = { s0 with heap := h', toks := tk } ∧ Inv X pins σ H1 s0 ∧ (∀ b o, s0.heap.get? b = some o → h'.get? b = some o) ∧
      SetX X.prog X.w h' q (!byT X.w) (seen ns) ∧ Q (.int (seen ns).length) H1) ?inner fun u s1 hu => Calls.spliced_nil ?outer)
  case inner =>
    refine wpAny_Call_Name_kw (L2.ZbJ I hg2 T.set PyProof.Rows.boot_set ?_ (by decide) (by decide))
    refine PyProof.Rows.callWith_type1 (L2.thn (L2.Jv ha L2.YG (Jq hs) p4 pins s σ H (fun xs H1 => ∃ x, xs = [x] ∧ ∃ (l : Addr) (ns : List Int), x = .ref l ∧ SqL X.K H1 l (ns.map V.int) ∧ ns.length ≤ 3000 ∧ Q (.int (seen ns).length) H1) I h) fun us s1 ⟨xs, H1, I1, r1, q1⟩ => ?_) (Jk hs) rfl
    obtain ⟨x, rfl, l, ns, rfl, hS, h3, q⟩ := q1
    obtain ⟨u, rfl, ru⟩ := r1.one
    cases ru
    obtain ⟨its, r, p, z⟩ := I1.list hS
    have hi := Zan r
    refine Zit (I1.ok.hd hc) p.isList (by simpa using hi) (by rw [show scanBound = 4096 from rfl]; omega) fun h' tk hX hk => ?_
    exact ⟨_, ns, H1, s1, h', tk, rfl, rfl, I1, fun b o e => hk b o (Heap.lt_size e) e, hX, q⟩
  case outer =>
    obtain ⟨q, ns, H1, s0, h', tk, rfl, rfl, I1, hk, hX, k⟩ := hu
    obtain ⟨o, es, ep, t, ho, hO⟩ := hX
    have hfew := hO.few
    refine call_len_set (s := { s0 with heap := h', toks := tk }) ho hO.ex hO.dat hO.fit (by rw [show scanBound = 4096 from rfl] at hfew; omega) ?_
    rw [hO.len]
    exact ⟨.int _, H1, I1.kept hk, ⟨_, rfl⟩, k⟩
theorem Zk9 {p3 p4:Pos} (T:Bt X.mg) (ha:PD X m1 a f) (hc:X.calm=true:=by rfl) (hg:X.env.kindOf "len"=some .globalImplicit:=by kernel_rfl) (hg2:X.env.kindOf "set"=some .globalImplicit:=by kernel_rfl) (hs:nst a=true:=by rfl) :
  PD X m (.Call (.Name "len" p) [.Call (.Name "set" p3) [a] [] p4] [] pos) (eF1 Zdn f) :=
 PD.mk <| PE.of (ZlM T ha.r.h hc hg hg2 hs) fun σ H Q hh_=>el9 hh_ fun BF BH F env L d S e q=>by
  unfold eF1 at e
  split at e
  ·rename_i x hx
   refine ⟨BF,BH,F,env,L,_,S,hx,fun v F' H' z rx=>?_⟩
   unfold Zdn at e
   split at e
   ·split at e
    ·rename_i xs ns hn
     split at e
     ·rename_i h3
      cases e
      have ex:=ints_of hn
      subst ex
      simp only [Rep] at rx
      obtain ⟨l,vs,rfl,hS,hr⟩:=rx
      have ev:=Zbu hr
      subst ev
      exact ⟨_,rfl,l,ns,rfl,hS,h3,q _ F' H' z (by simp [Rep])⟩
     ·cases e
    ·cases e
   ·cases e
  ·cases e
end
end PV
set_option linter.all false
set_option Elab.async false
set_option maxRecDepth 100000
set_option maxHeartbeats 4000000
namespace PV
open PySem PySem.Spec PyProof.Rows
open L2 (V Hp HO Vals SqL SqT Same upd Cx PE PT PW PA PS PSs TE TT TA TS Inv RelV Yc Jd Jc Un)
section
variable {X:Cx} {m m1 m2:Md} {r:RetP} {a b e:Expr} {f g:Ex} {pos p p2 pos':Pos}
theorem Zk5 {j}:PDn X (.Constant .none j pos) (eC .non):=⟨PE.of L2.ZlX fun σ H Q hh_=>el9 hh_ fun BF BH F env L d S e q=>by
 cases e
 exact q _ F H (.refl S.fh) (by simp [RepN])⟩
end
end PV
set_option linter.all false
set_option Elab.async false
set_option maxRecDepth 100000
set_option maxHeartbeats 4000000
namespace PV
open PySem PySem.Spec PyProof.Rows
open L2 (V Hp HO Vals SqL SqT Same upd Cx PE PT PW PA PS PSs TE TT TA TS Inv RelV Yc Jd Jc Un)
theorem Zek (xs:List D):(Zaf 0 xs).length=xs.length:=by
 have:∀ (k:Nat) (xs:List D),(Zaf k xs).length=xs.length:=by
  intro k xs
  induction xs generalizing k with
  | nil=>rfl
  | cons x xs ih=>simp [Zaf,ih]
 exact this 0 xs
theorem ZkO {xs:List D}{i:Nat}{d:D}(h:xs[i]?=some d):(Zaf 0 xs)[i]?=some (.tup [.int i,d]):=by
 have:∀ (k i:Nat) (xs:List D),xs[i]?=some d→(Zaf k xs)[i]?=some (.tup [.int ((k + i:Nat):Int),d]):=by
  intro k i xs
  induction xs generalizing k i with
  | nil=>intro h;simp at h
  | cons x xs ih =>
   intro h
   cases i with
   | zero=>simp at h;subst h;simp [Zaf]
   | succ i=>simp at h;simp only [Zaf,List.getElem?_cons_succ];rw [ih (k + 1) i h];congr 4;omega
 have:=this 0 i xs h
 simpa using this
noncomputable def Ite (K:PySem.W.Frag) (a:Addr):L2.It :=
 ⟨fun i H=>∃ xs x,SqL K H a xs∧xs[i]?=some x,fun i H v H'=>∃ p x,H p=none∧v=.ref p∧H'=upd H p (.tup [.int i,x])∧∀ xs,SqL K H a xs→xs[i]?=some x,fun i H=>∃ xs,SqL K H a xs∧xs.length≤i⟩
theorem Zoh {X:Cx}{pins:List (Addr × Obj)}{σ:L2.St}{H:Hp}{s:Shared}{e it p:Addr}{h':Heap}{t':Nat}{xs:List V}(I:Inv X pins σ H s)(fe:L2.FpOk X pins H e)(fi:L2.FpOk X pins H it)
  (hp:s.heap.objs.size≤p) (k:∀ b o,b≠e→b≠it→s.heap.get? b=some o→h'.get? b=some o) (ke:∃ o,h'.get? e=some o) (ki:∃ o,h'.get? it=some o) (new:L2.JC X.prog X.w (upd H p (.tup xs)) h' p (.tup xs)) :
  Inv X pins σ (upd H p (.tup xs)) { s with heap:=h',toks:=t' }:=by
 have hn:=I.hok.fresh hp
 refine I.step (g':=s.gens) (d':=s.drawn) (ch:=[e,it]) (fun b hb=>?_) (fun b o _ _ hc q _=>k b o (fun z=>hc (by simp [z])) (fun z=>hc (by simp [z])) q) (fun b o _ _ hc q _=>⟨o.slots,k b o (fun z=>hc (by simp [z])) (fun z=>hc (by simp [z])) q⟩) (fun b o hc q n=>?_)
  (fun b o hc q=>⟨o,k b o (fun z=>hc (by simp [z])) (fun z=>hc (by simp [z])) q⟩) (fun b ys q=>?_) (fun b o u q=>?_) (fun b ps q=>⟨#[],?_⟩) (fun m hm=>?_) (fun b u q=>?_) I.bare
 ·simp at hb
  rcases hb with rfl | rfl
  ·exact ⟨fe.2.2.2.1,fe.2.1,fe.2.2.2.2.1,fe.2.2.2.2.2⟩
  ·exact ⟨fi.2.2.2.1,fi.2.1,fi.2.2.2.2.1,fi.2.2.2.2.2⟩
 ·have:b≠p:=fun z=>by subst z;exact absurd (Nat.lt_of_lt_of_le (Heap.lt_size q) hp) (Nat.lt_irrefl _)
  rw [Jd this];exact n
 ·rw [Jd (Jc q hn)];exact q
 ·rw [Jd (Jc q hn)];exact q
 ·rw [Jd (Jc q hn),q];simp
 ·obtain ⟨o,es,ep,ho,r⟩:=hm
  exact ⟨o,es,ep,k _ o (Ne.symm fe.2.1) (Ne.symm fi.2.1) ho,r⟩
 ·by_cases hb:b=p
  ·subst hb
   rw [Yc] at q
   cases q
   exact new
  ·rw [Jd hb] at q
   refine (I.hok b u q).stay (fun c v hc z=>k c v ?_ ?_ z) (fun c z=>by rw [Jd (Jc z hn)];exact z) fun c ys z=>by rw [Jd (Jc z hn)];exact z
   ·rcases hc with z' | z'
    ·rw [z'];exact Jc q fe.1
    ·exact Jc z' fe.1
   ·rcases hc with z' | z'
    ·rw [z'];exact Jc q fi.1
    ·exact Jc z' fi.1
theorem ZlG {P:Program}{w:World}{K:PySem.W.Frag}{elts:List Expr}{x1}{tp:Pos}(a e it:Addr)(hne:e≠it):L2.Turn P w K (.Tuple elts x1 tp) (Ite K a) [e,it] e (fun i h=>(∃ old,IsEnum h e it i old)∧h.IsListIter it a i) where
 mem:=by simp
 obj:=fun i h st b hb=>by
  obtain ⟨⟨old,h1⟩,o,h2,c,d⟩:=st
  simp at hb
  rcases hb with rfl | rfl
  ·exact ⟨_,h1,fun v z=>by cases z⟩
  ·exact ⟨o,h2,fun v z=>by rw [d] at z;cases z⟩
 keep:=fun i h h' st k=>⟨let ⟨old,h1⟩:=st.1;⟨old,k e (by simp) _ h1⟩,st.2.at fun o q=>k it (by simp) o q⟩
 item:=by
  intro X hP hw hK hc i pins s σ H E I hf st hg
  subst hP hw hK
  obtain ⟨xs,x,hq,hx⟩:=hg
  obtain ⟨its,rv,p,hz⟩:=I.list hq
  obtain ⟨u,hu,ru⟩:=rv.get hx
  obtain ⟨⟨old,st1⟩,st2⟩:=st
  refine wpAny_pyNext_enum_item st1 st2 p.isList (x:=u) (by simpa using hu) hne fun h' b1 b2 b3 b4 b5=>?_
  refine ⟨_,rfl,wpAny_letOwnedTupleGo_enum (s:={ s with heap:=h',toks:=s.toks + 1 }) b1 fun h2 c1 c2=>?_⟩
  have hep:e≠s.heap.objs.size:=Nat.ne_of_lt (Heap.lt_size st1)
  have hl2:h2.IsListIter it a (i + 1):=b2.at fun o q=>(c2.2 it (Ne.symm hne)).trans q
  have kk:∀ b o,b≠e→b≠it→s.heap.get? b=some o→h2.get? b=some o:=fun b o h1 h3 q=>(c2.2 b h1).trans (b5 b o h1 h3 q)
  have tup:h2.get? s.heap.objs.size=some { cls:=.type "tuple",data:=.seq #[.int i s.toks,u] }:=(c2.2 _ (Ne.symm hep)).trans b3
  have I2:Inv X pins σ (upd H s.heap.objs.size (.tup [.int i,x])) { s with heap:=h2,toks:=s.toks + 1 }:=Zoh I (hf e (by simp)) (hf it (by simp)) (Nat.le_refl _) kk ⟨_,c1⟩ (let ⟨o,q,_⟩:=hl2;⟨o,q⟩) ⟨by rw [sizeLine_eq];simp,[.int i s.toks,u],.cons ⟨_,rfl⟩ (.cons ru .nil),⟨_,tup,rfl,_,rfl⟩⟩
  refine ⟨.ref s.heap.objs.size,_,I2,rfl,⟨_,x,I.hok.fresh (Nat.le_refl _),rfl,rfl,fun ys hy=>by rw [I.Zh9 hy hq];exact hx⟩,⟨⟨u,by simpa using c1⟩,hl2⟩,fun b hb=>?_⟩
  have hb':b≠s.heap.objs.size:=by
   simp at hb
   rcases hb with rfl | rfl
   ·exact hep
   ·obtain ⟨o,q,_⟩:=st2;exact Nat.ne_of_lt (Heap.lt_size q)
  rw [Jd hb'];exact (hf b hb).1
 done:=by
  intro X hP hw hK hc i pins s σ H E I hf st hg
  subst hP hw hK
  obtain ⟨xs,hq,hx⟩:=hg
  obtain ⟨its,rv,p,hz⟩:=I.list hq
  obtain ⟨⟨old,st1⟩,st2⟩:=st
  have hl:=rv.length
  obtain ⟨f0,f1,f2,f3,f4,f5⟩:=hf it (by simp)
  exact wpAny_pyNext_enum_end (I.ok.hd hc) st1 st2 p.isList (by simp;omega) fun h' eb=>⟨rfl,I.turned (t':=s.toks) (fun b o hb q=>eb b o hb q) f0 f1 f3 f4 f5⟩
 self:=fun _ _ _ _ _ st h=>let ⟨_,he⟩:=st.1;wpAny_pyIter_enum he h
section
variable {X:Cx} {m m1:Md} {a e:Expr} {f:Ex} {p pos:Pos}
noncomputable def iEn (K:PySem.W.Frag) (tl:TE):L2.TI:=fun σ H R=>tl σ H fun x H1=>∃ y,[x]=[y]∧∃ a,y=.ref a∧(∃ xs,SqL K H1 a xs)∧R (Ite K a) H1
theorem Zpt {elts:List Expr} {x1} {tp:Pos} {tl:TE} (T:Bt X.mg) (ha:PE X a tl) (hg:X.env.kindOf "enumerate"=some .globalImplicit) (hs:nst a=true):L2.PI X (.Tuple elts x1 tp) (.Call (.Name "enumerate" p) [a] [] pos) (iEn X.K tl):=by
 intro pins s σ H R I h
 refine wpAny_Call_Name_kw (L2.ZbJ (u:=.type "enumerate") I hg T.enumerate (by decide +kernel) ?_ (by decide) (by decide))
 refine PyProof.Rows.callWith_type1 (L2.thn (L2.Jv ha L2.YG (Jq hs) pos pins s σ H (fun xs H1=>∃ x,xs=[x]∧∃ a,x=.ref a∧(∃ ys,SqL X.K H1 a ys)∧R (Ite X.K a) H1) I h) fun us s1 ⟨xs,H1,I1,r1,q1⟩=>?_) (Jk hs) rfl
 obtain ⟨x,rfl,l,rfl,⟨ys,hq⟩,q⟩:=q1
 obtain ⟨u,rfl,ru⟩:=r1.one
 cases ru
 obtain ⟨its,rv,pl,hz⟩:=I1.list hq
 refine call_enumerate_list pl.isList fun h' he hi hsz hk=>?_
 refine wpAny_pyIter_enum (s:={ s1 with heap:=h' }) he ?_
 refine ⟨s1.heap.objs.size + 1,[s1.heap.objs.size + 1,s1.heap.objs.size],_,_,H1,rfl,I1.kept (t':=s1.toks) hk,ZlG l _ _ (Nat.succ_ne_self _),⟨⟨_,he⟩,hi⟩,fun b hb=>?_,q⟩
 simp at hb
 rcases hb with rfl | rfl
 ·exact I1.fpOk (Nat.le_succ _) (I1.hok.fresh (Nat.le_succ _))
 ·exact I1.fpOk (Nat.le_refl _) (I1.hok.fresh (Nat.le_refl _))
theorem Zoe {elts:List Expr} {x1} {tp:Pos} (T:Bt X.mg) (ha:PD X .k a f) (hg:X.env.kindOf "enumerate"=some .globalImplicit:=by kernel_rfl) (hs:nst a=true:=by rfl):PId X (.Tuple elts x1 tp) (.Call (.Name "enumerate" p) [a] [] pos) (Zgk f):=PI.of (Zpt T ha.h hg hs) fun σ H R hh_=>el9 hh_ fun BF BH F env L ds S e q=>by
 unfold Zgk at e
 split at e
 ·rename_i xs h1
  cases e
  refine ⟨BF,BH,F,env,L,_,S,h1,fun v F' H' z r=>?_⟩
  have r':Rep X.K F' (.lst xs) v:=r
  simp only [Rep] at r'
  obtain ⟨p,vs,rfl,hs,t⟩:=r'
  have hlen:=t.length
  refine ⟨_,rfl,p,rfl,⟨vs,z.fh.seq hs⟩,q _ F' H' z ⟨fun H2 s2=>⟨vs,s2.seq hs,by rw [Zek,hlen];exact Nat.le_refl _⟩,fun i H2 s2 hi=>?_,fun i H2 x H3 F0 s1 s2 hi hy=>?_⟩⟩
  ·rw [Zek] at hi
   exact ⟨vs,vs[i]'(by omega),s2.seq hs,by simp⟩
  ·rw [Zek] at hi
   obtain ⟨pp,y,hpp,rfl,rfl,hx⟩:=hy
   have hxi:=hx vs ((s1.trans s2).seq hs)
   obtain ⟨d,k1,k2⟩:=t.getV hxi
   refine ⟨.tup [.int i,d],upd F0 pp (.tup [.int i,y]),ZkO k1,Ext.laid s2 hpp,?_⟩
   simp only [Rep,Reps]
   exact ⟨pp,_,rfl,.inl (.inl Yc),_,_,rfl,rfl,_,_,rfl,Rep.mono (fun b o hb=>by rw [Jd (Jc (s2 _ _ (s1 _ _ hb)) hpp)];exact s1 _ _ hb) _ _ k2,rfl⟩
 ·cases e
theorem pg_2 (nd:X.N.Nodup)(i j:Nat){x y:Str}{p1 p2 p3:Pos}{k:Nat}(hc:X.calm=true:=by rfl)(hi:X.N[i]?=some x:=by kernel_rfl)(hx:locB X.env.scope x=true:=by kernel_rfl)(hf:fnB X x=true:=by kernel_rfl)
  (hj:X.N[j]?=some y:=by kernel_rfl) (hy:locB X.env.scope y=true:=by kernel_rfl) (hf2:fnB X y=true:=by kernel_rfl)
  (h2:(assignEach [.Name x p1,.Name y p2] X.env).map (·.2)=assign (.Name x p1) X.env::(assignEach [.Name y p2] X.env).map (·.2):=by rfl)
  (h3:(assignEach [.Name y p2] X.env).map (·.2)=assign (.Name y p2) X.env::(assignEach [] X.env).map (·.2):=by rfl)
  (h4:(assignEach [.Name x p1,.Name y p2] X.env).length=2:=by rfl) (h5:(assignEach [.Name x p1,.Name y p2] X.env).findIdx? (·.1)=none:=by rfl) :
  PGd X (.Tuple [.Name x p1,.Name y p2] k p3) (g2 i j) :=
 fun pins s σ H v u Q I r ⟨BF,BH,F,env,L,d,env1,S,rd,e,kk⟩=>L2.Zo8 hc (L2.Ziu (L2.ZeW nd hi (Zak hx) (ZaH hf)) (L2.Ziu (L2.ZeW nd hj (Zak hy) (ZaH hf2)) L2.ZnI h3) h2) h4 h5 pins s σ H v u Q I r (by
  unfold g2 at e
  split at e
  ·rename_i d1 d2
   cases e
   simp only [Rep,Reps] at rd
   obtain ⟨a,vs,rfl,hS,v1,r1,rfl,e1,v2,r2,rfl,e2,rfl⟩:=rd
   exact ⟨a,_,rfl,seqT S.fh hS,rfl,v1,[v2],rfl,v2,[],rfl,rfl,kk F H _ _ ((S.ZdH i e1).ZdH j e2) (.refl _)⟩
  ·cases e)
end
end PV
set_option linter.all false
set_option Elab.async false
namespace PV
open PySem PySem.Spec PyProof.Rows
open L2 (V Hp HO Same Cx)
theorem Zhe {K:PySem.W.Frag}{H:Hp}:∀ ns:List Int,Reps K H (ns.map D.int) (ns.map V.int)
 | []=>Reps.nil
 | n::r=>by
  rw [List.map_cons,List.map_cons]
  exact Reps.cons (by simp [Rep]) (Zhe r)
theorem ZlJ {K:PySem.W.Frag}{H:Hp}{a:Addr}{ns:List Int}{φ:List D→Option D}{z}(h:φ [rowD ns]=some (.bl true))(hS:L2.SqL K H a (ns.map V.int)) :
  spR K (rk K .k) φ [.ref a] H (fun v _=>v=.bl true) z :=
 ⟨H,[rowD ns],.bl true,.refl H,Reps.cons (by unfold rowD;simp only [Rep];exact ⟨a,_,rfl,hS,Zhe ns⟩) Reps.nil,h,fun v F' H' _ r=>by
  simp only [rk,Rep] at r
  exact r⟩
end PV
set_option linter.all false
set_option Elab.async false
namespace PV
open PySem (Str)
noncomputable def Zeq:St:=(sRet (eB (tAnd (t2I pGe (eVar 1) (eC (.int 0))) (t2I pLt (eVar 1) (eF1 fLen (eVar 0))))))
noncomputable def Zz:List D→Option D:=run 2 2 Zeq
noncomputable def Zfq:St:=(sSeq (sSet 1 (eF1 fLen (eVar 0))) (sSeq (sIf (tOr (t2I pLt (eVar 1) (eC (.int 1))) (t2I pGt (eVar 1) (eC (.int 12)))) (Za2) Jl) (sFor (gN 2) (iOf (eVar 0)) (sSeq (sIf (tNe (eF1 fLen (eVar 2)) (eVar 1)) (Za2) Jl) (sIf (tNot (tB (eF1 fAll (Yk 3 (iOf (eVar 2)) Yq (Zd Zz [(eVar 0),(eVar 3)]))))) (Za2) Jl)))))
noncomputable def JN:List D→Option D:=run 1 4 Zfq
noncomputable def Zd3:St:=(sSeq (sSet 1 (eF1 fLen (eVar 0))) (sSeq (sFor (gN 2) (iRng (eVar 1)) (sFor (gN 3) (iRng (eVar 1)) (sFor (gN 4) (iRng (eVar 1)) (sIf (tNe (eIx (eIx (eVar 0) (eIx (eIx (eVar 0) (eVar 2)) (eVar 3))) (eVar 4)) (eIx (eIx (eVar 0) (eVar 2)) (eIx (eIx (eVar 0) (eVar 3)) (eVar 4)))) (sRet (eTup [(eC (.str "three")),(eVar 2),(eVar 3),(eVar 4)])) Jl)))) (sRet (eC .non))))
noncomputable def Zaj:List D→Option D:=run 1 5 Zd3
noncomputable def Zfk:St:=(sSeq (sSet 1 (eF1 fLen (eVar 0))) (sSeq (sFor (gN 2) (iRng (eVar 1)) (sIf (tB (eF1 fAll (Yk 3 (iRng (eVar 1)) Yq (eB (tAnd (tEq (eIx (eIx (eVar 0) (eVar 2)) (eVar 3)) (eVar 3)) (tEq (eIx (eIx (eVar 0) (eVar 3)) (eVar 2)) (eVar 3))))))) (sRet (eVar 2)) Jl)) (sRet (eC .non))))
noncomputable def Zn:List D→Option D:=run 1 4 Zfk
noncomputable def Zfr:St:=(sSeq (sFor (gN 3) (iRng (eF1 fLen (eVar 0))) (sIf (tAnd (tEq (eIx (eIx (eVar 0) (eVar 2)) (eVar 3)) (eVar 1)) (tEq (eIx (eIx (eVar 0) (eVar 3)) (eVar 2)) (eVar 1))) (sRet (eVar 3)) Jl)) (sRet (eC .non)))
noncomputable def Zay:List D→Option D:=run 3 4 Zfr
noncomputable def Zfb:St:=(sSeq (sSet 1 (Zd Zaj [(eVar 0)])) (sSeq (sIf (tNoN (eVar 1)) (sRet (eVar 1)) Jl) (sSeq (sSet 2 (Zd Zn [(eVar 0)])) (sSeq (sIf (tIsN (eVar 2)) (sRet (eTup [(eC (.str "rest"))])) Jl) (sSeq (sFor (gN 3) (iRng (eF1 fLen (eVar 0))) (sIf (tIsN (Zd Zay [(eVar 0),(eVar 2),(eVar 3)])) (sRet (eTup [(eC (.str "back")),(eVar 3)])) Jl)) (sRet (eC .non)))))))
noncomputable def ZX:List D→Option D:=run 1 4 Zfb
noncomputable def ZlN:St:=(sSeq (sDo (Zd JN [(eVar 0)])) (sRet (Zd ZX [(eVar 0)])))
noncomputable def ZeC:List D→Option D:=run 1 1 ZlN
noncomputable def Zgg:St:=(sSeq (sDo (Zd JN [(eVar 0)])) (sIf (tNoN (Zd ZX [(eVar 0)])) (Za2) Jl))
noncomputable def Ym:List D→Option D:=run 1 1 Zgg
noncomputable def ZkW:St:=(sSeq (sDo (Zd Ym [(eVar 0)])) (sRet (Zd Zn [(eVar 0)])))
noncomputable def Zb6:List D→Option D:=run 1 1 ZkW
noncomputable def ZcZ:St:=(sSeq (sOwn 2 (eF1 Y5 (eVar 1))) (sSeq (sFor (gN 3) (iOf (eVar 1)) (sExt 2 (Yk 4 (iOf (eVar 1)) Yq (eIx (eIx (eVar 0) (eVar 3)) (eVar 4))))) (sRet (eF1 Zar (Zw 2)))))
noncomputable def YQ:List D→Option D:=run 2 5 ZcZ
noncomputable def ZcA:St:=(sSeq (Zbr 2 (eF1 Zar (eAdd (eVar 1) (eLst [(Zd Zn [(eVar 0)])])))) (sSeq (Zbr 3 (Zd YQ [(eVar 0),(eVar 2)])) (sSeq (YT (tNe (eVar 3) (eVar 2)) (sSeq (Zbr 2 (ZcX 3)) (Zbr 3 (Zd YQ [(eVar 0),(eVar 2)]))) 1000) (sRet (ZcX 2)))))
noncomputable def ZQ:List D→Option D:=run 2 4 ZcA
noncomputable def Zc9:St:=(sRet (eTup [(eF1 fLen (eVar 0)),(eVar 0)]))
noncomputable def ZC:List D→Option D:=run 1 1 Zc9
noncomputable def ZgX:St:=(sSeq (sDo (Zd Ym [(eVar 0)])) (sSeq (sNew 1 (eLst [(Zd ZQ [(eVar 0),(eLst [])])])) (sSeq (sFor (gN 2) (iRng (eF1 fLen (eVar 0))) (sFor (gN 3) (iOf (eF1 Y5 (ZhH 1))) (sSeq (Zbr 4 (Zd ZQ [(eVar 0),(eAdd (eVar 3) (eLst [(eVar 2)]))])) (sIf (tNi (eVar 4) (Zw 1)) (ZeT 1 (ZcX 4)) Jl)))) (sRet (eF1 (Zbs ZC) (ZfX 1))))))
noncomputable def Zdz:List D→Option D:=run 1 5 ZgX
noncomputable def Zf6:St:=(sSeq (sIf (tNot (tB (eF1 fAll (Yk 2 (iOf (eVar 1)) Yq (Zd Zz [(eVar 0),(eVar 2)]))))) (Za2) Jl) (sIf (tNe (Zd ZQ [(eVar 0),(eVar 1)]) (eVar 1)) (Za2) Jl))
noncomputable def ZW:List D→Option D:=run 2 3 Zf6
noncomputable def ZdN:St:=(sRet (eFl (eF1 ZeH (Yk 3 (iOf (eVar 1)) Yq (eIx (eIx (eVar 0) (eVar 2)) (eVar 3))))))
noncomputable def ZJ:List D→Option D:=run 3 4 ZdN
noncomputable def Zeb:St:=(sSeq (sNew 2 (eLst [])) (sSeq (sFor (gN 3) (iRng (eF1 fLen (eVar 0))) (sSeq (Zbr 4 (Zd ZJ [(eVar 0),(eVar 1),(eVar 3)])) (sIf (tEq (eIx (eVar 4) (eC (.int 0))) (eVar 3)) (ZeT 2 (ZcX 4)) Jl))) (sSeq (sFrz 2) (sRet (ZcX 2)))))
noncomputable def Y4:List D→Option D:=run 2 5 Zeb
noncomputable def ZiB:St:=(sSeq (sDo (Zd Ym [(eVar 0)])) (sSeq (sDo (Zd ZW [(eVar 0),(eVar 1)])) (sRet (Zd Y4 [(eVar 0),(eVar 1)]))))
noncomputable def ZcE:List D→Option D:=run 2 2 ZiB
noncomputable def Zdf:St:=(sRet (eFl (eF1 ZeH (Yk 3 (iOf (eVar 1)) Yq (eIx (eIx (eVar 0) (eVar 3)) (eVar 2))))))
noncomputable def YX:List D→Option D:=run 3 4 Zdf
noncomputable def Zbv:St:=(sRet (eF1 fAll (Yk 2 (iRng (eF1 fLen (eVar 0))) Yq (eB (tEq (Zd ZJ [(eVar 0),(eVar 1),(eVar 2)]) (Zd YX [(eVar 0),(eVar 1),(eVar 2)]))))))
noncomputable def Yu:List D→Option D:=run 2 3 Zbv
noncomputable def Zgc:St:=(sSeq (sDo (Zd Ym [(eVar 0)])) (sSeq (sDo (Zd ZW [(eVar 0),(eVar 1)])) (sRet (Zd Yu [(eVar 0),(eVar 1)]))))
noncomputable def ZaQ:List D→Option D:=run 2 2 Zgc
noncomputable def Zcb:St:=(sSeq (ZjY 2) (sSeq (sFor (g2 3 4) (Zgk (eVar 1)) (sFor (gN 5) (iOf (eVar 4)) (Zcm 2 (eVar 5) (eVar 3)))) (sSeq (sSet 6 (Yk 4 (iOf (eVar 1)) Yq (eIx (eVar 4) (eC (.int 0))))) (sSeq (sOwn 7 (eLst [])) (sSeq (sFor (gN 8) (iOf (eVar 6)) (sSeq (sFrz 2) (sApp 7 (Yk 9 (iOf (eVar 6)) Yq (Zbx (eVar 2) (eIx (eIx (eVar 0) (eVar 8)) (eVar 9))))))) (sSeq (sFrz 7) (sRet (eVar 7))))))))
noncomputable def JV:List D→Option D:=run 2 10 Zcb
noncomputable def Zfh:St:=(sSeq (sDo (Zd Ym [(eVar 0)])) (sSeq (sDo (Zd ZW [(eVar 0),(eVar 1)])) (sSeq (sIf (tNot (tB (Zd Yu [(eVar 0),(eVar 1)]))) (Za2) Jl) (sSeq (sSet 2 (Zd Y4 [(eVar 0),(eVar 1)])) (sRet (Zd JV [(eVar 0),(eVar 2)]))))))
noncomputable def JM:List D→Option D:=run 2 3 Zfh
noncomputable def ZaU:St:=(sRet (eF1 fAll (Yk 2 (iRng (eF1 fLen (eVar 0))) Yq (eB (tEq (eIx (eIx (eVar 0) (eVar 1)) (eVar 2)) (eIx (eIx (eVar 0) (eVar 2)) (eVar 1)))))))
noncomputable def Zy:List D→Option D:=run 2 3 ZaU
noncomputable def ZiL:St:=(sSeq (sDo (Zd Ym [(eVar 0)])) (sRet (eFl (Yk 1 (iRng (eF1 fLen (eVar 0))) (tB (Zd Zy [(eVar 0),(eVar 1)])) (eVar 1)))))
noncomputable def ZbT:List D→Option D:=run 1 2 ZiL
noncomputable def Zas:St:=(sSeq (sSet 1 (eC (.int 0))) (sSeq (YT (tInD (eVar 1) (eVar 0)) (sSet 1 (eAdd (eVar 1) (eC (.int 1)))) 1000) (sRet (eVar 1))))
noncomputable def JG:List D→Option D:=run 1 2 Zas
noncomputable def Zbf:St:=(sSeq (ZeO 3 (eVar 2)) (sSeq (sFor (gN 4) (Zco (eVar 2)) (sFor (gN 5) (Zco (eVar 2)) (sSeq (sSet 6 (eIx (eIx (eVar 0) (eVar 4)) (eVar 5))) (sSeq (sSet 7 (eIx (eIx (eVar 1) (Zbx (eVar 2) (eVar 4))) (Zbx (eVar 2) (eVar 5)))) (sSeq (sIf (tNe (ZhJ 3 (eVar 6) (eVar 7)) (eVar 7)) (sRet (eC .non)) Jl) (Zcm 3 (eVar 6) (eVar 7))))))) (sSeq (sFrz 3) (sSeq (sIf (t2I pLt (eF1 Zdn (Yk 8 (Zco (eVar 3)) Yq (Zbx (eVar 3) (eVar 8)))) (eF1 ZcT (eVar 3))) (sRet (eC .non)) Jl) (sSeq (sFrz 3) (sRet (eVar 3)))))))
noncomputable def YL:List D→Option D:=run 3 9 Zbf
noncomputable def Zc3:St:=(sSeq (ZeO 5 (eVar 2)) (sSeq (Zcm 5 (eVar 3) (eVar 4)) (sSeq (sFrz 5) (sSeq (sSet 6 (Zd YL [(eVar 0),(eVar 1),(eVar 5)])) (sSeq (YT (tAnd (tNoN (eVar 6)) (t2I pGt (eF1 ZcT (eVar 6)) (eF1 ZcT (eVar 5)))) (sSeq (sSet 5 (eVar 6)) (sSeq (sFrz 5) (sSet 6 (Zd YL [(eVar 0),(eVar 1),(eVar 5)])))) 1000) (sRet (eVar 6)))))))
noncomputable def ZaB:List D→Option D:=run 5 7 Zc3
noncomputable def ZbE (self:List D→Option D):St:=(sSeq (sIf (tEq (eF1 ZcT (eVar 2)) (eF1 fLen (eVar 0))) (sRet (eFl (Yk 3 (iRng (eF1 fLen (eVar 0))) Yq (Zbx (eVar 2) (eVar 3))))) Jl) (sSeq (sSet 3 (Zd JG [(eVar 2)])) (sSeq (sFor (gN 4) (iRng (eF1 fLen (eVar 1))) (sSeq (sSet 5 (Zd ZaB [(eVar 0),(eVar 1),(eVar 2),(eVar 3),(eVar 4)])) (sIf (tNoN (eVar 5)) (sSeq (Zbr 6 (Zd self [(eVar 0),(eVar 1),(eVar 5)])) (sIf (tNoN (eVar 6)) (sRet (ZcX 6)) Jl)) Jl))) (sRet (eC .non)))))
noncomputable def Yw:Nat→List D→Option D
 | 0=>fun _=>none
 | k + 1=>run 3 7 (ZbE (Yw k))
noncomputable def ZbD:List D→Option D:=Yw 13
noncomputable def ZfV:St:=(sSeq (sDo (Zd Ym [(eVar 0)])) (sSeq (sDo (Zd Ym [(eVar 1)])) (sSeq (sIf (tNe (eF1 fLen (eVar 0)) (eF1 fLen (eVar 1))) (sRet (eC .non)) Jl) (sRet (Zd ZbD [(eVar 0),(eVar 1),(Ze9 (Zd Zn [(eVar 0)]) (Zd Zn [(eVar 1)]))])))))
noncomputable def ZbG:List D→Option D:=run 2 2 ZfV
noncomputable def ZdV:St:=(sSeq (sIf (t2I pLt (eVar 1) (eF1 fLen (eVar 0))) (sRet (eIx (eVar 0) (eVar 1))) Jl) (sRet (eC (.int 0))))
noncomputable def Zm:List D→Option D:=run 2 2 ZdV
noncomputable def Zgy:St:=(sSeq (sIf (tEq (e2I iMod (eVar 0) (eC (.int 2))) (eC (.int 0))) (sSeq (sSet 3 (e2I iDiv (eVar 0) (eC (.int 2)))) (sSeq (sFor (gN 4) (iRng (eVar 1)) (sSet 3 (e2I iDiv (eVar 3) (eVar 2)))) (sRet (e2I iMod (eVar 3) (eVar 2))))) Jl) (sSeq (sSet 5 (e2I iMod (e2I iMul (eAdd (eAdd (e2I iMod (eVar 0) (eC (.int 2147483647))) (e2I iMul (eC (.int 977)) (eVar 1))) (eC (.int 1))) (eC (.int 48271))) (eC (.int 2147483647)))) (sSeq (sSet 5 (e2I iMod (e2I iMul (eVar 5) (eVar 5)) (eC (.int 2147483629)))) (sSeq (sSet 5 (e2I iMod (e2I iMul (eAdd (eVar 5) (e2I iMul (eC (.int 40692)) (eAdd (eVar 1) (eC (.int 3))))) (eC (.int 69621))) (eC (.int 2147483647)))) (sRet (e2I iMod (e2I iDiv (eVar 5) (eC (.int 8))) (eVar 2)))))))
noncomputable def Z8:List D→Option D:=run 3 6 Zgy
noncomputable def Zd5:St:=(sSeq (sSet 1 (eC (.int 1))) (sSeq (sFor (gN 2) (iOf (eVar 0)) (sSet 1 (e2I iMul (eVar 1) (eVar 2)))) (sSeq (sOwn 3 (eLst [])) (sSeq (sFor (gN 4) (iRng (eVar 1)) (sSeq (sOwn 5 (eLst [])) (sSeq (sFor (gN 6) (iRng (eVar 1)) (sSeq (sSet 7 (eC (.int 0))) (sSeq (sSet 8 (eC (.int 1))) (sSeq (sFor (gN 2) (iOf (eVar 0)) (sSeq (sSet 7 (eAdd (eVar 7) (e2I iMul (e2I iMod (eAdd (e2I iDiv (eVar 4) (eVar 8)) (e2I iDiv (eVar 6) (eVar 8))) (eVar 2)) (eVar 8)))) (sSet 8 (e2I iMul (eVar 8) (eVar 2))))) (sApp 5 (eVar 7)))))) (sSeq (sFrz 5) (sApp 3 (eVar 5)))))) (sSeq (sFrz 3) (sRet (eVar 3)))))))
noncomputable def Zbt:List D→Option D:=run 1 9 Zd5
noncomputable def ZdT:St:=(sSeq (sOwn 2 (eLst [])) (sSeq (sFor (gN 3) (iRng (e2I iMul (eC (.int 2)) (eVar 0))) (sSeq (sOwn 4 (eLst [])) (sSeq (sFor (gN 5) (iRng (e2I iMul (eC (.int 2)) (eVar 0))) (sSeq (sSet 6 (eIx (eLst [(e2I iMod (eVar 5) (eVar 0)),(e2I iSub (eC (.int 0)) (e2I iMod (eVar 5) (eVar 0)))]) (e2I iDiv (eVar 3) (eVar 0)))) (sSeq (sSet 7 (e2I iMul (e2I iDiv (eVar 3) (eVar 0)) (e2I iDiv (eVar 5) (eVar 0)))) (sSeq (sSet 8 (e2I iMod (eAdd (eAdd (e2I iMod (eVar 3) (eVar 0)) (eVar 6)) (e2I iMul (eVar 1) (eVar 7))) (eVar 0))) (sApp 4 (eAdd (eVar 8) (e2I iMul (eVar 0) (e2I iMod (eAdd (e2I iDiv (eVar 3) (eVar 0)) (e2I iDiv (eVar 5) (eVar 0))) (eC (.int 2)))))))))) (sSeq (sFrz 4) (sApp 2 (eVar 4)))))) (sSeq (sFrz 2) (sRet (eVar 2)))))
noncomputable def Za8:List D→Option D:=run 2 9 ZdT
noncomputable def Zgj:St:=(sSeq (sSet 0 (eLst [(eLst [])])) (sSeq (sFor (gN 1) (iRng (eC (.int 4))) (sSeq (sSet 2 (eLst [])) (sSeq (sFor (gN 3) (iOf (eVar 0)) (sSet 2 (eAdd (eVar 2) (Yk 4 (iRng (eC (.int 4))) (tNi (eVar 4) (eVar 3)) (eAdd (eVar 3) (eLst [(eVar 4)])))))) (sSet 0 (eVar 2))))) (sSeq (sOwn 5 (eLst [])) (sSeq (sFor (gN 3) (iOf (eVar 0)) (sSeq (sSet 6 (eC (.int 0))) (sSeq (sFor (gN 7) (iRng (eC (.int 4))) (sSet 6 (eAdd (eVar 6) (eF1 fLen (Yk 1 (iRng (eVar 7)) (t2I pGt (eIx (eVar 3) (eVar 1)) (eIx (eVar 3) (eVar 7))) (eVar 1)))))) (sIf (tEq (e2I iMod (eVar 6) (eC (.int 2))) (eC (.int 0))) (sApp 5 (eVar 3)) Jl)))) (sSeq (sOwn 8 (eLst [])) (sSeq (sFrz 5) (sSeq (sFor (gN 9) (iOf (eVar 5)) (sSeq (sFrz 5) (sApp 8 (Yk 10 (iOf (eVar 5)) Yq (eF2 Zim (Zw 5) (Yk 4 (iOf (eVar 9)) Yq (eIx (eVar 10) (eVar 4)))))))) (sSeq (sFrz 8) (sRet (eVar 8))))))))))
noncomputable def Zcn:List D→Option D:=run 0 11 Zgj
noncomputable def ZgC:St:=(sSeq (sSet 1 (eLst [(eLst [(eC (.int 1))]),(eLst [(eC (.int 2))]),(eLst [(eC (.int 3))]),(eLst [(eC (.int 4))]),(eLst [(eC (.int 2)),(eC (.int 2))]),(eLst [(eC (.int 5))]),(eLst [(eC (.int 6))]),(eLst [(eC (.int 7))]),(eLst [(eC (.int 8))])])) (sSeq (sSet 1 (eAdd (eVar 1) (eLst [(eLst [(eC (.int 2)),(eC (.int 4))]),(eLst [(eC (.int 2)),(eC (.int 2)),(eC (.int 2))]),(eLst [(eC (.int 9))]),(eLst [(eC (.int 3)),(eC (.int 3))]),(eLst [(eC (.int 10))]),(eLst [(eC (.int 11))]),(eLst [(eC (.int 12))]),(eLst [(eC (.int 2)),(eC (.int 6))])]))) (sSeq (sIf (t2I pLt (eVar 0) (eC (.int 17))) (sRet (Zd Zbt [(eIx (eVar 1) (eVar 0))])) Jl) (sSeq (sIf (t2I pLt (eVar 0) (eC (.int 23))) (sSeq (sSet 2 (eIx (eLst [(eTup [(eC (.int 3)),(eC (.int 0))]),(eTup [(eC (.int 4)),(eC (.int 0))]),(eTup [(eC (.int 5)),(eC (.int 0))]),(eTup [(eC (.int 6)),(eC (.int 0))]),(eTup [(eC (.int 4)),(eC (.int 2))]),(eTup [(eC (.int 6)),(eC (.int 3))])]) (e2I iSub (eVar 0) (eC (.int 17))))) (sRet (Zd Za8 [(eIx (eVar 2) (eC (.int 0))),(eIx (eVar 2) (eC (.int 1)))]))) Jl) (sRet (Zd Zcn []))))))
noncomputable def ZP:List D→Option D:=run 1 3 ZgC
noncomputable def Zba:St:=(sSeq (sOwn 2 (eLst [])) (sSeq (sFor (gN 3) (iRng (eF1 fLen (eVar 0))) (sIns 2 (e2I iMod (Zd Z8 [(eVar 1),(eVar 3),(eC (.int 12))]) (eAdd (eVar 3) (eC (.int 1)))) (eVar 3))) (sSeq (sTab 4 (Yk 5 (iOf (eVar 0)) Yq (eF1 Y5 (eVar 5)))) (sSeq (sFor (gN 6) (iRng (eF1 fLen (eVar 0))) (sFor (gN 7) (iRng (eF1 fLen (eVar 0))) (ZdI 4 (eIx (Zw 2) (eVar 6)) (eIx (Zw 2) (eVar 7)) (eSc (eIx (Zw 2) (eIx (eIx (eVar 0) (eVar 6)) (eVar 7))))))) (ZeZ 4)))))
noncomputable def Zat:List D→Option D:=run 2 8 Zba
noncomputable def Zbb:St:=(sRet (Zd Zat [(Zd ZP [(e2I iMod (Zd Zm [(eVar 0),(eVar 1)]) (eC (.int 24)))]),(Zd Zm [(eVar 0),(eAdd (eVar 1) (eC (.int 1)))])]))
noncomputable def Y6:List D→Option D:=run 2 2 Zbb
noncomputable def Zfg:St:=(sRet (eIx (Yk 2 (iRng (eF1 fLen (eVar 0))) (tIn (eVar 1) (eIx (eVar 0) (eVar 2))) (eVar 2)) (eC (.int 0))))
noncomputable def J9:List D→Option D:=run 2 3 Zfg
noncomputable def Zfi:St:=(sSeq (sSet 4 (Zd JM [(eVar 0),(eF1 Y5 (eVar 1))])) (sSeq (sSet 5 (Zd ZcE [(eVar 0),(eF1 Y5 (eVar 1))])) (sSeq (sIf (tOr (tNe (eF1 fLen (eVar 4)) (eF1 fLen (eVar 5))) (tOr (tNoN (Zd ZeC [(eVar 4)])) (tNe (eIx (eVar 5) (Zd Zb6 [(eVar 4)])) (eVar 1)))) (sRet (eC (.bl false))) Jl) (sRet (eB (tEq (eIx (eIx (eVar 4) (Zd J9 [(eVar 5),(eVar 2)])) (Zd J9 [(eVar 5),(eVar 3)])) (Zd J9 [(eVar 5),(eIx (eIx (eVar 0) (eVar 2)) (eVar 3))])))))))
noncomputable def Za4:List D→Option D:=run 4 6 Zfi
noncomputable def Zm7:St:=(sSeq (sSet 1 (Zd Y6 [(eVar 0),(eC (.int 0))])) (sSeq (sSet 2 (e2I iMod (Zd Zm [(eVar 0),(eC (.int 2))]) (eF1 fLen (eVar 1)))) (sSeq (sSet 3 (e2I iMod (Zd Zm [(eVar 0),(eC (.int 3))]) (eF1 fLen (eVar 1)))) (sSeq (sSet 4 (Zd Zdz [(eVar 1)])) (sSeq (sFor (gN 5) (iOf (eLst [(eC (.int 0)),(e2I iMod (Zd Zm [(eVar 0),(eC (.int 4))]) (eF1 fLen (eVar 4))),(e2I iMod (Zd Zm [(eVar 0),(eC (.int 5))]) (eF1 fLen (eVar 4)))])) (sSeq (sSet 6 (eIx (eVar 4) (eVar 5))) (sIf (tAnd (tB (Zd ZaQ [(eVar 1),(eF1 Y5 (eVar 6))])) (tNot (tB (Zd Za4 [(eVar 1),(eVar 6),(eVar 2),(eVar 3)])))) (sRet (eC (.bl false))) Jl))) (sSeq (sIf (tOr (tNe (Zd JM [(eVar 1),(eF1 YW (eF1 fLen (eVar 1)))]) (eLst [(eLst [(eC (.int 0))])])) (tNot (tB (Zd ZaQ [(eVar 1),(Zd ZbT [(eVar 1)])])))) (sRet (eC (.bl false))) Jl) (sRet (eB (tAnd (tNoN (Zd ZbG [(Zd JM [(eVar 1),(eLst [(Zd Zb6 [(eVar 1)])])]),(eVar 1)])) (tIn (Zd ZbT [(eVar 1)]) (eVar 4)))))))))))
noncomputable def ZgE:List D→Option D:=run 1 7 Zm7
end PV
set_option linter.all false
set_option Elab.async false
set_option maxHeartbeats 2000000
namespace PV
open PySem (Str)
noncomputable def ZbN (T:List (List Int)):D→D→D→Option D
 | .int a,.int b,.int c=>if tg T (tg T a b) c == tg T a (tg T b c) then none else some (.tup [.str "three",.int a,.int b,.int c])
 | _,_,_=>none
noncomputable def ZaP (T:List (List Int)) (n:Nat):Option D :=
 (Ji 0 n).findSome? fun a=>(Ji 0 n).findSome? fun b=>(Ji 0 n).findSome? fun c=>ZbN T a b c
noncomputable def ZaF:St:=sIf (tNe (eIx (eIx (eVar 0) (eIx (eIx (eVar 0) (eVar 2)) (eVar 3))) (eVar 4)) (eIx (eIx (eVar 0) (eVar 2)) (eIx (eIx (eVar 0) (eVar 3)) (eVar 4))))
 (sRet (eTup [(eC (.str "three")),(eVar 2),(eVar 3),(eVar 4)])) Jl
theorem Zka {T:List (List Int)}{n:Nat}(hT:Tab T n){env:Env}{a b c:Nat}(ha:a < n)(hb:b < n)(hc:c < n)(k0:eVar 0 env=some (tabD T))(k2:eVar 2 env=some (.int a))(k3:eVar 3 env=some (.int b))(k4:eVar 4 env=some (.int c)) :
  ZaF env=match ZbN T (.int a) (.int b) (.int c) with
   | some r=>some (.rt r,env)
   | none=>some (.nx,env):=by
 have b1:=hT.bound (a:=a) (b:=b) (by omega) (by omega) (by omega) (by omega)
 have b2:=hT.bound (a:=b) (b:=c) (by omega) (by omega) (by omega) (by omega)
 have e1:=ix2 hT (env:=env) (e0:=eVar 0) (e1:=eVar 2) (e2:=eVar 3) k0 k2 k3 (by omega) (by omega) (by omega) (by omega)
 have e2:=ix2 hT (env:=env) (e0:=eVar 0) (e1:=eVar 3) (e2:=eVar 4) k0 k3 k4 (by omega) (by omega) (by omega) (by omega)
 have e3:=ix2 hT (env:=env) (e0:=eVar 0) k0 e1 k4 b1.1 b1.2 (by omega) (by omega)
 have e4:=ix2 hT (env:=env) (e0:=eVar 0) k0 k2 e2 (by omega) (by omega) b2.1 b2.2
 simp only [ZaF,sIf,ZgM e3 e4,ZbN]
 cases hq:tg T (tg T (a:Int) (b:Int)) (c:Int) == tg T (a:Int) (tg T (b:Int) (c:Int)) with
 | true=>simp [Jl]
 | false=>simp [sRet,eTup,evs,eC,k2,k3,k4]
theorem Zj4 {T:List (List Int)}{n:Nat}(hT:Tab T n){it:Lx}{env0:Env}(k0:eVar 0 env0=some (tabD T))(hl:5≤env0.length)
  (hit:∀ env,Agr [2,3,4] env env0→it env=some (Ji 0 n)) :
  (∀ r,ZaP T n=some r→∃ e1,sFor (gN 2) it (sFor (gN 3) it (sFor (gN 4) it ZaF)) env0=some (.rt r,e1)) ∧
  (ZaP T n=none→∃ e1,sFor (gN 2) it (sFor (gN 3) it (sFor (gN 4) it ZaF)) env0=some (.nx,e1)∧Agr [2,3,4] e1 env0):=by
 rw [Zal (hit env0 (Agr.refl _ _))]
 refine ZaJ (fun env=>Agr [2,3,4] env env0) _ _ env0 (fun da hda env hA=>?_) (Agr.refl _ _)
 obtain ⟨a,ha,rfl⟩:=Zq hda
 refine ⟨_,rfl,?_⟩
 have A1:Agr [2,3,4] (env.set 2 (.sh (.int a))) env0:=hA.set (by simp) _
 have v2:eVar 2 (env.set 2 (.sh (.int a)))=some (.int a):=JH (by rw [hA.len];omega)
 rw [Zal (hit _ A1)]
 have key:=ZaJ (g:=gN 3) (b:=sFor (gN 4) it ZaF)
  (fun env=>Agr [2,3,4] env env0∧eVar 2 env=some (.int a)) (fun b=>(Ji 0 n).findSome? fun c=>ZbN T (.int a) b c) (Ji 0 n) (env.set 2 (.sh (.int a))) (fun db hdb env hB=>?_) ⟨A1,v2⟩
 ·exact ⟨key.1,fun h=>let ⟨e1,x,y⟩:=key.2 h;⟨e1,x,y.1⟩⟩
 obtain ⟨b,hb,rfl⟩:=Zq hdb
 obtain ⟨hB,w2⟩:=hB
 refine ⟨_,rfl,?_⟩
 have A2:Agr [2,3,4] (env.set 3 (.sh (.int b))) env0:=hB.set (by simp) _
 have v3:eVar 3 (env.set 3 (.sh (.int b)))=some (.int b):=JH (by rw [hB.len];omega)
 have v2':eVar 2 (env.set 3 (.sh (.int b)))=some (.int a):=by rw [JD (by decide)];exact w2
 rw [Zal (hit _ A2)]
 have key:=ZaJ (g:=gN 4) (b:=ZaF) (fun env=>Agr [2,3,4] env env0∧eVar 2 env=some (.int a)∧eVar 3 env=some (.int b)) (fun c=>ZbN T (.int a) (.int b) c) (Ji 0 n)
  (env.set 3 (.sh (.int b))) (fun dc hdc env hC=>?_) ⟨A2,v2',v3⟩
 ·exact ⟨key.1,fun h=>let ⟨e1,x,y⟩:=key.2 h;⟨e1,x,y.1,y.2.1⟩⟩
 obtain ⟨c,hc,rfl⟩:=Zq hdc
 obtain ⟨hC,u2,u3⟩:=hC
 refine ⟨_,rfl,?_⟩
 have A3:Agr [2,3,4] (env.set 4 (.sh (.int c))) env0:=hC.set (by simp) _
 have v4:eVar 4 (env.set 4 (.sh (.int c)))=some (.int c):=JH (by rw [hC.len];omega)
 have v2'':eVar 2 (env.set 4 (.sh (.int c)))=some (.int a):=by rw [JD (by decide)];exact u2
 have v3'':eVar 3 (env.set 4 (.sh (.int c)))=some (.int b):=by rw [JD (by decide)];exact u3
 have v0:eVar 0 (env.set 4 (.sh (.int c)))=some (tabD T):=by rw [A3.var (by decide)];exact k0
 have tb:=Zka hT ha hb hc v0 v2'' v3'' v4
 refine ⟨fun r hr=>?_,fun hn=>?_⟩
 ·rw [hr] at tb;exact ⟨_,tb⟩
 ·rw [hn] at tb;exact ⟨_,tb,A3,v2'',v3''⟩
theorem ZhE {T:List (List Int)}{n:Nat}(hT:Tab T n):Zaj [tabD T]=some ((ZaP T n).getD .non):=by
 have e:sSet 1 (eF1 fLen (eVar 0)) (enter 5 [tabD T])=some (.nx,[Sl.sh (tabD T),Sl.sh (.int n),Sl.un,Sl.un,Sl.un]):=by
  rw [Zaw (Zdk rfl |>.trans (ZdE T)),hT.len];rfl
 have key:=Zj4 hT (it:=iRng (eVar 1)) (env0:=[Sl.sh (tabD T),Sl.sh (.int n),Sl.un,Sl.un,Sl.un]) rfl (by simp) fun env hA=>Z6 (by rw [hA.var (by decide)];rfl) (by have:=hT.top;omega)
 unfold ZaF at key
 cases h:ZaP T n with
 | some r =>
  obtain ⟨e1,x⟩:=key.1 r h
  exact Ju rfl ((Yj e).trans (Zbi x))
 | none =>
  obtain ⟨e1,x,hA⟩:=key.2 h
  exact Ju rfl ((Yj e).trans ((Yj x).trans (YB rfl)))
noncomputable def Zav (T:List (List Int)) (n:Nat) (e:Int):Bool:=(List.range n).all fun a=>tg T e a == a && tg T a e == a
noncomputable def intOf:D→Int
 | .int i=>i
 | _=>0
noncomputable def restOf (T:List (List Int)) (n:Nat):Option D:=(Ji 0 n).findSome? fun d=>if Zav T n (intOf d) then some d else none
theorem all_rangeD {n:Nat}{p:D→Bool}:(Ji 0 n).all p=(List.range n).all fun k=>p (.int k):=by
 simp only [Ji,List.all_map]
 congr 1
 funext k
 simp
theorem Zlo {T:List (List Int)}{n:Nat}(hT:Tab T n){it:Lx}{env:Env}{ie ia:Nat}(hne:ia≠ie)(hne0:ia≠0)(hl:ia < env.length)(hit:it env=some (Ji 0 n))(k0:eVar 0 env=some (tabD T)){e:Nat}(he:e < n)(ke:eVar ie env=some (.int e)) :
  tB (eF1 fAll (Yk ia it Yq (eB (tAnd (tEq (eIx (eIx (eVar 0) (eVar ie)) (eVar ia)) (eVar ia)) (tEq (eIx (eIx (eVar 0) (eVar ia)) (eVar ie)) (eVar ia)))))) env=some (Zav T n e):=by
 have hn:n≤lim:=by have:=hT.top;rw [Zv];omega
 have hc:=Zca (i:=ia) (e:=eB (tAnd (tEq (eIx (eIx (eVar 0) (eVar ie)) (eVar ia)) (eVar ia)) (tEq (eIx (eIx (eVar 0) (eVar ia)) (eVar ie)) (eVar ia)))) (env:=env)
  (fun d=>.bl (tg T e (intOf d) == intOf d && tg T (intOf d) e == intOf d)) (Ji 0 n) (fun d hd=>by
   obtain ⟨a,ha,rfl⟩:=Zq hd
   have v0:eVar 0 (env.set ia (.sh (.int a)))=some (tabD T):=by rw [JD hne0];exact k0
   have ve:eVar ie (env.set ia (.sh (.int a)))=some (.int e):=by rw [JD hne];exact ke
   have va:eVar ia (env.set ia (.sh (.int a)))=some (.int a):=JH hl
   have e1:=ix2 hT v0 ve va (by omega) (by omega) (by omega) (by omega)
   have e2:=ix2 hT v0 va ve (by omega) (by omega) (by omega) (by omega)
   simp only [eB,tAnd,Zcp e1 va,Zcp e2 va,intOf]
   cases tg T (e:Int) (a:Int) == (a:Int) <;> simp)
 simp only [tB,eF1,Yk,hit,Yo,hn,if_true,hc,fAll,ZfQ,all_rangeD,Zav,intOf]
theorem ZaK {T:List (List Int)}{n:Nat}(hT:Tab T n):Zn [tabD T]=some ((restOf T n).getD .non):=by
 have e:sSet 1 (eF1 fLen (eVar 0)) (enter 4 [tabD T])=some (.nx,[Sl.sh (tabD T),Sl.sh (.int n),Sl.un,Sl.un]):=by
  rw [Zaw (Zdk rfl |>.trans (ZdE T)),hT.len];rfl
 have i1:∀ env,Agr [2] env [Sl.sh (tabD T),Sl.sh (.int n),Sl.un,Sl.un]→iRng (eVar 1) env=some (Ji 0 n):=fun env hA=>Z6 (by rw [hA.var (by decide)];rfl) (by have:=hT.top;omega)
 have key:=ZaJ (g:=gN 2) (b:=sIf (tB (eF1 fAll (Yk 3 (iRng (eVar 1)) Yq (eB (tAnd (tEq (eIx (eIx (eVar 0) (eVar 2)) (eVar 3)) (eVar 3)) (tEq (eIx (eIx (eVar 0) (eVar 3)) (eVar 2)) (eVar 3))))))) (sRet (eVar 2)) Jl)
  (fun env=>Agr [2] env [Sl.sh (tabD T),Sl.sh (.int n),Sl.un,Sl.un]) (fun d=>if Zav T n (intOf d) then some d else none) (Ji 0 n) [Sl.sh (tabD T),Sl.sh (.int n),Sl.un,Sl.un] (fun d hd env hA=>by
   obtain ⟨a,ha,rfl⟩:=Zq hd
   refine ⟨_,rfl,?_⟩
   have A1:Agr [2] (env.set 2 (.sh (.int a))) [Sl.sh (tabD T),Sl.sh (.int n),Sl.un,Sl.un]:=hA.set (by simp) _
   have v2:eVar 2 (env.set 2 (.sh (.int a)))=some (.int a):=JH (by rw [hA.len];simp)
   have tst:=Zlo hT (it:=iRng (eVar 1)) (env:=env.set 2 (.sh (.int a))) (ie:=2) (ia:=3) (by decide) (by decide) (by rw [A1.len];simp) (i1 _ A1) (by rw [A1.var (by decide)];rfl) ha v2
   by_cases hq:Zav T n (a:Int)=true
   ·rw [hq] at tst
    rw [ZcI tst,YB v2]
    simp [intOf,hq]
   ·rw [Bool.not_eq_true] at hq
    rw [hq] at tst
    rw [Y7 tst]
    simp [intOf,hq,Jl,A1]) (Agr.refl _ _)
 have hi:=i1 _ (Agr.refl _ _)
 rw [← Zal (g:=gN 2) hi] at key
 unfold restOf
 cases h:(Ji 0 n).findSome? fun d=>if Zav T n (intOf d) then some d else none with
 | some r =>
  obtain ⟨e1,x⟩:=key.1 r h
  exact Ju rfl ((Yj e).trans (Zbi x))
 | none =>
  obtain ⟨e1,x,hA⟩:=key.2 h
  exact Ju rfl ((Yj e).trans ((Yj x).trans (YB rfl)))
end PV
namespace PV
open PySem (Str)
noncomputable def Za1 (T:List (List Int)) (s e b:Int):Bool:=tg T e b == s && tg T b e == s
noncomputable def ZaW (T:List (List Int)) (n:Nat) (s e:Int):Option D:=(Ji 0 n).findSome? fun d=>if Za1 T s e (intOf d) then some d else none
theorem Zt {T:List (List Int)}{n:Nat}(hT:Tab T n){env:Env}{e:Ex}(h:e env=some (tabD T)):eF1 fLen e env=some (.int n):=by rw [Zdk h,ZdE,hT.len]
theorem Tab.le {T:List (List Int)}{n:Nat}(h:Tab T n):n≤1000:=by have:=h.top;omega
theorem ZlI {T:List (List Int)}{n:Nat}(hT:Tab T n){env:Env}{e0 ee es eb:Ex}(k0:e0 env=some (tabD T)){e b:Nat}{s:Int}(he:e < n)(hb:b < n)(ke:ee env=some (.int e))(ks:es env=some (.int s))(kb:eb env=some (.int b)) :
  tAnd (tEq (eIx (eIx e0 ee) eb) es) (tEq (eIx (eIx e0 eb) ee) es) env=some (Za1 T s e b):=by
 have e1:=ix2 hT k0 ke kb (by omega) (by omega) (by omega) (by omega)
 have e2:=ix2 hT k0 kb ke (by omega) (by omega) (by omega) (by omega)
 simp only [tAnd,Zcp e1 ks,Zcp e2 ks,Za1]
 cases tg T (e:Int) (b:Int) == s <;> simp
theorem Zie {T:List (List Int)}{n:Nat}(hT:Tab T n){s e:Nat}(he:e < n):Zay [tabD T,.int s,.int e]=some ((ZaW T n s e).getD .non):=by
 have i1:iRng (eF1 fLen (eVar 0)) (enter 4 [tabD T,.int s,.int e])=some (Ji 0 n):=Z6 (Zt hT rfl) hT.le
 have key:=ZaJ (g:=gN 3) (b:=sIf (tAnd (tEq (eIx (eIx (eVar 0) (eVar 2)) (eVar 3)) (eVar 1)) (tEq (eIx (eIx (eVar 0) (eVar 3)) (eVar 2)) (eVar 1))) (sRet (eVar 3)) Jl)
  (fun env=>Agr [3] env (enter 4 [tabD T,.int s,.int e])) (fun d=>if Za1 T s e (intOf d) then some d else none) (Ji 0 n) (enter 4 [tabD T,.int s,.int e]) (fun d hd env hA=>by
   obtain ⟨b,hb,rfl⟩:=Zq hd
   refine ⟨_,rfl,?_⟩
   have A1:Agr [3] (env.set 3 (.sh (.int b))) (enter 4 [tabD T,.int s,.int e]):=hA.set (by simp) _
   have v3:eVar 3 (env.set 3 (.sh (.int b)))=some (.int b):=JH (by rw [hA.len];simp [enter])
   have tst:=ZlI hT (env:=env.set 3 (.sh (.int b))) (e0:=eVar 0) (ee:=eVar 2) (es:=eVar 1) (eb:=eVar 3) (s:=s) (by rw [A1.var (by decide)];rfl) he hb (by rw [A1.var (by decide)];rfl) (by rw [A1.var (by decide)];rfl) v3
   by_cases hq:Za1 T s e (b:Int)=true
   ·rw [hq] at tst
    rw [ZcI tst,YB v3]
    simp [intOf,hq]
   ·rw [Bool.not_eq_true] at hq
    rw [hq] at tst
    rw [Y7 tst]
    simp [intOf,hq,Jl,A1]) (Agr.refl _ _)
 rw [← Zal (g:=gN 3) i1] at key
 unfold ZaW
 cases h:(Ji 0 n).findSome? fun d=>if Za1 T s e (intOf d) then some d else none with
 | some r =>
  obtain ⟨e1,x⟩:=key.1 r h
  exact Ju rfl (Zbi x)
 | none =>
  obtain ⟨e1,x,hA⟩:=key.2 h
  exact Ju rfl ((Yj x).trans (YB rfl))
noncomputable def Zdo (T:List (List Int)) (n:Nat) (s:Int):Option D:=(Ji 0 n).findSome? fun d=>if (ZaW T n s (intOf d)).isSome then none else some (.tup [.str "back",d])
noncomputable def ZaY (T:List (List Int)) (n:Nat):D:=match ZaP T n with
 | some r=>r
 | none=>match restOf T n with
  | none=>.tup [.str "rest"]
  | some r=>(Zdo T n (intOf r)).getD .non
theorem ZaG {α β:Type}{q:α→Option β}{ds:List α}{r:β}(h:ds.findSome? q=some r):∃ d ∈ ds,q d=some r:=by
 induction ds with
 | nil=>simp at h
 | cons d ds ih =>
  rw [List.findSome?_cons] at h
  cases hq:q d with
  | some x=>rw [hq] at h;cases h;exact ⟨d,List.mem_cons_self,hq⟩
  | none=>rw [hq] at h;obtain ⟨d',h1,h2⟩:=ih h;exact ⟨d',List.mem_cons_of_mem _ h1,h2⟩
theorem ZhC {T:List (List Int)}{n:Nat}{r:D}(h:ZaP T n=some r):∃ a b c:Nat,r=.tup [.str "three",.int a,.int b,.int c]:=by
 obtain ⟨da,ha,h⟩:=ZaG h
 obtain ⟨db,hb,h⟩:=ZaG h
 obtain ⟨dc,hc,h⟩:=ZaG h
 obtain ⟨a,_,rfl⟩:=Zq ha
 obtain ⟨b,_,rfl⟩:=Zq hb
 obtain ⟨c,_,rfl⟩:=Zq hc
 simp only [ZbN] at h
 by_cases hq:(tg T (tg T (a:Int) (b:Int)) (c:Int) == tg T (a:Int) (tg T (b:Int) (c:Int)))=true
 ·rw [if_pos hq] at h;cases h
 ·rw [if_neg hq] at h;cases h;exact ⟨a,b,c,rfl⟩
theorem Ziv {T:List (List Int)}{n:Nat}{r:D}(h:restOf T n=some r):∃ s:Nat,s < n∧r=.int s∧Zav T n s=true:=by
 obtain ⟨d,hd,h⟩:=ZaG h
 obtain ⟨s,hs,rfl⟩:=Zq hd
 by_cases hq:Zav T n (s:Int)=true
 ·simp [intOf,hq] at h;exact ⟨s,hs,h.symm,hq⟩
 ·simp [intOf,hq] at h
theorem Zd2 {T:List (List Int)}{n:Nat}{s e:Int}{r:D}(h:ZaW T n s e=some r):∃ b:Nat,b < n∧r=.int b∧Za1 T s e b=true:=by
 obtain ⟨d,hd,h⟩:=ZaG h
 obtain ⟨b,hb,rfl⟩:=Zq hd
 by_cases hq:Za1 T s e (b:Int)=true
 ·simp [intOf,hq] at h;exact ⟨b,hb,h.symm,hq⟩
 ·simp [intOf,hq] at h
theorem Znk {e:Ex}{env:Env}{x:D}(h:e env=some x):tIsN e env=some x.isN:=by simp [tIsN,h]
theorem Znm {e:Ex}{env:Env}{x:D}(h:e env=some x):tNoN e env=some (!x.isN):=by simp [tNoN,h]
theorem Zee {T:List (List Int)}{n:Nat}(hT:Tab T n):ZX [tabD T]=some (ZaY T n):=by
 have s1:sSet 1 (Zd Zaj [(eVar 0)]) (enter 4 [tabD T])=some (.nx,[.sh (tabD T),.sh ((ZaP T n).getD .non),.un,.un]):=by
  rw [Zaw ((Js rfl).trans (ZhE hT))];rfl
 cases h3:ZaP T n with
 | some r =>
  rw [h3,Option.getD_some] at s1
  obtain ⟨a,b,c,rfl⟩:=ZhC h3
  have e:ZaY T n=.tup [.str "three",.int a,.int b,.int c]:=by simp only [ZaY,h3]
  rw [e]
  exact Ju rfl ((Yj s1).trans (Zbi ((ZcI rfl).trans (YB rfl))))
 | none =>
  rw [h3,Option.getD_none] at s1
  have s2:sSet 2 (Zd Zn [(eVar 0)]) [.sh (tabD T),.sh .non,.un,.un]=some (.nx,[.sh (tabD T),.sh .non,.sh ((restOf T n).getD .non),.un]):=by
   rw [Zaw ((Js rfl).trans (ZaK hT))];rfl
  cases h2:restOf T n with
  | none =>
   rw [h2,Option.getD_none] at s2
   have e:ZaY T n=.tup [.str "rest"]:=by simp only [ZaY,h3,h2]
   rw [e]
   exact Ju rfl ((Yj s1).trans ((Yj ((Y7 rfl).trans Y0)).trans ((Yj s2).trans (Zbi ((ZcI rfl).trans (YB rfl))))))
  | some r =>
   obtain ⟨s,hs,rfl,_⟩:=Ziv h2
   rw [h2,Option.getD_some] at s2
   have e:ZaY T n=(Zdo T n s).getD .non:=by simp only [ZaY,h3,h2,intOf]
   rw [e]
   have i1:iRng (eF1 fLen (eVar 0)) [.sh (tabD T),.sh .non,.sh (.int s),.un]=some (Ji 0 n):=Z6 (Zt hT rfl) hT.le
   have key:=ZaJ (g:=gN 3) (b:=sIf (tIsN (Zd Zay [(eVar 0),(eVar 2),(eVar 3)])) (sRet (eTup [(eC (.str "back")),(eVar 3)])) Jl)
    (fun env=>Agr [3] env [.sh (tabD T),.sh .non,.sh (.int s),.un]) (fun d=>if (ZaW T n s (intOf d)).isSome then none else some (.tup [.str "back",d])) (Ji 0 n) [.sh (tabD T),.sh .non,.sh (.int s),.un] (fun d hd env hA=>by
     obtain ⟨b,hb,rfl⟩:=Zq hd
     refine ⟨_,rfl,?_⟩
     have A1:Agr [3] (env.set 3 (.sh (.int b))) [.sh (tabD T),.sh .non,.sh (.int s),.un]:=hA.set (by simp) _
     have v3:eVar 3 (env.set 3 (.sh (.int b)))=some (.int b):=JH (by rw [hA.len];simp)
     have v0:eVar 0 (env.set 3 (.sh (.int b)))=some (tabD T):=by rw [A1.var (by decide)];rfl
     have v2:eVar 2 (env.set 3 (.sh (.int b)))=some (.int s):=by rw [A1.var (by decide)];rfl
     have tst:=Znk ((ZbC v0 v2 v3).trans (Zie hT hb))
     cases hq:ZaW T n s (b:Int) with
     | none =>
      rw [hq] at tst
      rw [ZcI tst,YB (show eTup [(eC (.str "back")),(eVar 3)] _=some (.tup [.str "back",.int b]) by simp [eTup,evs,eC,v3])]
      simp [intOf,hq]
     | some r =>
      obtain ⟨b',_,rfl,_⟩:=Zd2 hq
      rw [hq] at tst
      rw [Y7 tst]
      simp [intOf,hq,Jl,A1]) (Agr.refl _ _)
   rw [← Zal (g:=gN 3) i1] at key
   unfold Zdo
   cases h:(Ji 0 n).findSome? fun d=>if (ZaW T n s (intOf d)).isSome then none else some (D.tup [.str "back",d]) with
   | some r =>
    obtain ⟨e1,x⟩:=key.1 r h
    exact Ju rfl ((Yj s1).trans ((Yj ((Y7 rfl).trans Y0)).trans ((Yj s2).trans ((Yj ((Y7 rfl).trans Y0)).trans (Zbi x)))))
   | none =>
    obtain ⟨e1,x,hA⟩:=key.2 h
    exact Ju rfl ((Yj s1).trans ((Yj ((Y7 rfl).trans Y0)).trans ((Yj s2).trans ((Yj ((Y7 rfl).trans Y0)).trans ((Yj x).trans (YB rfl))))))
end PV
namespace PV
open PySem (Str)
theorem ZdU {T:List (List Int)}{n:Nat}(hT:Tab T n)(x:Int):Zz [tabD T,.int x]=some (.bl (decide (0≤x) && decide (x < n))):=by
 refine Ju rfl (YB ?_)
 have h1:t2I pGe (eVar 1) (eC (.int 0)) (enter 2 [tabD T,.int x])=some (decide (0≤x)):=rfl
 have h2:t2I pLt (eVar 1) (eF1 fLen (eVar 0)) (enter 2 [tabD T,.int x])=some (decide (x < n)):=by
  simp only [t2I,Zt hT (show eVar 0 (enter 2 [tabD T,.int x])=some (tabD T) from rfl)]
  rfl
 simp only [eB,tAnd,h1,h2]
 cases decide (0≤x) <;> simp
theorem ZjP {e:Ex}{env:Env}{xs:List D}(h:e env=some (.lst xs)):iOf e env=some xs:=by simp [iOf,h]
theorem Zjy {T:List (List Int)}{e:Ex}{env:Env}(h:e env=some (tabD T)):iOf e env=some (T.map rowD):=ZjP h
theorem Znp {r:List Int}{e:Ex}{env:Env}(h:e env=some (rowD r)):iOf e env=some (r.map .int):=ZjP h
theorem Zd6 {T:List (List Int)}{n:Nat}(hT:Tab T n):JN [tabD T]=some .non:=by
 have e:sSet 1 (eF1 fLen (eVar 0)) (enter 4 [tabD T])=some (.nx,[Sl.sh (tabD T),Sl.sh (.int n),Sl.un,Sl.un]):=by
  rw [Zaw (Zt hT rfl)];rfl
 have t1:tOr (t2I pLt (eVar 1) (eC (.int 1))) (t2I pGt (eVar 1) (eC (.int 12))) [Sl.sh (tabD T),Sl.sh (.int n),Sl.un,Sl.un]=some false:=by
  have h1:t2I pLt (eVar 1) (eC (.int 1)) [Sl.sh (tabD T),Sl.sh (.int n),Sl.un,Sl.un]=some (decide ((n:Int) < 1)):=rfl
  have h2:t2I pGt (eVar 1) (eC (.int 12)) [Sl.sh (tabD T),Sl.sh (.int n),Sl.un,Sl.un]=some (decide (12 < (n:Int))):=rfl
  have p1:=hT.pos
  have p2:=hT.top
  rw [decide_eq_false (by omega)] at h1 h2
  simp only [tOr,h1,h2]
 have key:=Zcx (g:=gN 2) (ds:=T.map rowD) (b:=sSeq (sIf (tNe (eF1 fLen (eVar 2)) (eVar 1)) (Za2) Jl) (sIf (tNot (tB (eF1 fAll (Yk 3 (iOf (eVar 2)) Yq (Zd Zz [(eVar 0),(eVar 3)]))))) (Za2) Jl))
  (fun _ env=>Agr [2] env [Sl.sh (tabD T),Sl.sh (.int n),Sl.un,Sl.un]) (fun k d env hd hA=>by
   rw [List.getElem?_map] at hd
   cases hr:T[k]? with
   | none=>rw [hr] at hd;cases hd
   | some r =>
    rw [hr] at hd
    have hd':rowD r=d:=by simpa using hd
    subst hd'
    have hm:r ∈ T:=List.mem_of_getElem? hr
    have A1:Agr [2] (env.set 2 (.sh (rowD r))) [Sl.sh (tabD T),Sl.sh (.int n),Sl.un,Sl.un]:=hA.set (by simp) _
    have v2:eVar 2 (env.set 2 (.sh (rowD r)))=some (rowD r):=JH (by rw [hA.len];simp)
    have v1:eVar 1 (env.set 2 (.sh (rowD r)))=some (.int n):=by rw [A1.var (by decide)];rfl
    have v0:eVar 0 (env.set 2 (.sh (rowD r)))=some (tabD T):=by rw [A1.var (by decide)];rfl
    have t2:tNe (eF1 fLen (eVar 2)) (eVar 1) (env.set 2 (.sh (rowD r)))=some false:=by
     rw [ZgM (i:=r.length) (j:=n) ((Zdk v2).trans (ZfO r)) v1,hT.row r hm]
     simp
    have hlen:(r.map D.int).length≤lim:=by rw [List.length_map,hT.row r hm,Zv];have:=hT.top;omega
    have hc:=Zca (i:=3) (e:=Zd Zz [(eVar 0),(eVar 3)]) (env:=env.set 2 (.sh (rowD r))) (fun d=>.bl (decide (0≤intOf d) && decide (intOf d < n))) (r.map .int) (fun d hd=>by
     obtain ⟨x,hx,rfl⟩:=List.mem_map.mp hd
     refine (Yl (x:=tabD T) (y:=.int x) ?_ ?_).trans (ZdU hT x)
     ·rw [JD (by decide)];exact v0
     ·exact JH (by rw [A1.len];simp))
    have t3:tNot (tB (eF1 fAll (Yk 3 (iOf (eVar 2)) Yq (Zd Zz [(eVar 0),(eVar 3)])))) (env.set 2 (.sh (rowD r)))=some false:=by
     have ha:(r.map D.int).all (fun d=>decide (0≤intOf d) && decide (intOf d < (n:Int)))=true:=by
      rw [List.all_eq_true]
      intro d hd
      obtain ⟨x,hx,rfl⟩:=List.mem_map.mp hd
      have:=hT.ent r hm x hx
      simp [intOf,this.1,this.2]
     simp only [tNot,tB,eF1,Yk,Znp v2,hlen,if_true,hc,fAll,ZfQ,ha]
     rfl
    refine ⟨_,_,rfl,(Yj ((Y7 t2).trans Y0)).trans ((Y7 t3).trans Y0),A1⟩) [Sl.sh (tabD T),Sl.sh (.int n),Sl.un,Sl.un] (Agr.refl _ _)
 obtain ⟨e1,x,_⟩:=key
 rw [← Zal (it:=iOf (eVar 0)) (Zjy (T:=T) rfl)] at x
 exact Ziw rfl ((Yj e).trans ((Yj ((Y7 t1).trans Y0)).trans x))
theorem Zod {T:List (List Int)}{n:Nat}(hT:Tab T n):ZeC [tabD T]=some (ZaY T n):=by
 have s1:sDo (Zd JN [(eVar 0)]) (enter 1 [tabD T])=some (.nx,enter 1 [tabD T]):=ZiI ((Js rfl).trans (Zd6 hT))
 exact Ju rfl ((Yj s1).trans (YB ((Js rfl).trans (Zee hT))))
end PV
namespace PV
open PySem (Str)
noncomputable def ZaM (ns:List Int) (k:Nat):Int:=ns.getD k 0
theorem YZ (ns:List Int)(k:Nat):Zm [rowD ns,.int k]=some (.int (ZaM ns k)):=by
 have t1:t2I pLt (eVar 1) (eF1 fLen (eVar 0)) (enter 2 [rowD ns,.int k])=some (decide ((k:Int) < ns.length)):=by
  have h:eF1 fLen (eVar 0) (enter 2 [rowD ns,.int k])=some (.int ns.length):=(Zdk (x:=rowD ns) rfl).trans (ZfO ns)
  simp only [t2I,h];rfl
 by_cases hk:(k:Int) < ns.length
 ·rw [decide_eq_true hk] at t1
  refine Ju rfl (Zbi ((ZcI t1).trans (YB ?_)))
  show fIx (rowD ns) (.int k)=_
  rw [Ze1 (by omega) hk]
  simp [ZaM]
 ·rw [decide_eq_false hk] at t1
  have e:ZaM ns k=0:=by unfold ZaM;rw [List.getD_eq_getElem?_getD,List.getElem?_eq_none (by omega)];rfl
  rw [e]
  exact Ju rfl ((Yj ((Y7 t1).trans Y0)).trans (YB rfl))
theorem JQ {f:Int→Int→Option D}{a b:Ex}{env:Env}{i j:Int}(h1:a env=some (.int i))(h2:b env=some (.int j)):e2I f a b env=f i j:=by simp [e2I,h1,h2]
theorem ZaO {i j:Int}(h:0 < j):iMod i j=some (.int (i % j)):=by unfold iMod;rw [if_pos h]
theorem ZgJ {i j:Int}(h:0 < j)(h2:j < 1073741824):iDiv i j=some (.int (i / j)):=by unfold iDiv;rw [if_pos ⟨h,h2⟩]
theorem ZhS {i j:Int}(h:-18446744073709551616 < i)(h2:i < 18446744073709551616):iMul i j=some (.int (i * j)):=by unfold iMul;rw [if_pos (.inl ⟨h,h2⟩)]
theorem ZlU {i j:Int}(h:-18446744073709551616 < j)(h2:j < 18446744073709551616):iMul i j=some (.int (i * j)):=by unfold iMul;rw [if_pos (.inr ⟨h,h2⟩)]
theorem ZbQ {a b:Ex}{env:Env}{i j:Int}(h1:a env=some (.int i))(h2:b env=some (.int j)):eAdd a b env=some (.int (i + j)):=by simp [eAdd,eF2,h1,h2,fAdd]
theorem Zi1 (c : Int)(k : Nat)(bound : Int)(hk : k ≤ 1000)(hb : 0 < bound)(hb2 : bound ≤ 12) : ∃ r : Int, Z8 [.int c, .int k, .int bound] = some (.int r) ∧ 0 ≤ r ∧ r < bound := by
  have t1 : tEq (e2I iMod (eVar 0) (eC (.int 2))) (eC (.int 0)) (enter 6 [.int c, .int k, .int bound]) = some (c % 2 == 0) :=
    Zcp ((JQ (i := c) (j := 2) rfl rfl).trans (ZaO (by decide))) rfl
  by_cases h2 : (c % 2 == 0) = true
  · rw [h2] at t1
    have s1 : sSet 3 (e2I iDiv (eVar 0) (eC (.int 2))) (enter 6 [.int c, .int k, .int bound]) = some (.nx, [.sh (.int c), .sh (.int k), .sh (.int bound), .sh (.int (c / 2)), .un, .un]) := by
      rw [Zaw ((JQ (i := c) (j := 2) rfl rfl).trans (ZgJ (by decide) (by decide)))]; rfl
    have key := Zcx (g := gN 4) (ds := Ji 0 k) (b := sSet 3 (e2I iDiv (eVar 3) (eVar 2))) (fun _ env => Agr [3, 4] env [.sh (.int c), .sh (.int k), .sh (.int bound), .sh (.int (c / 2)), .un, .un] ∧ ∃ l : Int, eVar 3 env = some (.int l))
      (fun j d env hd ⟨hA, l, hl⟩ => by
        have A1 : Agr [3, 4] (env.set 4 (.sh d)) [.sh (.int c), .sh (.int k), .sh (.int bound), .sh (.int (c / 2)), .un, .un] := hA.set (by simp) _
        have v3 : eVar 3 (env.set 4 (.sh d)) = some (.int l) := by rw [JD (by decide)]; exact hl
        have v2 : eVar 2 (env.set 4 (.sh d)) = some (.int bound) := by rw [A1.var (by decide)]; rfl
        refine ⟨_, _, rfl, Zaw ((JQ v3 v2).trans (ZgJ hb (by omega))), A1.set (by simp) _, _, JH (by rw [A1.len]; simp)⟩)
      [.sh (.int c), .sh (.int k), .sh (.int bound), .sh (.int (c / 2)), .un, .un] ⟨Agr.refl _ _, _, rfl⟩
    obtain ⟨e1, x, hA, l, hl⟩ := key
    rw [← Zal (it := iRng (eVar 1)) (Z6 rfl hk)] at x
    have v2 : eVar 2 e1 = some (.int bound) := by rw [hA.var (by decide)]; rfl
    refine ⟨l % bound, Ju rfl (Zbi ((ZcI t1).trans ((Yj s1).trans ((Yj x).trans (YB ((JQ hl v2).trans (ZaO hb))))))), Int.emod_nonneg _ (by omega), Int.emod_lt_of_pos _ hb⟩
  · rw [Bool.not_eq_true] at h2
    rw [h2] at t1
    let q1 : Int := (c % 2147483647 + 977 * k + 1) * 48271 % 2147483647
    have m0 := Int.emod_nonneg c (show (2147483647 : Int) ≠ 0 by decide)
    have m0' := Int.emod_lt_of_pos c (show (0 : Int) < 2147483647 by decide)
    have n1 : 0 ≤ q1 := Int.emod_nonneg _ (by decide)
    have n1' : q1 < 2147483647 := Int.emod_lt_of_pos _ (by decide)
    let q2 : Int := q1 * q1 % 2147483629
    have n2 : 0 ≤ q2 := Int.emod_nonneg _ (by decide)
    have n2' : q2 < 2147483629 := Int.emod_lt_of_pos _ (by decide)
    let q3 : Int := (q2 + 40692 * (k + 3)) * 69621 % 2147483647
    have n3 : 0 ≤ q3 := Int.emod_nonneg _ (by decide)
    have s1 : sSet 5 (e2I iMod (e2I iMul (eAdd (eAdd (e2I iMod (eVar 0) (eC (.int 2147483647))) (e2I iMul (eC (.int 977)) (eVar 1))) (eC (.int 1))) (eC (.int 48271))) (eC (.int 2147483647))) (enter 6 [.int c, .int k, .int bound]) =
        some (.nx, [.sh (.int c), .sh (.int k), .sh (.int bound), .un, .un, .sh (.int q1)]) := by
      rw [Zaw ((JQ ((JQ (ZbQ (ZbQ ((JQ (i := c) (j := 2147483647) rfl rfl).trans (ZaO (by decide))) ((JQ (i := 977) (j := k) rfl rfl).trans (ZhS (by decide) (by decide)))) rfl) rfl).trans (ZlU (j := 48271) (by decide) (by decide))) rfl).trans (ZaO (by decide)))]
      rfl
    have s2 : sSet 5 (e2I iMod (e2I iMul (eVar 5) (eVar 5)) (eC (.int 2147483629))) [.sh (.int c), .sh (.int k), .sh (.int bound), .un, .un, .sh (.int q1)] =
        some (.nx, [.sh (.int c), .sh (.int k), .sh (.int bound), .un, .un, .sh (.int q2)]) := by
      rw [Zaw ((JQ ((JQ (i := q1) (j := q1) rfl rfl).trans (ZhS (by omega) (by omega))) rfl).trans (ZaO (by decide)))]
      rfl
    have s3 : sSet 5 (e2I iMod (e2I iMul (eAdd (eVar 5) (e2I iMul (eC (.int 40692)) (eAdd (eVar 1) (eC (.int 3))))) (eC (.int 69621))) (eC (.int 2147483647))) [.sh (.int c), .sh (.int k), .sh (.int bound), .un, .un, .sh (.int q2)] =
        some (.nx, [.sh (.int c), .sh (.int k), .sh (.int bound), .un, .un, .sh (.int q3)]) := by
      rw [Zaw ((JQ ((JQ (ZbQ (i := q2) rfl ((JQ (i := 40692) rfl (ZbQ (i := k) (j := 3) rfl rfl)).trans (ZhS (by decide) (by decide)))) rfl).trans (ZlU (j := 69621) (by decide) (by decide))) rfl).trans (ZaO (by decide)))]
      rfl
    refine ⟨q3 / 8 % bound, Ju rfl ((Yj ((Y7 t1).trans Y0)).trans ((Yj s1).trans ((Yj s2).trans ((Yj s3).trans (YB ((JQ ((JQ (i := q3) (j := 8) rfl rfl).trans (ZgJ (by decide) (by decide))) rfl).trans (ZaO hb))))))),
      Int.emod_nonneg _ (by omega), Int.emod_lt_of_pos _ hb⟩
end PV
namespace PV
open PySem (Str)
structure Prm (nm:List Int)(n:Nat):Prop where
 len:nm.length=n
 nd:nm.Nodup
 bd:∀ x ∈ nm,0≤x∧x < n
noncomputable def at1 (nm:List Int) (k:Int):Int:=nm.getD k.toNat 0
theorem ZnW {nm:List Int}{k:Int}(h0:0≤k)(h1:k < nm.length):at1 nm k ∈ nm:=by
 have hk:k.toNat < nm.length:=by omega
 unfold at1
 rw [List.getD_eq_getElem?_getD,List.getElem?_eq_getElem hk]
 exact List.getElem_mem hk
theorem Prm.at {nm:List Int}{n:Nat}(h:Prm nm n){k:Int}(h0:0≤k)(h1:k < n):0≤at1 nm k∧at1 nm k < n:=h.bd _ (ZnW h0 (by rw [h.len];exact h1))
theorem Prm.inj {nm:List Int}{n:Nat}(h:Prm nm n){a b:Int}(a0:0≤a)(a1:a < n)(b0:0≤b)(b1:b < n)(e:at1 nm a=at1 nm b):a=b:=by
 have hl:=h.len
 have ha:a.toNat < nm.length:=by omega
 have hb:b.toNat < nm.length:=by omega
 unfold at1 at e
 rw [List.getD_eq_getElem?_getD,List.getD_eq_getElem?_getD,List.getElem?_eq_getElem ha,List.getElem?_eq_getElem hb] at e
 have:=(List.getElem_inj h.nd).mp (show nm[a.toNat]=nm[b.toNat] from e)
 omega
theorem ZbR {α:Type}{x y:α}:∀ {nm:List α} {j:Nat},y ∈ nm.insertIdx j x→y=x∨y ∈ nm
 | nm,0,h=>by rw [List.insertIdx_zero] at h;exact List.mem_cons.mp h
 | [],j + 1,h=>by simp at h
 | z::nm,j + 1,h=>by
  rw [List.insertIdx_succ_cons] at h
  rcases List.mem_cons.mp h with e | e
  ·exact .inr (by rw [e];exact List.mem_cons_self)
  ·rcases ZbR e with e | e
   ·exact .inl e
   ·exact .inr (List.mem_cons_of_mem _ e)
theorem Zdm {α β:Type}(f:α→β)(x:α):∀ (nm:List α) (j:Nat),(nm.insertIdx j x).map f=(nm.map f).insertIdx j (f x)
 | nm,0=>by simp
 | [],j + 1=>by simp
 | z::nm,j + 1=>by simp only [List.insertIdx_succ_cons,List.map_cons,Zdm f x nm j]
theorem ZcQ {x:Int}:∀ {nm:List Int} {j:Nat},nm.Nodup→x ∉ nm→(nm.insertIdx j x).Nodup
 | nm,0,h,hx=>by rw [List.insertIdx_zero];exact List.nodup_cons.mpr ⟨hx,h⟩
 | [],j + 1,h,hx=>by simp
 | y::nm,j + 1,h,hx=>by
  rw [List.insertIdx_succ_cons]
  obtain ⟨h1,h2⟩:=List.nodup_cons.mp h
  refine List.nodup_cons.mpr ⟨fun hm=>?_,ZcQ h2 fun z=>hx (List.mem_cons_of_mem _ z)⟩
  rcases ZbR hm with e | e
  ·exact hx (by rw [← e];exact List.mem_cons_self)
  ·exact h1 e
noncomputable def Zae (T:List (List Int)):List (List D):=T.map fun r=>r.map .int
theorem Zhf:∀ T:List (List Int),ZeN (T.map rowD)=some (Zae T)
 | []=>rfl
 | r::T=>by simp only [List.map_cons,rowD,ZeN];rw [Zhf T];rfl
theorem ZjW (T:List (List Int)):D.lst ((Zae T).map .lst)=tabD T:=by simp only [Zae,tabD,List.map_map];rfl
noncomputable def tset (T:List (List Int)) (i j v:Int):List (List Int):=T.set i.toNat ((T.getD i.toNat []).set j.toNat v)
theorem Tab.tset {T:List (List Int)}{n:Nat}(h:Tab T n){i j v:Int}(i0:0≤i)(i1:i < n)(v0:0≤v)(v1:v < n):Tab (tset T i j v) n:=by
 have hr:=h.Zed i0 i1
 have hm:(T.getD i.toNat []) ∈ T:=by
  have hk:i.toNat < T.length:=by have:=h.len;omega
  rw [List.getD_eq_getElem?_getD,List.getElem?_eq_getElem hk];exact List.getElem_mem hk
 refine ⟨by unfold PV.tset;rw [List.length_set];exact h.len,fun r hr'=>?_,fun r hr' x hx=>?_,h.pos,h.top⟩
 ·rcases List.mem_or_eq_of_mem_set hr' with z | z
  ·exact h.row r z
  ·rw [z,List.length_set];exact hr
 ·rcases List.mem_or_eq_of_mem_set hr' with z | z
  ·exact h.ent r z x hx
  ·rw [z] at hx
   rcases List.mem_or_eq_of_mem_set hx with y | y
   ·exact h.ent _ hm x y
   ·rw [y];exact ⟨v0,v1⟩
theorem ZjN {T:List (List Int)}{n:Nat}(h:Tab T n){i j v a b:Int}(i0:0≤i)(i1:i < n)(j0:0≤j)(j1:j < n)(a0:0≤a)(a1:a < n)(b0:0≤b)(b1:b < n) :
  tg (tset T i j v) a b=if a=i∧b=j then v else tg T a b:=by
 have hl:=h.len
 have hr:=h.Zed i0 i1
 unfold tg PV.tset
 simp only [List.getD_eq_getElem?_getD]
 by_cases hai:a=i
 ·subst hai
  rw [List.getElem?_set_self (by omega),Option.getD_some]
  by_cases hbj:b=j
  ·subst hbj
   rw [List.getElem?_set_self (by simpa [List.getD_eq_getElem?_getD] using (show b.toNat < (T.getD a.toNat []).length by omega))]
   simp
  ·rw [List.getElem?_set_ne (by omega)]
   simp [hbj]
 ·rw [List.getElem?_set_ne (by omega)]
  simp [hai]
theorem Zio {env:Env}{i j:Nat}{s:Sl}(h:i≠j):Zw j (env.set i s)=Zw j env:=by unfold Zw;rw [List.getElem?_set_ne h]
theorem Zg6 {B : List (List Int)}{n : Nat}(hB : Tab B n)(c : Int) : ∃ (T : List (List Int)) (nm : List Int), Zat [tabD B, .int c] = some (tabD T) ∧ Tab T n ∧ Prm nm n ∧
    ∀ a b : Int, 0 ≤ a → a < n → 0 ≤ b → b < n → tg T (at1 nm a) (at1 nm b) = at1 nm (tg B a b) := by
  have hn := hB.top
  let env0 : Env := [.sh (tabD B), .sh (.int c), .ow [], .un, .un, .un, .un, .un]
  have s1 : sOwn 2 (eLst []) (enter 8 [tabD B, .int c]) = some (.nx, env0) := rfl
  have key := Zcx (g := gN 3) (ds := Ji 0 n) (b := sIns 2 (e2I iMod (Zd Z8 [(eVar 1), (eVar 3), (eC (.int 12))]) (eAdd (eVar 3) (eC (.int 1)))) (eVar 3))
    (fun k env => Agr [2, 3] env env0 ∧ ∃ nm : List Int, env[2]? = some (.ow (nm.map .int)) ∧ Prm nm k) (fun k d env hd ⟨hA, nm, hv, hp⟩ => by
      have hk : k < n := by have := (List.getElem?_eq_some_iff.mp hd).1; rwa [Yo] at this
      rw [JW hk] at hd
      obtain rfl : D.int k = d := by simpa using hd
      have A1 : Agr [2, 3] (env.set 3 (.sh (.int k))) env0 := hA.set (by simp) _
      have v3 : eVar 3 (env.set 3 (.sh (.int k))) = some (.int k) := JH (by rw [hA.len]; simp [env0])
      have v1 : eVar 1 (env.set 3 (.sh (.int k))) = some (.int c) := by rw [A1.var (by decide)]; rfl
      obtain ⟨r, hr, r0, r1⟩ := Zi1 c k 12 (by omega) (by decide) (by decide)
      have ea : e2I iMod (Zd Z8 [(eVar 1), (eVar 3), (eC (.int 12))]) (eAdd (eVar 3) (eC (.int 1))) (env.set 3 (.sh (.int k))) = some (.int (r % ((k : Int) + 1))) :=
        (JQ ((ZbC v1 v3 rfl).trans hr) (ZbQ v3 rfl)).trans (ZaO (by omega))
      have p0 := Int.emod_nonneg r (show ((k : Int) + 1) ≠ 0 by omega)
      have p1 := Int.emod_lt_of_pos r (show (0 : Int) < (k : Int) + 1 by omega)
      have hl := hp.len
      have w2 : (env.set 3 (.sh (.int k)))[2]? = some (.ow (nm.map .int)) := by rw [List.getElem?_set_ne (by decide)]; exact hv
      have hs : sIns 2 (e2I iMod (Zd Z8 [(eVar 1), (eVar 3), (eC (.int 12))]) (eAdd (eVar 3) (eC (.int 1)))) (eVar 3) (env.set 3 (.sh (.int k))) =
          some (.nx, (env.set 3 (.sh (.int k))).set 2 (.ow ((nm.map .int).insertIdx (r % ((k : Int) + 1)).toNat (.int k)))) := by
        simp only [sIns, w2, ea, v3]
        rw [if_pos ⟨p0, by rw [List.length_map]; omega, by rw [List.length_map, Zv]; omega⟩]
      refine ⟨_, _, rfl, hs, A1.set (by simp) _, nm.insertIdx (r % ((k : Int) + 1)).toNat k, ?_, ⟨?_, ?_, fun x hx => ?_⟩⟩
      · rw [Ze6 (by rw [List.length_set, hA.len]; simp [env0]), Zdm]
      · rw [List.length_insertIdx, if_pos (by omega)]; omega
      · exact ZcQ hp.nd fun z => by have := hp.bd _ z; omega
      · rcases ZbR hx with e | e
        · subst e; omega
        · have := hp.bd x e; omega) env0 ⟨Agr.refl _ _, [], rfl, ⟨rfl, List.nodup_nil, fun x hx => by cases hx⟩⟩
  obtain ⟨e1, x1, A1, nm, v2, hp⟩ := key
  rw [Yo] at hp
  rw [← Zal (it := iRng (eF1 fLen (eVar 0))) (Z6 (Zt hB rfl) hB.le)] at x1
  have l1 : e1.length = 8 := A1.len
  have w0 : eVar 0 e1 = some (tabD B) := by rw [A1.var (by decide)]; rfl
  have s2 : sTab 4 (Yk 5 (iOf (eVar 0)) Yq (eF1 Y5 (eVar 5))) e1 = some (.nx, e1.set 4 (.tab (Zae B))) := by
    have hlen : (B.map rowD).length ≤ lim := by rw [List.length_map, hB.len, Zv]; omega
    have hc := Zca (i := 5) (e := eF1 Y5 (eVar 5)) (env := e1) (fun d => d) (B.map rowD) (fun d hd => by
      obtain ⟨r, hr, rfl⟩ := List.mem_map.mp hd
      rw [Zdk (JH (by rw [l1]; decide))]; rfl)
    rw [List.map_id'] at hc
    simp only [sTab, Yk, Zjy w0, hlen, if_true, hc, Zhf]
  let e2 := e1.set 4 (.tab (Zae B))
  have l2 : e2.length = 8 := by show (e1.set 4 _).length = 8; rw [List.length_set]; exact l1
  have z0 : eVar 0 e2 = some (tabD B) := by show eVar 0 (e1.set 4 _) = _; rw [JD (by decide)]; exact w0
  have z2 : Zw 2 e2 = some (rowD nm) := by show Zw 2 (e1.set 4 _) = _; rw [Zio (by decide)]; unfold Zw; rw [v2]; rfl
  have z4 : e2[4]? = some (.tab (Zae B)) := Ze6 (by rw [l1]; decide)
  have irow : ∀ {env : Env} {e1 e2 : Ex} {k : Int}, e1 env = some (rowD nm) → e2 env = some (.int k) → 0 ≤ k → k < n → eIx e1 e2 env = some (.int (at1 nm k)) := fun {env e1 e2 k} h1 h2 k0 k1 => by
    simp only [eIx, eF2, h1, h2]
    rw [Ze1 k0 (by rw [hp.len]; exact k1)]; rfl
  have turn : ∀ (a b : Nat) (env : Env) (T : List (List Int)), a < n → b < n → Agr [4, 6, 7] env e2 → eVar 6 env = some (.int a) → eVar 7 env = some (.int b) → env[4]? = some (.tab (Zae T)) → Tab T n →
      ZdI 4 (eIx (Zw 2) (eVar 6)) (eIx (Zw 2) (eVar 7)) (eSc (eIx (Zw 2) (eIx (eIx (eVar 0) (eVar 6)) (eVar 7)))) env = some (.nx, env.set 4 (.tab (Zae (tset T (at1 nm a) (at1 nm b) (at1 nm (tg B a b)))))) := by
    intro a b env T ha hb hA k6 k7 k4 hT
    have k0 : eVar 0 env = some (tabD B) := by rw [hA.var (by decide)]; exact z0
    have k2 : Zw 2 env = some (rowD nm) := by rw [hA.varR (by decide)]; exact z2
    have ea := irow k2 k6 (by omega) (by omega)
    have eb := irow k2 k7 (by omega) (by omega)
    have ex := ix2 hB k0 k6 k7 (by omega) (by omega) (by omega) (by omega)
    have bb := hB.bound (a := a) (b := b) (by omega) (by omega) (by omega) (by omega)
    have ev := irow k2 ex bb.1 bb.2
    have pa := hp.at (k := a) (by omega) (by omega)
    have pb := hp.at (k := b) (by omega) (by omega)
    have es : eSc (eIx (Zw 2) (eIx (eIx (eVar 0) (eVar 6)) (eVar 7))) env = some (.int (at1 nm (tg B a b))) := by simp only [eSc, ev, ZaN]; rfl
    have hl := hT.len
    have i1 : ixN (Zae T).length (at1 nm a) = some (at1 nm a).toNat := by unfold ixN; rw [if_pos pa.1, if_pos (by rw [Zae, List.length_map]; omega)]
    have g1 : (Zae T)[(at1 nm a).toNat]? = some ((T.getD (at1 nm a).toNat []).map .int) := by
      have hk : (at1 nm a).toNat < T.length := by omega
      rw [Zae, List.getElem?_map, List.getElem?_eq_getElem hk, List.getD_eq_getElem?_getD, List.getElem?_eq_getElem hk]; rfl
    have rl := hT.Zed pa.1 pa.2
    have i2 : ixN ((T.getD (at1 nm a).toNat []).map D.int).length (at1 nm b) = some (at1 nm b).toNat := by unfold ixN; rw [if_pos pb.1, if_pos (by rw [List.length_map, rl]; omega)]
    simp only [ZdI, k4, es, ea, eb, i1, g1, i2]
    congr 3
    simp only [Zae, PV.tset, List.map_set]
  have key2 := Zcx (g := gN 6) (ds := Ji 0 n) (b := sFor (gN 7) (iRng (eF1 fLen (eVar 0))) (ZdI 4 (eIx (Zw 2) (eVar 6)) (eIx (Zw 2) (eVar 7)) (eSc (eIx (Zw 2) (eIx (eIx (eVar 0) (eVar 6)) (eVar 7))))))
    (fun k env => Agr [4, 6, 7] env e2 ∧ ∃ T, env[4]? = some (.tab (Zae T)) ∧ Tab T n ∧ ∀ a b : Int, 0 ≤ a → a < k → 0 ≤ b → b < n → tg T (at1 nm a) (at1 nm b) = at1 nm (tg B a b)) (fun k d env hd ⟨hA, T, hv, hT, hI⟩ => by
      have hk : k < n := by have := (List.getElem?_eq_some_iff.mp hd).1; rwa [Yo] at this
      rw [JW hk] at hd
      obtain rfl : D.int k = d := by simpa using hd
      have A2 : Agr [4, 6, 7] (env.set 6 (.sh (.int k))) e2 := hA.set (by simp) _
      have u6 : eVar 6 (env.set 6 (.sh (.int k))) = some (.int k) := JH (by rw [hA.len, l2]; decide)
      have u0 : eVar 0 (env.set 6 (.sh (.int k))) = some (tabD B) := by rw [A2.var (by decide)]; exact z0
      have inner := Zcx (g := gN 7) (ds := Ji 0 n) (b := ZdI 4 (eIx (Zw 2) (eVar 6)) (eIx (Zw 2) (eVar 7)) (eSc (eIx (Zw 2) (eIx (eIx (eVar 0) (eVar 6)) (eVar 7)))))
        (fun j env => Agr [4, 6, 7] env e2 ∧ eVar 6 env = some (.int k) ∧ ∃ T, env[4]? = some (.tab (Zae T)) ∧ Tab T n ∧ (∀ a b : Int, 0 ≤ a → a < k → 0 ≤ b → b < n → tg T (at1 nm a) (at1 nm b) = at1 nm (tg B a b)) ∧
          ∀ b : Int, 0 ≤ b → b < j → tg T (at1 nm k) (at1 nm b) = at1 nm (tg B k b)) (fun j d env hd ⟨hA, h6, T, hv, hT, hI, hJ⟩ => by
          have hj : j < n := by have := (List.getElem?_eq_some_iff.mp hd).1; rwa [Yo] at this
          rw [JW hj] at hd
          obtain rfl : D.int j = d := by simpa using hd
          have A3 : Agr [4, 6, 7] (env.set 7 (.sh (.int j))) e2 := hA.set (by simp) _
          have t7 : eVar 7 (env.set 7 (.sh (.int j))) = some (.int j) := JH (by rw [hA.len, l2]; decide)
          have t6 : eVar 6 (env.set 7 (.sh (.int j))) = some (.int k) := by rw [JD (by decide)]; exact h6
          have t4 : (env.set 7 (.sh (.int j)))[4]? = some (.tab (Zae T)) := by rw [List.getElem?_set_ne (by decide)]; exact hv
          have pk := hp.at (k := k) (by omega) (by omega)
          have pj := hp.at (k := j) (by omega) (by omega)
          have bb := hB.bound (a := k) (b := j) (by omega) (by omega) (by omega) (by omega)
          have pv := hp.at bb.1 bb.2
          refine ⟨_, _, rfl, turn k j _ T hk hj A3 t6 t7 t4 hT, A3.set (by simp) _, by rw [JD (by decide)]; exact t6, _, Ze6 (by rw [A3.len, l2]; decide), hT.tset pk.1 pk.2 pv.1 pv.2, fun a b a0 a1 b0 b1 => ?_, fun b b0 b1 => ?_⟩
          · have qa := hp.at (k := a) a0 (by omega)
            have qb := hp.at (k := b) b0 b1
            rw [ZjN hT pk.1 pk.2 pj.1 pj.2 qa.1 qa.2 qb.1 qb.2, if_neg]
            · exact hI a b a0 a1 b0 b1
            · rintro ⟨e, _⟩
              have := hp.inj a0 (by omega) (by omega) (by omega) e
              omega
          · have qb := hp.at (k := b) b0 (by omega)
            rw [ZjN hT pk.1 pk.2 pj.1 pj.2 pk.1 pk.2 qb.1 qb.2]
            by_cases e : b = j
            · subst e; simp
            · rw [if_neg]
              · exact hJ b b0 (by omega)
              · rintro ⟨_, e2⟩
                exact e (hp.inj b0 (by omega) (by omega) (by omega) e2)) (env.set 6 (.sh (.int k))) ⟨A2, u6, T, by rw [List.getElem?_set_ne (by decide)]; exact hv, hT, hI, fun b b0 b1 => by omega⟩
      obtain ⟨e3, x3, hA3, h6, T3, hv3, hT3, hI3, hJ3⟩ := inner
      rw [Yo] at hJ3
      refine ⟨_, e3, rfl, (Zal (Z6 (Zt hB u0) hB.le)).trans x3, hA3, T3, hv3, hT3, fun a b a0 a1 b0 b1 => ?_⟩
      by_cases e : a = k
      · subst e; exact hJ3 b b0 b1
      · exact hI3 a b a0 (by omega) b0 b1) e2 ⟨Agr.refl _ _, B, z4, hB, fun a b a0 a1 _ _ => by omega⟩
  obtain ⟨e3, x3, A3, T, hv, hT, hI⟩ := key2
  rw [Yo] at hI
  rw [← Zal (it := iRng (eF1 fLen (eVar 0))) (Z6 (Zt hB z0) hB.le)] at x3
  have s3 : ZeZ 4 e3 = some (.rt (tabD T), e3) := by simp only [ZeZ, hv, ZjW]
  exact ⟨T, nm, Ju rfl ((Yj s1).trans ((Yj x1).trans ((Yj s2).trans ((Yj x3).trans s3)))), hT, hp, hI⟩
end PV
set_option maxRecDepth 100000
namespace PV
open PySem (Str)
theorem ZjF:∀ {ds:List D} {xs:List Int},Jx ds=some xs→ds=xs.map .int
 | [],xs,h=>by simp [Jx] at h;subst h;rfl
 | .int i::ds,xs,h=>by
  simp only [Jx] at h
  cases e:Jx ds with
  | none=>rw [e] at h;cases h
  | some r=>rw [e] at h;cases h;rw [ZjF e];rfl
 | .non::_,_,h=>by simp [Jx] at h
 | .bl _::_,_,h=>by simp [Jx] at h
 | .str _::_,_,h=>by simp [Jx] at h
 | .lst _::_,_,h=>by simp [Jx] at h
 | .tup _::_,_,h=>by simp [Jx] at h
noncomputable def Zbo:List D→Option (List (List Int))
 | []=>some []
 | .lst ds::r=>match Jx ds,Zbo r with
  | some xs,some T=>some (xs::T)
  | _,_=>none
 | _::_=>none
theorem Zjw:∀ {ds:List D} {T:List (List Int)},Zbo ds=some T→ds=T.map rowD
 | [],T,h=>by simp [Zbo] at h;subst h;rfl
 | .lst ds::r,T,h=>by
  simp only [Zbo] at h
  split at h
  ·rename_i xs T' e1 e2
   cases h
   rw [ZjF e1,Zjw e2];rfl
  ·cases h
 | .non::_,_,h=>by simp [Zbo] at h
 | .bl _::_,_,h=>by simp [Zbo] at h
 | .int _::_,_,h=>by simp [Zbo] at h
 | .str _::_,_,h=>by simp [Zbo] at h
 | .tup _::_,_,h=>by simp [Zbo] at h
noncomputable def tab?:D→Option (List (List Int))
 | .lst ds=>Zbo ds
 | _=>none
theorem ZoS {d:D}{T:List (List Int)}(h:tab? d=some T):d=tabD T:=by
 cases d with
 | lst ds=>rw [Zjw (show Zbo ds=some T from h)];rfl
 | _=>cases h
noncomputable def tabB (T:List (List Int)):Bool:=decide (1≤T.length) && decide (T.length≤12) && T.all fun r=>r.length == T.length && r.all fun x=>decide (0≤x) && decide (x < T.length)
theorem Znw {T:List (List Int)}(h:tabB T=true):Tab T T.length:=by
 simp only [tabB,Bool.and_eq_true,decide_eq_true_eq,List.all_eq_true,beq_iff_eq] at h
 exact ⟨rfl,fun r hr=>(h.2 r hr).1,fun r hr x hx=>(h.2 r hr).2 x hx,h.1.1,h.1.2⟩
noncomputable def Za6 (k:Nat):List (List Int):=((ZP [.int k]).bind tab?).getD []
noncomputable def Zki (k:Nat):Bool:=match ZP [.int k] with
 | some d=>match tab? d with
  | some T=>tabB T
  | none=>false
 | none=>false
theorem ZmL:(List.range 24).all Zki=true:=by decide +kernel
theorem ZjL {k:Nat}(h:k < 24):ZP [.int k]=some (tabD (Za6 k))∧Tab (Za6 k) (Za6 k).length:=by
 have hb:Zki k=true:=List.all_eq_true.mp ZmL k (List.mem_range.mpr h)
 unfold Zki at hb
 unfold Za6
 cases e:ZP [.int k] with
 | none=>rw [e] at hb;cases hb
 | some d =>
  rw [e] at hb
  dsimp only at hb
  cases e2:tab? d with
  | none=>rw [e2] at hb;cases hb
  | some T =>
   rw [e2] at hb
   rw [Option.bind_some,e2,Option.getD_some,ZoS e2]
   exact ⟨rfl,Znw hb⟩
end PV
namespace PV
open PySem (Str)
theorem Zdl (i:Int){n:Nat}(h:0 < n):∃ k:Nat,k < n∧i % (n:Int)=k:=by
 have h0:=Int.emod_nonneg i (show (n:Int)≠0 by omega)
 have h1:=Int.emod_lt_of_pos i (show (0:Int) < n by omega)
 exact ⟨(i % n).toNat,by omega,by omega⟩
theorem ZgT (ns:List Int)(f:Nat):∃ (k n:Nat) (T:List (List Int)) (nm:List Int),k < 24∧Y6 [rowD ns,.int f]=some (tabD T)∧Tab (Za6 k) n∧Tab T n∧Prm nm n ∧
  ∀ a b:Int,0≤a→a < n→0≤b→b < n→tg T (at1 nm a) (at1 nm b)=at1 nm (tg (Za6 k) a b):=by
 obtain ⟨k,hk,ek⟩:=Zdl (ZaM ns f) (show 0 < 24 by decide)
 obtain ⟨eb,tb⟩:=ZjL hk
 obtain ⟨T,nm,e,hT,hp,hI⟩:=Zg6 tb (ZaM ns (f + 1))
 refine ⟨k,_,T,nm,hk,Ju rfl (YB ((Yl ((Js ((JQ ((Yl rfl rfl).trans (YZ ns f)) rfl).trans (ZaO (by decide)))).trans ?_) ((Yl rfl (ZbQ (i:=f) (j:=1) rfl rfl)).trans (YZ ns (f + 1)))).trans e)),tb,hT,hp,hI⟩
 have:(ZaM ns f % 24)=k:=ek
 rw [this]
 exact eb
end PV
namespace PV
open PySem (Str)
noncomputable def Zf4:List (List (List Int)):=[
 [[0]],
 [[0,1],[1,0]],
 [[0,1,2],[1,2,0],[2,0,1]],
 [[0,1,2,3],[1,2,3,0],[2,3,0,1],[3,0,1,2]],
 [[0,1,2,3],[1,0,3,2],[2,3,0,1],[3,2,1,0]],
 [[0,1,2,3,4],[1,2,3,4,0],[2,3,4,0,1],[3,4,0,1,2],[4,0,1,2,3]],
 [[0,1,2,3,4,5],[1,2,3,4,5,0],[2,3,4,5,0,1],[3,4,5,0,1,2],[4,5,0,1,2,3],[5,0,1,2,3,4]],
 [[0,1,2,3,4,5,6],[1,2,3,4,5,6,0],[2,3,4,5,6,0,1],[3,4,5,6,0,1,2],[4,5,6,0,1,2,3],[5,6,0,1,2,3,4],[6,0,1,2,3,4,5]],
 [[0,1,2,3,4,5,6,7],[1,2,3,4,5,6,7,0],[2,3,4,5,6,7,0,1],[3,4,5,6,7,0,1,2],[4,5,6,7,0,1,2,3],[5,6,7,0,1,2,3,4],[6,7,0,1,2,3,4,5],[7,0,1,2,3,4,5,6]],
 [[0,1,2,3,4,5,6,7],[1,0,3,2,5,4,7,6],[2,3,4,5,6,7,0,1],[3,2,5,4,7,6,1,0],[4,5,6,7,0,1,2,3],[5,4,7,6,1,0,3,2],[6,7,0,1,2,3,4,5],[7,6,1,0,3,2,5,4]],
 [[0,1,2,3,4,5,6,7],[1,0,3,2,5,4,7,6],[2,3,0,1,6,7,4,5],[3,2,1,0,7,6,5,4],[4,5,6,7,0,1,2,3],[5,4,7,6,1,0,3,2],[6,7,4,5,2,3,0,1],[7,6,5,4,3,2,1,0]],
 [[0,1,2,3,4,5,6,7,8],[1,2,3,4,5,6,7,8,0],[2,3,4,5,6,7,8,0,1],[3,4,5,6,7,8,0,1,2],[4,5,6,7,8,0,1,2,3],[5,6,7,8,0,1,2,3,4],[6,7,8,0,1,2,3,4,5],[7,8,0,1,2,3,4,5,6],[8,0,1,2,3,4,5,6,7]],
 [[0,1,2,3,4,5,6,7,8],[1,2,0,4,5,3,7,8,6],[2,0,1,5,3,4,8,6,7],[3,4,5,6,7,8,0,1,2],[4,5,3,7,8,6,1,2,0],[5,3,4,8,6,7,2,0,1],[6,7,8,0,1,2,3,4,5],[7,8,6,1,2,0,4,5,3],[8,6,7,2,0,1,5,3,4]],
 [[0,1,2,3,4,5,6,7,8,9],[1,2,3,4,5,6,7,8,9,0],[2,3,4,5,6,7,8,9,0,1],[3,4,5,6,7,8,9,0,1,2],[4,5,6,7,8,9,0,1,2,3],[5,6,7,8,9,0,1,2,3,4],[6,7,8,9,0,1,2,3,4,5],[7,8,9,0,1,2,3,4,5,6],[8,9,0,1,2,3,4,5,6,7],[9,0,1,2,3,4,5,6,7,8]],
 [[0,1,2,3,4,5,6,7,8,9,10],[1,2,3,4,5,6,7,8,9,10,0],[2,3,4,5,6,7,8,9,10,0,1],[3,4,5,6,7,8,9,10,0,1,2],[4,5,6,7,8,9,10,0,1,2,3],[5,6,7,8,9,10,0,1,2,3,4],[6,7,8,9,10,0,1,2,3,4,5],[7,8,9,10,0,1,2,3,4,5,6],[8,9,10,0,1,2,3,4,5,6,7],[9,10,0,1,2,3,4,5,6,7,8],[10,0,1,2,3,4,5,6,7,8,9]],
 [[0,1,2,3,4,5,6,7,8,9,10,11],[1,2,3,4,5,6,7,8,9,10,11,0],[2,3,4,5,6,7,8,9,10,11,0,1],[3,4,5,6,7,8,9,10,11,0,1,2],[4,5,6,7,8,9,10,11,0,1,2,3],[5,6,7,8,9,10,11,0,1,2,3,4],[6,7,8,9,10,11,0,1,2,3,4,5],[7,8,9,10,11,0,1,2,3,4,5,6],[8,9,10,11,0,1,2,3,4,5,6,7],[9,10,11,0,1,2,3,4,5,6,7,8],[10,11,0,1,2,3,4,5,6,7,8,9],[11,0,1,2,3,4,5,6,7,8,9,10]],
 [[0,1,2,3,4,5,6,7,8,9,10,11],[1,0,3,2,5,4,7,6,9,8,11,10],[2,3,4,5,6,7,8,9,10,11,0,1],[3,2,5,4,7,6,9,8,11,10,1,0],[4,5,6,7,8,9,10,11,0,1,2,3],[5,4,7,6,9,8,11,10,1,0,3,2],[6,7,8,9,10,11,0,1,2,3,4,5],[7,6,9,8,11,10,1,0,3,2,5,4],[8,9,10,11,0,1,2,3,4,5,6,7],[9,8,11,10,1,0,3,2,5,4,7,6],[10,11,0,1,2,3,4,5,6,7,8,9],[11,10,1,0,3,2,5,4,7,6,9,8]],
 [[0,1,2,3,4,5],[1,2,0,4,5,3],[2,0,1,5,3,4],[3,5,4,0,2,1],[4,3,5,1,0,2],[5,4,3,2,1,0]],
 [[0,1,2,3,4,5,6,7],[1,2,3,0,5,6,7,4],[2,3,0,1,6,7,4,5],[3,0,1,2,7,4,5,6],[4,7,6,5,0,3,2,1],[5,4,7,6,1,0,3,2],[6,5,4,7,2,1,0,3],[7,6,5,4,3,2,1,0]],
 [[0,1,2,3,4,5,6,7,8,9],[1,2,3,4,0,6,7,8,9,5],[2,3,4,0,1,7,8,9,5,6],[3,4,0,1,2,8,9,5,6,7],[4,0,1,2,3,9,5,6,7,8],[5,9,8,7,6,0,4,3,2,1],[6,5,9,8,7,1,0,4,3,2],[7,6,5,9,8,2,1,0,4,3],[8,7,6,5,9,3,2,1,0,4],[9,8,7,6,5,4,3,2,1,0]],
 [[0,1,2,3,4,5,6,7,8,9,10,11],[1,2,3,4,5,0,7,8,9,10,11,6],[2,3,4,5,0,1,8,9,10,11,6,7],[3,4,5,0,1,2,9,10,11,6,7,8],[4,5,0,1,2,3,10,11,6,7,8,9],[5,0,1,2,3,4,11,6,7,8,9,10],[6,11,10,9,8,7,0,5,4,3,2,1],[7,6,11,10,9,8,1,0,5,4,3,2],[8,7,6,11,10,9,2,1,0,5,4,3],[9,8,7,6,11,10,3,2,1,0,5,4],[10,9,8,7,6,11,4,3,2,1,0,5],[11,10,9,8,7,6,5,4,3,2,1,0]],
 [[0,1,2,3,4,5,6,7],[1,2,3,0,5,6,7,4],[2,3,0,1,6,7,4,5],[3,0,1,2,7,4,5,6],[4,7,6,5,2,1,0,3],[5,4,7,6,3,2,1,0],[6,5,4,7,0,3,2,1],[7,6,5,4,1,0,3,2]],
 [[0,1,2,3,4,5,6,7,8,9,10,11],[1,2,3,4,5,0,7,8,9,10,11,6],[2,3,4,5,0,1,8,9,10,11,6,7],[3,4,5,0,1,2,9,10,11,6,7,8],[4,5,0,1,2,3,10,11,6,7,8,9],[5,0,1,2,3,4,11,6,7,8,9,10],[6,11,10,9,8,7,3,2,1,0,5,4],[7,6,11,10,9,8,4,3,2,1,0,5],[8,7,6,11,10,9,5,4,3,2,1,0],[9,8,7,6,11,10,0,5,4,3,2,1],[10,9,8,7,6,11,1,0,5,4,3,2],[11,10,9,8,7,6,2,1,0,5,4,3]],
 [[0,1,2,3,4,5,6,7,8,9,10,11],[1,2,0,5,3,4,7,8,6,11,9,10],[2,0,1,4,5,3,8,6,7,10,11,9],[3,6,9,0,7,10,1,4,11,2,5,8],[4,8,10,2,6,11,0,5,9,1,3,7],[5,7,11,1,8,9,2,3,10,0,4,6],[6,9,3,10,0,7,4,11,1,8,2,5],[7,11,5,9,1,8,3,10,2,6,0,4],[8,10,4,11,2,6,5,9,0,7,1,3],[9,3,6,7,10,0,11,1,4,5,8,2],[10,4,8,6,11,2,9,0,5,3,7,1],[11,5,7,8,9,1,10,2,3,4,6,0]]]
noncomputable def litB (k:Nat):Bool:=match ZP [.int k] with
 | some d=>tab? d == some (Zf4.getD k [])
 | none=>false
theorem ZnA:(List.range 24).all litB=true:=by decide +kernel
theorem Zih {k:Nat}(h:k < 24):Za6 k=Zf4.getD k []:=by
 have hb:litB k=true:=List.all_eq_true.mp ZnA k (List.mem_range.mpr h)
 unfold litB at hb
 unfold Za6
 cases e:ZP [.int k] with
 | none=>rw [e] at hb;cases hb
 | some d =>
  rw [e] at hb
  have hb:tab? d=some (Zf4.getD k []):=by simpa using hb
  simp [hb]
structure Grp (T:List (List Int))(n:Nat)(s:Nat):Prop where
 tab:Tab T n
 lt:s < n
 asc:∀ a b c:Int,0≤a→a < n→0≤b→b < n→0≤c→c < n→tg T (tg T a b) c=tg T a (tg T b c)
 idl:∀ a:Int,0≤a→a < n→tg T s a=a
 idr:∀ a:Int,0≤a→a < n→tg T a s=a
 inv:∀ a:Int,0≤a→a < n→∃ b:Int,0≤b∧b < n∧tg T a b=s∧tg T b a=s
noncomputable def ascB (T:List (List Int)) (n:Nat):Bool:=(List.range n).all fun a=>(List.range n).all fun b=>(List.range n).all fun c=>tg T (tg T a b) c == tg T a (tg T b c)
noncomputable def idB (T:List (List Int)) (n s:Nat):Bool:=(List.range n).all fun a=>tg T s a == a && tg T a s == a
noncomputable def invB (T:List (List Int)) (n s:Nat):Bool:=(List.range n).all fun a=>(List.range n).any fun b=>tg T a b == s && tg T b a == s
noncomputable def grpB (T:List (List Int)):Bool:=decide (0 < T.length) && ascB T T.length && idB T T.length 0 && invB T T.length 0
theorem J6 {a:Int}{n:Nat}(h0:0≤a)(h1:a < n):∃ k:Nat,k < n∧a=k:=⟨a.toNat,by omega,by omega⟩
theorem ZnT {T:List (List Int)}(ht:Tab T T.length)(h:grpB T=true):Grp T T.length 0:=by
 simp only [grpB,Bool.and_eq_true,decide_eq_true_eq,ascB,idB,invB,List.all_eq_true,List.any_eq_true,List.mem_range,beq_iff_eq] at h
 obtain ⟨⟨⟨h0,ha⟩,hi⟩,hv⟩:=h
 refine ⟨ht,h0,fun a b c a0 a1 b0 b1 c0 c1=>?_,fun a a0 a1=>?_,fun a a0 a1=>?_,fun a a0 a1=>?_⟩
 ·obtain ⟨a,a2,rfl⟩:=J6 a0 a1
  obtain ⟨b,b2,rfl⟩:=J6 b0 b1
  obtain ⟨c,c2,rfl⟩:=J6 c0 c1
  exact ha a a2 b b2 c c2
 ·obtain ⟨a,a2,rfl⟩:=J6 a0 a1
  exact (hi a a2).1
 ·obtain ⟨a,a2,rfl⟩:=J6 a0 a1
  exact (hi a a2).2
 ·obtain ⟨a,a2,rfl⟩:=J6 a0 a1
  obtain ⟨b,hb,h1,h2⟩:=hv a a2
  exact ⟨b,by omega,by omega,h1,h2⟩
theorem ZnV:(List.range 24).all (fun k=>grpB (Zf4.getD k []))=true:=by decide +kernel
theorem Zmh {k:Nat}(h:k < 24):Grp (Za6 k) (Za6 k).length 0:=ZnT (ZjL h).2 (by
 rw [Zih h]
 exact List.all_eq_true.mp ZnV k (List.mem_range.mpr h))
theorem Prm.onto {nm:List Int}{n:Nat}(h:Prm nm n){x:Int}(x0:0≤x)(x1:x < n):∃ a:Int,0≤a∧a < n∧at1 nm a=x:=by
 have hsub:nm ⊆ (List.range n).map Int.ofNat:=fun y hy=>by
  obtain ⟨h0,h1⟩:=h.bd y hy
  exact List.mem_map.mpr ⟨y.toNat,List.mem_range.mpr (by omega),by simp [Int.toNat_of_nonneg h0]⟩
 have hmem:x ∈ nm:=by
  apply Classical.byContradiction
  intro hx
  have hnd:(x::nm).Nodup:=List.nodup_cons.mpr ⟨hx,h.nd⟩
  have hsub2:(x::nm) ⊆ (List.range n).map Int.ofNat:=fun y hy=>by
   rcases List.mem_cons.mp hy with rfl | hy
   ·exact List.mem_map.mpr ⟨y.toNat,List.mem_range.mpr (by omega),by simp [Int.toNat_of_nonneg x0]⟩
   ·exact hsub hy
  have hl:=hnd.length_le_of_subset hsub2
  simp [h.len] at hl
  omega
 obtain ⟨i,hi,e⟩:=List.mem_iff_getElem.mp hmem
 refine ⟨i,by omega,by have:=h.len;omega,?_⟩
 unfold at1
 rw [List.getD_eq_getElem?_getD,Int.toNat_natCast,List.getElem?_eq_getElem hi]
 exact e
theorem Grp.ren {B T:List (List Int)}{n s:Nat}{nm:List Int}(G:Grp B n s)(hT:Tab T n)(hp:Prm nm n)(hI:∀ a b:Int,0≤a→a < n→0≤b→b < n→tg T (at1 nm a) (at1 nm b)=at1 nm (tg B a b)):∃ s':Nat,(s':Int)=at1 nm s∧Grp T n s':=by
 have hs:=G.lt
 obtain ⟨z0,z1⟩:=hp.at (k:=s) (by omega) (by omega)
 obtain ⟨s',hs',es⟩:=J6 z0 z1
 have bd:=fun {a b:Int} a0 a1 b0 b1=>G.tab.bound (a:=a) (b:=b) a0 a1 b0 b1
 refine ⟨s',es.symm,hT,hs',?_,?_,?_,?_⟩
 ·intro a b c a0 a1 b0 b1 c0 c1
  obtain ⟨a',a2,a3,rfl⟩:=hp.onto a0 a1
  obtain ⟨b',b2,b3,rfl⟩:=hp.onto b0 b1
  obtain ⟨c',c2,c3,rfl⟩:=hp.onto c0 c1
  obtain ⟨p0,p1⟩:=bd a2 a3 b2 b3
  obtain ⟨q0,q1⟩:=bd b2 b3 c2 c3
  rw [hI _ _ a2 a3 b2 b3,hI _ _ p0 p1 c2 c3,hI _ _ b2 b3 c2 c3,hI _ _ a2 a3 q0 q1,G.asc _ _ _ a2 a3 b2 b3 c2 c3]
 ·intro a a0 a1
  obtain ⟨a',a2,a3,rfl⟩:=hp.onto a0 a1
  rw [← es,hI _ _ (by omega) (by omega) a2 a3,G.idl _ a2 a3]
 ·intro a a0 a1
  obtain ⟨a',a2,a3,rfl⟩:=hp.onto a0 a1
  rw [← es,hI _ _ a2 a3 (by omega) (by omega),G.idr _ a2 a3]
 ·intro a a0 a1
  obtain ⟨a',a2,a3,rfl⟩:=hp.onto a0 a1
  obtain ⟨b,b0,b1,h1,h2⟩:=G.inv a' a2 a3
  obtain ⟨y0,y1⟩:=hp.at b0 b1
  refine ⟨at1 nm b,y0,y1,?_,?_⟩
  ·rw [hI _ _ a2 a3 b0 b1,h1,es]
  ·rw [hI _ _ b0 b1 a2 a3,h2,es]
theorem Za9 {α β:Type}{q:α→Option β}{ds:List α}(h:∀ d ∈ ds,q d=none):ds.findSome? q=none:=List.findSome?_eq_none_iff.mpr h
theorem Zg2 {n:Nat}{p:Nat→Bool}{k:Nat}(hk:k < n)(hp:p k=true)(hu:∀ j,j < k→p j=false){q:D→Option D}(hq:∀ j:Nat,q (.int j)=if p j then some (.int j) else none):(Ji 0 n).findSome? q=some (.int k):=by
 cases e:(Ji 0 n).findSome? q with
 | none =>
  have:=List.findSome?_eq_none_iff.mp e (.int k) (List.mem_of_getElem? (by rw [JW hk];simp))
  rw [hq,if_pos hp] at this
  cases this
 | some r =>
  obtain ⟨l1,d,l2,h1,h2,h3⟩:=List.findSome?_eq_some_iff.mp e
  have hd:d ∈ Ji 0 n:=by rw [h1];simp
  obtain ⟨j,hj,rfl⟩:=Zq hd
  rw [hq] at h2
  split at h2
  ·rename_i hpj
   cases h2
   rcases Nat.lt_trichotomy j k with hlt | rfl | hgt
   ·rw [hu j hlt] at hpj;cases hpj
   ·rfl
   ·exfalso
    have hl:l1.length=j:=by
     have hg:(Ji 0 n)[l1.length]?=some (.int j):=by rw [h1];simp
     have hlt:l1.length < n:=by
      have:=congrArg List.length h1
      rw [Yo] at this
      simp at this
      omega
     rw [JW hlt] at hg
     injection hg with hg
     injection hg with hg
     omega
    have hm:(D.int k) ∈ l1:=by
     have hg:(Ji 0 n)[k]?=some (.int k):=by rw [JW hk];simp
     rw [h1,List.getElem?_append_left (by omega)] at hg
     exact List.mem_of_getElem? hg
    have:=h3 _ hm
    rw [hq,if_pos hp] at this
    cases this
  ·cases h2
end PV
set_option linter.all false
set_option Elab.async false
set_option maxHeartbeats 2000000
namespace PV
open PySem (Str)
noncomputable def pw (T:List (List Int)) (s e:Int):Nat→Int
 | 0=>s
 | k + 1=>tg T (pw T s e k) e
noncomputable def El (n:Nat) (a:Int):Prop:=0≤a∧a < n
theorem El.nat {n:Nat}{a:Int}(h:El n a):∃ k:Nat,k < n∧a=k:=J6 h.1 h.2
theorem El.of {n k:Nat}(h:k < n):El n (k:Int):=⟨by omega,by omega⟩
theorem Grp.bd {T:List (List Int)}{n s:Nat}(G:Grp T n s){a b:Int}(ha:El n a)(hb:El n b):El n (tg T a b):=G.tab.bound ha.1 ha.2 hb.1 hb.2
theorem Grp.as {T:List (List Int)}{n s:Nat}(G:Grp T n s){a b c:Int}(ha:El n a)(hb:El n b)(hc:El n c):tg T (tg T a b) c=tg T a (tg T b c):=G.asc a b c ha.1 ha.2 hb.1 hb.2 hc.1 hc.2
theorem Grp.l {T:List (List Int)}{n s:Nat}(G:Grp T n s){a:Int}(ha:El n a):tg T s a=a:=G.idl a ha.1 ha.2
theorem Grp.r {T:List (List Int)}{n s:Nat}(G:Grp T n s){a:Int}(ha:El n a):tg T a s=a:=G.idr a ha.1 ha.2
theorem Grp.i {T:List (List Int)}{n s:Nat}(G:Grp T n s){a:Int}(ha:El n a):∃ b,El n b∧tg T a b=s∧tg T b a=s:=by
 obtain ⟨b,b0,b1,h1,h2⟩:=G.inv a ha.1 ha.2;exact ⟨b,⟨b0,b1⟩,h1,h2⟩
theorem Grp.s {T:List (List Int)}{n s:Nat}(G:Grp T n s):El n (s:Int):=El.of G.lt
theorem Grp.cl {T:List (List Int)}{n s:Nat}(G:Grp T n s){a x y:Int}(ha:El n a)(hx:El n x)(hy:El n y)(h:tg T a x=tg T a y):x=y:=by
 obtain ⟨b,hb,h1,h2⟩:=G.i ha
 rw [← G.l hx,← G.l hy,← h2,G.as hb ha hx,G.as hb ha hy,h]
theorem Grp.cr {T:List (List Int)}{n s:Nat}(G:Grp T n s){a x y:Int}(ha:El n a)(hx:El n x)(hy:El n y)(h:tg T x a=tg T y a):x=y:=by
 obtain ⟨b,hb,h1,h2⟩:=G.i ha
 rw [← G.r hx,← G.r hy,← h1,← G.as hx ha hb,← G.as hy ha hb,h]
theorem Grp.pw {T:List (List Int)}{n s:Nat}(G:Grp T n s){e:Int}(he:El n e):∀ k,El n (pw T s e k)
 | 0=>G.s
 | k + 1=>G.bd (G.pw he k) he
theorem Grp.pwc {T:List (List Int)}{n s:Nat}(G:Grp T n s){e:Int}(he:El n e):∀ k,tg T e (PV.pw T s e k)=PV.pw T s e (k + 1)
 | 0=>by show tg T e s=tg T s e;rw [G.r he,G.l he]
 | k + 1=>by
  show tg T e (tg T (PV.pw T s e k) e)=tg T (PV.pw T s e (k + 1)) e
  rw [← G.as he (G.pw he k) he,G.pwc he k]
theorem Grp.pwa {T:List (List Int)}{n s:Nat}(G:Grp T n s){e:Int}(he:El n e)(i:Nat):∀ k,tg T (PV.pw T s e i) (PV.pw T s e k)=PV.pw T s e (i + k)
 | 0=>G.r (G.pw he i)
 | k + 1=>by
  show tg T (PV.pw T s e i) (tg T (PV.pw T s e k) e)=tg T (PV.pw T s e (i + k)) e
  rw [← G.as (G.pw he i) (G.pw he k) he,G.pwa he i k]
structure Od (T:List (List Int))(s e:Int)(m:Nat):Prop where
 pos:1≤m
 is:pw T s e m=s
 low:∀ j,1≤j→j < m→pw T s e j≠s
theorem Grp.hole {T:List (List Int)}{n s:Nat}(G:Grp T n s){e:Int}(he:El n e):∃ i j,i < j∧j≤n∧PV.pw T s e i=PV.pw T s e j:=by
 apply Classical.byContradiction
 intro hno
 have hnd:((List.range (n + 1)).map (PV.pw T s e)).Nodup:=by
  rw [List.Nodup,List.pairwise_map]
  refine List.Pairwise.imp_of_mem (R:=(· < ·)) (fun {a b} ha hb hab heq=>hno ⟨a,b,hab,?_,heq⟩) List.pairwise_lt_range
  have:=List.mem_range.mp hb
  omega
 have hsub:((List.range (n + 1)).map (PV.pw T s e)) ⊆ upto n:=fun y hy=>by
  obtain ⟨k,_,rfl⟩:=List.mem_map.mp hy
  exact Je.mpr (G.pw he k)
 have:=hnd.length_le_of_subset hsub
 rw [Jz] at this
 simp at this
 omega
theorem Zmn {T:List (List Int)}{s e:Int}:∀ m,1≤m→pw T s e m=s→∃ k,k≤m∧Od T s e k:=by
 intro m
 induction m using Nat.strongRecOn with
 | ind m ih =>
  intro h1 h2
  by_cases hx:∃ j,1≤j∧j < m∧pw T s e j=s
  ·obtain ⟨j,j1,j2,j3⟩:=hx
   obtain ⟨k,k1,k2⟩:=ih j j2 j1 j3
   exact ⟨k,by omega,k2⟩
  ·exact ⟨m,Nat.le_refl _,h1,h2,fun j j1 j2 j3=>hx ⟨j,j1,j2,j3⟩⟩
theorem Grp.od {T:List (List Int)}{n s:Nat}(G:Grp T n s){e:Int}(he:El n e):∃ m,m≤n∧Od T s e m:=by
 obtain ⟨i,j,hij,hj,h⟩:=G.hole he
 have h':=G.pwa he i (j - i)
 rw [show i + (j - i)=j by omega,← h] at h'
 have:=G.cl (G.pw he i) (G.pw he (j - i)) G.s (by rw [h',G.r (G.pw he i)])
 obtain ⟨k,k1,k2⟩:=Zmn (j - i) (by omega) this
 exact ⟨k,by omega,k2⟩
end PV
set_option linter.all false
set_option Elab.async false
set_option maxHeartbeats 2000000
namespace PV
open PySem (Str)
theorem Grp.three {T:List (List Int)}{n s:Nat}(G:Grp T n s):ZaP T n=none:=by
 refine Za9 fun a ha=>Za9 fun b hb=>Za9 fun c hc=>?_
 obtain ⟨a,a1,rfl⟩:=Zq ha
 obtain ⟨b,b1,rfl⟩:=Zq hb
 obtain ⟨c,c1,rfl⟩:=Zq hc
 unfold ZbN;dsimp only
 rw [if_pos (by rw [G.asc a b c (by omega) (by omega) (by omega) (by omega) (by omega) (by omega)];simp)]
theorem Zf5 {T:List (List Int)}{n:Nat}{e:Int}:Zav T n e=true↔∀ a:Nat,a < n→tg T e a=a∧tg T a e=a:=by
 simp [Zav,List.all_eq_true]
theorem Grp.rest {T:List (List Int)}{n s:Nat}(G:Grp T n s):restOf T n=some (.int s):=by
 have hs:=G.lt
 refine Zg2 (p:=fun j=>Zav T n j) hs ?_ (fun j hj=>?_) fun j=>rfl
 ·exact Zf5.mpr fun a ha=>⟨G.idl a (by omega) (by omega),G.idr a (by omega) (by omega)⟩
 ·cases e:Zav T n j with
  | false=>rfl
  | true =>
   have h1:=(Zf5.mp e s hs).1
   have h2:=G.idr j (by omega) (by omega)
   omega
theorem Grp.back {T:List (List Int)}{n s:Nat}(G:Grp T n s){a:Nat}(ha:a < n):∃ b:Nat,b < n∧ZaW T n s a=some (.int b)∧tg T a b=s∧tg T b a=s:=by
 obtain ⟨b,b0,b1,h1,h2⟩:=G.inv a (by omega) (by omega)
 cases e:ZaW T n s a with
 | none =>
  obtain ⟨b,b2,rfl⟩:=J6 b0 b1
  have:=List.findSome?_eq_none_iff.mp e (.int b) (List.mem_of_getElem? (by rw [JW b2];simp))
  simp [intOf,Za1,h1,h2] at this
 | some r =>
  obtain ⟨c,c1,rfl,hc⟩:=Zd2 e
  simp [Za1] at hc
  exact ⟨c,c1,rfl,hc.1,hc.2⟩
theorem Grp.flaw {T:List (List Int)}{n s:Nat}(G:Grp T n s):ZaY T n=.non:=by
 unfold ZaY
 rw [G.three,G.rest]
 have:Zdo T n (intOf (.int s))=none:=Za9 fun d hd=>by
  obtain ⟨a,a1,rfl⟩:=Zq hd
  obtain ⟨b,_,e,_⟩:=G.back a1
  show (if (ZaW T n s a).isSome=true then none else _)=none
  rw [e];rfl
 show (Zdo T n (intOf (.int s))).getD .non=.non
 rw [this];rfl
theorem ZD {T:List (List Int)}{n s:Nat}(G:Grp T n s):Ym [tabD T]=some .non:=by
 have s1:sDo (Zd JN [(eVar 0)]) (enter 1 [tabD T])=some (.nx,enter 1 [tabD T]):=ZiI ((Js rfl).trans (Zd6 G.tab))
 have t1:tNoN (Zd ZX [(eVar 0)]) (enter 1 [tabD T])=some false:=by rw [Znm ((Js rfl).trans (Zee G.tab)),G.flaw];rfl
 exact Ziw rfl ((Yj s1).trans ((Y7 t1).trans Y0))
theorem rest_eq {T:List (List Int)}{n s:Nat}(G:Grp T n s):Zb6 [tabD T]=some (.int s):=by
 have s1:sDo (Zd Ym [(eVar 0)]) (enter 1 [tabD T])=some (.nx,enter 1 [tabD T]):=ZiI ((Js rfl).trans (ZD G))
 have h:=ZaK G.tab
 rw [G.rest] at h
 exact Ju rfl ((Yj s1).trans (YB ((Js rfl).trans h)))
end PV
set_option linter.all false
set_option Elab.async false
set_option maxHeartbeats 2000000
namespace PV
open PySem (Str)
structure Rs (n:Nat)(r:List Int):Prop where
 el:∀ x ∈ r,El n x
 up:r.Pairwise (· < ·)
theorem Rs.nd {n:Nat}{r:List Int}(h:Rs n r):r.Nodup:=h.up.imp fun {x y} h e=>by omega
theorem Zgq {n:Nat}{r:List Int}(hn:r.Nodup)(h:∀ x ∈ r,El n x):r.length≤n:=by
 have:=hn.length_le_of_subset (l₂:=upto n) fun x hx=>Je.mpr (h x hx)
 rwa [Jz] at this
theorem Rs.len {n:Nat}{r:List Int}(h:Rs n r):r.length≤n:=Zgq h.nd h.el
theorem ZiR {n:Nat}{r:List Int}(h:∀ x ∈ r,El n x):(seen r).length≤n:=Zgq (Zjr r) fun x hx=>h x (ZfA.mp hx)
theorem ZfW {n:Nat}{r:List Int}(h:∀ x ∈ r,El n x):Rs n (srt (seen r)):=⟨fun x hx=>h x (Zah.mp hx),Zi4 r⟩
theorem Rs.Zo5 {n:Nat}{r q:List Int}(h:Rs n r)(k:Rs n q)(sub:∀ x ∈ r,x ∈ q)(hne:q≠r):r.length < q.length:=by
 rcases Nat.lt_or_ge r.length q.length with h1 | h1
 ·exact h1
 ·exfalso
  apply hne
  refine Zbd k.up h.up fun x=>⟨fun hx=>?_,sub x⟩
  apply Classical.byContradiction
  intro hx'
  have hnd:(x::r).Nodup:=List.nodup_cons.mpr ⟨hx',h.nd⟩
  have:=hnd.length_le_of_subset (l₂:=q) fun y hy=>by
   rcases List.mem_cons.mp hy with rfl | hy
   ·exact hx
   ·exact sub y hy
  simp at this
  omega
noncomputable def Cls (T:List (List Int)) (r:List Int):Prop:=∀ a ∈ r,∀ b ∈ r,tg T a b ∈ r
noncomputable def Gen (T:List (List Int)) (s:Int) (S:List Int) (x:Int):Prop:=∀ C:Int→Prop,(∀ y ∈ S,C y)→C s→(∀ a b,C a→C b→C (tg T a b))→C x
theorem Gen.of {T:List (List Int)}{s:Int}{S:List Int}{x:Int}(h:x ∈ S):Gen T s S x:=fun C h1 _ _=>h1 x h
theorem Gen.rest {T:List (List Int)}{s:Int}{S:List Int}:Gen T s S s:=fun C _ h _=>h
theorem Gen.mul {T:List (List Int)}{s:Int}{S:List Int}{x y:Int}(h:Gen T s S x)(k:Gen T s S y):Gen T s S (tg T x y):=fun C h1 h2 h3=>h3 _ _ (h C h1 h2 h3) (k C h1 h2 h3)
structure Za7 (T:List (List Int))(n:Nat)(s:Int)(S r:List Int):Prop where
 rs:Rs n r
 has:∀ x ∈ S,x ∈ r
 rest:s ∈ r
 cls:Cls T r
 gen:∀ x ∈ r,Gen T s S x
theorem Za7.uniq {T:List (List Int)}{n:Nat}{s:Int}{S r q:List Int}(h:Za7 T n s S r)(k:Za7 T n s S q):r=q :=
 Zbd h.rs.up k.rs.up fun x=>⟨fun hx=>h.gen x hx (· ∈ q) k.has k.rest fun a b ha hb=>k.cls a ha b hb,fun hx=>k.gen x hx (· ∈ r) h.has h.rest fun a b ha hb=>h.cls a ha b hb⟩
noncomputable def Zc0 (T:List (List Int)) (r:List Int):List Int:=srt (seen (r++r.flatMap fun a=>r.map fun b=>tg T a b))
theorem Zb1 {T:List (List Int)}{r:List Int}{x:Int}:x ∈ Zc0 T r↔x ∈ r∨∃ a ∈ r,∃ b ∈ r,tg T a b=x:=by
 unfold Zc0
 rw [Zah,List.mem_append,List.mem_flatMap]
 simp only [List.mem_map]
theorem Zbe {T:List (List Int)}{r:List Int}:∀ q:List Int,(q.flatMap fun a=>r.map fun b=>tg T a b).length=q.length * r.length
 | []=>by simp
 | a::q=>by rw [List.flatMap_cons,List.length_append,List.length_map,Zbe q,List.length_cons,Nat.succ_mul];omega
theorem ZkU {T:List (List Int)}{n:Nat}(hT:Tab T n){r:List Int}(hr:∀ x ∈ r,El n x):∀ x ∈ r++r.flatMap (fun a=>r.map fun b=>tg T a b),El n x:=fun x hx=>by
 rw [List.mem_append,List.mem_flatMap] at hx
 rcases hx with hx | ⟨a,ha,hx⟩
 ·exact hr x hx
 ·obtain ⟨b,hb,rfl⟩:=List.mem_map.mp hx
  have h1:=hr a ha
  have h2:=hr b hb
  exact hT.bound h1.1 h1.2 h2.1 h2.2
theorem Zcv {T:List (List Int)}{n:Nat}(hT:Tab T n){r:List Int}(hr:∀ x ∈ r,El n x)(hl:r.length≤12):YQ [tabD T,rowD r]=some (rowD (Zc0 T r)):=by
 have hn:=hT.top
 have hm:r.length * r.length≤144:=Nat.mul_le_mul hl hl
 refine ZK rfl (wp_seq (Zny (Zk4 (ZV rfl ?_))))
 refine wp_seq (Zbg (r:=r) (fun k e=>∃ x y,e=[.sh (tabD T),.sh (rowD r),.ow ((r++(r.take k).flatMap fun a=>r.map fun b=>tg T a b).map .int),x,y]) (Zcd rfl) ⟨_,_,by simp;rfl⟩ (fun k e x hx he=>?_) (fun e he=>?_))
 ·obtain ⟨_,_,rfl⟩:=he
  have hxr:=List.mem_of_getElem? hx
  have hk:=(List.getElem?_eq_some_iff.mp hx).1
  refine ZnG (r:=r++(r.take k).flatMap fun a=>r.map fun b=>tg T a b) rfl (Zdh (r:=r) (fun b=>tg T x b) (Zcd rfl) (by rw [Zv];omega) (fun b hb=>Zaz hT rfl (Zg rfl (Zg rfl ⟨hr x hxr,hr b hb,rfl⟩))) ⟨?_,?_⟩)
  ·rw [List.length_append,Zbe,List.length_map,List.length_take]
   have:min k r.length * r.length≤144:=Nat.le_trans (Nat.mul_le_mul_right _ (Nat.min_le_right _ _)) hm
   omega
  ·rw [List.take_add_one,hx,List.flatMap_append,← List.append_assoc]
   simp only [Option.toList_some,List.flatMap_cons,List.flatMap_nil,List.append_nil]
   exact ⟨_,_,rfl⟩
 ·obtain ⟨_,_,rfl⟩:=he
  refine Yr (evR.ev (Zff (ZV rfl ⟨?_,?_,?_⟩)))
  ·rw [List.take_length,List.length_append,Zbe];omega
  ·rw [List.take_length]
   have:=ZiR (ZkU hT hr)
   omega
  ·rw [List.take_length];rfl
theorem Zau {T:List (List Int)}{n s:Nat}(G:Grp T n s){S:List Int}(hS:∀ x ∈ S,El n x)(hl:S.length≤100):∃ r,ZQ [tabD T,rowD S]=some (rowD r)∧Za7 T n s S r:=by
 have hT:=G.tab
 have hn:=hT.top
 have he:∀ x ∈ S++[(s:Int)],El n x:=fun x hx=>by
  rcases List.mem_append.mp hx with hx | hx
  ·exact hS x hx
  ·simp at hx;subst hx;exact G.s
 have key:wp ZcA (enter 4 [tabD T,rowD S]) (fun o _=>∃ r,o=.rt (rowD r)∧Za7 T n s S r):=by
  refine wp_seq (ZbS (evR.ev (Zff (ZjB (ZV rfl (ZfD (Zg (d:=s) ((Js rfl).trans ((ZaK hT).trans (by rw [G.rest];rfl))) ⟨?_,?_,?_,?_⟩)))))))
  ·simp;omega
  ·simp;omega
  ·have:=ZiR he;omega
  refine wp_seq (ZbS (Zh ((Yl rfl rfl).trans (Zcv hT (ZfW he).el (by have:=(ZfW he).len;omega))) ?_))
  refine wp_seq (ZfH (N:=12) (fun k e=>∃ r,Rs n r∧(∀ x ∈ S,x ∈ r)∧(s:Int) ∈ r∧(∀ x ∈ r,Gen T s S x)∧k < r.length∧e=[.sh (tabD T),.sh (rowD S),.fr (rowD r),.fr (rowD (Zc0 T r))]) (by omega) ?_ fun k e he=>?_)
  ·refine ⟨srt (seen (S++[(s:Int)])),ZfW he,fun x hx=>Zah.mpr (List.mem_append_left _ hx),Zah.mpr (by simp),fun x hx=>?_,?_,rfl⟩
   ·rcases List.mem_append.mp (Zah.mp hx) with hx | hx
    ·exact Gen.of hx
    ·simp at hx;subst hx;exact Gen.rest
   ·exact List.length_pos_of_mem (Zah.mpr (show (s:Int) ∈ S++[(s:Int)] by simp))
  ·obtain ⟨r,hr,hs,h0,hg,hk,rfl⟩:=he
   have hw:Rs n (Zc0 T r):=ZfW (ZkU hT hr.el)
   refine Zir (ZV rfl (ZV rfl ⟨fun h=>⟨?_,?_⟩,fun h=>?_⟩))
   ·have:=hr.len;omega
   ·have h:Zc0 T r≠r:=by simpa using h
    have hlt:=hr.Zo5 hw (fun x hx=>Zb1.mpr (.inl hx)) h
    refine wp_seq (ZbS (Zh rfl (ZbS (Zh ((Yl rfl rfl).trans (Zcv hT hw.el (by have:=hw.len;omega))) ?_))))
    refine ⟨Zc0 T r,hw,fun x hx=>Zb1.mpr (.inl (hs x hx)),Zb1.mpr (.inl h0),fun x hx=>?_,by omega,rfl⟩
    rcases Zb1.mp hx with hx | ⟨a,ha,b,hb,rfl⟩
    ·exact hg x hx
    ·exact (hg a ha).mul (hg b hb)
   ·have h:Zc0 T r=r:=by simpa using h
    refine Yr (Zh rfl ⟨r,rfl,hr,hs,h0,fun a ha b hb=>?_,hg⟩)
    rw [← h]
    exact Zb1.mpr (.inr ⟨a,ha,b,hb,rfl⟩)
 obtain ⟨o,e,h1,r,rfl,h2⟩:=key
 exact ⟨r,Ju rfl h1,h2⟩
end PV
set_option linter.all false
set_option Elab.async false
set_option maxHeartbeats 2000000
namespace PV
open PySem (Str)
noncomputable def kdB (T:List (List Int)) (n:Nat) (x y:Int):Bool:=(upto n).any fun a=>decide (tg T a x=tg T y a)
noncomputable def Zm9 (T:List (List Int)) (n:Nat) (x:Int):List Int:=(upto n).filter fun y=>kdB T n x y
theorem Ze8 (n:Nat):(upto n).Pairwise (· < ·):=by
 unfold upto
 exact List.Pairwise.map _ (fun a b (h:a < b)=>by simp only [Int.ofNat_eq_natCast];omega) List.pairwise_lt_range
noncomputable def ldB (T:List (List Int)) (n:Nat) (x:Int):Bool:=decide ((Zm9 T n x).getD 0 0=x)
theorem head_mem {r:List Int}(h:0 < r.length):r.getD 0 0 ∈ r:=by
 cases r with
 | nil=>simp at h
 | cons a r=>simp
noncomputable def ZpY (T:List (List Int)) (n m:Nat):List (List Int):=((upto m).filter fun x=>ldB T n x).map (Zm9 T n)
theorem ZkQ (m:Nat):upto (m + 1)=upto m++[(m:Int)]:=by simp [upto,List.range_succ]
theorem Zmp {a b:List Int}(ha:0 < a.length)(hb:0 < b.length)(h:a.getD 0 0 < b.getD 0 0):leL a b:=by
 cases a with
 | nil=>simp at ha
 | cons x a =>
  cases b with
  | nil=>simp at hb
  | cons y b =>
   simp at h
   refine leL.of ?_
   simp only [ltL]
   rw [if_neg (by omega)]
   exact decide_eq_true h
noncomputable def midB (T:List (List Int)) (n:Nat) (x:Int):Bool:=(upto n).all fun a=>decide (tg T x a=tg T a x)
noncomputable def midL (T:List (List Int)) (n:Nat):List Int:=(upto n).filter fun x=>midB T n x
theorem Zin {T:List (List Int)}{n:Nat}{x:Int}:midB T n x=true↔∀ a,El n a→tg T x a=tg T a x:=by
 simp only [midB,List.all_eq_true,decide_eq_true_eq]
 exact ⟨fun h a ha=>h a (Je.mpr ha),fun h a ha=>h a (Je.mp ha)⟩
theorem Zg9 {T:List (List Int)}{n s:Nat}(G:Grp T n s){x:Int}(hx:El n x):Zy [tabD T,.int x]=some (.bl (midB T n x)):=by
 have hn:=G.tab.top
 refine ZK rfl (Yr ?_)
 obtain ⟨d,h1,k,rfl,h2⟩:=ZgQ (i:=2) (e:=eB (tEq (eIx (eIx (eVar 0) (eVar 1)) (eVar 2)) (eIx (eIx (eVar 0) (eVar 2)) (eVar 1)))) (env:=enter 3 [tabD T,.int x]) (it:=iRng (eF1 fLen (eVar 0))) (P:=(·=midB T n x)) (r:=upto n) (fun a=>decide (tg T x a=tg T a x)) (Zb2 (Zt G.tab rfl) (by omega)) (by rw [Jz,Zv];omega) (fun a ha=>by
  have ha:=Je.mp ha
  exact ev_B (Zgw (Zaz G.tab rfl (Zg rfl (Zg rfl ⟨hx,ha,Zaz G.tab rfl (Zg rfl (Zg rfl ⟨ha,hx,rfl⟩))⟩))))) rfl
 exact ⟨_,h1,by subst h2;rfl⟩
theorem Zhs {T:List (List Int)}{n s:Nat}(G:Grp T n s):ZbT [tabD T]=some (rowD (midL T n)):=by
 have hn:=G.tab.top
 refine ZK rfl (wp_seq (Za5 (Zh ((Js rfl).trans (ZD G)) ?_)))
 refine Yr (evR.ev (Zf2 (Zj9 (r:=upto n) (fun y=>midB T n y) (fun y=>y) (Zb2 (Zt G.tab rfl) (by omega)) (by rw [Jz,Zv];omega) (fun y hy=>tv_B (Zh ((Yl rfl rfl).trans (Zg9 G (Je.mp hy))) ⟨_,rfl,rfl⟩)) (fun y hy _=>Zg rfl rfl) ?_)))
 rw [List.map_id'];rfl
end PV
set_option linter.all false
set_option Elab.async false
set_option maxHeartbeats 2000000
namespace PV
open PySem (Str)
structure Sg (T:List (List Int))(n:Nat)(s:Int)(r:List Int):Prop where
 rs:Rs n r
 rest:s ∈ r
 cls:Cls T r
theorem Za7.sg {T:List (List Int)}{n:Nat}{s:Int}{S r:List Int}(h:Za7 T n s S r):Sg T n s r:=⟨h.rs,h.rest,h.cls⟩
theorem Sg.least {T:List (List Int)}{n:Nat}{s:Int}{r:List Int}(h:Sg T n s r):Za7 T n s r r:=⟨h.rs,fun x hx=>hx,h.rest,h.cls,fun x hx=>Gen.of hx⟩
theorem Gen.thru {T:List (List Int)}{s:Int}{S S':List Int}{x:Int}(h:Gen T s S x)(k:∀ y ∈ S,Gen T s S' y):Gen T s S' x:=fun C h1 h2 h3=>h C (fun y hy=>k y hy C h1 h2 h3) h2 h3
noncomputable def clM (B:List (List Int)) (n m:Nat):Bool:=(List.range n).all fun a=>!m.testBit a || (List.range n).all fun b=>!m.testBit b || m.testBit (tg B a b).toNat
noncomputable def cntM (B:List (List Int)):Bool:=Nat.blt ((List.range (2 ^ B.length)).filter fun m=>m.testBit 0 && clM B B.length m).length 64
theorem ZnE:(List.range 24).all (fun k=>cntM (Zf4.getD k []))=true:=by decide +kernel
theorem ZjK (p:Nat→Bool):∀ n,∃ m,m < 2 ^ n∧∀ a,a < n→m.testBit a=p a
 | 0=>⟨0,by simp,by omega⟩
 | n + 1=>by
  obtain ⟨m,h1,h2⟩:=ZjK p n
  cases hp:p n with
  | false =>
   refine ⟨m,by rw [Nat.pow_succ];omega,fun a ha=>?_⟩
   rcases Nat.lt_or_ge a n with h | h
   ·exact h2 a h
   ·have:a=n:=by omega
    subst this;rw [hp];exact Nat.testBit_lt_two_pow h1
  | true =>
   refine ⟨2 ^ n + m,by rw [Nat.pow_succ];omega,fun a ha=>?_⟩
   rcases Nat.lt_or_ge a n with h | h
   ·rw [Nat.testBit_two_pow_add_gt h];exact h2 a h
   ·have:a=n:=by omega
    subst this;rw [Nat.testBit_two_pow_add_eq,Nat.testBit_lt_two_pow h1,hp];rfl
noncomputable def Few (T:List (List Int)) (n:Nat) (s:Int):Prop:=∀ P:List (List Int),P.Nodup→(∀ r ∈ P,Sg T n s r)→P.length < 64
theorem Zhy (ns:List Int)(f:Nat):∃ (n s:Nat) (T:List (List Int)),Y6 [rowD ns,.int f]=some (tabD T)∧Grp T n s∧Few T n s:=by
 obtain ⟨k,n,T,nm,hk,e,tb,hT,hp,hI⟩:=ZgT ns f
 have G:=Zmh hk
 have hb:cntM (Za6 k)=true:=by rw [Zih hk];exact List.all_eq_true.mp ZnE k (List.mem_range.mpr hk)
 unfold cntM at hb
 rw [tb.len] at G hb
 obtain ⟨s',es,G'⟩:=G.ren hT hp hI
 refine ⟨n,s',T,e,G',fun P nd hP=>?_⟩
 have hn:=hT.pos
 obtain ⟨M,hM⟩:=Classical.axiomOfChoice fun r:List Int=>ZjK (fun a=>decide (at1 nm a ∈ r)) n
 have n1:(P.map M).Nodup:=by
  unfold List.Nodup
  rw [List.pairwise_map]
  refine List.Pairwise.imp_of_mem (R:=(·≠·)) (fun {r q} hr hq hne he=>hne ?_) nd
  have key:∀ {r q:List Int},Sg T n s' r→M r=M q→∀ x ∈ r,x ∈ q:=fun {r q} hr he x hx=>by
   have hel:=hr.rs.el x hx
   obtain ⟨a,a0,a1,rfl⟩:=hp.onto hel.1 hel.2
   obtain ⟨b,hb1,rfl⟩:=J6 a0 a1
   have h1:=(hM r).2 b hb1
   rw [he,(hM q).2 b hb1] at h1
   have:decide (at1 nm b ∈ r)=true:=decide_eq_true hx
   rw [this] at h1
   exact of_decide_eq_true h1
  exact Zbd (hP r hr).rs.up (hP q hq).rs.up fun x=>⟨key (hP r hr) he x,key (hP q hq) he.symm x⟩
 have n2:=n1.length_le_of_subset (l₂:=(List.range (2 ^ n)).filter fun m=>m.testBit 0 && clM (Za6 k) n m) fun m hm=>by
  obtain ⟨r,hr,rfl⟩:=List.mem_map.mp hm
  have hS:=hP r hr
  rw [List.mem_filter,Bool.and_eq_true]
  refine ⟨List.mem_range.mpr (hM r).1,?_,?_⟩
  ·rw [(hM r).2 0 hn]
   refine decide_eq_true ?_
   have:=hS.rest
   rw [es] at this
   exact this
  ·unfold clM
   rw [List.all_eq_true]
   intro a ha
   have ha:=List.mem_range.mp ha
   rw [(hM r).2 a ha]
   by_cases h1:at1 nm a ∈ r
   ·rw [decide_eq_true h1]
    show (false || _)=true
    rw [Bool.false_or,List.all_eq_true]
    intro b hb
    have hb:=List.mem_range.mp hb
    rw [(hM r).2 b hb]
    by_cases h2:at1 nm b ∈ r
    ·rw [decide_eq_true h2]
     show (false || _)=true
     rw [Bool.false_or]
     have h3:=hS.cls _ h1 _ h2
     rw [hI a b (by omega) (by omega) (by omega) (by omega)] at h3
     obtain ⟨c,hc,ec⟩:=(G.bd (El.of ha) (El.of hb)).nat
     rw [ec] at h3 ⊢
     rw [Int.toNat_natCast,(hM r).2 c hc]
     exact decide_eq_true h3
    ·rw [decide_eq_false h2];rfl
   ·rw [decide_eq_false h1];rfl
 have h3:=Nat.blt_eq.mp hb
 rw [List.length_map] at n2
 omega
end PV
set_option linter.all false
set_option Elab.async false
set_option maxHeartbeats 2000000
namespace PV
open PySem (Str)
noncomputable def keyL (r:List Int):List Int:=(r.length:Int)::r
theorem Zmf {r q:List Int}(h:keyL r=keyL q):r=q:=(List.cons.inj h).2
theorem Ziq {α β:Type}(k:β→List Int)(g:α→β)(x:α):∀ l:List α,insB k (g x) (l.map g)=(insB (fun a=>k (g a)) x l).map g
 | []=>rfl
 | y::l=>by
  simp only [List.map_cons,insB]
  split
  ·rw [List.map_cons,Ziq k g x l]
  ·rfl
theorem Zib {α β:Type}(k:β→List Int)(g:α→β):∀ l:List α,srtB k (l.map g)=(srtB (fun a=>k (g a)) l).map g
 | []=>rfl
 | x::l=>by simp only [List.map_cons,srtB];rw [Zib k g l,Ziq]
theorem Zf0 (r:List Int):ZC [rowD r]=some (.tup [.int r.length,rowD r]):=by
 refine ZK rfl (Yr (Zh ?_ rfl))
 have e1:eF1 fLen (eVar 0) (enter 1 [rowD r])=some (.int r.length):=(Zl6 (P:=(·=(r.length:Int))) (ZV (d:=r) rfl rfl)).eq
 show eTup [eF1 fLen (eVar 0),eVar 0] (enter 1 [rowD r])=_
 simp only [eTup,evs,e1]
 rfl
theorem Zhj:∀ l:List (List Int),ZbY ZC (l.map rowD)=some (l.map fun r=>(keyL r,rowD r))
 | []=>rfl
 | r::l=>by
  rw [List.map_cons,ZbY,Zf0,Zhj l]
  simp only [keyD,rowD,ints_map]
  rfl
theorem Zkl {l:List (List Int)}(h64:l.length < 64)(nd:l.Nodup):Zbs ZC (.lst (l.map rowD))=some (tabD (srtB keyL l)):=by
 have e1:(l.map fun r=>(keyL r,rowD r)).length < 64∧((l.map fun r=>(keyL r,rowD r)).map (·.1)).Nodup:=by
  refine ⟨by rw [List.length_map];exact h64,?_⟩
  rw [List.map_map]
  unfold List.Nodup
  rw [List.pairwise_map]
  exact nd.imp fun {a b} h e=>h (Zmf e)
 simp only [Zbs,Zhj,if_pos e1]
 rw [Zib (fun p:List Int × D=>p.1) (fun r=>(keyL r,rowD r)) l,List.map_map]
 rfl
structure PsOk (T:List (List Int))(n:Nat)(s:Int)(f:List (List Int)):Prop where
 nd:f.Nodup
 sg:∀ r ∈ f,Sg T n s r
theorem ZmB {T : List (List Int)}{n s : Nat}(G : Grp T n s)(few : Few T n s) : ∃ P, Zdz [tabD T] = some (tabD P) ∧ P.Nodup ∧ (∀ r, r ∈ P ↔ Sg T n s r) ∧ P.Pairwise fun a b => leL (keyL a) (keyL b) := by
  have hT := G.tab
  have hn := hT.top
  obtain ⟨r0, e0, L0⟩ := Zau G (S := []) (by simp) (by simp)
  have key : wp ZgX (enter 5 [tabD T]) (fun o _ => ∃ P, o = .rt (tabD P) ∧ P.Nodup ∧ (∀ r, r ∈ P ↔ Sg T n s r) ∧ P.Pairwise fun a b => leL (keyL a) (keyL b)) := by
    refine wp_seq (Za5 (Zh ((Js rfl).trans (ZD G)) ?_))
    refine wp_seq (Zk2 (ZnP (Zh ((Yl (x := tabD T) (y := rowD []) rfl rfl).trans e0) ⟨_, rfl, ?_⟩)))
    refine wp_seq (Zha (n := n) (fun k e => ∃ f x y z, PsOk T n s f ∧ (∀ S r, Rs n S → (∀ x ∈ S, x < (k : Int)) → Za7 T n s S r → r ∈ f) ∧ e = [.sh (tabD T), .nw (f.map rowD), x, y, z]) (Z6 (Zt hT rfl) (by omega)) ⟨[r0], _, _, _, ⟨by simp, by simp; exact L0.sg⟩, fun S r hS hx hL => ?_, rfl⟩ (fun k e hk he => ?_) (fun e he => ?_))
    · have : S = [] := by
        cases S with
        | nil => rfl
        | cons a S => have h1 := hx a (by simp); have h2 := (hS.el a (by simp)).1; omega
      subst this
      simp [L0.uniq hL]
    · obtain ⟨f, _, _, _, hf, hc, rfl⟩ := he
      have hfl := few f hf.nd hf.sg
      refine ZlR (r := f) (fun j e => ∃ f' y z, PsOk T n s f' ∧ (∀ r ∈ f, r ∈ f') ∧ (∀ p ∈ f.take j, ∀ r, Za7 T n s (p ++ [(k : Int)]) r → r ∈ f') ∧ e = [.sh (tabD T), .nw (f'.map rowD), .sh (.int k), y, z]) (Zm2 rfl) ⟨f, _, _, hf, fun r h => h, by simp, rfl⟩ (fun j e p hp he => ?_) (fun e he => ?_)
      · obtain ⟨f', _, _, hf', hsub, hc', rfl⟩ := he
        have hps := hf.sg p (List.mem_of_getElem? hp)
        have hpl := hps.rs.len
        have hfl' := few f' hf'.nd hf'.sg
        obtain ⟨w, ew, Lw⟩ := Zau G (S := p ++ [(k : Int)]) (fun x hx => by
          rcases List.mem_append.mp hx with hx | hx
          · exact hps.rs.el x hx
          · simp at hx; subst hx; exact El.of hk) (by simp; omega)
        refine wp_seq (ZbS (Zl2 (Zh rfl (evR.ev (ZjB (ZV rfl (ZfD (Zg rfl ⟨by simp; omega, _, ew, ?_⟩))))))))
        have nxt : ∀ f2 : List (List Int), (∀ r ∈ f', r ∈ f2) → w ∈ f2 → ∀ q ∈ f.take (j + 1), ∀ r, Za7 T n s (q ++ [(k : Int)]) r → r ∈ f2 := fun f2 h1 h2 q hq r hr => by
          rw [List.take_add_one, hp, List.mem_append] at hq
          rcases hq with hq | hq
          · exact h1 r (hc' q hq r hr)
          · simp at hq; subst hq; rw [hr.uniq Lw]; exact h2
        refine Zcf (ZoR (ZV rfl (ZaL rfl ⟨fun h => ?_, fun h => ?_⟩)))
        · have h : w ∉ f' := by simpa using h
          refine Zjv rfl (Zh rfl ⟨by rw [List.length_map, Zv]; omega, f' ++ [w], _, _, ⟨?_, ?_⟩, fun r hr => List.mem_append_left _ (hsub r hr), nxt _ (fun r hr => List.mem_append_left _ hr) (by simp), by rw [List.map_append]; rfl⟩)
          · rw [List.nodup_append]
            refine ⟨hf'.nd, by simp, fun a ha b hb => ?_⟩
            simp at hb; subst hb
            rintro rfl
            exact h ha
          · intro r hr
            rcases List.mem_append.mp hr with hr | hr
            · exact hf'.sg r hr
            · simp at hr; subst hr; exact Lw.sg
        · have h : w ∈ f' := by simpa using h
          exact Zcq ⟨f', _, _, hf', hsub, nxt f' (fun r hr => hr) h, rfl⟩
      · obtain ⟨f', _, _, hf', hsub, hc', rfl⟩ := he
        rw [List.take_length] at hc'
        refine ⟨f', _, _, _, hf', fun S r hS hx hL => ?_, rfl⟩
        by_cases hkS : (k : Int) ∈ S
        · have hS0 : Rs n (S.filter fun x => decide (x < (k : Int))) := ⟨fun x hx => hS.el x (List.mem_filter.mp hx).1, hS.up.filter _⟩
          have hlen := hS0.len
          obtain ⟨q, _, Lq⟩ := Zau G (S := S.filter fun x => decide (x < (k : Int))) hS0.el (by omega)
          have hq := hc _ q hS0 (fun x hx => by simpa using (List.mem_filter.mp hx).2) Lq
          obtain ⟨w, _, Lw⟩ := Zau G (S := q ++ [(k : Int)]) (fun x hx => by
            rcases List.mem_append.mp hx with hx | hx
            · exact Lq.rs.el x hx
            · simp at hx; subst hx; exact El.of hk) (by have := Lq.rs.len; simp; omega)
          have : Za7 T n s S w := by
            refine ⟨Lw.rs, fun x hx' => ?_, Lw.rest, Lw.cls, fun x hx' => (Lw.gen x hx').thru fun y hy => ?_⟩
            · rcases Int.lt_or_le x k with h1 | h1
              · exact Lw.has x (List.mem_append_left _ (Lq.has x (List.mem_filter.mpr ⟨hx', by simpa using h1⟩)))
              · have := hx x hx'
                have : x = k := by omega
                subst this
                exact Lw.has _ (by simp)
            · rcases List.mem_append.mp hy with hy | hy
              · exact (Lq.gen y hy).thru fun z hz => Gen.of (List.mem_filter.mp hz).1
              · simp at hy; subst hy; exact Gen.of hkS
          rw [hL.uniq this]
          exact hc' q hq w Lw
        · exact hsub r (hc S r hS (fun x hx' => by
            have := hx x hx'
            rcases Int.lt_or_le x k with h1 | h1
            · exact h1
            · have : x = k := by omega
              subst this
              exact absurd hx' hkS) hL)
    · obtain ⟨f, _, _, _, hf, hc, rfl⟩ := he
      have hfl := few f hf.nd hf.sg
      refine Yr (Zh (show eF1 (Zbs ZC) (ZfX 1) _ = _ from Zkl hfl hf.nd) ⟨_, rfl, (Zbn _ _).nodup_iff.mpr hf.nd, fun r => ?_, Ze5 _ _⟩)
      rw [(Zbn _ _).mem_iff]
      exact ⟨fun h => hf.sg r h, fun h => hc r r h.rs (fun x hx => (h.rs.el x hx).2) h.least⟩
  obtain ⟨o, e, h1, P, rfl, h2⟩ := key
  exact ⟨P, Ju rfl h1, h2⟩
end PV
set_option linter.all false
set_option Elab.async false
set_option maxHeartbeats 2000000
namespace PV
open PySem (Str)
theorem Sg.inv {T:List (List Int)}{n s:Nat}(G:Grp T n s){r:List Int}(h:Sg T n s r){a b:Int}(ha:a ∈ r)(hb:El n b)(e:tg T a b=s):b ∈ r:=by
 have hae:=h.rs.el a ha
 obtain ⟨m,_,hO⟩:=G.od hae
 have hp:∀ j,pw T s a j ∈ r:=by
  intro j
  induction j with
  | zero=>exact h.rest
  | succ j ih=>exact h.cls _ ih _ ha
 have h1:tg T a (pw T s a (m - 1))=s:=by rw [G.pwc hae,show m - 1 + 1=m by have:=hO.pos;omega,hO.is]
 rw [G.cl hae hb (G.pw hae _) (e.trans h1.symm)]
 exact hp _
noncomputable def Yg (T:List (List Int)) (r:List Int) (x:Int):List Int:=srt (r.map fun y=>tg T x y)
theorem ZF {T:List (List Int)}{r:List Int}{x z:Int}:z ∈ Yg T r x↔∃ y ∈ r,tg T x y=z:=by
 unfold Yg
 rw [(ZG _).mem_iff,List.mem_map]
theorem ZbH (T:List (List Int))(r:List Int)(x:Int):(Yg T r x).length=r.length:=by
 unfold Yg;rw [(ZG _).length_eq,List.length_map]
section
variable {T:List (List Int)} {n s:Nat} {r:List Int}
theorem Sg.ZeP (G:Grp T n s)(h:Sg T n s r){x:Int}(hx:El n x):(Yg T r x).Pairwise (· < ·):=by
 refine ZeV (Zdu _) ((ZG _).nodup_iff.mpr ?_)
 unfold List.Nodup
 rw [List.pairwise_map]
 exact List.Pairwise.imp_of_mem (R:=(·≠·)) (fun {a b} ha hb hne e=>hne (G.cl hx (h.rs.el a ha) (h.rs.el b hb) e)) h.rs.nd
theorem Sg.ZhG (G:Grp T n s)(h:Sg T n s r){x z:Int}(hx:El n x)(hz:z ∈ Yg T r x):El n z:=by
 obtain ⟨y,hy,rfl⟩:=ZF.mp hz
 exact G.bd hx (h.rs.el y hy)
theorem Sg.ZeU (G:Grp T n s)(h:Sg T n s r){x:Int}(hx:El n x):x ∈ Yg T r x:=ZF.mpr ⟨s,h.rest,G.r hx⟩
theorem Sg.ZgB (G:Grp T n s)(h:Sg T n s r){x z:Int}(hx:El n x)(hz:z ∈ Yg T r x):Yg T r z=Yg T r x:=by
 have hze:=h.ZhG G hx hz
 obtain ⟨y,hy,rfl⟩:=ZF.mp hz
 have hye:=h.rs.el y hy
 refine Zbd (h.ZeP G hze) (h.ZeP G hx) fun w=>?_
 rw [ZF,ZF]
 constructor
 ·rintro ⟨u,hu,rfl⟩
  exact ⟨tg T y u,h.cls y hy u hu,(G.as hx hye (h.rs.el u hu)).symm⟩
 ·rintro ⟨u,hu,rfl⟩
  obtain ⟨b,hb,h1,h2⟩:=G.i hye
  have hbr:=h.inv G hy hb h1
  have hue:=h.rs.el u hu
  refine ⟨tg T b u,h.cls b hbr u hu,?_⟩
  rw [G.as hx hye (G.bd hb hue),← G.as hye hb hue,h1,G.l hue]
theorem Sg.pos (h:Sg T n s r):0 < r.length:=List.length_pos_of_mem h.rest
noncomputable def ldS (T:List (List Int)) (r:List Int) (x:Int):Bool:=decide ((Yg T r x).getD 0 0=x)
theorem Sg.lead (G:Grp T n s)(h:Sg T n s r){x:Int}(hx:El n x):∃ z,El n z∧ldS T r z=true∧Yg T r z=Yg T r x:=by
 have h0:(Yg T r x).getD 0 0 ∈ Yg T r x:=head_mem (by rw [ZbH];exact h.pos)
 have e:=h.ZgB G hx h0
 exact ⟨_,h.ZhG G hx h0,by unfold ldS;rw [e];simp,e⟩
theorem ZlD {x y:Int}(hx:ldS T r x=true)(hy:ldS T r y=true)(e:Yg T r x=Yg T r y):x=y:=by
 have h1:(Yg T r x).getD 0 0=x:=of_decide_eq_true hx
 have h2:(Yg T r y).getD 0 0=y:=of_decide_eq_true hy
 rw [← h1,← h2,e]
noncomputable def Zf (T:List (List Int)) (r:List Int) (m:Nat):List (List Int):=((upto m).filter fun x=>ldS T r x).map (Yg T r)
theorem Zen (T:List (List Int))(r:List Int)(m:Nat):Zf T r (m + 1)=Zf T r m++(if ldS T r m then [Yg T r m] else []):=by
 unfold Zf
 rw [ZkQ,List.filter_append,List.map_append]
 by_cases h:ldS T r m=true
 ·simp [h]
 ·simp [h]
theorem ZbZ (T:List (List Int))(r:List Int)(m:Nat):(Zf T r m).length≤m:=by
 unfold Zf
 rw [List.length_map]
 have:=List.length_filter_le (fun x=>ldS T r x) (upto m)
 rw [Jz] at this;exact this
theorem ZbX {q:List Int}:q ∈ Zf T r n↔∃ x,El n x∧ldS T r x=true∧Yg T r x=q:=by
 unfold Zf
 rw [List.mem_map]
 constructor
 ·rintro ⟨x,hx,e⟩
  rw [List.mem_filter,Je] at hx
  exact ⟨x,hx.1,hx.2,e⟩
 ·rintro ⟨x,h1,h2,e⟩
  exact ⟨x,List.mem_filter.mpr ⟨Je.mpr h1,h2⟩,e⟩
theorem Sg.Zpr (G:Grp T n s)(h:Sg T n s r):(Zf T r n).Pairwise fun a b=>leL a b∧a≠b∧∀ z,z ∈ a→z ∉ b:=by
 unfold Zf
 rw [List.pairwise_map]
 refine List.Pairwise.imp_of_mem (R:=(· < ·)) (fun {a b} ha hb hab=>?_) ((Ze8 n).filter _)
 rw [List.mem_filter,Je] at ha hb
 have ea:(Yg T r a).getD 0 0=a:=of_decide_eq_true ha.2
 have eb:(Yg T r b).getD 0 0=b:=of_decide_eq_true hb.2
 have ne:Yg T r a≠Yg T r b:=fun e=>by have:=ZlD ha.2 hb.2 e;omega
 refine ⟨Zmp (by rw [ZbH];exact h.pos) (by rw [ZbH];exact h.pos) (by rw [ea,eb];exact hab),ne,fun z h1 h2=>ne ?_⟩
 rw [← h.ZgB G ha.1 h1,h.ZgB G hb.1 h2]
theorem Sg.Zl9 (G:Grp T n s)(h:Sg T n s r){z:Int}:z ∈ (Zf T r n).flatten↔El n z:=by
 rw [List.mem_flatten]
 constructor
 ·rintro ⟨q,hq,hz⟩
  obtain ⟨x,hx,_,rfl⟩:=ZbX.mp hq
  exact h.ZhG G hx hz
 ·intro hz
  obtain ⟨x,hx,hl,e⟩:=h.lead G hz
  exact ⟨Yg T r x,ZbX.mpr ⟨x,hx,hl,rfl⟩,by rw [e];exact h.ZeU G hz⟩
theorem Sg.Zng (G:Grp T n s)(h:Sg T n s r):(Zf T r n).flatten.Nodup:=by
 unfold List.Nodup
 rw [List.pairwise_flatten]
 refine ⟨fun q hq=>?_,(h.Zpr G).imp fun {a b} hab x hx y hy e=>?_⟩
 ·obtain ⟨x,hx,_,rfl⟩:=ZbX.mp hq
  exact (h.ZeP G hx).imp fun {a b} h=>by omega
 ·subst e;exact hab.2.2 x hx hy
theorem Sg.Zl8 (G:Grp T n s)(h:Sg T n s r):srt (Zf T r n).flatten=upto n :=
 Zbd (ZeV (Zdu _) ((ZG _).nodup_iff.mpr (h.Zng G))) (Ze8 n) fun z=>by rw [(ZG _).mem_iff,h.Zl9 G,Je];exact Iff.rfl
theorem ZiE {c:Nat}:∀ {L:List (List Int)},(∀ q ∈ L,q.length=c)→L.flatten.length=L.length * c
 | [],_=>by simp
 | q::L,h=>by
  rw [List.flatten_cons,List.length_append,ZiE fun q hq=>h q (List.mem_cons_of_mem _ hq),h q (by simp),List.length_cons,Nat.succ_mul];omega
theorem Zjn {q:List Int}(hq:q ∈ Zf T r n):q.length=r.length:=by
 obtain ⟨x,hx,_,rfl⟩:=ZbX.mp hq
 exact ZbH _ _ _
theorem Sg.Zbe (G:Grp T n s)(h:Sg T n s r):(Zf T r n).length * r.length=n:=by
 have h1:=ZiE (c:=r.length) (L:=Zf T r n) fun q hq=>Zjn hq
 have h2:=congrArg List.length (h.Zl8 G)
 rw [(ZG _).length_eq,Jz] at h2
 omega
end
theorem Zdb {T:List (List Int)}{n s:Nat}(G:Grp T n s){r:List Int}(h:Sg T n s r){x:Int}(hx:El n x):ZJ [tabD T,rowD r,.int x]=some (rowD (Yg T r x)):=by
 have hn:=G.tab.top
 have hl:=h.rs.len
 refine ZK rfl (Yr (evR.ev (Zf2 (Zis (Zdh (r:=r) (fun y=>tg T x y) (Zcd rfl) (by rw [Zv];omega) (fun y hy=>?_) ⟨by rw [List.length_map];omega,rfl⟩)))))
 exact Zaz G.tab rfl (Zg rfl (Zg rfl ⟨hx,h.rs.el y hy,rfl⟩))
theorem ZdL {T:List (List Int)}{n s:Nat}(G:Grp T n s){r:List Int}(h:Sg T n s r):Y4 [tabD T,rowD r]=some (tabD (Zf T r n)):=by
 have hn:=G.tab.top
 refine ZK rfl (wp_seq (Zk2 (Zh rfl ⟨_,rfl,?_⟩)))
 refine wp_seq (Zha (n:=n) (fun k e=>∃ x y,e=[.sh (tabD T),.sh (rowD r),.nw ((Zf T r k).map rowD),x,y]) (Z6 (Zt G.tab rfl) (by omega)) ⟨_,_,rfl⟩ (fun k e hk he=>?_) (fun e he=>?_))
 ·obtain ⟨_,_,rfl⟩:=he
  have hke:=El.of hk
  refine wp_seq (ZbS (Zh ((ZbC rfl rfl rfl).trans (Zdb G h hke)) ?_))
  refine Zcf (Zgw (ZgG (ZV rfl (Zg rfl ⟨⟨by omega,by rw [ZbH];have:=h.pos;omega⟩,Zg rfl ⟨fun h=>?_,fun h=>?_⟩⟩))))
  ·have h:ldS T r k=true:=h
   refine Zjv rfl (Zh rfl ⟨?_,?_⟩)
   ·rw [List.length_map,Zv];have:=ZbZ T r k;omega
   ·show ∃ x y,_=_
    rw [Zen,if_pos h,List.map_append]
    exact ⟨_,_,rfl⟩
  ·have h:ldS T r k=false:=h
   refine Zcq ?_
   show ∃ x y,_=_
   rw [Zen,if_neg (by rw [h];simp),List.append_nil]
   exact ⟨_,_,rfl⟩
 ·obtain ⟨_,_,rfl⟩:=he
  exact wp_seq (Zn2 rfl (Yr (Zh rfl rfl)))
theorem Zc4 {T:List (List Int)}{n s:Nat}(G:Grp T n s){r:List Int}(h:Sg T n s r):ZW [tabD T,rowD r]=some .non:=by
 have hn:=G.tab.top
 have hl:=h.rs.len
 obtain ⟨q,eq,Lq⟩:=Zau G (S:=r) h.rs.el (by omega)
 have e:=Lq.uniq h.least
 subst e
 refine ZK rfl (wp_seq (Zb0 (Zge (tv_B (ZgQ (r:=q) (fun _=>true) (Zcd rfl) (by rw [Zv];omega) (fun x hx=>Zh ((Yl rfl rfl).trans (ZdU G.tab x)) ?_) ?_))) ?_))
 ·have:=h.rs.el x hx
  rw [decide_eq_true this.1,decide_eq_true this.2];rfl
 ·rw [List.all_eq_true.mpr (fun _ _=>rfl)];simp
 ·refine Zb0 (Zir (ZV ((Yl rfl rfl).trans eq) (ZV rfl ?_))) ?_
  ·simp
  ·rfl
theorem Zlk {T:List (List Int)}{n s:Nat}(G:Grp T n s){r:List Int}(h:Sg T n s r):ZcE [tabD T,rowD r]=some (tabD (Zf T r n)) :=
 ZK rfl (wp_seq (Za5 (Zh ((Js rfl).trans (ZD G)) (wp_seq (Za5 (Zh ((Yl rfl rfl).trans (Zc4 G h)) (Yr (Zh ((Yl rfl rfl).trans (ZdL G h)) rfl))))))))
end PV
set_option linter.all false
set_option Elab.async false
set_option maxHeartbeats 2000000
namespace PV
open PySem (Str)
theorem Y8 {kvs:List (Int × Int)}(nd:(kvs.map (·.1)).Nodup){k v:Int}:dget kvs k=some v↔(k,v) ∈ kvs:=by
 induction kvs with
 | nil=>simp [dget]
 | cons p kvs ih =>
  simp only [List.map_cons,List.nodup_cons] at nd
  unfold dget
  rw [List.find?_cons]
  by_cases h:p.1=k
  ·rw [decide_eq_true h]
   simp only [Option.map_some,Option.some.injEq,List.mem_cons]
   constructor
   ·rintro rfl;exact .inl (by rw [← h])
   ·rintro (h' | h')
    ·rw [← h']
    ·exact absurd (List.mem_map.mpr ⟨_,h',h.symm⟩) nd.1
  ·rw [decide_eq_false h]
   rw [List.mem_cons]
   refine (ih nd.2).trans ⟨.inr,fun h'=>h'.resolve_left fun e=>h (by rw [← e])⟩
theorem Zdv {kvs:List (Int × Int)}{k:Int}:dget kvs k=none↔k ∉ kvs.map (·.1):=by
 unfold dget
 rw [Option.map_eq_none_iff,List.find?_eq_none]
 constructor
 ·intro h hm
  obtain ⟨p,hp,e⟩:=List.mem_map.mp hm
  exact h p hp (decide_eq_true e)
 ·intro h p hp e
  exact h (List.mem_map.mpr ⟨p,hp,of_decide_eq_true e⟩)
theorem ZfM {kvs:List (Int × Int)}{k v:Int}(h:dget kvs k=none):dput kvs k v=kvs++[(k,v)]:=by
 unfold dput
 rw [if_neg]
 intro e
 rw [List.any_eq_true] at e
 obtain ⟨p,hp,e⟩:=e
 exact Zdv.mp h (List.mem_map.mpr ⟨p,hp,of_decide_eq_true e⟩)
theorem ZmU {kvs:List (Int × Int)}(nd:(kvs.map (·.1)).Nodup){k v:Int}(h:dget kvs k=some v):dput kvs k v=kvs:=by
 have hm:=(Y8 nd).mp h
 unfold dput
 rw [if_pos (List.any_eq_true.mpr ⟨_,hm,by simp⟩)]
 conv=>rhs;rw [← List.map_id kvs]
 refine List.map_congr_left fun p hp=>?_
 by_cases e:p.1=k
 ·rw [if_pos e]
  have:dget kvs p.1=some p.2:=(Y8 nd).mpr hp
  rw [e,h] at this
  cases this
  rfl
 ·rw [if_neg e];rfl
structure Dk (n:Nat)(kvs:List (Int × Int)):Prop where
 nd:(kvs.map (·.1)).Nodup
 el:∀ p ∈ kvs,El n p.1∧El n p.2
theorem Dk.len {n:Nat}{kvs:List (Int × Int)}(h:Dk n kvs):kvs.length≤n:=by
 have:=Zgq (n:=n) h.nd fun x hx=>by
  obtain ⟨p,hp,rfl⟩:=List.mem_map.mp hx
  exact (h.el p hp).1
 rwa [List.length_map] at this
theorem Dk.snoc {n:Nat}{kvs:List (Int × Int)}(h:Dk n kvs){k v:Int}(hk:El n k)(hv:El n v)(hn:dget kvs k=none):Dk n (kvs++[(k,v)]):=by
 refine ⟨?_,fun p hp=>?_⟩
 ·rw [List.map_append,List.nodup_append]
  refine ⟨h.nd,by simp,fun a ha b hb=>?_⟩
  simp at hb;subst hb
  rintro rfl
  exact Zdv.mp hn ha
 ·rcases List.mem_append.mp hp with hp | hp
  ·exact h.el p hp
  ·simp at hp;subst hp;exact ⟨hk,hv⟩
structure Iso (A B:List (List Int))(n:Nat)(g:Int→Int):Prop where
 el:∀ a,El n a→El n (g a)
 inj:∀ a b,El n a→El n b→g a=g b→a=b
 mul:∀ a b,El n a→El n b→g (tg A a b)=tg B (g a) (g b)
noncomputable def Ag (g:Int→Int) (kvs:List (Int × Int)):Prop:=∀ p ∈ kvs,g p.1=p.2
theorem Ag.snoc {g:Int→Int}{kvs:List (Int × Int)}(h:Ag g kvs){k v:Int}(e:g k=v):Ag g (kvs++[(k,v)]):=fun p hp=>by
 rcases List.mem_append.mp hp with hp | hp
 ·exact h p hp
 ·simp at hp;subst hp;exact e
noncomputable def PreD (a b:List (Int × Int)):Prop:=∃ t,b=a++t
theorem PreD.mem {a b:List (Int × Int)}(h:PreD a b){p:Int × Int}(hp:p ∈ a):p ∈ b:=by obtain ⟨t,rfl⟩:=h;exact List.mem_append_left _ hp
theorem PreD.refl (a:List (Int × Int)):PreD a a:=⟨[],by simp⟩
theorem PreD.trans {a b c:List (Int × Int)}(h:PreD a b)(k:PreD b c):PreD a c:=by obtain ⟨t,rfl⟩:=h;obtain ⟨u,rfl⟩:=k;exact ⟨t++u,by simp⟩
theorem PreD.snoc (a:List (Int × Int))(p:Int × Int):PreD a (a++[p]):=⟨[p],rfl⟩
theorem PreD.le {a b:List (Int × Int)}(h:PreD a b):a.length≤b.length:=by obtain ⟨t,rfl⟩:=h;simp
noncomputable def Mk2 (A B:List (List Int)) (kvs w:List (Int × Int)):Prop:=∀ p ∈ kvs,∀ q ∈ kvs,(tg A p.1 q.1,tg B p.2 q.2) ∈ w
theorem ZjG {i:Nat}{e:Ex}{env:Env}{Q:Out→Env→Prop}{kvs:List (Int × Int)}(h:e env=some (.dct kvs))(k:Q .nx (env.set i (.dc kvs))):wp (ZeO i e) env Q:=⟨_,_,by simp only [ZeO,h],k⟩
theorem Zg1 {i:Nat}{env:Env}{Q:Out→Env→Prop}{kvs:List (Int × Int)}(h:env[i]?=some (.dc kvs))(k:Q .nx (env.set i (.sh (.dct kvs)))):wp (sFrz i) env Q:=⟨_,_,by simp only [sFrz,h],k⟩
theorem ZeR {i:Nat}{a e:Ex}{env:Env}{Q:Out→Env→Prop}{kvs:List (Int × Int)}{x y:Int}(h:env[i]?=some (.dc kvs))(ha:a env=some (.int x))(he:e env=some (.int y))(hl:kvs.length≤1000)(k:Q .nx (env.set i (.dc (dput kvs x y)))):wp (Zcm i a e) env Q :=
 ⟨_,_,by simp only [Zcm,h,ha,he];rw [if_pos (by rw [Zv];omega)],k⟩
theorem Zc8 {a b:Ex}{env:Env}{kvs:List (Int × Int)}{k v:Int}(ha:a env=some (.dct kvs))(hb:b env=some (.int k))(h:dget kvs k=some v):Zbx a b env=some (.int v):=by
 simp only [Zbx,eF2,ha,hb,Zkk,h]
theorem Ze7 {a:Ex}{env:Env}{kvs:List (Int × Int)}(ha:a env=some (.dct kvs)):eF1 ZcT a env=some (.int kvs.length):=by
 simp only [eF1,ha,ZcT]
theorem ZfK {a:Ex}{env:Env}{kvs:List (Int × Int)}(ha:a env=some (.dct kvs)):Zco a env=some ((kvs.map (·.1)).map .int):=by
 simp only [Zco,ha,List.map_map];rfl
theorem Zfl {r:List Int}:(seen r).length=r.length↔r.Nodup:=by
 constructor
 ·intro h
  have p:∀ (vs σ:List Int),(vs.foldl addv σ).length=σ.length + vs.length→vs.Nodup∧∀ x ∈ vs,x ∉ σ:=by
   intro vs
   induction vs with
   | nil=>intro σ _;exact ⟨by simp,by simp⟩
   | cons v vs ih =>
    intro σ hl
    have bound:∀ (vs σ:List Int),(vs.foldl addv σ).length≤σ.length + vs.length:=by
     intro vs
     induction vs with
     | nil=>intro σ;simp
     | cons v vs ih2 =>
      intro σ
      rw [List.foldl_cons,List.length_cons]
      have:=ih2 (addv σ v)
      have h2:(addv σ v).length≤σ.length + 1:=by unfold addv;split <;> simp
      omega
    rw [List.foldl_cons,List.length_cons] at hl
    by_cases hm:v ∈ σ
    ·have e:addv σ v=σ:=by unfold addv;rw [if_pos hm]
     rw [e] at hl
     have:=bound vs σ
     omega
    ·have e:addv σ v=σ++[v]:=by unfold addv;rw [if_neg hm]
     rw [e] at hl
     obtain ⟨h1,h2⟩:=ih (σ++[v]) (by rw [hl,List.length_append];simp;omega)
     refine ⟨List.nodup_cons.mpr ⟨fun hv=>h2 v hv (by simp),h1⟩,fun x hx=>?_⟩
     rcases List.mem_cons.mp hx with rfl | hx
     ·exact hm
     ·exact fun hs=>h2 x hx (List.mem_append_left _ hs)
  exact (p r [] (by simpa [seen] using h)).1
 ·intro h
  have h1:=ZfI r
  have h2:=h.length_le_of_subset (l₂:=seen r) fun x hx=>ZfA.mpr hx
  omega
theorem Zfe {A B : List (List Int)}{n s s' : Nat}(GA : Grp A n s)(GB : Grp B n s'){kvs : List (Int × Int)}(hk : Dk n kvs) :
    ∃ d, YL [tabD A, tabD B, .dct kvs] = some d ∧ ((d = .non ∧ ∀ g, Iso A B n g → ¬ Ag g kvs) ∨
      ∃ w, d = .dct w ∧ PreD kvs w ∧ Dk n w ∧ Mk2 A B kvs w ∧ (w.map (·.2)).Nodup ∧ ∀ g, Iso A B n g → Ag g kvs → Ag g w) := by
  have hA := GA.tab
  have hB := GB.tab
  have hn := hA.top
  have hkl := hk.len
  have hlm := Zv
  have key : wp Zbf (enter 9 [tabD A, tabD B, .dct kvs]) (fun o _ => ∃ d, o = .rt d ∧ ((d = .non ∧ ∀ g, Iso A B n g → ¬ Ag g kvs) ∨
      ∃ w, d = .dct w ∧ PreD kvs w ∧ Dk n w ∧ Mk2 A B kvs w ∧ (w.map (·.2)).Nodup ∧ ∀ g, Iso A B n g → Ag g kvs → Ag g w)) := by
    refine wp_seq (ZjG (kvs := kvs) rfl ?_)
    refine wp_seq (Zbg (r := kvs.map (·.1)) (fun i e => ∃ w x y z u, PreD kvs w ∧ Dk n w ∧ (∀ p ∈ kvs.take i, ∀ q ∈ kvs, (tg A p.1 q.1, tg B p.2 q.2) ∈ w) ∧ (∀ g, Iso A B n g → Ag g kvs → Ag g w) ∧ e = [.sh (tabD A), .sh (tabD B), .sh (.dct kvs), .dc w, x, y, z, u, .un]) (ZfK rfl) ⟨kvs, _, _, _, _, PreD.refl _, hk, by simp, fun g _ h => h, rfl⟩ (fun i e a ha he => ?_) (fun e he => ?_))
    · obtain ⟨w, _, _, _, _, hp, hw, hc, hg, rfl⟩ := he
      rw [List.getElem?_map, Option.map_eq_some_iff] at ha
      obtain ⟨pa, hpa, rfl⟩ := ha
      have hpm := List.mem_of_getElem? hpa
      obtain ⟨ea1, ea2⟩ := hk.el pa hpm
      have ga : dget kvs pa.1 = some pa.2 := (Y8 hk.nd).mpr hpm
      refine Zbg (r := kvs.map (·.1)) (fun j e => ∃ w y z u, PreD kvs w ∧ Dk n w ∧ (∀ p ∈ kvs.take i, ∀ q ∈ kvs, (tg A p.1 q.1, tg B p.2 q.2) ∈ w) ∧ (∀ q ∈ kvs.take j, (tg A pa.1 q.1, tg B pa.2 q.2) ∈ w) ∧ (∀ g, Iso A B n g → Ag g kvs → Ag g w) ∧ e = [.sh (tabD A), .sh (tabD B), .sh (.dct kvs), .dc w, .sh (.int pa.1), y, z, u, .un]) (ZfK rfl) ⟨w, _, _, _, hp, hw, hc, by simp, hg, rfl⟩ (fun j e b hb he => ?_) (fun e he => ?_)
      · obtain ⟨w, _, _, _, hp, hw, hc, hc2, hg, rfl⟩ := he
        rw [List.getElem?_map, Option.map_eq_some_iff] at hb
        obtain ⟨pb, hpb, rfl⟩ := hb
        have hqm := List.mem_of_getElem? hpb
        obtain ⟨eb1, eb2⟩ := hk.el pb hqm
        have gb : dget kvs pb.1 = some pb.2 := (Y8 hk.nd).mpr hqm
        have hwl := hw.len
        have e1 : El n (tg A pa.1 pb.1) := GA.bd ea1 eb1
        have e2 : El n (tg B pa.2 pb.2) := GB.bd ea2 eb2
        refine wp_seq (YJ (evI.ev (Zaz hA rfl (Zg rfl (Zg rfl ⟨ea1, eb1, ?_⟩)))))
        refine wp_seq (YJ (evI.ev (Zaz hB rfl (Zg (Zc8 rfl rfl ga) (Zg (Zc8 rfl rfl gb) ⟨ea2, eb2, ?_⟩)))))
        have iso : ∀ g, Iso A B n g → Ag g kvs → g (tg A pa.1 pb.1) = tg B pa.2 pb.2 := fun g hG hA' => by rw [hG.mul _ _ ea1 eb1, hA' pa hpm, hA' pb hqm]
        obtain ⟨mm, emm⟩ : ∃ x, x = tg A pa.1 pb.1 := ⟨_, rfl⟩
        obtain ⟨nn, enn⟩ : ∃ x, x = tg B pa.2 pb.2 := ⟨_, rfl⟩
        rw [← emm] at e1 iso ⊢
        rw [← enn] at e2 iso ⊢
        have nx : ∀ w2, PreD w w2 → Dk n w2 → (mm, nn) ∈ w2 → (∀ g, Iso A B n g → Ag g kvs → Ag g w2) → ∀ z5 z6 z7, ∃ w y z u, PreD kvs w ∧ Dk n w ∧ (∀ p ∈ kvs.take i, ∀ q ∈ kvs, (tg A p.1 q.1, tg B p.2 q.2) ∈ w) ∧ (∀ q ∈ kvs.take (j + 1), (tg A pa.1 q.1, tg B pa.2 q.2) ∈ w) ∧ (∀ g, Iso A B n g → Ag g kvs → Ag g w) ∧ [Sl.sh (tabD A), .sh (tabD B), .sh (.dct kvs), .dc w2, .sh (.int pa.1), z5, z6, z7, .un] = [.sh (tabD A), .sh (tabD B), .sh (.dct kvs), .dc w, .sh (.int pa.1), y, z, u, .un] := fun w2 q1 q2 q3 q4 z5 z6 z7 =>
          ⟨w2, z5, z6, z7, hp.trans q1, q2, fun p hp' q hq => q1.mem (hc p hp' q hq), fun q hq => by
            rw [List.take_add_one, hpb, List.mem_append] at hq
            rcases hq with hq | hq
            · exact q1.mem (hc2 q hq)
            · simp at hq; subst hq; rw [← emm, ← enn]; exact q3, q4, rfl⟩
        have eg : ∀ z5, ZhJ 3 (eVar 6) (eVar 7) [Sl.sh (tabD A), .sh (tabD B), .sh (.dct kvs), .dc w, .sh (.int pa.1), z5, .sh (.int mm), .sh (.int nn), .un] = some (.int ((dget w mm).getD nn)) := fun _ => rfl
        cases hq : dget w mm with
        | none =>
          rw [hq] at eg
          refine wp_seq (Zb0 (Zew (Zg (eg _) (Zg rfl (by simp)))) ?_)
          refine ZeR (kvs := w) rfl rfl rfl (by omega) ?_
          rw [ZfM hq]
          exact nx _ (PreD.snoc _ _) (hw.snoc e1 e2 hq) (by simp) (fun g h1 h2 => (hg g h1 h2).snoc (iso g h1 h2)) _ _ _
        | some v =>
          rw [hq] at eg
          refine wp_seq (Zcf (Zew (Zg (eg _) (Zg rfl ⟨fun h => ?_, fun h => ?_⟩))))
          · have h : v ≠ nn := by simpa using h
            refine Yr (Zh rfl ⟨_, rfl, .inl ⟨rfl, fun g h1 h2 => h ?_⟩⟩)
            have := hg g h1 h2 _ ((Y8 hw.nd).mp hq)
            exact (show g mm = v from this).symm.trans (iso g h1 h2)
          · have h : v = nn := by simpa using h
            subst h
            refine Zcq (ZeR (kvs := w) rfl rfl rfl (by omega) ?_)
            rw [ZmU hw.nd hq]
            exact nx w (PreD.refl _) hw ((Y8 hw.nd).mp hq) hg _ _ _
      · obtain ⟨w, _, _, _, hp, hw, hc, hc2, hg, rfl⟩ := he
        rw [List.length_map, List.take_length] at hc2
        refine ⟨w, _, _, _, _, hp, hw, fun p hp' => ?_, hg, rfl⟩
        rw [List.take_add_one, hpa, List.mem_append] at hp'
        rcases hp' with hp' | hp'
        · exact hc p hp'
        · simp at hp'; subst hp'; exact hc2
    · obtain ⟨w, z4, z5, z6, z7, hp, hw, hc, hg, rfl⟩ := he
      rw [List.length_map, List.take_length] at hc
      have hwl := hw.len
      refine wp_seq (Zg1 (kvs := w) rfl ?_)
      have ec : evR (Yk 8 (Zco (eVar 3)) Yq (Zbx (eVar 3) (eVar 8))) [.sh (tabD A), .sh (tabD B), .sh (.dct kvs), .sh (.dct w), z4, z5, z6, z7, .un] (· = w.map (·.2)) := by
        refine Zdh (r := w.map (·.1)) (fun k => (dget w k).getD 0) (ZfK rfl) (by rw [List.length_map]; omega) (fun k hk' => ?_) ?_
        · obtain ⟨p, hp', rfl⟩ := List.mem_map.mp hk'
          have := (Y8 hw.nd).mpr hp'
          exact Zg (Zc8 rfl rfl this) (by rw [this]; rfl)
        · rw [List.map_map]
          refine List.map_congr_left fun p hp' => ?_
          simp only [Function.comp]
          rw [(Y8 hw.nd).mpr hp']; rfl
      obtain ⟨r, hr1, hr2⟩ := ec
      have els : eF1 Zdn (Yk 8 (Zco (eVar 3)) Yq (Zbx (eVar 3) (eVar 8))) [.sh (tabD A), .sh (tabD B), .sh (.dct kvs), .sh (.dct w), z4, z5, z6, z7, .un] = some (.int (seen (w.map (·.2))).length) := by
        rw [hr2] at hr1
        simp only [eF1, hr1, rowD, Zdn, ints_map]
        rw [if_pos (by rw [List.length_map]; omega)]
      refine wp_seq (Zcf (ZpL (Zg els (Zg (Ze7 rfl) ⟨fun h => ?_, fun h => ?_⟩))))
      · have h : ((seen (w.map (·.2))).length : Int) < w.length := by simpa using h
        refine Yr (Zh rfl ⟨_, rfl, .inl ⟨rfl, fun g h1 h2 => ?_⟩⟩)
        have hw2 := hg g h1 h2
        have : (w.map (·.2)).Nodup := by
          have e : w.map (·.2) = (w.map (·.1)).map g := by
            rw [List.map_map]
            exact List.map_congr_left fun p hp' => (hw2 p hp').symm
          rw [e]
          unfold List.Nodup
          rw [List.pairwise_map]
          refine List.Pairwise.imp_of_mem (R := (· ≠ ·)) (fun {a b} ha hb hne he => hne ?_) hw.nd
          obtain ⟨p, hp', rfl⟩ := List.mem_map.mp ha
          obtain ⟨q, hq', rfl⟩ := List.mem_map.mp hb
          exact h1.inj _ _ (hw.el p hp').1 (hw.el q hq').1 he
        have := Zfl.mpr this
        rw [List.length_map] at this
        omega
      · have h : ¬ ((seen (w.map (·.2))).length : Int) < w.length := by simpa using h
        have hs := ZfI (w.map (·.2))
        rw [List.length_map] at hs
        refine Zcq (wp_seq (ZgH rfl (Yr (Zh rfl ⟨_, rfl, .inr ⟨w, rfl, hp, hw, hc, Zfl.mp (by rw [List.length_map]; omega), hg⟩⟩))))
  obtain ⟨o, e, h1, d, rfl, h2⟩ := key
  exact ⟨d, Ju rfl h1, h2⟩
end PV
set_option linter.all false
set_option Elab.async false
set_option maxHeartbeats 2000000
namespace PV
open PySem (Str)
structure Hm (A B:List (List Int))(n:Nat)(m:List (Int × Int)):Prop where
 dk:Dk n m
 cl:Mk2 A B m m
 vn:(m.map (·.2)).Nodup
theorem Zmy {n:Nat}{kvs:List (Int × Int)}(hk:Dk n kvs)(hn:n≤12)(hl:kvs.length < n):∃ e:Nat,e < n∧JG [.dct kvs]=some (.int e)∧dget kvs e=none:=by
 have ex:∃ e:Nat,e < n∧dget kvs e=none:=by
  apply Classical.byContradiction
  intro h
  have:∀ x ∈ upto n,x ∈ kvs.map (·.1):=fun x hx=>by
   obtain ⟨k,hk',rfl⟩:=(show El n x from Je.mp hx).nat
   apply Classical.byContradiction
   intro hx'
   exact h ⟨k,hk',Zdv.mpr hx'⟩
  have:=(ZbU n).length_le_of_subset this
  rw [Jz,List.length_map] at this
  omega
 obtain ⟨e0,he0,hd0⟩:=ex
 have key:wp Zas (enter 2 [.dct kvs]) (fun o _=>∃ e:Nat,o=.rt (.int e)∧e < n∧dget kvs e=none):=by
  refine wp_seq (YJ (Zh rfl ?_))
  refine wp_seq (ZfH (N:=12) (fun k e=>k≤e0∧e=[.sh (.dct kvs),.sh (.int k)]) (by omega) ⟨Nat.zero_le _,rfl⟩ fun k e he=>?_)
  obtain ⟨hk0,rfl⟩:=he
  refine ZmZ (d:=(dget kvs k).isSome) rfl ⟨fun h=>⟨by omega,?_⟩,fun h=>?_⟩
  ·refine YJ (evI.ev (ZmH (Zg rfl (Zg rfl ⟨?_,rfl⟩))))
   rcases Nat.lt_or_ge k e0 with h1 | h1
   ·omega
   ·have:k=e0:=by omega
    subst this
    rw [hd0] at h;cases h
  ·refine Yr (Zh rfl ⟨k,rfl,by omega,?_⟩)
   cases hq:dget kvs k with
   | none=>rfl
   | some v=>rw [hq] at h;cases h
 obtain ⟨o,e,h1,k,rfl,h2,h3⟩:=key
 exact ⟨k,h2,Ju rfl h1,h3⟩
theorem Zid {A B : List (List Int)}{n s s' : Nat}(GA : Grp A n s)(GB : Grp B n s'){kvs : List (Int × Int)}(hk : Dk n kvs){e x : Int}(he : El n e)(hx : El n x)(hd : dget kvs e = none) :
    ∃ d, ZaB [tabD A, tabD B, .dct kvs, .int e, .int x] = some d ∧ ((d = .non ∧ ∀ g, Iso A B n g → Ag g kvs → g e ≠ x) ∨
      ∃ m, d = .dct m ∧ Hm A B n m ∧ kvs.length < m.length ∧ ∀ g, Iso A B n g → Ag g kvs → g e = x → Ag g m) := by
  have hn := GA.tab.top
  have hkl := hk.len
  have key : wp Zc3 (enter 7 [tabD A, tabD B, .dct kvs, .int e, .int x]) (fun o _ => ∃ d, o = .rt d ∧ ((d = .non ∧ ∀ g, Iso A B n g → Ag g kvs → g e ≠ x) ∨
      ∃ m, d = .dct m ∧ Hm A B n m ∧ kvs.length < m.length ∧ ∀ g, Iso A B n g → Ag g kvs → g e = x → Ag g m)) := by
    refine wp_seq (ZjG (kvs := kvs) rfl ?_)
    refine wp_seq (ZeR (kvs := kvs) rfl rfl rfl (by omega) ?_)
    rw [ZfM hd]
    have h0 : Dk n (kvs ++ [(e, x)]) := hk.snoc he hx hd
    refine wp_seq (Zg1 (kvs := kvs ++ [(e, x)]) rfl ?_)
    obtain ⟨d0, ed0, hd0⟩ := Zfe GA GB h0
    refine wp_seq (YJ (Zh ((ZbC rfl rfl rfl).trans ed0) ?_))
    refine wp_seq (ZfH (N := 12) (fun k en => ∃ w d, Dk n w ∧ kvs.length < w.length ∧ k < w.length ∧ (∀ g, Iso A B n g → Ag g kvs → g e = x → Ag g w) ∧ ((d = .non ∧ ∀ g, Iso A B n g → ¬ Ag g w) ∨
      ∃ w', d = .dct w' ∧ PreD w w' ∧ Dk n w' ∧ Mk2 A B w w' ∧ (w'.map (·.2)).Nodup ∧ ∀ g, Iso A B n g → Ag g w → Ag g w') ∧ en = [.sh (tabD A), .sh (tabD B), .sh (.dct kvs), .sh (.int e), .sh (.int x), .sh (.dct w), .sh d]) (by omega)
      ⟨kvs ++ [(e, x)], d0, h0, by simp, by simp, fun g _ h1 h2 => h1.snoc h2, hd0, rfl⟩ fun k en hen => ?_)
    obtain ⟨w, d, hw, hwl, hkw, hg, hor, rfl⟩ := hen
    have hwn := hw.len
    rcases hor with ⟨rfl, hno⟩ | ⟨w', rfl, hp, hw', hm, hv, hgw⟩
    · refine ZgD (Zb8 (Zh rfl ⟨fun h => (by cases h), fun _ => ⟨fun h => (by cases h), fun _ => ?_⟩⟩))
      exact Yr (Zh rfl ⟨_, rfl, .inl ⟨rfl, fun g h1 h2 h3 => hno g h1 (hg g h1 h2 h3)⟩⟩)
    · refine ZgD (Zb8 (Zh rfl ⟨fun _ => ZpO (Zg (Ze7 rfl) (Zg (Ze7 rfl) ⟨fun h => ⟨by omega, ?_⟩, fun h => ?_⟩)), fun h => (by cases h)⟩))
      · have h : (w.length : Int) < w'.length := by simpa using h
        refine wp_seq (YJ (Zh rfl ?_))
        refine wp_seq (ZgH rfl ?_)
        obtain ⟨d1, ed1, hd1⟩ := Zfe GA GB hw'
        refine YJ (Zh ((ZbC rfl rfl rfl).trans ed1) ?_)
        exact ⟨w', d1, hw', by omega, by omega, fun g h1 h2 h3 => hgw g h1 (hg g h1 h2 h3), hd1, rfl⟩
      · have h : ¬ ((w.length : Int) < w'.length) := by simpa using h
        have hle := hp.le
        have e2 : w' = w := by
          obtain ⟨t, rfl⟩ := hp
          have : t = [] := by
            rw [List.length_append] at h
            exact List.length_eq_zero_iff.mp (by omega)
          rw [this]; simp
        subst e2
        exact Yr (Zh rfl ⟨_, rfl, .inr ⟨w', rfl, ⟨hw', hm, hv⟩, by omega, hg⟩⟩)
  obtain ⟨o, en, h1, d, rfl, h2⟩ := key
  exact ⟨d, Ju rfl h1, h2⟩
structure IsoR (A B:List (List Int))(n:Nat)(r:List Int):Prop where
 len:r.length=n
 nd:r.Nodup
 el:∀ x ∈ r,El n x
 mul:∀ a b:Int,El n a→El n b→r.getD (tg A a b).toNat 0=tg B (r.getD a.toNat 0) (r.getD b.toNat 0)
theorem Zmj {A B:List (List Int)}{n s s':Nat}(GA:Grp A n s)(GB:Grp B n s'){m:List (Int × Int)}(h:Hm A B n m)(hl:m.length=n):(∀ x ∈ upto n,(dget m x).isSome=true)∧IsoR A B n ((upto n).map fun x=>(dget m x).getD 0):=by
 have all:∀ x,El n x→∃ v,(x,v) ∈ m:=fun x hx=>by
  have hs:∀ y ∈ m.map (·.1),y ∈ upto n:=fun y hy=>by
   obtain ⟨p,hp,rfl⟩:=List.mem_map.mp hy
   exact Je.mpr (h.dk.el p hp).1
  apply Classical.byContradiction
  intro hno
  have hx':x ∉ m.map (·.1):=fun hm=>by
   obtain ⟨p,hp,rfl⟩:=List.mem_map.mp hm
   exact hno ⟨p.2,hp⟩
  have:=(List.nodup_cons.mpr ⟨hx',h.dk.nd⟩).length_le_of_subset (l₂:=upto n) fun y hy=>by
   rcases List.mem_cons.mp hy with rfl | hy
   ·exact Je.mpr hx
   ·exact hs y hy
  rw [List.length_cons,List.length_map,Jz] at this
  omega
 have val:∀ x v,(x,v) ∈ m→dget m x=some v:=fun x v hm=>(Y8 h.dk.nd).mpr hm
 have at':∀ a:Int,El n a→((upto n).map fun x=>(dget m x).getD 0).getD a.toNat 0=(dget m a).getD 0:=fun a ha=>by
  obtain ⟨k,hk,rfl⟩:=ha.nat
  simp [List.getD,upto,hk]
 refine ⟨fun x hx=>?_,⟨by rw [List.length_map,Jz],?_,fun y hy=>?_,fun a b ha hb=>?_⟩⟩
 ·obtain ⟨v,hv⟩:=all x (Je.mp hx)
  rw [val x v hv];rfl
 ·unfold List.Nodup
  rw [List.pairwise_map]
  refine List.Pairwise.imp_of_mem (R:=(·≠·)) (fun {a b} ha hb hne he=>hne ?_) (ZbU n)
  obtain ⟨v,hv⟩:=all a (Je.mp ha)
  obtain ⟨u,hu⟩:=all b (Je.mp hb)
  rw [val a v hv,val b u hu] at he
  have he:v=u:=he
  subst he
  have vn:=h.vn
  have inj:∀ {l:List (Int × Int)},(l.map (·.2)).Nodup→∀ {p q:Int × Int},p ∈ l→q ∈ l→p.2=q.2→p=q:=by
   intro l
   induction l with
   | nil=>intro _ p q hp;cases hp
   | cons z l ih =>
    intro nd p q hp hq e
    simp only [List.map_cons,List.nodup_cons] at nd
    rcases List.mem_cons.mp hp with rfl | hp' <;> rcases List.mem_cons.mp hq with rfl | hq'
    ·rfl
    ·exact absurd (List.mem_map.mpr ⟨q,hq',e.symm⟩) nd.1
    ·exact absurd (List.mem_map.mpr ⟨p,hp',e⟩) nd.1
    ·exact ih nd.2 hp' hq' e
  have:=inj vn hv hu rfl
  exact congrArg Prod.fst this
 ·obtain ⟨x,hx,rfl⟩:=List.mem_map.mp hy
  obtain ⟨v,hv⟩:=all x (Je.mp hx)
  rw [val x v hv]
  exact (h.dk.el _ hv).2
 ·obtain ⟨v,hv⟩:=all a ha
  obtain ⟨u,hu⟩:=all b hb
  rw [at' _ (GA.bd ha hb),at' a ha,at' b hb,val a v hv,val b u hu,val _ _ (h.cl _ hv _ hu)]
  rfl
theorem ZjM {A B:List (List Int)}{n s s':Nat}(GA:Grp A n s)(GB:Grp B n s'):∀ (k:Nat) {m:List (Int × Int)},Hm A B n m→n - m.length < k →
  ∃ d,Yw k [tabD A,tabD B,.dct m]=some d∧((d=.non∧∀ g,Iso A B n g→¬ Ag g m)∨∃ r,d=rowD r∧IsoR A B n r)
 | 0,m,h,hk=>by omega
 | k + 1,m,h,hk=>by
  have hA:=GA.tab
  have hB:=GB.tab
  have hn:=hA.top
  have hml:=h.dk.len
  have key:wp (ZbE (Yw k)) (enter 7 [tabD A,tabD B,.dct m]) (fun o _=>∃ d,o=.rt d∧((d=.non∧∀ g,Iso A B n g→¬ Ag g m)∨∃ r,d=rowD r∧IsoR A B n r)):=by
   refine wp_seq (Zcf (Zgw (Zg (Ze7 rfl) (Zg (Zt hA rfl) ⟨fun he=>?_,fun he=>?_⟩))))
   ·have he:(m.length:Int)=n:=by simpa using he
    obtain ⟨f1,f2⟩:=Zmj GA GB h (by omega)
    refine Yr (evR.ev (Zf2 (Zdh (r:=upto n) (fun x=>(dget m x).getD 0) (Zb2 (Zt hA rfl) (by omega)) (by rw [Jz,Zv];omega) (fun x hx=>?_) ⟨_,rfl,.inr ⟨_,rfl,f2⟩⟩)))
    have:=f1 x hx
    cases hq:dget m x with
    | none=>rw [hq] at this;cases this
    | some v=>exact Zg (Zc8 rfl rfl hq) rfl
   ·have he:¬ ((m.length:Int)=n):=by simpa using he
    refine Zcq ?_
    obtain ⟨e,hel,ee,hde⟩:=Zmy h.dk hn (by omega)
    refine wp_seq (YJ (Zh ((Js rfl).trans ee) ?_))
    refine wp_seq (Zha (n:=n) (fun j en=>∃ z4 z5 z6,(∀ i:Nat,i < j→∀ g,Iso A B n g→Ag g m→g e≠i)∧en=[.sh (tabD A),.sh (tabD B),.sh (.dct m),.sh (.int e),z4,z5,z6]) (Z6 (Zt hB rfl) (by omega)) ⟨_,_,_,fun i hi=>by omega,rfl⟩ (fun j en hj hen=>?_) (fun en hen=>?_))
    ·obtain ⟨_,_,_,hno,rfl⟩:=hen
     obtain ⟨d,ed,hd⟩:=Zid GA GB h.dk (El.of hel) (El.of hj) hde
     have e5:∀ z4 z5,Zd ZaB [(eVar 0),(eVar 1),(eVar 2),(eVar 3),(eVar 4)] [Sl.sh (tabD A),.sh (tabD B),.sh (.dct m),.sh (.int e),.sh (.int j),z4,z5]=some d:=fun _ _=>ed
     refine wp_seq (YJ (Zh (e5 _ _) ?_))
     have step:(∀ g,Iso A B n g→Ag g m→g e≠(j:Int))→∀ i:Nat,i < j + 1→∀ g,Iso A B n g→Ag g m→g e≠i:=fun h1 i hi=>by
      rcases Nat.lt_or_ge i j with h2 | h2
      ·exact hno i h2
      ·have:i=j:=by omega
       subst this;exact h1
     rcases hd with ⟨rfl,hne⟩ | ⟨m',rfl,hm',hlt,hgm⟩
     ·exact Zb0 (Zb8 (Zh rfl rfl)) ⟨_,_,_,step hne,rfl⟩
     ·obtain ⟨d2,ed2,hd2⟩:=ZjM GA GB k hm' (by omega)
      refine Zcf (Zb8 (Zh rfl ⟨fun _=>?_,fun h=>(by cases h)⟩))
      refine wp_seq (ZbS (Zh ((ZbC rfl rfl rfl).trans ed2) ?_))
      rcases hd2 with ⟨rfl,hno2⟩ | ⟨r,rfl,hr⟩
      ·exact Zb0 (Zb8 (Zh rfl rfl)) ⟨_,_,_,step fun g h1 h2 h3=>hno2 g h1 (hgm g h1 h2 h3),rfl⟩
      ·exact Zcf (Zb8 (Zh rfl ⟨fun _=>Yr (Zh rfl ⟨_,rfl,.inr ⟨r,rfl,hr⟩⟩),fun h=>(by cases h)⟩))
    ·obtain ⟨_,_,_,hno,rfl⟩:=hen
     refine Yr (Zh rfl ⟨_,rfl,.inl ⟨rfl,fun g h1 h2=>?_⟩⟩)
     obtain ⟨i,hi,ei⟩:=(h1.el e (El.of hel)).nat
     exact hno i hi g h1 h2 ei
  obtain ⟨o,en,h1,d,rfl,h2⟩:=key
  exact ⟨d,Ju rfl h1,h2⟩
theorem Iso.rest {A B:List (List Int)}{n s s':Nat}(GA:Grp A n s)(GB:Grp B n s'){g:Int→Int}(h:Iso A B n g):g s=s':=by
 have h1:=h.mul s s GA.s GA.s
 rw [GA.l GA.s] at h1
 have hE:=h.el _ GA.s
 have h2:tg B (g s) (g s)=tg B (g s) s':=by rw [← h1,GB.r hE]
 exact GB.cl hE hE GB.s h2
theorem ZiU {A B:List (List Int)}{n n' s s':Nat}(GA:Grp A n s)(GB:Grp B n' s'):∃ d,ZbG [tabD A,tabD B]=some d∧((n≠n'∧d=.non)∨(n=n'∧((d=.non∧∀ g,¬ Iso A B n g)∨∃ r,d=rowD r∧IsoR A B n r))):=by
 have hA:=GA.tab
 have hB:=GB.tab
 by_cases hnn:n=n'
 ·subst hnn
  have hn:=hA.top
  have hm:Hm A B n [((s:Int),(s':Int))]:=by
   refine ⟨⟨by simp,fun p hp=>?_⟩,fun p hp q hq=>?_,by simp⟩
   ·simp at hp;subst hp;exact ⟨GA.s,GB.s⟩
   ·simp at hp hq;subst hp;subst hq
    simp only
    rw [GA.l GA.s,GB.l GB.s];simp
  obtain ⟨d,ed,hd⟩:=ZjM GA GB 13 hm (by simp;omega)
  refine ⟨d,?_,.inr ⟨rfl,?_⟩⟩
  ·refine ZK rfl (wp_seq (Za5 (Zh ((Js rfl).trans (ZD GA)) ?_)))
   refine wp_seq (Za5 (Zh ((Js rfl).trans (ZD GB)) ?_))
   refine wp_seq (Zb0 (Zew (Zg (Zt hA rfl) (Zg (Zt hB rfl) (by simp)))) ?_)
   have r1:Zd Zn [(eVar 0)] [.sh (tabD A),.sh (tabD B)]=some (.int s):=(Js rfl).trans ((ZaK hA).trans (by rw [GA.rest];rfl))
   have r2:Zd Zn [(eVar 1)] [.sh (tabD A),.sh (tabD B)]=some (.int s'):=(Js rfl).trans ((ZaK hB).trans (by rw [GB.rest];rfl))
   have r3:Ze9 (Zd Zn [(eVar 0)]) (Zd Zn [(eVar 1)]) [.sh (tabD A),.sh (tabD B)]=some (.dct [((s:Int),(s':Int))]):=by simp only [Ze9,r1,r2]
   exact Yr (Zh ((ZbC rfl rfl r3).trans ed) rfl)
  ·rcases hd with ⟨rfl,hno⟩ | hr
   ·refine .inl ⟨rfl,fun g hg=>hno g hg fun p hp=>?_⟩
    simp at hp;subst hp
    exact hg.rest GA GB
   ·exact .inr hr
 ·refine ⟨.non,?_,.inl ⟨hnn,rfl⟩⟩
  refine ZK rfl (wp_seq (Za5 (Zh ((Js rfl).trans (ZD GA)) ?_)))
  refine wp_seq (Za5 (Zh ((Js rfl).trans (ZD GB)) ?_))
  exact wp_seq (Zcf (Zew (Zg (Zt hA rfl) (Zg (Zt hB rfl) ⟨fun _=>Yr (Zh rfl rfl),fun h=>absurd h (by simp;omega)⟩))))
end PV
set_option linter.all false
set_option Elab.async false
set_option maxHeartbeats 2000000
namespace PV
open PySem (Str)
noncomputable def Zb7 (T:List (List Int)) (r:List Int) (x:Int):List Int:=srt (r.map fun y=>tg T y x)
theorem Zgx {T:List (List Int)}{r:List Int}{x z:Int}:z ∈ Zb7 T r x↔∃ y ∈ r,tg T y x=z:=by
 unfold Zb7
 rw [(ZG _).mem_iff,List.mem_map]
noncomputable def Loose (T:List (List Int)) (n:Nat) (r:List Int):Prop:=∀ x,El n x→Yg T r x=Zb7 T r x
noncomputable def Zez (T:List (List Int)) (n:Nat) (r:List Int):Bool:=(upto n).all fun x=>decide (Yg T r x=Zb7 T r x)
theorem ZdC {T:List (List Int)}{n:Nat}{r:List Int}:Zez T n r=true↔Loose T n r:=by
 simp only [Zez,List.all_eq_true,decide_eq_true_eq]
 exact ⟨fun h x hx=>h x (Je.mpr hx),fun h x hx=>h x (Je.mp hx)⟩
noncomputable def Jj (T:List (List Int)) (r:List Int) (n:Nat):List Int:=(upto n).filter fun x=>ldS T r x
theorem YD {T:List (List Int)}{r:List Int}{n:Nat}:(Jj T r n).length=(Zf T r n).length:=by unfold Jj Zf;rw [List.length_map]
theorem ZdF {T:List (List Int)}{r:List Int}{n i:Nat}(hi:i < (Jj T r n).length):(Zf T r n).getD i []=Yg T r ((Jj T r n).getD i 0):=by
 unfold Zf
 show ((Jj T r n).map (Yg T r)).getD i []=_
 simp [List.getD,hi]
theorem Zam {T:List (List Int)}{r:List Int}{n i:Nat}(hi:i < (Jj T r n).length):El n ((Jj T r n).getD i 0)∧ldS T r ((Jj T r n).getD i 0)=true:=by
 have:(Jj T r n).getD i 0 ∈ Jj T r n:=by
  rw [List.getD_eq_getElem?_getD,List.getElem?_eq_getElem hi];exact List.getElem_mem hi
 unfold Jj at this
 rw [List.mem_filter,Je] at this
 exact this
structure Plc (T:List (List Int))(r:List Int)(n:Nat)(P:Int→Nat):Prop where
 lt:∀ x,El n x→P x < (Zf T r n).length
 at':∀ x,El n x→Yg T r ((Jj T r n).getD (P x) 0)=Yg T r x
theorem ZhM {T:List (List Int)}{n s:Nat}{r:List Int}(G:Grp T n s)(h:Sg T n s r):∃ P,Plc T r n P:=by
 have ex:∀ x,∃ k:Nat,El n x→k < (Zf T r n).length∧Yg T r ((Jj T r n).getD k 0)=Yg T r x:=fun x=>by
  by_cases hx:El n x
  ·obtain ⟨z,hz,hl,e⟩:=h.lead G hx
   have hm:z ∈ Jj T r n:=List.mem_filter.mpr ⟨Je.mpr hz,hl⟩
   obtain ⟨k,hk,ek⟩:=List.getElem_of_mem hm
   refine ⟨k,fun _=>⟨by rw [← YD];exact hk,?_⟩⟩
   rw [List.getD_eq_getElem?_getD,List.getElem?_eq_getElem hk]
   show Yg T r ((Jj T r n)[k])=_
   rw [ek,e]
  ·exact ⟨0,fun h=>absurd h hx⟩
 obtain ⟨P,hP⟩:=Classical.axiomOfChoice ex
 exact ⟨P,fun x hx=>(hP x hx).1,fun x hx=>(hP x hx).2⟩
section
variable {T:List (List Int)} {n s:Nat} {r:List Int} {P:Int→Nat}
theorem Plc.uniq (G:Grp T n s)(h:Sg T n s r)(p:Plc T r n P){x:Int}(hx:El n x){k:Nat}(hk:k < (Zf T r n).length)(e:Yg T r ((Jj T r n).getD k 0)=Yg T r x):k=P x:=by
 have h1:=p.lt x hx
 rw [← YD] at h1 hk
 have e2:=ZlD (Zam hk).2 (Zam h1).2 (e.trans (p.at' x hx).symm)
 have nd:(Jj T r n).Nodup:=(ZbU n).filter _
 simp [List.getD,hk,h1] at e2
 exact (List.getElem_inj nd).mp e2
theorem Plc.Zlm (G:Grp T n s)(h:Sg T n s r)(p:Plc T r n P){x:Int}(hx:El n x){k:Nat}(hk:k < (Zf T r n).length)(hm:x ∈ (Zf T r n).getD k []):k=P x:=by
 rw [← YD] at hk
 rw [ZdF hk] at hm
 exact p.uniq G h hx (by rw [← YD];exact hk) (h.ZgB G (Zam hk).1 hm).symm
theorem Plc.mem (G:Grp T n s)(h:Sg T n s r)(p:Plc T r n P){x:Int}(hx:El n x):x ∈ (Zf T r n).getD (P x) []:=by
 have h1:=p.lt x hx
 rw [ZdF (by rw [YD];exact h1),p.at' x hx]
 exact h.ZeU G hx
theorem Plc.eq_iff (G:Grp T n s)(h:Sg T n s r)(p:Plc T r n P){x y:Int}(hx:El n x)(hy:El n y):P x=P y↔Yg T r x=Yg T r y:=by
 constructor
 ·intro e
  rw [← p.at' x hx,← p.at' y hy,e]
 ·intro e
  exact p.uniq G h hy (p.lt x hx) ((p.at' x hx).trans e)
theorem Plc.lead (G:Grp T n s)(h:Sg T n s r)(p:Plc T r n P){k:Nat}(hk:k < (Zf T r n).length):P ((Jj T r n).getD k 0)=k:=by
 have hk':k < (Jj T r n).length:=by rw [YD];exact hk
 exact (p.uniq G h (Zam hk').1 hk rfl).symm
theorem Loose.mul (G:Grp T n s)(h:Sg T n s r)(hl:Loose T n r){x y x' y':Int}(hx:El n x)(hy:El n y)(hx':El n x')(hy':El n y')(e1:Yg T r x=Yg T r x')(e2:Yg T r y=Yg T r y'):Yg T r (tg T x y)=Yg T r (tg T x' y'):=by
 have m1:x ∈ Yg T r x':=by rw [← e1];exact h.ZeU G hx
 have m2:y ∈ Yg T r y':=by rw [← e2];exact h.ZeU G hy
 obtain ⟨u,hu,eu⟩:=ZF.mp m1
 obtain ⟨v,hv,ev⟩:=ZF.mp m2
 have hue:=h.rs.el u hu
 have hve:=h.rs.el v hv
 have m3:tg T u y' ∈ Yg T r y':=by rw [hl y' hy'];exact Zgx.mpr ⟨u,hu,rfl⟩
 obtain ⟨w,hw,ew⟩:=ZF.mp m3
 have hwe:=h.rs.el w hw
 refine h.ZgB G (G.bd hx' hy') (ZF.mpr ⟨tg T w v,h.cls w hw v hv,?_⟩)
 rw [← eu,← ev,G.as hx' hue (G.bd hy' hve),← G.as hue hy' hve,← ew,G.as hy' hwe hve,← G.as hx' hy' (G.bd hwe hve)]
noncomputable def quoL (T:List (List Int)) (r:List Int) (n:Nat) (P:Int→Nat):List (List Int):=(Jj T r n).map fun a=>(Jj T r n).map fun b=>((P (tg T a b):Nat):Int)
theorem Zom (hi:∀ x,El n x→P x < (Zf T r n).length){i j:Nat}(h1:i < (Jj T r n).length)(h2:j < (Jj T r n).length):tg (quoL T r n P) i j=P (tg T ((Jj T r n).getD i 0) ((Jj T r n).getD j 0)):=by
 have e1:(quoL T r n P).getD i []=(Jj T r n).map fun b=>((P (tg T ((Jj T r n).getD i 0) b):Nat):Int):=by
  unfold quoL
  simp [List.getD,h1]
 show ((quoL T r n P).getD ((i:Int)).toNat []).getD ((j:Int)).toNat 0=_
 rw [Int.toNat_natCast,Int.toNat_natCast,e1]
 simp [List.getD,h2]
theorem Zjq (G:Grp T n s)(h:Sg T n s r)(p:Plc T r n P):Tab (quoL T r n P) (Zf T r n).length:=by
 have hn:=G.tab.top
 have hm:=h.Zbe G
 have hp:=h.pos
 have hl:=ZbZ T r n
 refine ⟨by unfold quoL;rw [List.length_map,YD],fun q hq=>?_,fun q hq x hx=>?_,?_,by omega⟩
 ·obtain ⟨a,_,rfl⟩:=List.mem_map.mp hq
  rw [List.length_map,YD]
 ·obtain ⟨a,ha,rfl⟩:=List.mem_map.mp hq
  obtain ⟨b,hb,rfl⟩:=List.mem_map.mp hx
  have ha:=Je.mp (List.mem_filter.mp ha).1
  have hb:=Je.mp (List.mem_filter.mp hb).1
  have:=p.lt _ (G.bd ha hb)
  omega
 ·have:=p.lt _ G.s
  omega
theorem Zax (G:Grp T n s)(h:Sg T n s r)(hl:Loose T n r)(p:Plc T r n P){x y:Int}(hx:El n x)(hy:El n y):tg (quoL T r n P) (P x) (P y)=P (tg T x y):=by
 have h1:=p.lt x hx
 have h2:=p.lt y hy
 have l1:P x < (Jj T r n).length:=by rw [YD];exact h1
 have l2:P y < (Jj T r n).length:=by rw [YD];exact h2
 rw [Zom p.lt l1 l2]
 have e:=(p.eq_iff G h (G.bd (Zam l1).1 (Zam l2).1) (G.bd hx hy)).mpr (hl.mul G h (Zam l1).1 (Zam l2).1 hx hy (p.at' x hx) (p.at' y hy))
 rw [e]
theorem ZjV (G:Grp T n s)(h:Sg T n s r)(hl:Loose T n r)(p:Plc T r n P):Grp (quoL T r n P) (Zf T r n).length (P s):=by
 have on:∀ a:Int,0≤a→a < (Zf T r n).length→∃ x,El n x∧a=P x:=fun a a0 a1=>by
  obtain ⟨k,hk,rfl⟩:=J6 a0 a1
  exact ⟨_,(Zam (by rw [YD];exact hk)).1,by rw [p.lead G h hk]⟩
 refine ⟨Zjq G h p,p.lt _ G.s,fun a b c a0 a1 b0 b1 c0 c1=>?_,fun a a0 a1=>?_,fun a a0 a1=>?_,fun a a0 a1=>?_⟩
 ·obtain ⟨x,hx,rfl⟩:=on a a0 a1
  obtain ⟨y,hy,rfl⟩:=on b b0 b1
  obtain ⟨z,hz,rfl⟩:=on c c0 c1
  rw [Zax G h hl p hx hy,Zax G h hl p (G.bd hx hy) hz,Zax G h hl p hy hz,Zax G h hl p hx (G.bd hy hz),G.as hx hy hz]
 ·obtain ⟨x,hx,rfl⟩:=on a a0 a1
  rw [Zax G h hl p G.s hx,G.l hx]
 ·obtain ⟨x,hx,rfl⟩:=on a a0 a1
  rw [Zax G h hl p hx G.s,G.r hx]
 ·obtain ⟨x,hx,rfl⟩:=on a a0 a1
  obtain ⟨y,hy,e1,e2⟩:=G.i hx
  have:=p.lt y hy
  exact ⟨P y,by omega,by omega,by rw [Zax G h hl p hx hy,e1],by rw [Zax G h hl p hy hx,e2]⟩
theorem Zko (G:Grp T n s)(h:Sg T n s r):Yg T r s=r:=by
 refine Zbd (h.ZeP G G.s) h.rs.up fun x=>?_
 rw [ZF]
 constructor
 ·rintro ⟨y,hy,rfl⟩;rw [G.l (h.rs.el y hy)];exact hy
 ·intro hx;exact ⟨x,hx,G.l (h.rs.el x hx)⟩
theorem ZcJ (G:Grp T n s):Sg T n s (upto n):=⟨⟨fun x hx=>Je.mp hx,Ze8 n⟩,Je.mpr G.s,fun a ha b hb=>Je.mpr (G.bd (Je.mp ha) (Je.mp hb))⟩
theorem Ze4 (G:Grp T n s):Sg T n s [(s:Int)]:=⟨⟨fun x hx=>by simp at hx;subst hx;exact G.s,by simp⟩,by simp,fun a ha b hb=>by simp at ha hb;subst ha;subst hb;rw [G.l G.s];simp⟩
theorem ZkG (G:Grp T n s):Sg T n s (midL T n):=by
 have mem:∀ {x},x ∈ midL T n↔El n x∧∀ a,El n a→tg T x a=tg T a x:=fun {x}=>by
  unfold midL;rw [List.mem_filter,Je,Zin];exact Iff.rfl
 refine ⟨⟨fun x hx=>(mem.mp hx).1,(Ze8 n).filter _⟩,mem.mpr ⟨G.s,fun a ha=>by rw [G.l ha,G.r ha]⟩,fun a ha b hb=>mem.mpr ?_⟩
 obtain ⟨a1,a2⟩:=mem.mp ha
 obtain ⟨b1,b2⟩:=mem.mp hb
 refine ⟨G.bd a1 b1,fun c hc=>?_⟩
 rw [G.as a1 b1 hc,b2 c hc,← G.as a1 hc b1,a2 c hc,G.as hc a1 b1]
theorem Zld (G:Grp T n s):Loose T n (midL T n):=fun x hx=>by
 unfold Yg Zb7
 congr 1
 refine List.map_congr_left fun y hy=>?_
 unfold midL at hy
 rw [List.mem_filter,Je,Zin] at hy
 exact (hy.2 x hx).symm
theorem ZdJ (G:Grp T n s):Loose T n [(s:Int)]:=fun x hx=>by
 unfold Yg Zb7
 simp [G.l hx,G.r hx]
theorem Zi2 (G:Grp T n s):Loose T n (upto n):=fun x hx=>by
 have h:=ZcJ G
 refine Zbd (h.ZeP G hx) ?_ fun z=>?_
 ·refine ZeV (Zdu _) ((ZG _).nodup_iff.mpr ?_)
  unfold List.Nodup
  rw [List.pairwise_map]
  exact List.Pairwise.imp_of_mem (R:=(·≠·)) (fun {a b} ha hb hne e=>hne (G.cr hx (Je.mp ha) (Je.mp hb) e)) (ZbU n)
 ·rw [ZF,Zgx]
  constructor
  ·rintro ⟨y,hy,rfl⟩
   have hy:=Je.mp hy
   obtain ⟨b,hb,h1,h2⟩:=G.i hx
   exact ⟨tg T (tg T x y) b,Je.mpr (G.bd (G.bd hx hy) hb),by rw [G.as (G.bd hx hy) hb hx,h2,G.r (G.bd hx hy)]⟩
  ·rintro ⟨y,hy,rfl⟩
   have hy:=Je.mp hy
   obtain ⟨b,hb,h1,h2⟩:=G.i hx
   exact ⟨tg T b (tg T y x),Je.mpr (G.bd hb (G.bd hy hx)),by rw [← G.as hx hb (G.bd hy hx),h1,G.l (G.bd hy hx)]⟩
theorem ZmO (G:Grp T n s)(p:Plc T [(s:Int)] n P):(Zf T [(s:Int)] n).length=n∧Iso T (quoL T [(s:Int)] n P) n (fun x=>(P x:Int)):=by
 have h:=Ze4 G
 have hl:(Zf T [(s:Int)] n).length=n:=by have:=h.Zbe G;simpa using this
 refine ⟨hl,fun a ha=>?_,fun a b ha hb e=>?_,fun a b ha hb=>(Zax G h (ZdJ G) p ha hb).symm⟩
 ·have:=p.lt a ha
  exact ⟨by omega,by omega⟩
 ·have e:P a=P b:=by omega
  have:=(p.eq_iff G h ha hb).mp e
  unfold Yg at this
  simp [G.r ha,G.r hb,srt,ins1] at this
  exact this
theorem ZkI (G:Grp T n s)(p:Plc T (upto n) n P):quoL T (upto n) n P=[[0]]:=by
 have h:=ZcJ G
 have hn:=G.tab.pos
 have hl:(Zf T (upto n) n).length=1:=by
  have:=h.Zbe G
  rw [Jz] at this
  have h2:(Zf T (upto n) n).length * n=1 * n:=by omega
  exact Nat.eq_of_mul_eq_mul_right (by omega) h2
 have ht:=Zjq G h p
 rw [hl] at ht
 have h1:=ht.len
 match hq:quoL T (upto n) n P,h1 with
 | [q],_ =>
  have h2:=ht.row q (by rw [hq];simp)
  match q,h2 with
  | [x],_ =>
   have h3:=ht.ent [x] (by rw [hq];simp) x (by simp)
   have:x=0:=by omega
   rw [this]
end
end PV
set_option linter.all false
set_option Elab.async false
set_option maxHeartbeats 2000000
namespace PV
open PySem (Str)
theorem Zf7 {T:List (List Int)}{n s:Nat}(G:Grp T n s){r:List Int}(h:Sg T n s r){x:Int}(hx:El n x):YX [tabD T,rowD r,.int x]=some (rowD (Zb7 T r x)):=by
 have hn:=G.tab.top
 have hl:=h.rs.len
 refine ZK rfl (Yr (evR.ev (Zf2 (Zis (Zdh (r:=r) (fun y=>tg T y x) (Zcd rfl) (by rw [Zv];omega) (fun y hy=>?_) ⟨by rw [List.length_map];omega,rfl⟩)))))
 exact Zaz G.tab rfl (Zg rfl (Zg rfl ⟨h.rs.el y hy,hx,rfl⟩))
theorem ZdS {T:List (List Int)}{n s:Nat}(G:Grp T n s){r:List Int}(h:Sg T n s r):Yu [tabD T,rowD r]=some (.bl (Zez T n r)):=by
 have hn:=G.tab.top
 refine ZK rfl (Yr ?_)
 obtain ⟨d,h1,k,rfl,h2⟩:=ZgQ (i:=2) (e:=eB (tEq (Zd ZJ [(eVar 0),(eVar 1),(eVar 2)]) (Zd YX [(eVar 0),(eVar 1),(eVar 2)]))) (env:=enter 3 [tabD T,rowD r]) (it:=iRng (eF1 fLen (eVar 0))) (P:=(·=Zez T n r)) (r:=upto n) (fun x=>decide (Yg T r x=Zb7 T r x)) (Zb2 (Zt G.tab rfl) (by omega)) (by rw [Jz,Zv];omega) (fun x hx=>by
  have hx:=Je.mp hx
  exact ev_B (Zoi (ZV ((ZbC rfl rfl rfl).trans (Zdb G h hx)) (ZV ((ZbC rfl rfl rfl).trans (Zf7 G h hx)) rfl)))) rfl
 exact ⟨_,h1,by subst h2;rfl⟩
theorem Zft {T:List (List Int)}{n s:Nat}(G:Grp T n s){r:List Int}(h:Sg T n s r):ZaQ [tabD T,rowD r]=some (.bl (Zez T n r)) :=
 ZK rfl (wp_seq (Za5 (Zh ((Js rfl).trans (ZD G)) (wp_seq (Za5 (Zh ((Yl rfl rfl).trans (Zc4 G h)) (Yr (Zh ((Yl rfl rfl).trans (ZdS G h)) rfl))))))))
theorem Zn5 {i:Nat}{env:Env}{Q:Out→Env→Prop}(k:Q .nx (env.set i (.dc []))):wp (ZjY i) env Q:=⟨_,_,rfl,k⟩
theorem Zmv {i j:Nat}{e:Ex}{R:List (List Int)}{b:St}{env:Env}{Q:Out→Env→Prop}(I:Nat→Env→Prop)(hit:e env=some (tabD R))(h0:I 0 env)
  (step:∀ (k:Nat) en q,R[k]?=some q→I k en→wp b ((en.set i (.sh (.int k))).set j (.sh (rowD q))) (lps (I (k + 1)) Q)) (h1:∀ en,I R.length en→Q .nx en):wp (sFor (g2 i j) (Zgk e) b) env Q:=by
 have el:∀ (k:Nat) (xs:List D),(Zaf k xs).length=xs.length:=by
  intro k xs
  induction xs generalizing k with
  | nil=>rfl
  | cons x xs ih=>simp [Zaf,ih]
 have eg:∀ (k i:Nat) (xs:List D),(Zaf k xs)[i]?=(xs[i]?).map fun d=>D.tup [.int ((k + i:Nat):Int),d]:=by
  intro k i xs
  induction xs generalizing k i with
  | nil=>simp [Zaf]
  | cons x xs ih =>
   cases i with
   | zero=>simp [Zaf]
   | succ i=>simp only [Zaf,List.getElem?_cons_succ];rw [ih (k + 1) i];congr 2;funext d;congr 3;omega
 refine Zf9 I (ds:=Zaf 0 (R.map rowD)) (by simp only [Zgk,hit,tabD]) h0 (fun k d en hd hI=>?_) (fun en hI=>h1 en (by rwa [el,List.length_map] at hI))
 rw [eg,List.getElem?_map] at hd
 cases hq:R[k]? with
 | none=>rw [hq] at hd;cases hd
 | some q =>
  rw [hq] at hd
  cases hd
  refine ⟨_,rfl,?_⟩
  have:=step k en q hq hI
  simpa using this
theorem Zd4 {T:List (List Int)}{n s:Nat}(G:Grp T n s){r:List Int}(h:Sg T n s r){P:Int→Nat}(p:Plc T r n P):JV [tabD T,tabD (Zf T r n)]=some (tabD (quoL T r n P)):=by
 have hT:=G.tab
 have hn:=hT.top
 have hlm:=Zv
 have hsl:=ZbZ T r n
 refine ZK rfl (wp_seq (Zn5 ?_))
 refine wp_seq (Zmv (R:=Zf T r n) (fun k e=>∃ w z3 z4 z5,(w.map (·.1)).Nodup∧(∀ q ∈ w,El n q.1∧q.2=(P q.1:Int)∧P q.1 < k)∧(∀ x,El n x→P x < k→(x,(P x:Int)) ∈ w)∧e=[.sh (tabD T),.sh (tabD (Zf T r n)),.dc w,z3,z4,z5,.un,.un,.un,.un]) rfl ⟨[],_,_,_,by simp,by simp,fun x _ hx=>by omega,rfl⟩ (fun k e q hq he=>?_) (fun e he=>?_))
 ·obtain ⟨w,_,_,_,nd,hw,hc,rfl⟩:=he
  have hk:k < (Zf T r n).length:=(List.getElem?_eq_some_iff.mp hq).1
  have eq:(Zf T r n).getD k []=q:=by rw [List.getD_eq_getElem?_getD,hq];rfl
  have hk':k < (Jj T r n).length:=by rw [YD];exact hk
  have qs:q=Yg T r ((Jj T r n).getD k 0):=by rw [← eq,ZdF hk']
  have qel:∀ x ∈ q,El n x∧P x=k:=fun x hx=>by
   rw [qs] at hx
   have hE:=h.ZhG G (Zam hk').1 hx
   exact ⟨hE,(p.Zlm G h hE hk (by rw [eq,qs];exact hx)).symm⟩
  have qnd:q.Nodup:=by rw [qs];exact (h.ZeP G (Zam hk').1).imp fun {a b} h=>by omega
  refine Zbg (r:=q) (fun j e=>∃ w z5,(w.map (·.1)).Nodup∧(∀ y ∈ w,El n y.1∧y.2=(P y.1:Int)∧(P y.1 < k∨y.1 ∈ q.take j))∧(∀ x,El n x→P x < k→(x,(P x:Int)) ∈ w)∧(∀ x ∈ q.take j,(x,(k:Int)) ∈ w)∧e=[.sh (tabD T),.sh (tabD (Zf T r n)),.dc w,.sh (.int k),.sh (rowD q),z5,.un,.un,.un,.un]) (Zcd rfl) ⟨w,_,nd,fun y hy=>⟨(hw y hy).1,(hw y hy).2.1,.inl (hw y hy).2.2⟩,hc,by simp,rfl⟩ (fun j e x hx he=>?_) (fun e he=>?_)
  ·obtain ⟨w,_,nd,hw,hc,hc2,rfl⟩:=he
   have hxq:=List.mem_of_getElem? hx
   obtain ⟨xE,xP⟩:=qel x hxq
   have hno:dget w x=none:=by
    rw [Zdv]
    intro hm
    obtain ⟨y,hy,rfl⟩:=List.mem_map.mp hm
    rcases (hw y hy).2.2 with h1 | h1
    ·omega
    ·obtain ⟨i,hi,ei⟩:=List.getElem_of_mem h1
     rw [List.length_take] at hi
     rw [List.getElem_take] at ei
     obtain ⟨hj,ej⟩:=List.getElem?_eq_some_iff.mp hx
     have:=(List.getElem_inj qnd).mp (ei.trans ej.symm)
     omega
   have hwl:w.length≤n:=by
    have:=Zgq (n:=n) nd fun z hz=>by
     obtain ⟨y,hy,rfl⟩:=List.mem_map.mp hz
     exact (hw y hy).1
    rwa [List.length_map] at this
   refine ZeR (kvs:=w) rfl rfl rfl (by omega) ?_
   rw [ZfM hno]
   have tk:q.take (j + 1)=q.take j++[x]:=by rw [List.take_add_one,hx];rfl
   refine ⟨_,_,?_,fun y hy=>?_,fun z hz1 hz2=>List.mem_append_left _ (hc z hz1 hz2),fun z hz=>?_,rfl⟩
   ·rw [List.map_append,List.nodup_append]
    refine ⟨nd,by simp,fun a ha b hb=>?_⟩
    simp at hb;subst hb
    rintro rfl
    exact Zdv.mp hno ha
   ·rw [tk]
    rcases List.mem_append.mp hy with hy | hy
    ·refine ⟨(hw y hy).1,(hw y hy).2.1,?_⟩
     rcases (hw y hy).2.2 with h1 | h1
     ·exact .inl h1
     ·exact .inr (List.mem_append_left _ h1)
    ·simp at hy;subst hy
     exact ⟨xE,by rw [xP],.inr (by simp)⟩
   ·rw [tk] at hz
    rcases List.mem_append.mp hz with hz | hz
    ·exact List.mem_append_left _ (hc2 z hz)
    ·simp at hz;subst hz;simp
  ·obtain ⟨w,_,nd,hw,hc,hc2,rfl⟩:=he
   rw [List.take_length] at hw hc2
   refine ⟨w,_,_,_,nd,fun y hy=>⟨(hw y hy).1,(hw y hy).2.1,?_⟩,fun x hx1 hx2=>?_,rfl⟩
   ·rcases (hw y hy).2.2 with h1 | h1
    ·omega
    ·have:=(qel _ h1).2;omega
   ·rcases Nat.lt_or_ge (P x) k with h1 | h1
    ·exact hc x hx1 h1
    ·have e1:P x=k:=by omega
     have hm:=p.mem G h hx1
     rw [e1,eq] at hm
     rw [e1]
     exact hc2 x hm
 ·obtain ⟨w,z3,z4,z5,nd,hw,hc,rfl⟩:=he
  have get:∀ x,El n x→dget w x=some (P x:Int):=fun x hx=>(Y8 nd).mpr (hc x hx (p.lt x hx))
  refine wp_seq (YJ (evR.ev (Zoo (T:=Zf T r n) (fun _=>true) (fun q=>q.getD 0 0) (Zm2 rfl) (by omega) (fun q hq=>ZmZ rfl rfl) (fun q hq _=>ZgG (ZV rfl (Zg rfl ⟨⟨by omega,?_⟩,rfl⟩))) ?_)))
  ·rw [Zjn hq];have:=h.pos;omega
  have eh:((Zf T r n).filter fun _=>true).map (fun q=>q.getD 0 0)=Jj T r n:=by
   rw [List.filter_eq_self.mpr (fun _ _=>rfl)]
   unfold Zf
   rw [List.map_map]
   conv=>rhs;rw [← List.map_id (Jj T r n)]
   refine List.map_congr_left fun x hx=>?_
   have:=(List.mem_filter.mp hx).2
   exact of_decide_eq_true this
  rw [eh]
  have hll:(Jj T r n).length≤n:=by rw [YD];exact hsl
  have lel:∀ x ∈ Jj T r n,El n x:=fun x hx=>Je.mp (List.mem_filter.mp hx).1
  refine wp_seq (Zpj (Zh rfl ⟨_,rfl,?_⟩))
  refine wp_seq (Zbg (r:=Jj T r n) (fun k e=>∃ z4 z8 z9 sl,(sl=.dc w∨sl=.sh (.dct w))∧e=[.sh (tabD T),.sh (tabD (Zf T r n)),sl,z3,z4,z5,.sh (rowD (Jj T r n)),.ow ((((Jj T r n).take k).map fun a=>(Jj T r n).map fun b=>((P (tg T a b):Nat):Int)).map rowD),z8,z9]) (Zcd rfl) ⟨z4,.un,.un,_,.inl rfl,rfl⟩ (fun k e x hx he=>?_) (fun e he=>?_))
  ·obtain ⟨z4,z8,z9,sl,hsl',rfl⟩:=he
   have hxm:=List.mem_of_getElem? hx
   have hxe:=lel x hxm
   have fz:wp (sFrz 2) [.sh (tabD T),.sh (tabD (Zf T r n)),sl,z3,z4,z5,.sh (rowD (Jj T r n)),.ow ((((Jj T r n).take k).map fun a=>(Jj T r n).map fun b=>((P (tg T a b):Nat):Int)).map rowD),.sh (.int x),z9] (fun o e=>o=.nx∧e=[.sh (tabD T),.sh (tabD (Zf T r n)),.sh (.dct w),z3,z4,z5,.sh (rowD (Jj T r n)),.ow ((((Jj T r n).take k).map fun a=>(Jj T r n).map fun b=>((P (tg T a b):Nat):Int)).map rowD),.sh (.int x),z9]):=by
    rcases hsl' with rfl | rfl
    ·exact Zg1 (kvs:=w) rfl ⟨rfl,rfl⟩
    ·exact ZgH rfl ⟨rfl,rfl⟩
   refine wp_seq (fz.mono fun o e h'=>?_)
   obtain ⟨rfl,rfl⟩:=h'
   refine Zof (T:=((Jj T r n).take k).map fun a=>(Jj T r n).map fun b=>((P (tg T a b):Nat):Int)) rfl (Zdh (r:=Jj T r n) (fun b=>((P (tg T x b):Nat):Int)) (Zcd rfl) (by omega) (fun b hb=>?_) ⟨by rw [List.length_map,List.length_take];omega,?_⟩)
   ·have hbe:=lel b hb
    obtain ⟨v,hv1,hv2⟩:=Zaz (P:=(·=tg T x b)) (e0:=eVar 0) (e1:=eVar 8) (e2:=eVar 9) (env:=[Sl.sh (tabD T),.sh (tabD (Zf T r n)),.sh (.dct w),z3,z4,z5,.sh (rowD (Jj T r n)),.ow ((((Jj T r n).take k).map fun a=>(Jj T r n).map fun b=>((P (tg T a b):Nat):Int)).map rowD),.sh (.int x),.sh (.int b)]) hT rfl (Zg rfl (Zg rfl ⟨hxe,hbe,rfl⟩))
    rw [hv2] at hv1
    exact Zg (Zc8 rfl hv1 (get _ (G.bd hxe hbe))) rfl
   ·refine ⟨z4,.sh (.int x),z9,_,.inr rfl,?_⟩
    have tk:(Jj T r n).take (k + 1)=(Jj T r n).take k++[x]:=by rw [List.take_add_one,hx];rfl
    simp only [tk,List.map_append]
    rfl
  ·obtain ⟨z4,z8,z9,sl,hsl',rfl⟩:=he
   rw [List.take_length]
   exact wp_seq (Zo9 rfl (Yr (Zh rfl rfl)))
theorem ZcO {T:List (List Int)}{n s:Nat}(G:Grp T n s){r:List Int}(h:Sg T n s r)(hl:Loose T n r){P:Int→Nat}(p:Plc T r n P):JM [tabD T,rowD r]=some (tabD (quoL T r n P)):=by
 refine ZK rfl (wp_seq (Za5 (Zh ((Js rfl).trans (ZD G)) ?_)))
 refine wp_seq (Za5 (Zh ((Yl rfl rfl).trans (Zc4 G h)) ?_))
 refine wp_seq (Zb0 (Zge (tv_B (Zh ((Yl rfl rfl).trans (ZdS G h)) ⟨_,rfl,by rw [ZdC.mpr hl];rfl⟩))) ?_)
 refine wp_seq (YJ (Zh ((Yl rfl rfl).trans (ZdL G h)) ?_))
 exact Yr (Zh ((Yl rfl rfl).trans (Zd4 G h p)) rfl)
end PV
set_option linter.all false
set_option Elab.async false
set_option maxHeartbeats 2000000
namespace PV
open PySem (Str)
theorem ZnQ {n:Nat}{r:List Int}(nd:r.Nodup)(el:∀ x ∈ r,El n x)(hl:r.length=n):r.Perm (upto n):=by
 refine (List.perm_ext_iff_of_nodup nd (ZbU n)).mpr fun x=>⟨fun hx=>Je.mpr (el x hx),fun hx=>?_⟩
 apply Classical.byContradiction
 intro hx'
 have:=(List.nodup_cons.mpr ⟨hx',nd⟩).length_le_of_subset (l₂:=upto n) fun y hy=>by
  rcases List.mem_cons.mp hy with rfl | hy
  ·exact hx
  ·exact Je.mpr (el y hy)
 rw [List.length_cons,Jz] at this
 omega
theorem Iso.perm {A B:List (List Int)}{n:Nat}{g:Int→Int}(h:Iso A B n g):((upto n).map g).Perm (upto n):=by
 refine ZnQ ?_ (fun x hx=>?_) (by rw [List.length_map,Jz])
 ·unfold List.Nodup
  rw [List.pairwise_map]
  exact List.Pairwise.imp_of_mem (R:=(·≠·)) (fun {a b} ha hb hne he=>hne (h.inj a b (Je.mp ha) (Je.mp hb) he)) (ZbU n)
 ·obtain ⟨a,ha,rfl⟩:=List.mem_map.mp hx
  exact h.el a (Je.mp ha)
theorem Iso.inv {A B:List (List Int)}{n s:Nat}(GA:Grp A n s){g:Int→Int}(h:Iso A B n g):∃ g',Iso B A n g':=by
 have on:∀ y,∃ x,El n y→El n x∧g x=y:=fun y=>by
  by_cases hy:El n y
  ·have:=h.perm.mem_iff.mpr (Je.mpr hy)
   obtain ⟨x,hx,e⟩:=List.mem_map.mp this
   exact ⟨x,fun _=>⟨Je.mp hx,e⟩⟩
  ·exact ⟨0,fun h=>absurd h hy⟩
 obtain ⟨g',hg'⟩:=Classical.axiomOfChoice on
 refine ⟨g',fun a ha=>(hg' a ha).1,fun a b ha hb e=>by rw [← (hg' a ha).2,← (hg' b hb).2,e],fun a b ha hb=>?_⟩
 obtain ⟨a1,a2⟩:=hg' a ha
 obtain ⟨b1,b2⟩:=hg' b hb
 have hab:tg B a b=g (tg A (g' a) (g' b)):=by rw [h.mul _ _ a1 b1,a2,b2]
 have hE:El n (tg B a b):=by rw [hab];exact h.el _ (GA.bd a1 b1)
 obtain ⟨c1,c2⟩:=hg' _ hE
 exact h.inj _ _ c1 (GA.bd a1 b1) (c2.trans hab)
theorem ZkV {e:Ex}{env:Env}{i:List Int}(h:evR e env (·=i)):e env=some (rowD i):=let ⟨x,a,b⟩:=h;b ▸ a
theorem ZoW {φ:List D→Option D}{a b c d:Ex}{env:Env}{x y z w:D}(h:a env=some x)(h2:b env=some y)(h3:c env=some z)(h4:d env=some w):Zd φ [a,b,c,d] env=φ [x,y,z,w]:=by simp [Zd,evs,h,h2,h3,h4]
theorem ZmC {P:List (List Int)}{i:Nat}(h:i < P.length):P.getD i [] ∈ P:=by
 rw [List.getD_eq_getElem?_getD,List.getElem?_eq_getElem h];exact List.getElem_mem h
theorem Zkg {r:List Int}(hn:r.Nodup){x:Int}(hx:x ∈ r){p:Int→Bool}(hp:∀ y ∈ r,p y=true↔y=x):r.filter p=[x]:=by
 induction r with
 | nil=>simp at hx
 | cons y r ih =>
  rw [List.nodup_cons] at hn
  by_cases hy:y=x
  ·subst hy
   rw [List.filter_cons_of_pos ((hp y List.mem_cons_self).mpr rfl)]
   congr 1
   rw [List.filter_eq_nil_iff]
   intro z hz hpz
   have:=(hp z (List.mem_cons_of_mem _ hz)).mp hpz
   subst this
   exact hn.1 hz
  ·rw [List.filter_cons_of_neg (fun h=>hy ((hp y List.mem_cons_self).mp h))]
   refine ih hn.2 ?_ (fun z hz=>hp z (List.mem_cons_of_mem _ hz))
   rcases List.mem_cons.mp hx with rfl | h
   ·exact absurd rfl hy
   ·exact h
theorem ZcH {T:List (List Int)}{n s:Nat}(G:Grp T n s){r:List Int}(h:Sg T n s r){P:Int→Nat}(p:Plc T r n P){x:Int}(hx:El n x):J9 [tabD (Zf T r n),.int x]=some (.int (P x)):=by
 have hn:=G.tab.top
 have hsl:=ZbZ T r n
 have hlm:=Zv
 have hp:=p.lt x hx
 refine ZK rfl (Yr (evI.ev (ZgG (Zj9 (r:=upto (Zf T r n).length) (fun k=>decide (x ∈ (Zf T r n).getD k.toNat [])) (fun k=>k) (Zb2 (ZdG (P:=(·=((Zf T r n).length:Int))) (ZaL rfl rfl)).eq (by omega)) (by rw [Jz];omega) (fun k hk=>?_) (fun k hk _=>Zg rfl rfl) ?_))))
 ·have hk:=Je.mp hk
  exact ZoF (Zg rfl (Zg3 (ZaL rfl (Zg rfl ⟨hk,rfl⟩))))
 ·rw [List.map_id',Zkg (ZbU _) (x:=(P x:Int)) (Je.mpr ⟨by omega,by omega⟩) (fun y hy=>?_)]
  ·exact Zg rfl ⟨⟨by omega,by simp⟩,rfl⟩
  ·obtain ⟨k,hk,rfl⟩:=J6 (Je.mp hy).1 (Je.mp hy).2
   rw [decide_eq_true_eq,Int.toNat_natCast]
   constructor
   ·intro hm;rw [p.Zlm G h hx hk hm]
   ·intro e
    have e:k=P x:=by omega
    rw [e];exact p.mem G h hx
theorem Zij {T:List (List Int)}{n s:Nat}(G:Grp T n s){r:List Int}(h:Sg T n s r)(hl:Loose T n r){a b:Int}(ha:El n a)(hb:El n b):Za4 [tabD T,rowD r,.int a,.int b]=some (.bl true):=by
 obtain ⟨P,p⟩:=ZhM G h
 have Q:=ZjV G h hl p
 have hps:=p.lt s G.s
 have hpa:=p.lt a ha
 have hpb:=p.lt b hb
 have hab:=G.bd ha hb
 refine ZK rfl (wp_seq (YJ (Zh ((Yl rfl rfl).trans (ZcO G h hl p)) ?_)))
 refine wp_seq (YJ (Zh ((Yl (x:=tabD T) (y:=rowD r) rfl rfl).trans (Zlk G h)) ?_))
 refine wp_seq (Zb0 (Zkf (Zew (Zg (Zt Q.tab rfl) (ZdG (ZaL rfl ⟨fun h=>?_,fun _=>Zkf (Zb8 (Zh ((Js rfl).trans (Zod Q.tab)) ⟨fun h=>?_,fun _=>Zir (Zg3 (ZaL rfl (Zg ((Js rfl).trans (rest_eq Q)) ⟨⟨by omega,by omega⟩,ZV rfl ?_⟩)))⟩))⟩))))) ?_)
 ·simp at h
 ·rw [Q.flaw] at h;cases h
 ·rw [Int.toNat_natCast,ZdF (by rw [YD];exact hps),p.at' _ G.s,Zko G h];simp
 ·refine Yr (ev_B (Zgw (Zaz Q.tab rfl (Zg ((Yl rfl rfl).trans (ZcH G h p ha)) (Zg ((Yl rfl rfl).trans (ZcH G h p hb)) ⟨⟨by omega,by omega⟩,⟨by omega,by omega⟩,?_⟩)))))
  refine Zla (Zh rfl (evI.ev (Zaz G.tab rfl (Zg rfl (Zg rfl ⟨ha,hb,_,ZcH G h p hab,?_⟩)))))
  rw [Zax G h hl p ha hb];simp [ends]
theorem ZpH (ns:List Int):ZgE [rowD ns]=some (.bl true):=by
 obtain ⟨n,s,T,eT,G,few⟩:=Zhy ns 0
 have hT:=G.tab
 have hn:=hT.top
 have hl:=hT.len
 have hpos:=hT.pos
 obtain ⟨P,eP,hnd,hP,hPs⟩:=ZmB G few
 have hPl:P.length < 64:=few P hnd fun r hr=>(hP r).mp hr
 have hP0:0 < P.length:=List.length_pos_of_mem ((hP _).mpr (ZcJ G))
 obtain ⟨a,ha,ea⟩:=Zdl (ZaM ns 2) hpos
 obtain ⟨b,hb,eb⟩:=Zdl (ZaM ns 3) hpos
 obtain ⟨c,hc,ec⟩:=Zdl (ZaM ns 4) hP0
 obtain ⟨d,hd,ed⟩:=Zdl (ZaM ns 5) hP0
 refine ZK rfl (wp_seq (YJ (Zh ((Yl rfl rfl).trans eT) ?_)))
 refine wp_seq (YJ (evI.ev (ZeL (Zg ((Yl rfl rfl).trans (YZ ns 2)) (Zg (Zt hT rfl) ⟨by omega,?_⟩)))))
 rw [show ZaM ns 2 % (n:Int)=(a:Int) from ea]
 refine wp_seq (YJ (evI.ev (ZeL (Zg ((Yl rfl rfl).trans (YZ ns 3)) (Zg (Zt hT rfl) ⟨by omega,?_⟩)))))
 rw [show ZaM ns 3 % (n:Int)=(b:Int) from eb]
 refine wp_seq (YJ (Zh ((Js rfl).trans eP) ?_))
 have e3:eLst [(eC (.int 0)),(e2I iMod (Zd Zm [(eVar 0),(eC (.int 4))]) (eF1 fLen (eVar 4))),(e2I iMod (Zd Zm [(eVar 0),(eC (.int 5))]) (eF1 fLen (eVar 4)))] [.sh (rowD ns),.sh (tabD T),.sh (.int a),.sh (.int b),.sh (tabD P),.un,.un]=some (rowD [0,(c:Int),(d:Int)]):=by
  have c4:e2I iMod (Zd Zm [(eVar 0),(eC (.int 4))]) (eF1 fLen (eVar 4)) [.sh (rowD ns),.sh (tabD T),.sh (.int a),.sh (.int b),.sh (tabD P),.un,.un]=some (.int c) :=
   (ZeL (P:=(·=(c:Int))) (Zg ((Yl rfl rfl).trans (YZ ns 4)) (ZdG (ZaL rfl ⟨by omega,ec⟩)))).eq
  have c5:e2I iMod (Zd Zm [(eVar 0),(eC (.int 5))]) (eF1 fLen (eVar 4)) [.sh (rowD ns),.sh (tabD T),.sh (.int a),.sh (.int b),.sh (tabD P),.un,.un]=some (.int d) :=
   (ZeL (P:=(·=(d:Int))) (Zg ((Yl rfl rfl).trans (YZ ns 5)) (ZdG (ZaL rfl ⟨by omega,ed⟩)))).eq
  simp only [eLst,evs,c4,c5];rfl
 refine wp_seq (Zbg (r:=[0,(c:Int),(d:Int)]) (fun _ e=>∃ z5 z6,e=[.sh (rowD ns),.sh (tabD T),.sh (.int a),.sh (.int b),.sh (tabD P),z5,z6]) (Zcd e3) ⟨_,_,rfl⟩ (fun k e x hx he=>?_) (fun e he=>?_))
 ·obtain ⟨_,_,rfl⟩:=he
  obtain ⟨q,hq,rfl⟩:∃ q:Nat,q < P.length∧x=q:=by
   have hm:=List.mem_of_getElem? hx
   simp at hm
   rcases hm with rfl | rfl | rfl
   ·exact ⟨0,hP0,rfl⟩
   ·exact ⟨c,hc,rfl⟩
   ·exact ⟨d,hd,rfl⟩
  have hS:=(hP _).mp (ZmC hq)
  refine wp_seq (YJ (evR.ev (Zg3 (ZaL rfl (Zg rfl ⟨⟨by omega,by omega⟩,?_⟩)))))
  rw [Int.toNat_natCast]
  refine Zb0 (ZgD (tv_B (Zh ((Yl (x:=tabD T) (y:=rowD (P.getD q [])) rfl rfl).trans (Zft G hS)) ⟨_,rfl,fun hlo=>Zge (tv_B (Zh ((ZoW rfl rfl rfl rfl).trans (Zij G hS (ZdC.mp hlo) (El.of ha) (El.of hb))) ⟨_,rfl,rfl⟩)),fun _=>rfl⟩))) ⟨_,_,rfl⟩
 obtain ⟨z5,z6,rfl⟩:=he
 obtain ⟨PW,pw⟩:=ZhM G (ZcJ G)
 obtain ⟨PR,pr⟩:=ZhM G (Ze4 G)
 have tw:∀ env:Env,eVar 1 env=some (tabD T)→Zd JM [(eVar 1),(eF1 YW (eF1 fLen (eVar 1)))] env=some (tabD [[0]]):=fun env e1=>by
  refine (Yl e1 (?_:_=some (rowD (upto n)))).trans ?_
  ·exact ZkV (ZkC (Zg (Zt hT e1) ⟨n,rfl,by omega,rfl⟩))
  ·rw [ZcO G (ZcJ G) (Zi2 G) pw,ZkI G pw]
 refine wp_seq (Zb0 (Zkf (Zor (ZaL (tw _ rfl) (ZaL (d:=[[0]]) rfl ⟨fun h=>by simp at h,fun _=>Zge (tv_B (Zh ((Yl rfl ((Js rfl).trans (Zhs G))).trans (Zft G (ZkG G))) ⟨_,rfl,by rw [ZdC.mpr (Zld G)];rfl⟩))⟩)))) ?_)
 have er:∀ env:Env,eVar 1 env=some (tabD T)→eLst [(Zd Zb6 [(eVar 1)])] env=some (rowD [(s:Int)]):=fun env e1=>ZkV (ZfD (Zg ((Js e1).trans (rest_eq G)) rfl))
 have QR:=ZjV G (Ze4 G) (ZdJ G) pr
 obtain ⟨hql,hiso⟩:=ZmO G pr
 rw [hql] at QR
 obtain ⟨gi,hgi⟩:=hiso.inv G
 obtain ⟨dd,edd,hdd⟩:=ZiU QR G
 have hno:dd.isN=false:=by
  rcases hdd with ⟨h,_⟩ | ⟨_,⟨_,h⟩ | ⟨r,rfl,_⟩⟩
  ·exact absurd rfl h
  ·exact absurd hgi (h gi)
  ·rfl
 refine Yr (ev_B (ZgD (Zb8 (Zh ((Yl ((Yl rfl (er _ rfl)).trans (ZcO G (Ze4 G) (ZdJ G) pr)) rfl).trans edd) ⟨fun _=>Zpe (ZV ((Js rfl).trans (Zhs G)) (ZaL rfl ?_)),fun h=>?_⟩))))
 ·have:=(hP _).mpr (ZkG G)
  simp [this,ends]
 ·rw [hno] at h;cases h
end PV
set_option linter.all false
set_option Elab.async false
set_option maxRecDepth 100000
set_option maxHeartbeats 4000000
namespace PV
open PySem PySem.Spec PyProof.Rows
open L2 (V Hp HO Same Cx)
theorem Zcj {a b:St}{env env':Env}(h:sSeq a b env=some (.nx,env')):∃ e1,a env=some (.nx,e1)∧b e1=some (.nx,env'):=by
 unfold sSeq at h
 split at h
 ·rename_i e1 h1;exact ⟨e1,h1,h⟩
 ·rename_i r hne
  cases hr:a env with
  | none=>rw [hr] at h;cases h
  | some p =>
   obtain ⟨o,e1⟩:=p
   rw [hr] at h
   cases h
   exact absurd hr (hne _)
noncomputable def top (i:Nat):Stmt:=PySem.Challenge.pw_tablefolk_k09_whole_what_is_left.main.body.getD i (.Pass ⟨0,0,0,0⟩)
noncomputable abbrev JT:Stmt:=top 12
theorem ZdO:L2.Yh ["table","number"] ["table","number"] (L2.Yb JT):=⟨rfl,rfl,rfl,by decide +kernel,rfl,by decide +kernel,by decide +kernel⟩
theorem Zhx {P:Program} {w:World} {K:PySem.W.Frag} {mg:Str→Option Value} {base:Heap} {f:Addr} {fd:FuncData} (F:L2.Fun K "is_element" "is_element" JT f fd) (T:Bt mg) :
  L2.FnOk P w K mg base L2.CX0 1 f fd ["table","number"] (spR K (rk K .k) Zz) :=
 Jm (N:=["table","number"]) (ps:=["table","number"]) (k:=0) (m:=(rk K .k)) (g:=Zeq) F ZdO (.inl (Ys _)) fun cdv A outer s H E hr=>by
  have hu:=hr.units
  have nd:=ZdO.nd
  have nox:∀ (e:Value) (s:Shared),False→False:=fun _ _ h=>h
  exact (Jb (Yi (((Zii (m:=.k) (ZpU (m:=.k) (Za 1) (Yd (m:=.k))) (ZdW (ZpC (m:=.k) (Za 1) (Jo (m:=.k) T (Za 0)))))))))
noncomputable abbrev J4:Stmt:=top 10
theorem Zd8:L2.Yh ["table","size","row","number"] ["table"] (L2.Yb J4):=⟨rfl,rfl,rfl,by decide +kernel,rfl,by decide +kernel,by decide +kernel⟩
theorem ZiG {P:Program} {w:World} {K:PySem.W.Frag} {mg:Str→Option Value} {base:Heap} {f:Addr} {fd:FuncData} (F:L2.Fun K "ask_table" "ask_table" J4 f fd) (T:Bt mg) (C_MOST_ROWS:∃ t,mg "MOST_ROWS"=some (.int 12 t)) (G_is_element:Cal P w K mg base 1 "is_element" (rk K .k) Zz) :
  L2.FnOk P w K mg base L2.CX0 2 f fd ["table"] (spR K (rk K .k) JN) :=
 Jm (N:=["table","size","row","number"]) (ps:=["table"]) (k:=1) (m:=(rk K .k)) (g:=Zfq) F Zd8 (.inl (Ys _)) fun cdv A outer s H E hr=>by
  have hu:=hr.units
  have nd:=Zd8.nd
  have nox:∀ (e:Value) (s:Shared),False→False:=fun _ _ h=>h
  exact (Zb (Jh nd 1 (Jo (m:=.k) T (Za 0))) (Zb (Yp (pw_t (ZhF (ZgF (Za 1) (Yd (m:=.k))) (ZfP (Zkz (Za 1) (Zok (m:=.k) (hm:=C_MOST_ROWS)))))) (Jb (ZcM)) Jp) (Jb (Zk (YM (Za 0)) (pg_n nd 2) (Zb (Yp (Zcl hu (Jo (m:=.k) T (Za 2)) (Za 1)) (Jb (ZcM)) Jp) (Jb (Yp (ZcP (ZcW (Zd7 (m:=.k) T (Zai nox nd 3 (YM (Za 2)) (fun _ _ _ _ _ _=>(Ye G_is_element (hr.mono (by decide)) (Ja (Za 0) (Ja (Za 3) Zc)))))))) (Jb (ZcM)) Jp)))))))
noncomputable abbrev YS:Stmt:=top 14
theorem ZdK:L2.Yh ["table","size","a","b","c"] ["table"] (L2.Yb YS):=⟨rfl,rfl,rfl,by decide +kernel,rfl,by decide +kernel,by decide +kernel⟩
theorem ZhA {P:Program} {w:World} {K:PySem.W.Frag} {mg:Str→Option Value} {base:Heap} {f:Addr} {fd:FuncData} (F:L2.Fun K "find_three" "find_three" YS f fd) (T:Bt mg) :
  L2.FnOk P w K mg base L2.CX0 1 f fd ["table"] (spR K (rk K .k) Zaj) :=
 Jm (N:=["table","size","a","b","c"]) (ps:=["table"]) (k:=0) (m:=(rk K .k)) (g:=Zd3) F ZdK (.inl (Ys _)) fun cdv A outer s H E hr=>by
  have hu:=hr.units
  have nd:=ZdK.nd
  have nox:∀ (e:Value) (s:Shared),False→False:=fun _ _ h=>h
  exact (Zb (Jh nd 1 (Jo (m:=.k) T (Za 0))) (Zb (Zk (Jt T (Za 1)) (pg_n nd 2) (Jb (Zk (Jt T (Za 1)) (pg_n nd 3) (Jb (Zk (Jt T (Za 1)) (pg_n nd 4) (Jb (Yp (Zcl hu (Zj (Zj (Za 0) (Zj (Zj (Za 0) (Za 2)) (Za 3))) (Za 4)) (Zj (Zj (Za 0) (Za 2)) (Zj (Zj (Za 0) (Za 3)) (Za 4)))) (Jb (Yi (ZaX (Ja (ZhK (m:=.k)) (Ja (Za 2) (Ja (Za 3) (Ja (Za 4) Zc))))))) Jp))))))) (Jb (Yi (ZbF (m:=.k))))))
noncomputable abbrev J2:Stmt:=top 15
theorem Zeg:L2.Yh ["table","size","still","a"] ["table"] (L2.Yb J2):=⟨rfl,rfl,rfl,by decide +kernel,rfl,by decide +kernel,by decide +kernel⟩
theorem ZhU {P:Program} {w:World} {K:PySem.W.Frag} {mg:Str→Option Value} {base:Heap} {f:Addr} {fd:FuncData} (F:L2.Fun K "find_rest" "find_rest" J2 f fd) (T:Bt mg) :
  L2.FnOk P w K mg base L2.CX0 1 f fd ["table"] (spR K (rk K .k) Zn) :=
 Jm (N:=["table","size","still","a"]) (ps:=["table"]) (k:=0) (m:=(rk K .k)) (g:=Zfk) F Zeg (.inl (Ys _)) fun cdv A outer s H E hr=>by
  have hu:=hr.units
  have nd:=Zeg.nd
  have nox:∀ (e:Value) (s:Shared),False→False:=fun _ _ h=>h
  exact (Zb (Jh nd 1 (Jo (m:=.k) T (Za 0))) (Zb (Zk (Jt T (Za 1)) (pg_n nd 2) (Jb (Yp (ZcW (Zd7 (m:=.k) T (Zai nox nd 3 (Jt T (Za 1)) (fun _ _ _ _ _ _=>(((Zii (m:=.k) (Zgb (m:=.k) hu (Zj (Zj (Za 0) (Za 2)) (Za 3)) (Za 3)) (ZdW (Zgb (m:=.k) hu (Zj (Zj (Za 0) (Za 3)) (Za 2)) (Za 3)))))))))) (Jb (Yi (Za 2))) Jp))) (Jb (Yi (ZbF (m:=.k))))))
noncomputable abbrev Z5:Stmt:=top 16
theorem Zex:L2.Yh ["table","still","element","other"] ["table","still","element"] (L2.Yb Z5):=⟨rfl,rfl,rfl,by decide +kernel,rfl,by decide +kernel,by decide +kernel⟩
theorem ZhL {P:Program} {w:World} {K:PySem.W.Frag} {mg:Str→Option Value} {base:Heap} {f:Addr} {fd:FuncData} (F:L2.Fun K "find_back" "find_back" Z5 f fd) (T:Bt mg) :
  L2.FnOk P w K mg base L2.CX0 1 f fd ["table","still","element"] (spR K (rk K .k) Zay) :=
 Jm (N:=["table","still","element","other"]) (ps:=["table","still","element"]) (k:=0) (m:=(rk K .k)) (g:=Zfr) F Zex (.inl (Ys _)) fun cdv A outer s H E hr=>by
  have hu:=hr.units
  have nd:=Zex.nd
  have nox:∀ (e:Value) (s:Shared),False→False:=fun _ _ h=>h
  exact (Zb (Zk (Jt T (Jo (m:=.k) T (Za 0))) (pg_n nd 3) (Jb (Yp (pw_t (ZiQ (ZeJ hu (Zj (Zj (Za 0) (Za 2)) (Za 3)) (Za 1)) (Zd1 (ZeJ hu (Zj (Zj (Za 0) (Za 3)) (Za 2)) (Za 1))))) (Jb (Yi (Za 3))) Jp))) (Jb (Yi (ZbF (m:=.k)))))
noncomputable abbrev J3:Stmt:=top 13
theorem Zes:L2.Yh ["table","three","still","element"] ["table"] (L2.Yb J3):=⟨rfl,rfl,rfl,by decide +kernel,rfl,by decide +kernel,by decide +kernel⟩
theorem Ziz {P:Program} {w:World} {K:PySem.W.Frag} {mg:Str→Option Value} {base:Heap} {f:Addr} {fd:FuncData} (F:L2.Fun K "find_flaw" "find_flaw" J3 f fd) (T:Bt mg) (G_find_three:Cal P w K mg base 1 "find_three" (rk K .k) Zaj) (G_find_rest:Cal P w K mg base 1 "find_rest" (rk K .k) Zn) (G_find_back:Cal P w K mg base 1 "find_back" (rk K .k) Zay) :
  L2.FnOk P w K mg base L2.CX0 2 f fd ["table"] (spR K (rk K .k) ZX) :=
 Jm (N:=["table","three","still","element"]) (ps:=["table"]) (k:=1) (m:=(rk K .k)) (g:=Zfb) F Zes (.inl (Ys _)) fun cdv A outer s H E hr=>by
  have hu:=hr.units
  have nd:=Zes.nd
  have nox:∀ (e:Value) (s:Shared),False→False:=fun _ _ h=>h
  exact (Zb (Jh nd 1 (Ye G_find_three (hr.mono (by decide)) (Ja (Za 0) Zc))) (Zb (Yp (ZdB (Za 1)) (Jb (Yi (Za 1))) Jp) (Zb (Jh nd 2 (Ye G_find_rest (hr.mono (by decide)) (Ja (Za 0) Zc))) (Zb (Yp (ZlB (Za 2)) (Jb (Yi (ZaX (Ja (ZhK (m:=.k)) Zc)))) Jp) (Zb (Zk (Jt T (Jo (m:=.k) T (Za 0))) (pg_n nd 3) (Jb (Yp (ZlB (Ye G_find_back (hr.mono (by decide)) (Ja (Za 0) (Ja (Za 2) (Ja (Za 3) Zc))))) (Jb (Yi (ZaX (Ja (ZhK (m:=.k)) (Ja (Za 3) Zc))))) Jp))) (Jb (Yi (ZbF (m:=.k)))))))))
noncomputable abbrev ZbK:Stmt:=top 8
theorem Zjl:L2.Yh ["table"] ["table"] (L2.Yb ZbK):=⟨rfl,rfl,rfl,by decide +kernel,rfl,by decide +kernel,by decide +kernel⟩
theorem Zna {P:Program} {w:World} {K:PySem.W.Frag} {mg:Str→Option Value} {base:Heap} {f:Addr} {fd:FuncData} (F:L2.Fun K "flaw" "flaw" ZbK f fd) (T:Bt mg) (G_ask_table:Cal P w K mg base 2 "ask_table" (rk K .k) JN) (G_find_flaw:Cal P w K mg base 2 "find_flaw" (rk K .k) ZX) :
  L2.FnOk P w K mg base L2.CX0 3 f fd ["table"] (spR K (rk K .k) ZeC) :=
 Jm (N:=["table"]) (ps:=["table"]) (k:=2) (m:=(rk K .k)) (g:=ZlN) F Zjl (.inl (Ys _)) fun cdv A outer s H E hr=>by
  have hu:=hr.units
  have nd:=Zjl.nd
  have nox:∀ (e:Value) (s:Shared),False→False:=fun _ _ h=>h
  exact (Zb (ZaR (Ye G_ask_table (hr.mono (by decide)) (Ja (Za 0) Zc))) (Jb (Yi (Ye G_find_flaw (hr.mono (by decide)) (Ja (Za 0) Zc)))))
noncomputable abbrev Y9:Stmt:=top 11
theorem Zfu:L2.Yh ["table"] ["table"] (L2.Yb Y9):=⟨rfl,rfl,rfl,by decide +kernel,rfl,by decide +kernel,by decide +kernel⟩
theorem ZiY {P:Program} {w:World} {K:PySem.W.Frag} {mg:Str→Option Value} {base:Heap} {f:Addr} {fd:FuncData} (F:L2.Fun K "ask_folk" "ask_folk" Y9 f fd) (T:Bt mg) (G_ask_table:Cal P w K mg base 2 "ask_table" (rk K .k) JN) (G_find_flaw:Cal P w K mg base 2 "find_flaw" (rk K .k) ZX) :
  L2.FnOk P w K mg base L2.CX0 3 f fd ["table"] (spR K (rk K .k) Ym) :=
 Jm (N:=["table"]) (ps:=["table"]) (k:=2) (m:=(rk K .k)) (g:=Zgg) F Zfu (.inl (Ys _)) fun cdv A outer s H E hr=>by
  have hu:=hr.units
  have nd:=Zfu.nd
  have nox:∀ (e:Value) (s:Shared),False→False:=fun _ _ h=>h
  exact (Zb (ZaR (Ye G_ask_table (hr.mono (by decide)) (Ja (Za 0) Zc))) (Jb (Yp (ZdB (Ye G_find_flaw (hr.mono (by decide)) (Ja (Za 0) Zc))) (Jb (ZcM)) Jp)))
noncomputable abbrev ZbP:Stmt:=top 9
theorem Zjh:L2.Yh ["table"] ["table"] (L2.Yb ZbP):=⟨rfl,rfl,rfl,by decide +kernel,rfl,by decide +kernel,by decide +kernel⟩
theorem Zoa {P:Program} {w:World} {K:PySem.W.Frag} {mg:Str→Option Value} {base:Heap} {f:Addr} {fd:FuncData} (F:L2.Fun K "rest" "rest" ZbP f fd) (T:Bt mg) (G_ask_folk:Cal P w K mg base 3 "ask_folk" (rk K .k) Ym) (G_find_rest:Cal P w K mg base 1 "find_rest" (rk K .k) Zn) :
  L2.FnOk P w K mg base L2.CX0 4 f fd ["table"] (spR K (rk K .k) Zb6) :=
 Jm (N:=["table"]) (ps:=["table"]) (k:=3) (m:=(rk K .k)) (g:=ZkW) F Zjh (.inl (Ys _)) fun cdv A outer s H E hr=>by
  have hu:=hr.units
  have nd:=Zjh.nd
  have nox:∀ (e:Value) (s:Shared),False→False:=fun _ _ h=>h
  exact (Zb (ZaR (Ye G_ask_folk (hr.mono (by decide)) (Ja (Za 0) Zc))) (Jb (Yi (Ye G_find_rest (hr.mono (by decide)) (Ja (Za 0) Zc)))))
noncomputable abbrev Yz:Stmt:=top 24
theorem ZcB:L2.Yh ["table","inside","made","a","b"] ["table","inside"] (L2.Yb Yz):=⟨rfl,rfl,rfl,by decide +kernel,rfl,by decide +kernel,by decide +kernel⟩
theorem ZfR {P:Program} {w:World} {K:PySem.W.Frag} {mg:Str→Option Value} {base:Heap} {f:Addr} {fd:FuncData} (F:L2.Fun K "with_all_made" "with_all_made" Yz f fd) (T:Bt mg) :
  L2.FnOk P w K mg base L2.CX0 1 f fd ["table","inside"] (spR K rN YQ) :=
 Jm (N:=["table","inside","made","a","b"]) (ps:=["table","inside"]) (k:=0) (m:=rN) (g:=ZcZ) F ZcB (.inl Za0) fun cdv A outer s H E hr=>by
  have hu:=hr.units
  have nd:=ZcB.nd
  have nox:∀ (e:Value) (s:Shared),False→False:=fun _ _ h=>h
  exact (Zb (ZbI nd 2 (ZgN T (Za 1))) (Zb (Zk (YM (Za 1)) (pg_n nd 3) (Jb (Zo2 2 (ZgL nox nd 4 (YM (Za 1)) (fun _ _ _ _ _ _=>(Zj (Zj (Za 0) (Za 3)) (Za 4))))))) (Jb (JX (PDw.n (ZgA T (Zcu 2)))))))
noncomputable abbrev ZS:Stmt:=top 23
theorem ZdP:L2.Yh ["table","some","inside","wider"] ["table","some"] (L2.Yb ZS):=⟨rfl,rfl,rfl,by decide +kernel,rfl,by decide +kernel,by decide +kernel⟩
theorem ZhB {P:Program} {w:World} {K:PySem.W.Frag} {mg:Str→Option Value} {base:Heap} {f:Addr} {fd:FuncData} (F:L2.Fun K "least_part" "least_part" ZS f fd) (T:Bt mg) (G_with_all_made:Cal P w K mg base 1 "with_all_made" rN YQ) (G_find_rest:Cal P w K mg base 1 "find_rest" (rk K .k) Zn) :
  L2.FnOk P w K mg base L2.CX0 2 f fd ["table","some"] (spR K rN ZQ) :=
 Jm (N:=["table","some","inside","wider"]) (ps:=["table","some"]) (k:=1) (m:=rN) (g:=ZcA) F ZdP (.inl Za0) fun cdv A outer s H E hr=>by
  have hu:=hr.units
  have nd:=ZdP.nd
  have nox:∀ (e:Value) (s:Shared),False→False:=fun _ _ h=>h
  exact (Zb (ZbV nd 2 (PDw.n (ZgA T (YF (Za 1) (Yn (Ja (Ye G_find_rest (hr.mono (by decide)) (Ja (Za 0) Zc)) Zc)))))) (Zb (ZbV nd 3 (PDw.n (JB G_with_all_made (hr.mono (by decide)) (Ja (Za 0) (Ja (Za 2) Zc))))) (Zb (Zil 1000 (Zcl hu (Za 3) (Za 2)) (Zb (ZbV nd 2 (Zdr 3)) (Jb (ZbV nd 3 (PDw.n (JB G_with_all_made (hr.mono (by decide)) (Ja (Za 0) (Ja (Za 2) Zc)))))))) (Jb (JX (Zdr 2))))))
noncomputable abbrev JF:Stmt:=top 25
theorem Zc1:L2.Yh ["part"] ["part"] (L2.Yb JF):=⟨rfl,rfl,rfl,by decide +kernel,rfl,by decide +kernel,by decide +kernel⟩
theorem Zga {P:Program} {w:World} {K:PySem.W.Frag} {mg:Str→Option Value} {base:Heap} {f:Addr} {fd:FuncData} (F:L2.Fun K "fewest_first" "fewest_first" JF f fd) (T:Bt mg) :
  L2.FnOk P w K mg base L2.CX0 1 f fd ["part"] (spR K (rk K .k) ZC) :=
 Jm (N:=["part"]) (ps:=["part"]) (k:=0) (m:=(rk K .k)) (g:=Zc9) F Zc1 (.inl (Ys _)) fun cdv A outer s H E hr=>by
  have hu:=hr.units
  have nd:=Zc1.nd
  have nox:∀ (e:Value) (s:Shared),False→False:=fun _ _ h=>h
  exact (Jb (Yi (ZaX (Ja (Jo (m:=.k) T (Za 0)) (Ja (Za 0) Zc)))))
noncomputable abbrev Zbc:Stmt:=top 18
theorem ZhN:L2.Yh ["table","found","element","part","wider"] ["table"] (L2.Yb Zbc):=⟨rfl,rfl,rfl,by decide +kernel,rfl,by decide +kernel,by decide +kernel⟩
theorem ZmD {P:Program} {w:World} {K:PySem.W.Frag} {mg:Str→Option Value} {base:Heap} {f:Addr} {fd:FuncData} (F:L2.Fun K "parts" "parts" Zbc f fd) (T:Bt mg) (G_ask_folk:Cal P w K mg base 3 "ask_folk" (rk K .k) Ym) (G_least_part:Cal P w K mg base 2 "least_part" rN ZQ) (G_fewest_first:Cal P w K mg base 1 "fewest_first" (rk K .k) ZC) :
  L2.FnOk P w K mg base L2.CX0 4 f fd ["table"] (spR K rN Zdz) :=
 Jm (N:=["table","found","element","part","wider"]) (ps:=["table"]) (k:=3) (m:=rN) (g:=ZgX) F ZhN (.inl Za0) fun cdv A outer s H E hr=>by
  have hu:=hr.units
  have nd:=ZhN.nd
  have nox:∀ (e:Value) (s:Shared),False→False:=fun _ _ h=>h
  exact (Zb (ZaR (Ye G_ask_folk (hr.mono (by decide)) (Ja (Za 0) Zc))) (Zb (Zlw nd 1 (Zpg (PDw.n (JB G_least_part (hr.mono (by decide)) (Ja (Za 0) (Ja (Yn (m:=.k) Zc) Zc)))))) (Zb (Zk (Jt T (Jo (m:=.k) T (Za 0))) (pg_n nd 2) (Jb (Zk (YM (Zmx 1 T)) (pg_n nd 3) (Zb (ZbV nd 4 (PDw.n (JB G_least_part (hr.mono (by decide)) (Ja (Za 0) (Ja (YF (Za 3) (Yn (Ja (Za 2) Zc))) Zc))))) (Jb (Yp (Zm6 hu (Za 4) (Zcu 1)) (Jb (Zjg 1 (Zdr 4))) Jp)))))) (Jb (JX (ZlW 1 G_fewest_first (hr.mono (by decide)) T hu))))))
noncomputable abbrev Zac:Stmt:=top 22
theorem Zfo:L2.Yh ["table","part","number"] ["table","part"] (L2.Yb Zac):=⟨rfl,rfl,rfl,by decide +kernel,rfl,by decide +kernel,by decide +kernel⟩
theorem ZiW {P:Program} {w:World} {K:PySem.W.Frag} {mg:Str→Option Value} {base:Heap} {f:Addr} {fd:FuncData} (F:L2.Fun K "ask_part" "ask_part" Zac f fd) (T:Bt mg) (G_least_part:Cal P w K mg base 2 "least_part" rN ZQ) (G_is_element:Cal P w K mg base 1 "is_element" (rk K .k) Zz) :
  L2.FnOk P w K mg base L2.CX0 3 f fd ["table","part"] (spR K (rk K .k) ZW) :=
 Jm (N:=["table","part","number"]) (ps:=["table","part"]) (k:=2) (m:=(rk K .k)) (g:=Zf6) F Zfo (.inl (Ys _)) fun cdv A outer s H E hr=>by
  have hu:=hr.units
  have nd:=Zfo.nd
  have nox:∀ (e:Value) (s:Shared),False→False:=fun _ _ h=>h
  exact (Zb (Yp (ZcP (ZcW (Zd7 (m:=.k) T (Zai nox nd 2 (YM (Za 1)) (fun _ _ _ _ _ _=>(Ye G_is_element (hr.mono (by decide)) (Ja (Za 0) (Ja (Za 2) Zc)))))))) (Jb (ZcM)) Jp) (Jb (Yp (Zcl hu (PDn.d (PDw.n (JB G_least_part (hr.mono (by decide)) (Ja (Za 0) (Ja (Za 1) Zc))))) (Za 1)) (Jb (ZcM)) Jp)))
noncomputable abbrev ZL:Stmt:=top 26
theorem Zdc:L2.Yh ["table","part","element","member"] ["table","part","element"] (L2.Yb ZL):=⟨rfl,rfl,rfl,by decide +kernel,rfl,by decide +kernel,by decide +kernel⟩
theorem Zg0 {P:Program} {w:World} {K:PySem.W.Frag} {mg:Str→Option Value} {base:Heap} {f:Addr} {fd:FuncData} (F:L2.Fun K "share_ahead" "share_ahead" ZL f fd) (T:Bt mg) :
  L2.FnOk P w K mg base L2.CX0 1 f fd ["table","part","element"] (spR K rN ZJ) :=
 Jm (N:=["table","part","element","member"]) (ps:=["table","part","element"]) (k:=0) (m:=rN) (g:=ZdN) F Zdc (.inl Za0) fun cdv A outer s H E hr=>by
  have hu:=hr.units
  have nd:=Zdc.nd
  have nox:∀ (e:Value) (s:Shared),False→False:=fun _ _ h=>h
  exact (Jb (JX (PDw.n (PDo.fl (ZjT T hu (Zai nox nd 3 (YM (Za 1)) (fun _ _ _ _ _ _=>(Zj (Zj (Za 0) (Za 2)) (Za 3)))))))))
noncomputable abbrev ZR:Stmt:=top 28
theorem ZdQ:L2.Yh ["table","part","found","element","share"] ["table","part"] (L2.Yb ZR):=⟨rfl,rfl,rfl,by decide +kernel,rfl,by decide +kernel,by decide +kernel⟩
theorem ZhD {P:Program} {w:World} {K:PySem.W.Frag} {mg:Str→Option Value} {base:Heap} {f:Addr} {fd:FuncData} (F:L2.Fun K "all_shares" "all_shares" ZR f fd) (T:Bt mg) (G_share_ahead:Cal P w K mg base 1 "share_ahead" rN ZJ) :
  L2.FnOk P w K mg base L2.CX0 2 f fd ["table","part"] (spR K rN Y4) :=
 Jm (N:=["table","part","found","element","share"]) (ps:=["table","part"]) (k:=1) (m:=rN) (g:=Zeb) F ZdQ (.inl Za0) fun cdv A outer s H E hr=>by
  have hu:=hr.units
  have nd:=ZdQ.nd
  have nox:∀ (e:Value) (s:Shared),False→False:=fun _ _ h=>h
  exact (Zb (Zlw nd 2 ZoL) (Zb (Zk (Jt T (Jo (m:=.k) T (Za 0))) (pg_n nd 3) (Zb (ZbV nd 4 (PDw.n (JB G_share_ahead (hr.mono (by decide)) (Ja (Za 0) (Ja (Za 1) (Ja (Za 3) Zc)))))) (Jb (Yp (ZeJ hu (Zj (Za 4) (Yd (m:=.k))) (Za 3)) (Jb (Zjg 2 (Zdr 4))) Jp)))) (Yy 2 (Jb (JX (Zdr 2))))))
noncomputable abbrev ZaC:Stmt:=top 19
theorem Zhm:L2.Yh ["table","part"] ["table","part"] (L2.Yb ZaC):=⟨rfl,rfl,rfl,by decide +kernel,rfl,by decide +kernel,by decide +kernel⟩
theorem ZkX {P:Program} {w:World} {K:PySem.W.Frag} {mg:Str→Option Value} {base:Heap} {f:Addr} {fd:FuncData} (F:L2.Fun K "shares" "shares" ZaC f fd) (T:Bt mg) (G_ask_folk:Cal P w K mg base 3 "ask_folk" (rk K .k) Ym) (G_ask_part:Cal P w K mg base 3 "ask_part" (rk K .k) ZW) (G_all_shares:Cal P w K mg base 2 "all_shares" rN Y4) :
  L2.FnOk P w K mg base L2.CX0 4 f fd ["table","part"] (spR K rN ZcE) :=
 Jm (N:=["table","part"]) (ps:=["table","part"]) (k:=3) (m:=rN) (g:=ZiB) F Zhm (.inl Za0) fun cdv A outer s H E hr=>by
  have hu:=hr.units
  have nd:=Zhm.nd
  have nox:∀ (e:Value) (s:Shared),False→False:=fun _ _ h=>h
  exact (Zb (ZaR (Ye G_ask_folk (hr.mono (by decide)) (Ja (Za 0) Zc))) (Zb (ZaR (Ye G_ask_part (hr.mono (by decide)) (Ja (Za 0) (Ja (Za 1) Zc)))) (Jb (JX (PDw.n (JB G_all_shares (hr.mono (by decide)) (Ja (Za 0) (Ja (Za 1) Zc))))))))
noncomputable abbrev YH:Stmt:=top 27
theorem ZcV:L2.Yh ["table","part","element","member"] ["table","part","element"] (L2.Yb YH):=⟨rfl,rfl,rfl,by decide +kernel,rfl,by decide +kernel,by decide +kernel⟩
theorem Zgd {P:Program} {w:World} {K:PySem.W.Frag} {mg:Str→Option Value} {base:Heap} {f:Addr} {fd:FuncData} (F:L2.Fun K "share_behind" "share_behind" YH f fd) (T:Bt mg) :
  L2.FnOk P w K mg base L2.CX0 1 f fd ["table","part","element"] (spR K rN YX) :=
 Jm (N:=["table","part","element","member"]) (ps:=["table","part","element"]) (k:=0) (m:=rN) (g:=Zdf) F ZcV (.inl Za0) fun cdv A outer s H E hr=>by
  have hu:=hr.units
  have nd:=ZcV.nd
  have nox:∀ (e:Value) (s:Shared),False→False:=fun _ _ h=>h
  exact (Jb (JX (PDw.n (PDo.fl (ZjT T hu (Zai nox nd 3 (YM (Za 1)) (fun _ _ _ _ _ _=>(Zj (Zj (Za 0) (Za 3)) (Za 2)))))))))
noncomputable abbrev Zu:Stmt:=top 29
theorem Zbh:L2.Yh ["table","part","a"] ["table","part"] (L2.Yb Zu):=⟨rfl,rfl,rfl,by decide +kernel,rfl,by decide +kernel,by decide +kernel⟩
theorem Zdj {P:Program} {w:World} {K:PySem.W.Frag} {mg:Str→Option Value} {base:Heap} {f:Addr} {fd:FuncData} (F:L2.Fun K "same_on_both_sides" "same_on_both_sides" Zu f fd) (T:Bt mg) (G_share_ahead:Cal P w K mg base 1 "share_ahead" rN ZJ) (G_share_behind:Cal P w K mg base 1 "share_behind" rN YX) :
  L2.FnOk P w K mg base L2.CX0 2 f fd ["table","part"] (spR K (rk K .k) Yu) :=
 Jm (N:=["table","part","a"]) (ps:=["table","part"]) (k:=1) (m:=(rk K .k)) (g:=Zbv) F Zbh (.inl (Ys _)) fun cdv A outer s H E hr=>by
  have hu:=hr.units
  have nd:=Zbh.nd
  have nox:∀ (e:Value) (s:Shared),False→False:=fun _ _ h=>h
  exact (Jb (Yi (Zd7 (m:=.k) T (Zai nox nd 2 (Jt T (Jo (m:=.k) T (Za 0))) (fun _ _ _ _ _ _=>((Zgb (m:=.k) hu (PDn.d (PDw.n (JB G_share_ahead (hr.mono (by decide)) (Ja (Za 0) (Ja (Za 1) (Ja (Za 2) Zc)))))) (PDn.d (PDw.n (JB G_share_behind (hr.mono (by decide)) (Ja (Za 0) (Ja (Za 1) (Ja (Za 2) Zc)))))))))))))
noncomputable abbrev Zad:Stmt:=top 20
theorem Zfs:L2.Yh ["table","part"] ["table","part"] (L2.Yb Zad):=⟨rfl,rfl,rfl,by decide +kernel,rfl,by decide +kernel,by decide +kernel⟩
theorem ZiV {P:Program} {w:World} {K:PySem.W.Frag} {mg:Str→Option Value} {base:Heap} {f:Addr} {fd:FuncData} (F:L2.Fun K "is_loose" "is_loose" Zad f fd) (T:Bt mg) (G_ask_folk:Cal P w K mg base 3 "ask_folk" (rk K .k) Ym) (G_ask_part:Cal P w K mg base 3 "ask_part" (rk K .k) ZW) (G_same_on_both_sides:Cal P w K mg base 2 "same_on_both_sides" (rk K .k) Yu) :
  L2.FnOk P w K mg base L2.CX0 4 f fd ["table","part"] (spR K (rk K .k) ZaQ) :=
 Jm (N:=["table","part"]) (ps:=["table","part"]) (k:=3) (m:=(rk K .k)) (g:=Zgc) F Zfs (.inl (Ys _)) fun cdv A outer s H E hr=>by
  have hu:=hr.units
  have nd:=Zfs.nd
  have nox:∀ (e:Value) (s:Shared),False→False:=fun _ _ h=>h
  exact (Zb (ZaR (Ye G_ask_folk (hr.mono (by decide)) (Ja (Za 0) Zc))) (Zb (ZaR (Ye G_ask_part (hr.mono (by decide)) (Ja (Za 0) (Ja (Za 1) Zc)))) (Jb (Yi (Ye G_same_on_both_sides (hr.mono (by decide)) (Ja (Za 0) (Ja (Za 1) Zc)))))))
noncomputable abbrev Jw:Stmt:=top 30
theorem Zb4:L2.Yh ["table","found","place","number","share","element","heads","rows","head","other"] ["table","found"] (L2.Yb Jw):=⟨rfl,rfl,rfl,by decide +kernel,rfl,by decide +kernel,by decide +kernel⟩
theorem ZeA {P:Program} {w:World} {K:PySem.W.Frag} {mg:Str→Option Value} {base:Heap} {f:Addr} {fd:FuncData} (F:L2.Fun K "table_of_shares" "table_of_shares" Jw f fd) (T:Bt mg) :
  L2.FnOk P w K mg base L2.CX0 1 f fd ["table","found"] (spR K (rk K .k) JV) :=
 Jm (N:=["table","found","place","number","share","element","heads","rows","head","other"]) (ps:=["table","found"]) (k:=0) (m:=(rk K .k)) (g:=Zcb) F Zb4 (.inl (Ys _)) fun cdv A outer s H E hr=>by
  have hu:=hr.units
  have nd:=Zb4.nd
  have nox:∀ (e:Value) (s:Shared),False→False:=fun _ _ h=>h
  exact (Zb (Znx nd 2) (Zb (Zk (Zoe T (Za 1)) (pg_2 nd 3 4) (Jb (Zk (YM (Za 4)) (pg_n nd 5) (Jb (Zdx hu 2 (Za 5) (Za 3)))))) (Zb (ZmJ nox nd 6 4 (YM (Za 1)) (fun _ _ _ _ _ _=>(Zj (Za 4) (Yd (m:=.k))))) (Zb (ZbI nd 7 (Za3 (m:=.k) Zc)) (Zb (Zk (YM (Za 6)) (pg_n nd 8) (Yy 2 (Jb (ZcD 7 (Zai nox nd 9 (YM (Za 6)) (fun _ _ _ _ _ _=>(Zda (m:=.k) hu (Za 2) (Zj (Zj (Za 0) (Za 8)) (Za 9))))))))) (Yy 7 (Jb (Yi (Za 7)))))))))
noncomputable abbrev J5:Stmt:=top 21
theorem Zeu:L2.Yh ["table","part","found"] ["table","part"] (L2.Yb J5):=⟨rfl,rfl,rfl,by decide +kernel,rfl,by decide +kernel,by decide +kernel⟩
theorem Zh8 {P:Program} {w:World} {K:PySem.W.Frag} {mg:Str→Option Value} {base:Heap} {f:Addr} {fd:FuncData} (F:L2.Fun K "taken_out" "taken_out" J5 f fd) (T:Bt mg) (G_ask_folk:Cal P w K mg base 3 "ask_folk" (rk K .k) Ym) (G_ask_part:Cal P w K mg base 3 "ask_part" (rk K .k) ZW) (G_all_shares:Cal P w K mg base 2 "all_shares" rN Y4) (G_table_of_shares:Cal P w K mg base 1 "table_of_shares" (rk K .k) JV) (G_same_on_both_sides:Cal P w K mg base 2 "same_on_both_sides" (rk K .k) Yu) :
  L2.FnOk P w K mg base L2.CX0 4 f fd ["table","part"] (spR K (rk K .k) JM) :=
 Jm (N:=["table","part","found"]) (ps:=["table","part"]) (k:=3) (m:=(rk K .k)) (g:=Zfh) F Zeu (.inl (Ys _)) fun cdv A outer s H E hr=>by
  have hu:=hr.units
  have nd:=Zeu.nd
  have nox:∀ (e:Value) (s:Shared),False→False:=fun _ _ h=>h
  exact (Zb (ZaR (Ye G_ask_folk (hr.mono (by decide)) (Ja (Za 0) Zc))) (Zb (ZaR (Ye G_ask_part (hr.mono (by decide)) (Ja (Za 0) (Ja (Za 1) Zc)))) (Zb (Yp (ZcP (ZcW (Ye G_same_on_both_sides (hr.mono (by decide)) (Ja (Za 0) (Ja (Za 1) Zc))))) (Jb (ZcM)) Jp) (Zb (Jh nd 2 (PDn.d (PDw.n (JB G_all_shares (hr.mono (by decide)) (Ja (Za 0) (Ja (Za 1) Zc)))))) (Jb (Yi (Ye G_table_of_shares (hr.mono (by decide)) (Ja (Za 0) (Ja (Za 2) Zc)))))))))
noncomputable abbrev Zo:Stmt:=top 33
theorem ZaD:L2.Yh ["table","element","a"] ["table","element"] (L2.Yb Zo):=⟨rfl,rfl,rfl,by decide +kernel,rfl,by decide +kernel,by decide +kernel⟩
theorem Zcw {P:Program} {w:World} {K:PySem.W.Frag} {mg:Str→Option Value} {base:Heap} {f:Addr} {fd:FuncData} (F:L2.Fun K "makes_the_same_behind" "makes_the_same_behind" Zo f fd) (T:Bt mg) :
  L2.FnOk P w K mg base L2.CX0 1 f fd ["table","element"] (spR K (rk K .k) Zy) :=
 Jm (N:=["table","element","a"]) (ps:=["table","element"]) (k:=0) (m:=(rk K .k)) (g:=ZaU) F ZaD (.inl (Ys _)) fun cdv A outer s H E hr=>by
  have hu:=hr.units
  have nd:=ZaD.nd
  have nox:∀ (e:Value) (s:Shared),False→False:=fun _ _ h=>h
  exact (Jb (Yi (Zd7 (m:=.k) T (Zai nox nd 2 (Jt T (Jo (m:=.k) T (Za 0))) (fun _ _ _ _ _ _=>((Zgb (m:=.k) hu (Zj (Zj (Za 0) (Za 1)) (Za 2)) (Zj (Zj (Za 0) (Za 2)) (Za 1)))))))))
noncomputable abbrev ZaE:Stmt:=top 32
theorem Zhn:L2.Yh ["table","element"] ["table"] (L2.Yb ZaE):=⟨rfl,rfl,rfl,by decide +kernel,rfl,by decide +kernel,by decide +kernel⟩
theorem ZkD {P:Program} {w:World} {K:PySem.W.Frag} {mg:Str→Option Value} {base:Heap} {f:Addr} {fd:FuncData} (F:L2.Fun K "middle" "middle" ZaE f fd) (T:Bt mg) (G_ask_folk:Cal P w K mg base 3 "ask_folk" (rk K .k) Ym) (G_makes_the_same_behind:Cal P w K mg base 1 "makes_the_same_behind" (rk K .k) Zy) :
  L2.FnOk P w K mg base L2.CX0 4 f fd ["table"] (spR K rN ZbT) :=
 Jm (N:=["table","element"]) (ps:=["table"]) (k:=3) (m:=rN) (g:=ZiL) F Zhn (.inl Za0) fun cdv A outer s H E hr=>by
  have hu:=hr.units
  have nd:=Zhn.nd
  have nox:∀ (e:Value) (s:Shared),False→False:=fun _ _ h=>h
  exact (Zb (ZaR (Ye G_ask_folk (hr.mono (by decide)) (Ja (Za 0) Zc))) (Jb (JX (PDw.n (PDo.fl (ZhY nox nd 1 (Jt T (Jo (m:=.k) T (Za 0))) (fun _ _ _ _ _ _=>(ZcW (Ye G_makes_the_same_behind (hr.mono (by decide)) (Ja (Za 0) (Ja (Za 1) Zc))))) (fun _ _ _ _ _ _=>(Za 1))))))))
noncomputable abbrev Yt:Stmt:=top 37
theorem Zbm:L2.Yh ["names","element"] ["names"] (L2.Yb Yt):=⟨rfl,rfl,rfl,by decide +kernel,rfl,by decide +kernel,by decide +kernel⟩
theorem Zdd {P:Program} {w:World} {K:PySem.W.Frag} {mg:Str→Option Value} {base:Heap} {f:Addr} {fd:FuncData} (F:L2.Fun K "least_without_name" "least_without_name" Yt f fd) (T:Bt mg) :
  L2.FnOk P w K mg base L2.CX0 1 f fd ["names"] (spR K (rk K .k) JG) :=
 Jm (N:=["names","element"]) (ps:=["names"]) (k:=0) (m:=(rk K .k)) (g:=Zas) F Zbm (.inl (Ys _)) fun cdv A outer s H E hr=>by
  have hu:=hr.units
  have nd:=Zbm.nd
  have nox:∀ (e:Value) (s:Shared),False→False:=fun _ _ h=>h
  exact (Zb (Jh nd 1 (Yd (m:=.k))) (Zb (Zil 1000 (Zol hu (Za 1) (Za 0)) (Jb (Jh nd 1 (YF (Za 1) (Yd (m:=.k)))))) (Jb (Yi (Za 1)))))
noncomputable abbrev Jy:Stmt:=top 39
theorem Zcc:L2.Yh ["one","other","names","wider","a","b","made","name","element"] ["one","other","names"] (L2.Yb Jy):=⟨rfl,rfl,rfl,by decide +kernel,rfl,by decide +kernel,by decide +kernel⟩
theorem Zfa {P:Program} {w:World} {K:PySem.W.Frag} {mg:Str→Option Value} {base:Heap} {f:Addr} {fd:FuncData} (F:L2.Fun K "with_all_named" "with_all_named" Jy f fd) (T:Bt mg) :
  L2.FnOk P w K mg base L2.CX0 1 f fd ["one","other","names"] (spR K (rk K .k) YL) :=
 Jm (N:=["one","other","names","wider","a","b","made","name","element"]) (ps:=["one","other","names"]) (k:=0) (m:=(rk K .k)) (g:=Zbf) F Zcc (.inl (Ys _)) fun cdv A outer s H E hr=>by
  have hu:=hr.units
  have nd:=Zcc.nd
  have nox:∀ (e:Value) (s:Shared),False→False:=fun _ _ h=>h
  exact (Zb (Zjx nd 3 T (Za 2)) (Zb (Zk (ZgR (Za 2)) (pg_n nd 4) (Jb (Zk (ZgR (Za 2)) (pg_n nd 5) (Zb (Jh nd 6 (Zj (Zj (Za 0) (Za 4)) (Za 5))) (Zb (Jh nd 7 (Zj (Zj (Za 1) (Zda (m:=.k) hu (Za 2) (Za 4))) (Zda (m:=.k) hu (Za 2) (Za 5)))) (Zb (Yp (Zcl hu (Znn (m:=.k) hu 3 (Za 6) (Za 7)) (Za 7)) (Jb (Yi (ZbF (m:=.k)))) Jp) (Jb (Zdx hu 3 (Za 6) (Za 7))))))))) (Yy 3 (Zb (Yp (ZgF (Zk9 (m:=.k) T (Zai nox nd 8 (ZgR (Za 3)) (fun _ _ _ _ _ _=>(Zda (m:=.k) hu (Za 3) (Za 8))))) (ZeQ (m:=.k) T (Za 3))) (Jb (Yi (ZbF (m:=.k)))) Jp) (Yy 3 (Jb (Yi (Za 3))))))))
noncomputable abbrev Z2:Stmt:=top 38
theorem ZdZ:L2.Yh ["one","other","names","element","name","wider","made"] ["one","other","names","element","name"] (L2.Yb Z2):=⟨rfl,rfl,rfl,by decide +kernel,rfl,by decide +kernel,by decide +kernel⟩
theorem Zh7 {P:Program} {w:World} {K:PySem.W.Frag} {mg:Str→Option Value} {base:Heap} {f:Addr} {fd:FuncData} (F:L2.Fun K "with_name" "with_name" Z2 f fd) (T:Bt mg) (G_with_all_named:Cal P w K mg base 1 "with_all_named" (rk K .k) YL) :
  L2.FnOk P w K mg base L2.CX0 2 f fd ["one","other","names","element","name"] (spR K (rk K .k) ZaB) :=
 Jm (N:=["one","other","names","element","name","wider","made"]) (ps:=["one","other","names","element","name"]) (k:=1) (m:=(rk K .k)) (g:=Zc3) F ZdZ (.inl (Ys _)) fun cdv A outer s H E hr=>by
  have hu:=hr.units
  have nd:=ZdZ.nd
  have nox:∀ (e:Value) (s:Shared),False→False:=fun _ _ h=>h
  exact (Zb (Zjx nd 5 T (Za 2)) (Zb (Zdx hu 5 (Za 3) (Za 4)) (Yy 5 (Zb (Jh nd 6 (Ye G_with_all_named (hr.mono (by decide)) (Ja (Za 0) (Ja (Za 1) (Ja (Za 5) Zc))))) (Zb (Zil 1000 (pw_t (ZiQ (ZdB (Za 6)) (Zd1 (Zkz (ZeQ (m:=.k) T (Za 6)) (ZeQ (m:=.k) T (Za 5)))))) (Zb (Jh nd 5 (Za 6)) (Yy 5 (Jb (Jh nd 6 (Ye G_with_all_named (hr.mono (by decide)) (Ja (Za 0) (Ja (Za 1) (Ja (Za 5) Zc))))))))) (Jb (Yi (Za 6))))))))
noncomputable abbrev Zx:Stmt:=top 36
theorem ZcK:L2.Yh ["one","other","names","element","name","wider","found"] ["one","other","names"] (L2.Yb Zx):=⟨rfl,rfl,rfl,by decide +kernel,rfl,by decide +kernel,by decide +kernel⟩
theorem Zfy {P:Program} {w:World} {K:PySem.W.Frag} {mg:Str→Option Value} {base:Heap} {f:Addr} {fd:FuncData} (F:L2.Fun K "find_renaming" "find_renaming" Zx f fd) (T:Bt mg) (G_least_without_name:Cal P w K mg base 1 "least_without_name" (rk K .k) JG) (G_with_name:Cal P w K mg base 2 "with_name" (rk K .k) ZaB) (n:Nat) (G_find_renaming:Cal P w K mg base (2 + n) "find_renaming" rN (Yw n)) :
  L2.FnOk P w K mg base L2.CX0 (2 + n + 1) f fd ["one","other","names"] (spR K rN (Yw (n + 1))) :=
 Jm (N:=["one","other","names","element","name","wider","found"]) (ps:=["one","other","names"]) (k:=2 + n) (m:=rN) (g:=ZbE (Yw n)) F ZcK (.inl Za0) fun cdv A outer s H E hr=>by
  have hu:=hr.units
  have nd:=ZcK.nd
  have nox:∀ (e:Value) (s:Shared),False→False:=fun _ _ h=>h
  exact (Zb (Yp (ZeJ hu (ZeQ (m:=.k) T (Za 2)) (Jo (m:=.k) T (Za 0))) (Jb (JX (PDw.n (PDo.fl (ZgL nox nd 3 (Jt T (Jo (m:=.k) T (Za 0))) (fun _ _ _ _ _ _=>(Zda (m:=.k) hu (Za 2) (Za 3)))))))) Jp) (Zb (Jh nd 3 (Ye G_least_without_name (hr.mono (by omega)) (Ja (Za 2) Zc))) (Zb (Zk (Jt T (Jo (m:=.k) T (Za 1))) (pg_n nd 4) (Zb (Jh nd 5 (Ye G_with_name (hr.mono (by omega)) (Ja (Za 0) (Ja (Za 1) (Ja (Za 2) (Ja (Za 3) (Ja (Za 4) Zc))))))) (Jb (Yp (ZdB (Za 5)) (Zb (ZbV nd 6 (PDw.n (JB G_find_renaming (hr.mono (by omega)) (Ja (Za 0) (Ja (Za 1) (Ja (Za 5) Zc)))))) (Jb (Yp (ZdB (Za 6)) (Jb (JX (Zdr 6))) Jp))) Jp)))) (Jb (JX Zk5)))))
noncomputable abbrev Zab:Stmt:=top 35
theorem Zfj:L2.Yh ["one","other"] ["one","other"] (L2.Yb Zab):=⟨rfl,rfl,rfl,by decide +kernel,rfl,by decide +kernel,by decide +kernel⟩
theorem Zjd {P:Program} {w:World} {K:PySem.W.Frag} {mg:Str→Option Value} {base:Heap} {f:Addr} {fd:FuncData} (F:L2.Fun K "renaming" "renaming" Zab f fd) (T:Bt mg) (G_ask_folk:Cal P w K mg base 3 "ask_folk" (rk K .k) Ym) (G_find_renaming:Cal P w K mg base 15 "find_renaming" rN ZbD) (G_find_rest:Cal P w K mg base 1 "find_rest" (rk K .k) Zn) :
  L2.FnOk P w K mg base L2.CX0 16 f fd ["one","other"] (spR K rN ZbG) :=
 Jm (N:=["one","other"]) (ps:=["one","other"]) (k:=15) (m:=rN) (g:=ZfV) F Zfj (.inl Za0) fun cdv A outer s H E hr=>by
  have hu:=hr.units
  have nd:=Zfj.nd
  have nox:∀ (e:Value) (s:Shared),False→False:=fun _ _ h=>h
  exact (Zb (ZaR (Ye G_ask_folk (hr.mono (by decide)) (Ja (Za 0) Zc))) (Zb (ZaR (Ye G_ask_folk (hr.mono (by decide)) (Ja (Za 1) Zc))) (Zb (Yp (Zcl hu (Jo (m:=.k) T (Za 0)) (Jo (m:=.k) T (Za 1))) (Jb (JX Zk5)) Jp) (Jb (JX (PDw.n (JB G_find_renaming (hr.mono (by decide)) (Ja (Za 0) (Ja (Za 1) (Ja (Zoc (Ye G_find_rest (hr.mono (by decide)) (Ja (Za 0) Zc)) (Ye G_find_rest (hr.mono (by decide)) (Ja (Za 1) Zc))) Zc))))))))))
noncomputable abbrev YK:Stmt:=top 41
theorem Zdw:L2.Yh ["script","k"] ["script","k"] (L2.Yb YK):=⟨rfl,rfl,rfl,by decide +kernel,rfl,by decide +kernel,by decide +kernel⟩
theorem Zg4 {P:Program} {w:World} {K:PySem.W.Frag} {mg:Str→Option Value} {base:Heap} {f:Addr} {fd:FuncData} (F:L2.Fun K "_law_cell_at" "_law_cell_at" YK f fd) (T:Bt mg) :
  L2.FnOk P w K mg base L2.CX0 1 f fd ["script","k"] (spR K (rk K .k) Zm) :=
 Jm (N:=["script","k"]) (ps:=["script","k"]) (k:=0) (m:=(rk K .k)) (g:=ZdV) F Zdw (.inl (Ys _)) fun cdv A outer s H E hr=>by
  have hu:=hr.units
  have nd:=Zdw.nd
  have nox:∀ (e:Value) (s:Shared),False→False:=fun _ _ h=>h
  exact (Zb (Yp (ZgF (Za 1) (Jo (m:=.k) T (Za 0))) (Jb (Yi (Zj (Za 0) (Za 1)))) Jp) (Jb (Yi (Yd (m:=.k)))))
noncomputable abbrev J8:Stmt:=top 42
theorem Zfm:L2.Yh ["cell","k","bound","left","j","stir"] ["cell","k","bound"] (L2.Yb J8):=⟨rfl,rfl,rfl,by decide +kernel,rfl,by decide +kernel,by decide +kernel⟩
theorem Zjc {P:Program} {w:World} {K:PySem.W.Frag} {mg:Str→Option Value} {base:Heap} {f:Addr} {fd:FuncData} (F:L2.Fun K "_law_draw" "_law_draw" J8 f fd) (T:Bt mg) :
  L2.FnOk P w K mg base L2.CX0 1 f fd ["cell","k","bound"] (spR K (rk K .k) Z8) :=
 Jm (N:=["cell","k","bound","left","j","stir"]) (ps:=["cell","k","bound"]) (k:=0) (m:=(rk K .k)) (g:=Zgy) F Zfm (.inl (Ys _)) fun cdv A outer s H E hr=>by
  have hu:=hr.units
  have nd:=Zfm.nd
  have nox:∀ (e:Value) (s:Shared),False→False:=fun _ _ h=>h
  exact (Zb (Yp (ZeJ hu (Yv (m:=.k) (Za 0) (Yd (m:=.k))) (Yd (m:=.k))) (Zb (Jh nd 3 (ZaA (m:=.k) (Za 0) (Yd (m:=.k)))) (Zb (Zk (Jt T (Za 1)) (pg_n nd 4) (Jb (Jh nd 3 (ZaA (m:=.k) (Za 3) (Za 2))))) (Jb (Yi (Yv (m:=.k) (Za 3) (Za 2)))))) Jp) (Zb (Jh nd 5 (Yv (m:=.k) (Z0 (m:=.k) (YF (YF (Yv (m:=.k) (Za 0) (Yd (m:=.k))) (Z0 (m:=.k) (Yd (m:=.k)) (Za 1))) (Yd (m:=.k))) (Yd (m:=.k))) (Yd (m:=.k)))) (Zb (Jh nd 5 (Yv (m:=.k) (Z0 (m:=.k) (Za 5) (Za 5)) (Yd (m:=.k)))) (Zb (Jh nd 5 (Yv (m:=.k) (Z0 (m:=.k) (YF (Za 5) (Z0 (m:=.k) (Yd (m:=.k)) (YF (Za 1) (Yd (m:=.k))))) (Yd (m:=.k))) (Yd (m:=.k)))) (Jb (Yi (Yv (m:=.k) (ZaA (m:=.k) (Za 5) (Yd (m:=.k))) (Za 2))))))))
noncomputable abbrev JR:Stmt:=top 43
theorem ZdR:L2.Yh ["dims","size","dim","table","a","row","b","made","worth"] ["dims"] (L2.Yb JR):=⟨rfl,rfl,rfl,by decide +kernel,rfl,by decide +kernel,by decide +kernel⟩
theorem Zhz {P:Program} {w:World} {K:PySem.W.Frag} {mg:Str→Option Value} {base:Heap} {f:Addr} {fd:FuncData} (F:L2.Fun K "_law_cycles" "_law_cycles" JR f fd) (T:Bt mg) :
  L2.FnOk P w K mg base L2.CX0 1 f fd ["dims"] (spR K (rk K .k) Zbt) :=
 Jm (N:=["dims","size","dim","table","a","row","b","made","worth"]) (ps:=["dims"]) (k:=0) (m:=(rk K .k)) (g:=Zd5) F ZdR (.inl (Ys _)) fun cdv A outer s H E hr=>by
  have hu:=hr.units
  have nd:=ZdR.nd
  have nox:∀ (e:Value) (s:Shared),False→False:=fun _ _ h=>h
  exact (Zb (Jh nd 1 (Yd (m:=.k))) (Zb (Zk (YM (Za 0)) (pg_n nd 2) (Jb (Jh nd 1 (Z0 (m:=.k) (Za 1) (Za 2))))) (Zb (ZbI nd 3 (Za3 (m:=.k) Zc)) (Zb (Zk (Jt T (Za 1)) (pg_n nd 4) (Zb (ZbI nd 5 (Za3 (m:=.k) Zc)) (Zb (Zk (Jt T (Za 1)) (pg_n nd 6) (Zb (Jh nd 7 (Yd (m:=.k))) (Zb (Jh nd 8 (Yd (m:=.k))) (Zb (Zk (YM (Za 0)) (pg_n nd 2) (Zb (Jh nd 7 (YF (Za 7) (Z0 (m:=.k) (Yv (m:=.k) (YF (ZaA (m:=.k) (Za 4) (Za 8)) (ZaA (m:=.k) (Za 6) (Za 8))) (Za 2)) (Za 8)))) (Jb (Jh nd 8 (Z0 (m:=.k) (Za 8) (Za 2)))))) (Jb (ZcD 5 (Za 7))))))) (Yy 5 (Jb (ZcD 3 (Za 5))))))) (Yy 3 (Jb (Yi (Za 3))))))))
noncomputable abbrev JL:Stmt:=top 44
theorem Zdg:L2.Yh ["many","extra","table","a","row","b","turn","both","made"] ["many","extra"] (L2.Yb JL):=⟨rfl,rfl,rfl,by decide +kernel,rfl,by decide +kernel,by decide +kernel⟩
theorem ZgS {P:Program} {w:World} {K:PySem.W.Frag} {mg:Str→Option Value} {base:Heap} {f:Addr} {fd:FuncData} (F:L2.Fun K "_law_twisted" "_law_twisted" JL f fd) (T:Bt mg) :
  L2.FnOk P w K mg base L2.CX0 1 f fd ["many","extra"] (spR K (rk K .k) Za8) :=
 Jm (N:=["many","extra","table","a","row","b","turn","both","made"]) (ps:=["many","extra"]) (k:=0) (m:=(rk K .k)) (g:=ZdT) F Zdg (.inl (Ys _)) fun cdv A outer s H E hr=>by
  have hu:=hr.units
  have nd:=Zdg.nd
  have nox:∀ (e:Value) (s:Shared),False→False:=fun _ _ h=>h
  exact (Zb (ZbI nd 2 (Za3 (m:=.k) Zc)) (Zb (Zk (Jt T (Z0 (m:=.k) (Yd (m:=.k)) (Za 0))) (pg_n nd 3) (Zb (ZbI nd 4 (Za3 (m:=.k) Zc)) (Zb (Zk (Jt T (Z0 (m:=.k) (Yd (m:=.k)) (Za 0))) (pg_n nd 5) (Zb (Jh nd 6 (Zj (Yn (Ja (Yv (m:=.k) (Za 5) (Za 0)) (Ja (Zjm (m:=.k) (Yd (m:=.k)) (Yv (m:=.k) (Za 5) (Za 0))) Zc))) (ZaA (m:=.k) (Za 3) (Za 0)))) (Zb (Jh nd 7 (Z0 (m:=.k) (ZaA (m:=.k) (Za 3) (Za 0)) (ZaA (m:=.k) (Za 5) (Za 0)))) (Zb (Jh nd 8 (Yv (m:=.k) (YF (YF (Yv (m:=.k) (Za 3) (Za 0)) (Za 6)) (Z0 (m:=.k) (Za 1) (Za 7))) (Za 0))) (Jb (ZcD 4 (YF (Za 8) (Z0 (m:=.k) (Za 0) (Yv (m:=.k) (YF (ZaA (m:=.k) (Za 3) (Za 0)) (ZaA (m:=.k) (Za 5) (Za 0))) (Yd (m:=.k))))))))))) (Yy 4 (Jb (ZcD 2 (Za 4))))))) (Yy 2 (Jb (Yi (Za 2))))))
noncomputable abbrev Z9:Stmt:=top 45
theorem Zfv:L2.Yh ["lines","k","longer","line","x","some","wrong","j","table","one","two"] [] (L2.Yb Z9):=⟨rfl,rfl,rfl,by decide +kernel,rfl,by decide +kernel,by decide +kernel⟩
theorem Zi7 {P:Program} {w:World} {K:PySem.W.Frag} {mg:Str→Option Value} {base:Heap} {f:Addr} {fd:FuncData} (F:L2.Fun K "_law_even" "_law_even" Z9 f fd) (T:Bt mg) :
  L2.FnOk P w K mg base L2.CX0 1 f fd [] (spR K (rk K .k) Zcn) :=
 Jm (N:=["lines","k","longer","line","x","some","wrong","j","table","one","two"]) (ps:=[]) (k:=0) (m:=(rk K .k)) (g:=Zgj) F Zfv (.inl (Ys _)) fun cdv A outer s H E hr=>by
  have hu:=hr.units
  have nd:=Zfv.nd
  have nox:∀ (e:Value) (s:Shared),False→False:=fun _ _ h=>h
  exact (Zb (Jh nd 0 (Yn (Ja (Yn (m:=.k) Zc) Zc))) (Zb (Zk (Jt T (Yd (m:=.k))) (pg_n nd 1) (Zb (Jh nd 2 (Yn (m:=.k) Zc)) (Zb (Zk (YM (Za 0)) (pg_n nd 3) (Jb (Jh nd 2 (YF (Za 2) (ZfB nox nd 4 (Jt T (Yd (m:=.k))) (fun _ _ _ _ _ _=>(Zm6 hu (Za 4) (Za 3))) (fun _ _ _ _ _ _=>(YF (Za 3) (Yn (Ja (Za 4) Zc))))))))) (Jb (Jh nd 0 (Za 2)))))) (Zb (ZbI nd 5 (Za3 (m:=.k) Zc)) (Zb (Zk (YM (Za 0)) (pg_n nd 3) (Zb (Jh nd 6 (Yd (m:=.k))) (Zb (Zk (Jt T (Yd (m:=.k))) (pg_n nd 7) (Jb (Jh nd 6 (YF (Za 6) (Jo (m:=.k) T (ZfB nox nd 1 (Jt T (Za 7)) (fun _ _ _ _ _ _=>(Zkz (Zj (Za 3) (Za 1)) (Zj (Za 3) (Za 7)))) (fun _ _ _ _ _ _=>(Za 1)))))))) (Jb (Yp (ZeJ hu (Yv (m:=.k) (Za 6) (Yd (m:=.k))) (Yd (m:=.k))) (Jb (ZcD 5 (Za 3))) Jp))))) (Zb (ZbI nd 8 (Za3 (m:=.k) Zc)) (Yy 5 (Zb (Zk (YM (Za 5)) (pg_n nd 9) (Yy 5 (Jb (ZcD 8 (Zai nox nd 10 (YM (Za 5)) (fun _ _ _ _ _ _=>(ZmP (m:=.k) hu (Zcu 5) (Zai nox nd 4 (YM (Za 9)) (fun _ _ _ _ _ _=>(Zj (Za 10) (Za 4))))))))))) (Yy 8 (Jb (Yi (Za 8)))))))))))
noncomputable abbrev Zaa:Stmt:=top 46
theorem Zfp:L2.Yh ["kind","dims","pair"] ["kind"] (L2.Yb Zaa):=⟨rfl,rfl,rfl,by decide +kernel,rfl,by decide +kernel,by decide +kernel⟩
theorem ZiX {P:Program} {w:World} {K:PySem.W.Frag} {mg:Str→Option Value} {base:Heap} {f:Addr} {fd:FuncData} (F:L2.Fun K "_law_base" "_law_base" Zaa f fd) (T:Bt mg) (G_law_even:Cal P w K mg base 1 "_law_even" (rk K .k) Zcn) (G_law_cycles:Cal P w K mg base 1 "_law_cycles" (rk K .k) Zbt) (G_law_twisted:Cal P w K mg base 1 "_law_twisted" (rk K .k) Za8) :
  L2.FnOk P w K mg base L2.CX0 2 f fd ["kind"] (spR K (rk K .k) ZP) :=
 Jm (N:=["kind","dims","pair"]) (ps:=["kind"]) (k:=1) (m:=(rk K .k)) (g:=ZgC) F Zfp (.inl (Ys _)) fun cdv A outer s H E hr=>by
  have hu:=hr.units
  have nd:=Zfp.nd
  have nox:∀ (e:Value) (s:Shared),False→False:=fun _ _ h=>h
  exact (Zb (Jh nd 1 (Yn (Ja (Yn (Ja (Yd (m:=.k)) Zc)) (Ja (Yn (Ja (Yd (m:=.k)) Zc)) (Ja (Yn (Ja (Yd (m:=.k)) Zc)) (Ja (Yn (Ja (Yd (m:=.k)) Zc)) (Ja (Yn (Ja (Yd (m:=.k)) (Ja (Yd (m:=.k)) Zc))) (Ja (Yn (Ja (Yd (m:=.k)) Zc)) (Ja (Yn (Ja (Yd (m:=.k)) Zc)) (Ja (Yn (Ja (Yd (m:=.k)) Zc)) (Ja (Yn (Ja (Yd (m:=.k)) Zc)) Zc))))))))))) (Zb (Jh nd 1 (YF (Za 1) (Yn (Ja (Yn (Ja (Yd (m:=.k)) (Ja (Yd (m:=.k)) Zc))) (Ja (Yn (Ja (Yd (m:=.k)) (Ja (Yd (m:=.k)) (Ja (Yd (m:=.k)) Zc)))) (Ja (Yn (Ja (Yd (m:=.k)) Zc)) (Ja (Yn (Ja (Yd (m:=.k)) (Ja (Yd (m:=.k)) Zc))) (Ja (Yn (Ja (Yd (m:=.k)) Zc)) (Ja (Yn (Ja (Yd (m:=.k)) Zc)) (Ja (Yn (Ja (Yd (m:=.k)) Zc)) (Ja (Yn (Ja (Yd (m:=.k)) (Ja (Yd (m:=.k)) Zc))) Zc))))))))))) (Zb (Yp (ZgF (Za 0) (Yd (m:=.k))) (Jb (Yi (Ye G_law_cycles (hr.mono (by decide)) (Ja (Zj (Za 1) (Za 0)) Zc)))) Jp) (Zb (Yp (ZgF (Za 0) (Yd (m:=.k))) (Zb (Jh nd 2 (Zj (Yn (Ja (ZaX (Ja (Yd (m:=.k)) (Ja (Yd (m:=.k)) Zc))) (Ja (ZaX (Ja (Yd (m:=.k)) (Ja (Yd (m:=.k)) Zc))) (Ja (ZaX (Ja (Yd (m:=.k)) (Ja (Yd (m:=.k)) Zc))) (Ja (ZaX (Ja (Yd (m:=.k)) (Ja (Yd (m:=.k)) Zc))) (Ja (ZaX (Ja (Yd (m:=.k)) (Ja (Yd (m:=.k)) Zc))) (Ja (ZaX (Ja (Yd (m:=.k)) (Ja (Yd (m:=.k)) Zc))) Zc))))))) (Zjm (m:=.k) (Za 0) (Yd (m:=.k))))) (Jb (Yi (Ye G_law_twisted (hr.mono (by decide)) (Ja (Zj (Za 2) (Yd (m:=.k))) (Ja (Zj (Za 2) (Yd (m:=.k))) Zc)))))) Jp) (Jb (Yi (Zmo G_law_even (hr.mono (by decide)))))))))
noncomputable abbrev ZM:Stmt:=top 47
theorem ZdA:L2.Yh ["base","cell","names","k","table","row","a","b"] ["base","cell"] (L2.Yb ZM):=⟨rfl,rfl,rfl,by decide +kernel,rfl,by decide +kernel,by decide +kernel⟩
theorem ZfG:∀ env env',Zba env≠some (.nx,env'):=fun env env' h=>by
 unfold Zba at h
 obtain ⟨e1,_,h⟩:=Zcj h
 obtain ⟨e2,_,h⟩:=Zcj h
 obtain ⟨e3,_,h⟩:=Zcj h
 obtain ⟨e4,_,h⟩:=Zcj h
 unfold ZeZ at h
 split at h <;> cases h
theorem Zg7 {P:Program} {w:World} {K:PySem.W.Frag} {mg:Str→Option Value} {base:Heap} {f:Addr} {fd:FuncData} (F:L2.Fun K "_law_renamed" "_law_renamed" ZM f fd) (T:Bt mg) (G_law_draw:Cal P w K mg base 1 "_law_draw" (rk K .k) Z8) :
  L2.FnOk P w K mg base L2.CX0 2 f fd ["base","cell"] (spR K (rT K) Zat) :=
 Jm (N:=["base","cell","names","k","table","row","a","b"]) (ps:=["base","cell"]) (k:=1) (m:=(rT K)) (g:=Zba) F ZdA (.inr ZfG) fun cdv A outer s H E hr=>by
  have hu:=hr.units
  have nd:=ZdA.nd
  have nox:∀ (e:Value) (s:Shared),False→False:=fun _ _ h=>h
  exact (Zb (ZbI nd 2 (Za3 (m:=.k) Zc)) (Zb (Zk (Jt T (Jo (m:=.k) T (Za 0))) (pg_n nd 3) (Jb (ZoV 2 (Yv (m:=.k) (Ye G_law_draw (hr.mono (by decide)) (Ja (Za 1) (Ja (Za 3) (Ja (Yd (m:=.k)) Zc)))) (YF (Za 3) (Yd (m:=.k)))) (Za 3)))) (Zb (Zni nox nd 4 5 (YM (Za 0)) (fun _ _ _ _ _ _=>(ZgN T (Za 5))) (fun _ _ h=>Zef h)) (Zb (Zk (Jt T (Jo (m:=.k) T (Za 0))) (pg_n nd 6) (Jb (Zk (Jt T (Jo (m:=.k) T (Za 0))) (pg_n nd 7) (Jb (Znu 4 (Zj (Zcu 2) (Za 6)) (Zj (Zcu 2) (Za 7)) (Zpu (m:=.k) (Zj (Zcu 2) (Zj (Zj (Za 0) (Za 6)) (Za 7))))))))) (Jb (ZnN 4))))))
noncomputable abbrev JK:Stmt:=top 48
theorem Zc7:L2.Yh ["script","first"] ["script","first"] (L2.Yb JK):=⟨rfl,rfl,rfl,by decide +kernel,rfl,by decide +kernel,by decide +kernel⟩
theorem ZfN:∀ env env',Zbb env≠some (.nx,env'):=fun env env' h=>by
 unfold Zbb sRet at h
 split at h <;> cases h
theorem ZgU {P:Program} {w:World} {K:PySem.W.Frag} {mg:Str→Option Value} {base:Heap} {f:Addr} {fd:FuncData} (F:L2.Fun K "_law_folk_by" "_law_folk_by" JK f fd) (T:Bt mg) (G_law_renamed:Cal P w K mg base 2 "_law_renamed" (rT K) Zat) (G_law_base:Cal P w K mg base 2 "_law_base" (rk K .k) ZP) (G_law_cell_at:Cal P w K mg base 1 "_law_cell_at" (rk K .k) Zm) :
  L2.FnOk P w K mg base L2.CX0 3 f fd ["script","first"] (spR K (rT K) Y6) :=
 Jm (N:=["script","first"]) (ps:=["script","first"]) (k:=2) (m:=(rT K)) (g:=Zbb) F Zc7 (.inr ZfN) fun cdv A outer s H E hr=>by
  have hu:=hr.units
  have nd:=Zc7.nd
  have nox:∀ (e:Value) (s:Shared),False→False:=fun _ _ h=>h
  exact (Jb (ZlZ (ZiP G_law_renamed (hr.mono (by decide)) (Ja (Ye G_law_base (hr.mono (by decide)) (Ja (Yv (m:=.k) (Ye G_law_cell_at (hr.mono (by decide)) (Ja (Za 0) (Ja (Za 1) Zc))) (Yd (m:=.k))) Zc)) (Ja (Ye G_law_cell_at (hr.mono (by decide)) (Ja (Za 0) (Ja (YF (Za 1) (Yd (m:=.k))) Zc))) Zc)))))
noncomputable abbrev Z1:Stmt:=top 49
theorem Zeh:L2.Yh ["known","element","place"] ["known","element"] (L2.Yb Z1):=⟨rfl,rfl,rfl,by decide +kernel,rfl,by decide +kernel,by decide +kernel⟩
theorem ZhQ {P:Program} {w:World} {K:PySem.W.Frag} {mg:Str→Option Value} {base:Heap} {f:Addr} {fd:FuncData} (F:L2.Fun K "_law_place" "_law_place" Z1 f fd) (T:Bt mg) :
  L2.FnOk P w K mg base L2.CX0 1 f fd ["known","element"] (spR K (rk K .k) J9) :=
 Jm (N:=["known","element","place"]) (ps:=["known","element"]) (k:=0) (m:=(rk K .k)) (g:=Zfg) F Zeh (.inl (Ys _)) fun cdv A outer s H E hr=>by
  have hu:=hr.units
  have nd:=Zeh.nd
  have nox:∀ (e:Value) (s:Shared),False→False:=fun _ _ h=>h
  exact (Jb (Yi (Zj (ZfB nox nd 2 (Jt T (Jo (m:=.k) T (Za 0))) (fun _ _ _ _ _ _=>(Zpw hu (Za 1) (Zj (Za 0) (Za 2)))) (fun _ _ _ _ _ _=>(Za 2))) (Yd (m:=.k)))))
noncomputable abbrev Z4:Stmt:=top 50
theorem Zd9:L2.Yh ["table","part","a","b","left","known"] ["table","part","a","b"] (L2.Yb Z4):=⟨rfl,rfl,rfl,by decide +kernel,rfl,by decide +kernel,by decide +kernel⟩
theorem Zik {P:Program} {w:World} {K:PySem.W.Frag} {mg:Str→Option Value} {base:Heap} {f:Addr} {fd:FuncData} (F:L2.Fun K "_law_right" "_law_right" Z4 f fd) (T:Bt mg) (G_taken_out:Cal P w K mg base 4 "taken_out" (rk K .k) JM) (G_shares:Cal P w K mg base 4 "shares" rN ZcE) (G_law_place:Cal P w K mg base 1 "_law_place" (rk K .k) J9) (G_flaw:Cal P w K mg base 3 "flaw" (rk K .k) ZeC) (G_rest:Cal P w K mg base 4 "rest" (rk K .k) Zb6) :
  L2.FnOk P w K mg base L2.CX0 5 f fd ["table","part","a","b"] (spR K (rk K .k) Za4) :=
 Jm (N:=["table","part","a","b","left","known"]) (ps:=["table","part","a","b"]) (k:=4) (m:=(rk K .k)) (g:=Zfi) F Zd9 (.inl (Ys _)) fun cdv A outer s H E hr=>by
  have hu:=hr.units
  have nd:=Zd9.nd
  have nox:∀ (e:Value) (s:Shared),False→False:=fun _ _ h=>h
  exact (Zb (Jh nd 4 (Ye G_taken_out (hr.mono (by decide)) (Ja (Za 0) (Ja (ZgI T (Za 1)) Zc)))) (Zb (Jh nd 5 (PDn.d (PDw.n (JB G_shares (hr.mono (by decide)) (Ja (Za 0) (Ja (ZgI T (Za 1)) Zc)))))) (Zb (Yp (pw_t (ZhF (Zcl hu (Jo (m:=.k) T (Za 4)) (Jo (m:=.k) T (Za 5))) (ZhF (ZdB (Ye G_flaw (hr.mono (by decide)) (Ja (Za 4) Zc))) (ZfP (Zcl hu (Zj (Za 5) (Ye G_rest (hr.mono (by decide)) (Ja (Za 4) Zc))) (Za 1)))))) (Jb (Yi (Zkp (m:=.k)))) Jp) (Jb (Yi ((Zgb (m:=.k) hu (Zj (Zj (Za 4) (Ye G_law_place (hr.mono (by decide)) (Ja (Za 5) (Ja (Za 2) Zc)))) (Ye G_law_place (hr.mono (by decide)) (Ja (Za 5) (Ja (Za 3) Zc)))) (Ye G_law_place (hr.mono (by decide)) (Ja (Za 5) (Ja (Zj (Zj (Za 0) (Za 2)) (Za 3)) Zc))))))))))
noncomputable abbrev Zbw:Stmt:=top 51
theorem Zk0:L2.Yh ["script","table","a","b","known","place","part"] ["script"] (L2.Yb Zbw):=⟨rfl,rfl,rfl,by decide +kernel,rfl,by decide +kernel,by decide +kernel⟩
theorem ZoI {P:Program} {w:World} {K:PySem.W.Frag} {mg:Str→Option Value} {base:Heap} {f:Addr} {fd:FuncData} (F:L2.Fun K "law" "law" Zbw f fd) (T:Bt mg) (G_law_folk_by:Cal P w K mg base 3 "_law_folk_by" (rT K) Y6) (G_parts:Cal P w K mg base 4 "parts" rN Zdz) (G_law_cell_at:Cal P w K mg base 1 "_law_cell_at" (rk K .k) Zm) (G_is_loose:Cal P w K mg base 4 "is_loose" (rk K .k) ZaQ) (G_taken_out:Cal P w K mg base 4 "taken_out" (rk K .k) JM) (G_renaming:Cal P w K mg base 16 "renaming" rN ZbG) (G_middle:Cal P w K mg base 4 "middle" rN ZbT) (G_law_right:Cal P w K mg base 5 "_law_right" (rk K .k) Za4) (G_rest:Cal P w K mg base 4 "rest" (rk K .k) Zb6) :
  L2.FnOk P w K mg base L2.CX0 17 f fd ["script"] (spR K (rk K .k) ZgE) :=
 Jm (N:=["script","table","a","b","known","place","part"]) (ps:=["script"]) (k:=16) (m:=(rk K .k)) (g:=Zm7) F Zk0 (.inl (Ys _)) fun cdv A outer s H E hr=>by
  have hu:=hr.units
  have nd:=Zk0.nd
  have nox:∀ (e:Value) (s:Shared),False→False:=fun _ _ h=>h
  exact (Zb (Jh nd 1 ((PDt.k (ZiP G_law_folk_by (hr.mono (by decide)) (Ja (Za 0) (Ja (Yd (m:=.k)) Zc)))))) (Zb (Jh nd 2 (Yv (m:=.k) (Ye G_law_cell_at (hr.mono (by decide)) (Ja (Za 0) (Ja (Yd (m:=.k)) Zc))) (Jo (m:=.k) T (Za 1)))) (Zb (Jh nd 3 (Yv (m:=.k) (Ye G_law_cell_at (hr.mono (by decide)) (Ja (Za 0) (Ja (Yd (m:=.k)) Zc))) (Jo (m:=.k) T (Za 1)))) (Zb (Jh nd 4 (PDn.d (PDw.n (JB G_parts (hr.mono (by decide)) (Ja (Za 1) Zc))))) (Zb (Zk (YM (Yn (Ja (Yd (m:=.k)) (Ja (Yv (m:=.k) (Ye G_law_cell_at (hr.mono (by decide)) (Ja (Za 0) (Ja (Yd (m:=.k)) Zc))) (Jo (m:=.k) T (Za 4))) (Ja (Yv (m:=.k) (Ye G_law_cell_at (hr.mono (by decide)) (Ja (Za 0) (Ja (Yd (m:=.k)) Zc))) (Jo (m:=.k) T (Za 4))) Zc))))) (pg_n nd 5) (Zb (Jh nd 6 (Zj (Za 4) (Za 5))) (Jb (Yp (pw_t (ZiQ (ZcW (Ye G_is_loose (hr.mono (by decide)) (Ja (Za 1) (Ja (ZgI T (Za 6)) Zc)))) (Zd1 (ZcP (ZcW (Ye G_law_right (hr.mono (by decide)) (Ja (Za 1) (Ja (Za 6) (Ja (Za 2) (Ja (Za 3) Zc)))))))))) (Jb (Yi (Zkp (m:=.k)))) Jp)))) (Zb (Yp (pw_t (ZhF (Zcl hu (Ye G_taken_out (hr.mono (by decide)) (Ja (Za 1) (Ja (Zh0 (m:=.k) T (Jo (m:=.k) T (Za 1))) Zc))) (Yn (Ja (Yn (Ja (Yd (m:=.k)) Zc)) Zc))) (ZfP (ZcP (ZcW (Ye G_is_loose (hr.mono (by decide)) (Ja (Za 1) (Ja (PDn.d (PDw.n (JB G_middle (hr.mono (by decide)) (Ja (Za 1) Zc)))) Zc)))))))) (Jb (Yi (Zkp (m:=.k)))) Jp) (Jb (Yi (((Zii (m:=.k) (ZoT (m:=.k) (PDn.d (PDw.n (JB G_renaming (hr.mono (by decide)) (Ja (Ye G_taken_out (hr.mono (by decide)) (Ja (Za 1) (Ja (Yn (Ja (Ye G_rest (hr.mono (by decide)) (Ja (Za 1) Zc)) Zc)) Zc))) (Ja (Za 1) Zc)))))) (ZdW (Zpv (m:=.k) hu (PDn.d (PDw.n (JB G_middle (hr.mono (by decide)) (Ja (Za 1) Zc)))) (Za 4))))))))))))))
end PV
set_option linter.all false
set_option Elab.async false
set_option maxRecDepth 100000
set_option maxHeartbeats 4000000
namespace PV
open PySem PySem.Spec PyProof.Rows
open L2 (V Hp HO Same Cx)
theorem bnd1 {K:PySem.W.Frag}{x qual:Str}{st:Stmt}{f:Addr}{fd:FuncData}{p0:Str}(F:L2.Fun K x qual st f fd)
  (h:∀ (kV doc pm:Value) (an:Option Addr) (cdv ct:Value) (a0:Value),bindArgs (PySem.W.fnOf x qual (L2.Jg st) (L2.Jf st) (L2.Yb st) .none kV doc pm an cdv ct) ⟨[a0],[]⟩=pure ([p0].zip [a0])):L2.Binds K fd [p0] [] :=
 F.binds fun _ _ _ _ _ _ us hl=>match us,hl with | [a0],_=>h _ _ _ _ _ _ a0
theorem bnd2 {K:PySem.W.Frag}{x qual:Str}{st:Stmt}{f:Addr}{fd:FuncData}{p0 p1:Str}(F:L2.Fun K x qual st f fd)
  (h:∀ (kV doc pm:Value) (an:Option Addr) (cdv ct:Value) (a0 a1:Value),bindArgs (PySem.W.fnOf x qual (L2.Jg st) (L2.Jf st) (L2.Yb st) .none kV doc pm an cdv ct) ⟨[a0,a1],[]⟩=pure ([p0,p1].zip [a0,a1])):L2.Binds K fd [p0,p1] [] :=
 F.binds fun _ _ _ _ _ _ us hl=>match us,hl with | [a0,a1],_=>h _ _ _ _ _ _ a0 a1
theorem bnd3 {K:PySem.W.Frag}{x qual:Str}{st:Stmt}{f:Addr}{fd:FuncData}{p0 p1 p2:Str}(F:L2.Fun K x qual st f fd)
  (h:∀ (kV doc pm:Value) (an:Option Addr) (cdv ct:Value) (a0 a1 a2:Value),bindArgs (PySem.W.fnOf x qual (L2.Jg st) (L2.Jf st) (L2.Yb st) .none kV doc pm an cdv ct) ⟨[a0,a1,a2],[]⟩=pure ([p0,p1,p2].zip [a0,a1,a2])):L2.Binds K fd [p0,p1,p2] [] :=
 F.binds fun _ _ _ _ _ _ us hl=>match us,hl with | [a0,a1,a2],_=>h _ _ _ _ _ _ a0 a1 a2
theorem bnd4 {K:PySem.W.Frag}{x qual:Str}{st:Stmt}{f:Addr}{fd:FuncData}{p0 p1 p2 p3:Str}(F:L2.Fun K x qual st f fd)
  (h:∀ (kV doc pm:Value) (an:Option Addr) (cdv ct:Value) (a0 a1 a2 a3:Value),bindArgs (PySem.W.fnOf x qual (L2.Jg st) (L2.Jf st) (L2.Yb st) .none kV doc pm an cdv ct) ⟨[a0,a1,a2,a3],[]⟩=pure ([p0,p1,p2,p3].zip [a0,a1,a2,a3])):L2.Binds K fd [p0,p1,p2,p3] [] :=
 F.binds fun _ _ _ _ _ _ us hl=>match us,hl with | [a0,a1,a2,a3],_=>h _ _ _ _ _ _ a0 a1 a2 a3
theorem bnd5 {K:PySem.W.Frag}{x qual:Str}{st:Stmt}{f:Addr}{fd:FuncData}{p0 p1 p2 p3 p4:Str}(F:L2.Fun K x qual st f fd)
  (h:∀ (kV doc pm:Value) (an:Option Addr) (cdv ct:Value) (a0 a1 a2 a3 a4:Value),bindArgs (PySem.W.fnOf x qual (L2.Jg st) (L2.Jf st) (L2.Yb st) .none kV doc pm an cdv ct) ⟨[a0,a1,a2,a3,a4],[]⟩=pure ([p0,p1,p2,p3,p4].zip [a0,a1,a2,a3,a4])):L2.Binds K fd [p0,p1,p2,p3,p4] [] :=
 F.binds fun _ _ _ _ _ _ us hl=>match us,hl with | [a0,a1,a2,a3,a4],_=>h _ _ _ _ _ _ a0 a1 a2 a3 a4
theorem all_mk {l:PySem.W.OpenLaw} {w:World} {K:PySem.W.Frag} {h:Heap} {mg:Str→Option Value} {fa:Addr} (X:K.In h) (G:h.Ns mainGlobals mg) (hfa:mg "law"=some (.ref fa))
  {f_is_element:Addr} {od_is_element an_is_element:Option Addr} {sl_is_element:Array (Option Value)} {oc_is_element kV_is_element dc_is_element pm_is_element cd_is_element ct_is_element:Value}
  (a_is_element:PySem.W.nsIn K mainGlobals "is_element"=some (some (.ref f_is_element))) (l_is_element:K.lookup f_is_element=some ⟨oc_is_element,od_is_element,.func (PySem.W.fnOf "is_element" "is_element" (L2.Jg JT) (L2.Jf JT) (L2.Yb JT) .none kV_is_element dc_is_element pm_is_element an_is_element cd_is_element ct_is_element),sl_is_element⟩) (c_is_element:PySem.W.codeIn K cd_is_element "is_element"=true) (k_is_element:PySem.W.keepIn K (.ref f_is_element)=true)
  {f_ask_table:Addr} {od_ask_table an_ask_table:Option Addr} {sl_ask_table:Array (Option Value)} {oc_ask_table kV_ask_table dc_ask_table pm_ask_table cd_ask_table ct_ask_table:Value}
  (a_ask_table:PySem.W.nsIn K mainGlobals "ask_table"=some (some (.ref f_ask_table))) (l_ask_table:K.lookup f_ask_table=some ⟨oc_ask_table,od_ask_table,.func (PySem.W.fnOf "ask_table" "ask_table" (L2.Jg J4) (L2.Jf J4) (L2.Yb J4) .none kV_ask_table dc_ask_table pm_ask_table an_ask_table cd_ask_table ct_ask_table),sl_ask_table⟩) (c_ask_table:PySem.W.codeIn K cd_ask_table "ask_table"=true) (k_ask_table:PySem.W.keepIn K (.ref f_ask_table)=true)
  {f_find_three:Addr} {od_find_three an_find_three:Option Addr} {sl_find_three:Array (Option Value)} {oc_find_three kV_find_three dc_find_three pm_find_three cd_find_three ct_find_three:Value}
  (a_find_three:PySem.W.nsIn K mainGlobals "find_three"=some (some (.ref f_find_three))) (l_find_three:K.lookup f_find_three=some ⟨oc_find_three,od_find_three,.func (PySem.W.fnOf "find_three" "find_three" (L2.Jg YS) (L2.Jf YS) (L2.Yb YS) .none kV_find_three dc_find_three pm_find_three an_find_three cd_find_three ct_find_three),sl_find_three⟩) (c_find_three:PySem.W.codeIn K cd_find_three "find_three"=true) (k_find_three:PySem.W.keepIn K (.ref f_find_three)=true)
  {f_find_rest:Addr} {od_find_rest an_find_rest:Option Addr} {sl_find_rest:Array (Option Value)} {oc_find_rest kV_find_rest dc_find_rest pm_find_rest cd_find_rest ct_find_rest:Value}
  (a_find_rest:PySem.W.nsIn K mainGlobals "find_rest"=some (some (.ref f_find_rest))) (l_find_rest:K.lookup f_find_rest=some ⟨oc_find_rest,od_find_rest,.func (PySem.W.fnOf "find_rest" "find_rest" (L2.Jg J2) (L2.Jf J2) (L2.Yb J2) .none kV_find_rest dc_find_rest pm_find_rest an_find_rest cd_find_rest ct_find_rest),sl_find_rest⟩) (c_find_rest:PySem.W.codeIn K cd_find_rest "find_rest"=true) (k_find_rest:PySem.W.keepIn K (.ref f_find_rest)=true)
  {f_find_back:Addr} {od_find_back an_find_back:Option Addr} {sl_find_back:Array (Option Value)} {oc_find_back kV_find_back dc_find_back pm_find_back cd_find_back ct_find_back:Value}
  (a_find_back:PySem.W.nsIn K mainGlobals "find_back"=some (some (.ref f_find_back))) (l_find_back:K.lookup f_find_back=some ⟨oc_find_back,od_find_back,.func (PySem.W.fnOf "find_back" "find_back" (L2.Jg Z5) (L2.Jf Z5) (L2.Yb Z5) .none kV_find_back dc_find_back pm_find_back an_find_back cd_find_back ct_find_back),sl_find_back⟩) (c_find_back:PySem.W.codeIn K cd_find_back "find_back"=true) (k_find_back:PySem.W.keepIn K (.ref f_find_back)=true)
  {f_find_flaw:Addr} {od_find_flaw an_find_flaw:Option Addr} {sl_find_flaw:Array (Option Value)} {oc_find_flaw kV_find_flaw dc_find_flaw pm_find_flaw cd_find_flaw ct_find_flaw:Value}
  (a_find_flaw:PySem.W.nsIn K mainGlobals "find_flaw"=some (some (.ref f_find_flaw))) (l_find_flaw:K.lookup f_find_flaw=some ⟨oc_find_flaw,od_find_flaw,.func (PySem.W.fnOf "find_flaw" "find_flaw" (L2.Jg J3) (L2.Jf J3) (L2.Yb J3) .none kV_find_flaw dc_find_flaw pm_find_flaw an_find_flaw cd_find_flaw ct_find_flaw),sl_find_flaw⟩) (c_find_flaw:PySem.W.codeIn K cd_find_flaw "find_flaw"=true) (k_find_flaw:PySem.W.keepIn K (.ref f_find_flaw)=true)
  {f_flaw:Addr} {od_flaw an_flaw:Option Addr} {sl_flaw:Array (Option Value)} {oc_flaw kV_flaw dc_flaw pm_flaw cd_flaw ct_flaw:Value}
  (a_flaw:PySem.W.nsIn K mainGlobals "flaw"=some (some (.ref f_flaw))) (l_flaw:K.lookup f_flaw=some ⟨oc_flaw,od_flaw,.func (PySem.W.fnOf "flaw" "flaw" (L2.Jg ZbK) (L2.Jf ZbK) (L2.Yb ZbK) .none kV_flaw dc_flaw pm_flaw an_flaw cd_flaw ct_flaw),sl_flaw⟩) (c_flaw:PySem.W.codeIn K cd_flaw "flaw"=true) (k_flaw:PySem.W.keepIn K (.ref f_flaw)=true)
  {f_ask_folk:Addr} {od_ask_folk an_ask_folk:Option Addr} {sl_ask_folk:Array (Option Value)} {oc_ask_folk kV_ask_folk dc_ask_folk pm_ask_folk cd_ask_folk ct_ask_folk:Value}
  (a_ask_folk:PySem.W.nsIn K mainGlobals "ask_folk"=some (some (.ref f_ask_folk))) (l_ask_folk:K.lookup f_ask_folk=some ⟨oc_ask_folk,od_ask_folk,.func (PySem.W.fnOf "ask_folk" "ask_folk" (L2.Jg Y9) (L2.Jf Y9) (L2.Yb Y9) .none kV_ask_folk dc_ask_folk pm_ask_folk an_ask_folk cd_ask_folk ct_ask_folk),sl_ask_folk⟩) (c_ask_folk:PySem.W.codeIn K cd_ask_folk "ask_folk"=true) (k_ask_folk:PySem.W.keepIn K (.ref f_ask_folk)=true)
  {f_rest:Addr} {od_rest an_rest:Option Addr} {sl_rest:Array (Option Value)} {oc_rest kV_rest dc_rest pm_rest cd_rest ct_rest:Value}
  (a_rest:PySem.W.nsIn K mainGlobals "rest"=some (some (.ref f_rest))) (l_rest:K.lookup f_rest=some ⟨oc_rest,od_rest,.func (PySem.W.fnOf "rest" "rest" (L2.Jg ZbP) (L2.Jf ZbP) (L2.Yb ZbP) .none kV_rest dc_rest pm_rest an_rest cd_rest ct_rest),sl_rest⟩) (c_rest:PySem.W.codeIn K cd_rest "rest"=true) (k_rest:PySem.W.keepIn K (.ref f_rest)=true)
  {f_with_all_made:Addr} {od_with_all_made an_with_all_made:Option Addr} {sl_with_all_made:Array (Option Value)} {oc_with_all_made kV_with_all_made dc_with_all_made pm_with_all_made cd_with_all_made ct_with_all_made:Value}
  (a_with_all_made:PySem.W.nsIn K mainGlobals "with_all_made"=some (some (.ref f_with_all_made))) (l_with_all_made:K.lookup f_with_all_made=some ⟨oc_with_all_made,od_with_all_made,.func (PySem.W.fnOf "with_all_made" "with_all_made" (L2.Jg Yz) (L2.Jf Yz) (L2.Yb Yz) .none kV_with_all_made dc_with_all_made pm_with_all_made an_with_all_made cd_with_all_made ct_with_all_made),sl_with_all_made⟩) (c_with_all_made:PySem.W.codeIn K cd_with_all_made "with_all_made"=true) (k_with_all_made:PySem.W.keepIn K (.ref f_with_all_made)=true)
  {f_least_part:Addr} {od_least_part an_least_part:Option Addr} {sl_least_part:Array (Option Value)} {oc_least_part kV_least_part dc_least_part pm_least_part cd_least_part ct_least_part:Value}
  (a_least_part:PySem.W.nsIn K mainGlobals "least_part"=some (some (.ref f_least_part))) (l_least_part:K.lookup f_least_part=some ⟨oc_least_part,od_least_part,.func (PySem.W.fnOf "least_part" "least_part" (L2.Jg ZS) (L2.Jf ZS) (L2.Yb ZS) .none kV_least_part dc_least_part pm_least_part an_least_part cd_least_part ct_least_part),sl_least_part⟩) (c_least_part:PySem.W.codeIn K cd_least_part "least_part"=true) (k_least_part:PySem.W.keepIn K (.ref f_least_part)=true)
  {f_fewest_first:Addr} {od_fewest_first an_fewest_first:Option Addr} {sl_fewest_first:Array (Option Value)} {oc_fewest_first kV_fewest_first dc_fewest_first pm_fewest_first cd_fewest_first ct_fewest_first:Value}
  (a_fewest_first:PySem.W.nsIn K mainGlobals "fewest_first"=some (some (.ref f_fewest_first))) (l_fewest_first:K.lookup f_fewest_first=some ⟨oc_fewest_first,od_fewest_first,.func (PySem.W.fnOf "fewest_first" "fewest_first" (L2.Jg JF) (L2.Jf JF) (L2.Yb JF) .none kV_fewest_first dc_fewest_first pm_fewest_first an_fewest_first cd_fewest_first ct_fewest_first),sl_fewest_first⟩) (c_fewest_first:PySem.W.codeIn K cd_fewest_first "fewest_first"=true) (k_fewest_first:PySem.W.keepIn K (.ref f_fewest_first)=true)
  {f_parts:Addr} {od_parts an_parts:Option Addr} {sl_parts:Array (Option Value)} {oc_parts kV_parts dc_parts pm_parts cd_parts ct_parts:Value}
  (a_parts:PySem.W.nsIn K mainGlobals "parts"=some (some (.ref f_parts))) (l_parts:K.lookup f_parts=some ⟨oc_parts,od_parts,.func (PySem.W.fnOf "parts" "parts" (L2.Jg Zbc) (L2.Jf Zbc) (L2.Yb Zbc) .none kV_parts dc_parts pm_parts an_parts cd_parts ct_parts),sl_parts⟩) (c_parts:PySem.W.codeIn K cd_parts "parts"=true) (k_parts:PySem.W.keepIn K (.ref f_parts)=true)
  {f_ask_part:Addr} {od_ask_part an_ask_part:Option Addr} {sl_ask_part:Array (Option Value)} {oc_ask_part kV_ask_part dc_ask_part pm_ask_part cd_ask_part ct_ask_part:Value}
  (a_ask_part:PySem.W.nsIn K mainGlobals "ask_part"=some (some (.ref f_ask_part))) (l_ask_part:K.lookup f_ask_part=some ⟨oc_ask_part,od_ask_part,.func (PySem.W.fnOf "ask_part" "ask_part" (L2.Jg Zac) (L2.Jf Zac) (L2.Yb Zac) .none kV_ask_part dc_ask_part pm_ask_part an_ask_part cd_ask_part ct_ask_part),sl_ask_part⟩) (c_ask_part:PySem.W.codeIn K cd_ask_part "ask_part"=true) (k_ask_part:PySem.W.keepIn K (.ref f_ask_part)=true)
  {f_share_ahead:Addr} {od_share_ahead an_share_ahead:Option Addr} {sl_share_ahead:Array (Option Value)} {oc_share_ahead kV_share_ahead dc_share_ahead pm_share_ahead cd_share_ahead ct_share_ahead:Value}
  (a_share_ahead:PySem.W.nsIn K mainGlobals "share_ahead"=some (some (.ref f_share_ahead))) (l_share_ahead:K.lookup f_share_ahead=some ⟨oc_share_ahead,od_share_ahead,.func (PySem.W.fnOf "share_ahead" "share_ahead" (L2.Jg ZL) (L2.Jf ZL) (L2.Yb ZL) .none kV_share_ahead dc_share_ahead pm_share_ahead an_share_ahead cd_share_ahead ct_share_ahead),sl_share_ahead⟩) (c_share_ahead:PySem.W.codeIn K cd_share_ahead "share_ahead"=true) (k_share_ahead:PySem.W.keepIn K (.ref f_share_ahead)=true)
  {f_all_shares:Addr} {od_all_shares an_all_shares:Option Addr} {sl_all_shares:Array (Option Value)} {oc_all_shares kV_all_shares dc_all_shares pm_all_shares cd_all_shares ct_all_shares:Value}
  (a_all_shares:PySem.W.nsIn K mainGlobals "all_shares"=some (some (.ref f_all_shares))) (l_all_shares:K.lookup f_all_shares=some ⟨oc_all_shares,od_all_shares,.func (PySem.W.fnOf "all_shares" "all_shares" (L2.Jg ZR) (L2.Jf ZR) (L2.Yb ZR) .none kV_all_shares dc_all_shares pm_all_shares an_all_shares cd_all_shares ct_all_shares),sl_all_shares⟩) (c_all_shares:PySem.W.codeIn K cd_all_shares "all_shares"=true) (k_all_shares:PySem.W.keepIn K (.ref f_all_shares)=true)
  {f_shares:Addr} {od_shares an_shares:Option Addr} {sl_shares:Array (Option Value)} {oc_shares kV_shares dc_shares pm_shares cd_shares ct_shares:Value}
  (a_shares:PySem.W.nsIn K mainGlobals "shares"=some (some (.ref f_shares))) (l_shares:K.lookup f_shares=some ⟨oc_shares,od_shares,.func (PySem.W.fnOf "shares" "shares" (L2.Jg ZaC) (L2.Jf ZaC) (L2.Yb ZaC) .none kV_shares dc_shares pm_shares an_shares cd_shares ct_shares),sl_shares⟩) (c_shares:PySem.W.codeIn K cd_shares "shares"=true) (k_shares:PySem.W.keepIn K (.ref f_shares)=true)
  {f_share_behind:Addr} {od_share_behind an_share_behind:Option Addr} {sl_share_behind:Array (Option Value)} {oc_share_behind kV_share_behind dc_share_behind pm_share_behind cd_share_behind ct_share_behind:Value}
  (a_share_behind:PySem.W.nsIn K mainGlobals "share_behind"=some (some (.ref f_share_behind))) (l_share_behind:K.lookup f_share_behind=some ⟨oc_share_behind,od_share_behind,.func (PySem.W.fnOf "share_behind" "share_behind" (L2.Jg YH) (L2.Jf YH) (L2.Yb YH) .none kV_share_behind dc_share_behind pm_share_behind an_share_behind cd_share_behind ct_share_behind),sl_share_behind⟩) (c_share_behind:PySem.W.codeIn K cd_share_behind "share_behind"=true) (k_share_behind:PySem.W.keepIn K (.ref f_share_behind)=true)
  {f_same_on_both_sides:Addr} {od_same_on_both_sides an_same_on_both_sides:Option Addr} {sl_same_on_both_sides:Array (Option Value)} {oc_same_on_both_sides kV_same_on_both_sides dc_same_on_both_sides pm_same_on_both_sides cd_same_on_both_sides ct_same_on_both_sides:Value}
  (a_same_on_both_sides:PySem.W.nsIn K mainGlobals "same_on_both_sides"=some (some (.ref f_same_on_both_sides))) (l_same_on_both_sides:K.lookup f_same_on_both_sides=some ⟨oc_same_on_both_sides,od_same_on_both_sides,.func (PySem.W.fnOf "same_on_both_sides" "same_on_both_sides" (L2.Jg Zu) (L2.Jf Zu) (L2.Yb Zu) .none kV_same_on_both_sides dc_same_on_both_sides pm_same_on_both_sides an_same_on_both_sides cd_same_on_both_sides ct_same_on_both_sides),sl_same_on_both_sides⟩) (c_same_on_both_sides:PySem.W.codeIn K cd_same_on_both_sides "same_on_both_sides"=true) (k_same_on_both_sides:PySem.W.keepIn K (.ref f_same_on_both_sides)=true)
  {f_is_loose:Addr} {od_is_loose an_is_loose:Option Addr} {sl_is_loose:Array (Option Value)} {oc_is_loose kV_is_loose dc_is_loose pm_is_loose cd_is_loose ct_is_loose:Value}
  (a_is_loose:PySem.W.nsIn K mainGlobals "is_loose"=some (some (.ref f_is_loose))) (l_is_loose:K.lookup f_is_loose=some ⟨oc_is_loose,od_is_loose,.func (PySem.W.fnOf "is_loose" "is_loose" (L2.Jg Zad) (L2.Jf Zad) (L2.Yb Zad) .none kV_is_loose dc_is_loose pm_is_loose an_is_loose cd_is_loose ct_is_loose),sl_is_loose⟩) (c_is_loose:PySem.W.codeIn K cd_is_loose "is_loose"=true) (k_is_loose:PySem.W.keepIn K (.ref f_is_loose)=true)
  {f_table_of_shares:Addr} {od_table_of_shares an_table_of_shares:Option Addr} {sl_table_of_shares:Array (Option Value)} {oc_table_of_shares kV_table_of_shares dc_table_of_shares pm_table_of_shares cd_table_of_shares ct_table_of_shares:Value}
  (a_table_of_shares:PySem.W.nsIn K mainGlobals "table_of_shares"=some (some (.ref f_table_of_shares))) (l_table_of_shares:K.lookup f_table_of_shares=some ⟨oc_table_of_shares,od_table_of_shares,.func (PySem.W.fnOf "table_of_shares" "table_of_shares" (L2.Jg Jw) (L2.Jf Jw) (L2.Yb Jw) .none kV_table_of_shares dc_table_of_shares pm_table_of_shares an_table_of_shares cd_table_of_shares ct_table_of_shares),sl_table_of_shares⟩) (c_table_of_shares:PySem.W.codeIn K cd_table_of_shares "table_of_shares"=true) (k_table_of_shares:PySem.W.keepIn K (.ref f_table_of_shares)=true)
  {f_taken_out:Addr} {od_taken_out an_taken_out:Option Addr} {sl_taken_out:Array (Option Value)} {oc_taken_out kV_taken_out dc_taken_out pm_taken_out cd_taken_out ct_taken_out:Value}
  (a_taken_out:PySem.W.nsIn K mainGlobals "taken_out"=some (some (.ref f_taken_out))) (l_taken_out:K.lookup f_taken_out=some ⟨oc_taken_out,od_taken_out,.func (PySem.W.fnOf "taken_out" "taken_out" (L2.Jg J5) (L2.Jf J5) (L2.Yb J5) .none kV_taken_out dc_taken_out pm_taken_out an_taken_out cd_taken_out ct_taken_out),sl_taken_out⟩) (c_taken_out:PySem.W.codeIn K cd_taken_out "taken_out"=true) (k_taken_out:PySem.W.keepIn K (.ref f_taken_out)=true)
  {f_makes_the_same_behind:Addr} {od_makes_the_same_behind an_makes_the_same_behind:Option Addr} {sl_makes_the_same_behind:Array (Option Value)} {oc_makes_the_same_behind kV_makes_the_same_behind dc_makes_the_same_behind pm_makes_the_same_behind cd_makes_the_same_behind ct_makes_the_same_behind:Value}
  (a_makes_the_same_behind:PySem.W.nsIn K mainGlobals "makes_the_same_behind"=some (some (.ref f_makes_the_same_behind))) (l_makes_the_same_behind:K.lookup f_makes_the_same_behind=some ⟨oc_makes_the_same_behind,od_makes_the_same_behind,.func (PySem.W.fnOf "makes_the_same_behind" "makes_the_same_behind" (L2.Jg Zo) (L2.Jf Zo) (L2.Yb Zo) .none kV_makes_the_same_behind dc_makes_the_same_behind pm_makes_the_same_behind an_makes_the_same_behind cd_makes_the_same_behind ct_makes_the_same_behind),sl_makes_the_same_behind⟩) (c_makes_the_same_behind:PySem.W.codeIn K cd_makes_the_same_behind "makes_the_same_behind"=true) (k_makes_the_same_behind:PySem.W.keepIn K (.ref f_makes_the_same_behind)=true)
  {f_middle:Addr} {od_middle an_middle:Option Addr} {sl_middle:Array (Option Value)} {oc_middle kV_middle dc_middle pm_middle cd_middle ct_middle:Value}
  (a_middle:PySem.W.nsIn K mainGlobals "middle"=some (some (.ref f_middle))) (l_middle:K.lookup f_middle=some ⟨oc_middle,od_middle,.func (PySem.W.fnOf "middle" "middle" (L2.Jg ZaE) (L2.Jf ZaE) (L2.Yb ZaE) .none kV_middle dc_middle pm_middle an_middle cd_middle ct_middle),sl_middle⟩) (c_middle:PySem.W.codeIn K cd_middle "middle"=true) (k_middle:PySem.W.keepIn K (.ref f_middle)=true)
  {f_least_without_name:Addr} {od_least_without_name an_least_without_name:Option Addr} {sl_least_without_name:Array (Option Value)} {oc_least_without_name kV_least_without_name dc_least_without_name pm_least_without_name cd_least_without_name ct_least_without_name:Value}
  (a_least_without_name:PySem.W.nsIn K mainGlobals "least_without_name"=some (some (.ref f_least_without_name))) (l_least_without_name:K.lookup f_least_without_name=some ⟨oc_least_without_name,od_least_without_name,.func (PySem.W.fnOf "least_without_name" "least_without_name" (L2.Jg Yt) (L2.Jf Yt) (L2.Yb Yt) .none kV_least_without_name dc_least_without_name pm_least_without_name an_least_without_name cd_least_without_name ct_least_without_name),sl_least_without_name⟩) (c_least_without_name:PySem.W.codeIn K cd_least_without_name "least_without_name"=true) (k_least_without_name:PySem.W.keepIn K (.ref f_least_without_name)=true)
  {f_with_all_named:Addr} {od_with_all_named an_with_all_named:Option Addr} {sl_with_all_named:Array (Option Value)} {oc_with_all_named kV_with_all_named dc_with_all_named pm_with_all_named cd_with_all_named ct_with_all_named:Value}
  (a_with_all_named:PySem.W.nsIn K mainGlobals "with_all_named"=some (some (.ref f_with_all_named))) (l_with_all_named:K.lookup f_with_all_named=some ⟨oc_with_all_named,od_with_all_named,.func (PySem.W.fnOf "with_all_named" "with_all_named" (L2.Jg Jy) (L2.Jf Jy) (L2.Yb Jy) .none kV_with_all_named dc_with_all_named pm_with_all_named an_with_all_named cd_with_all_named ct_with_all_named),sl_with_all_named⟩) (c_with_all_named:PySem.W.codeIn K cd_with_all_named "with_all_named"=true) (k_with_all_named:PySem.W.keepIn K (.ref f_with_all_named)=true)
  {f_with_name:Addr} {od_with_name an_with_name:Option Addr} {sl_with_name:Array (Option Value)} {oc_with_name kV_with_name dc_with_name pm_with_name cd_with_name ct_with_name:Value}
  (a_with_name:PySem.W.nsIn K mainGlobals "with_name"=some (some (.ref f_with_name))) (l_with_name:K.lookup f_with_name=some ⟨oc_with_name,od_with_name,.func (PySem.W.fnOf "with_name" "with_name" (L2.Jg Z2) (L2.Jf Z2) (L2.Yb Z2) .none kV_with_name dc_with_name pm_with_name an_with_name cd_with_name ct_with_name),sl_with_name⟩) (c_with_name:PySem.W.codeIn K cd_with_name "with_name"=true) (k_with_name:PySem.W.keepIn K (.ref f_with_name)=true)
  {f_find_renaming:Addr} {od_find_renaming an_find_renaming:Option Addr} {sl_find_renaming:Array (Option Value)} {oc_find_renaming kV_find_renaming dc_find_renaming pm_find_renaming cd_find_renaming ct_find_renaming:Value}
  (a_find_renaming:PySem.W.nsIn K mainGlobals "find_renaming"=some (some (.ref f_find_renaming))) (l_find_renaming:K.lookup f_find_renaming=some ⟨oc_find_renaming,od_find_renaming,.func (PySem.W.fnOf "find_renaming" "find_renaming" (L2.Jg Zx) (L2.Jf Zx) (L2.Yb Zx) .none kV_find_renaming dc_find_renaming pm_find_renaming an_find_renaming cd_find_renaming ct_find_renaming),sl_find_renaming⟩) (c_find_renaming:PySem.W.codeIn K cd_find_renaming "find_renaming"=true) (k_find_renaming:PySem.W.keepIn K (.ref f_find_renaming)=true)
  {f_renaming:Addr} {od_renaming an_renaming:Option Addr} {sl_renaming:Array (Option Value)} {oc_renaming kV_renaming dc_renaming pm_renaming cd_renaming ct_renaming:Value}
  (a_renaming:PySem.W.nsIn K mainGlobals "renaming"=some (some (.ref f_renaming))) (l_renaming:K.lookup f_renaming=some ⟨oc_renaming,od_renaming,.func (PySem.W.fnOf "renaming" "renaming" (L2.Jg Zab) (L2.Jf Zab) (L2.Yb Zab) .none kV_renaming dc_renaming pm_renaming an_renaming cd_renaming ct_renaming),sl_renaming⟩) (c_renaming:PySem.W.codeIn K cd_renaming "renaming"=true) (k_renaming:PySem.W.keepIn K (.ref f_renaming)=true)
  {f_law_cell_at:Addr} {od_law_cell_at an_law_cell_at:Option Addr} {sl_law_cell_at:Array (Option Value)} {oc_law_cell_at kV_law_cell_at dc_law_cell_at pm_law_cell_at cd_law_cell_at ct_law_cell_at:Value}
  (a_law_cell_at:PySem.W.nsIn K mainGlobals "_law_cell_at"=some (some (.ref f_law_cell_at))) (l_law_cell_at:K.lookup f_law_cell_at=some ⟨oc_law_cell_at,od_law_cell_at,.func (PySem.W.fnOf "_law_cell_at" "_law_cell_at" (L2.Jg YK) (L2.Jf YK) (L2.Yb YK) .none kV_law_cell_at dc_law_cell_at pm_law_cell_at an_law_cell_at cd_law_cell_at ct_law_cell_at),sl_law_cell_at⟩) (c_law_cell_at:PySem.W.codeIn K cd_law_cell_at "_law_cell_at"=true) (k_law_cell_at:PySem.W.keepIn K (.ref f_law_cell_at)=true)
  {f_law_draw:Addr} {od_law_draw an_law_draw:Option Addr} {sl_law_draw:Array (Option Value)} {oc_law_draw kV_law_draw dc_law_draw pm_law_draw cd_law_draw ct_law_draw:Value}
  (a_law_draw:PySem.W.nsIn K mainGlobals "_law_draw"=some (some (.ref f_law_draw))) (l_law_draw:K.lookup f_law_draw=some ⟨oc_law_draw,od_law_draw,.func (PySem.W.fnOf "_law_draw" "_law_draw" (L2.Jg J8) (L2.Jf J8) (L2.Yb J8) .none kV_law_draw dc_law_draw pm_law_draw an_law_draw cd_law_draw ct_law_draw),sl_law_draw⟩) (c_law_draw:PySem.W.codeIn K cd_law_draw "_law_draw"=true) (k_law_draw:PySem.W.keepIn K (.ref f_law_draw)=true)
  {f_law_cycles:Addr} {od_law_cycles an_law_cycles:Option Addr} {sl_law_cycles:Array (Option Value)} {oc_law_cycles kV_law_cycles dc_law_cycles pm_law_cycles cd_law_cycles ct_law_cycles:Value}
  (a_law_cycles:PySem.W.nsIn K mainGlobals "_law_cycles"=some (some (.ref f_law_cycles))) (l_law_cycles:K.lookup f_law_cycles=some ⟨oc_law_cycles,od_law_cycles,.func (PySem.W.fnOf "_law_cycles" "_law_cycles" (L2.Jg JR) (L2.Jf JR) (L2.Yb JR) .none kV_law_cycles dc_law_cycles pm_law_cycles an_law_cycles cd_law_cycles ct_law_cycles),sl_law_cycles⟩) (c_law_cycles:PySem.W.codeIn K cd_law_cycles "_law_cycles"=true) (k_law_cycles:PySem.W.keepIn K (.ref f_law_cycles)=true)
  {f_law_twisted:Addr} {od_law_twisted an_law_twisted:Option Addr} {sl_law_twisted:Array (Option Value)} {oc_law_twisted kV_law_twisted dc_law_twisted pm_law_twisted cd_law_twisted ct_law_twisted:Value}
  (a_law_twisted:PySem.W.nsIn K mainGlobals "_law_twisted"=some (some (.ref f_law_twisted))) (l_law_twisted:K.lookup f_law_twisted=some ⟨oc_law_twisted,od_law_twisted,.func (PySem.W.fnOf "_law_twisted" "_law_twisted" (L2.Jg JL) (L2.Jf JL) (L2.Yb JL) .none kV_law_twisted dc_law_twisted pm_law_twisted an_law_twisted cd_law_twisted ct_law_twisted),sl_law_twisted⟩) (c_law_twisted:PySem.W.codeIn K cd_law_twisted "_law_twisted"=true) (k_law_twisted:PySem.W.keepIn K (.ref f_law_twisted)=true)
  {f_law_even:Addr} {od_law_even an_law_even:Option Addr} {sl_law_even:Array (Option Value)} {oc_law_even kV_law_even dc_law_even pm_law_even cd_law_even ct_law_even:Value}
  (a_law_even:PySem.W.nsIn K mainGlobals "_law_even"=some (some (.ref f_law_even))) (l_law_even:K.lookup f_law_even=some ⟨oc_law_even,od_law_even,.func (PySem.W.fnOf "_law_even" "_law_even" (L2.Jg Z9) (L2.Jf Z9) (L2.Yb Z9) .none kV_law_even dc_law_even pm_law_even an_law_even cd_law_even ct_law_even),sl_law_even⟩) (c_law_even:PySem.W.codeIn K cd_law_even "_law_even"=true) (k_law_even:PySem.W.keepIn K (.ref f_law_even)=true)
  {f_law_base:Addr} {od_law_base an_law_base:Option Addr} {sl_law_base:Array (Option Value)} {oc_law_base kV_law_base dc_law_base pm_law_base cd_law_base ct_law_base:Value}
  (a_law_base:PySem.W.nsIn K mainGlobals "_law_base"=some (some (.ref f_law_base))) (l_law_base:K.lookup f_law_base=some ⟨oc_law_base,od_law_base,.func (PySem.W.fnOf "_law_base" "_law_base" (L2.Jg Zaa) (L2.Jf Zaa) (L2.Yb Zaa) .none kV_law_base dc_law_base pm_law_base an_law_base cd_law_base ct_law_base),sl_law_base⟩) (c_law_base:PySem.W.codeIn K cd_law_base "_law_base"=true) (k_law_base:PySem.W.keepIn K (.ref f_law_base)=true)
  {f_law_renamed:Addr} {od_law_renamed an_law_renamed:Option Addr} {sl_law_renamed:Array (Option Value)} {oc_law_renamed kV_law_renamed dc_law_renamed pm_law_renamed cd_law_renamed ct_law_renamed:Value}
  (a_law_renamed:PySem.W.nsIn K mainGlobals "_law_renamed"=some (some (.ref f_law_renamed))) (l_law_renamed:K.lookup f_law_renamed=some ⟨oc_law_renamed,od_law_renamed,.func (PySem.W.fnOf "_law_renamed" "_law_renamed" (L2.Jg ZM) (L2.Jf ZM) (L2.Yb ZM) .none kV_law_renamed dc_law_renamed pm_law_renamed an_law_renamed cd_law_renamed ct_law_renamed),sl_law_renamed⟩) (c_law_renamed:PySem.W.codeIn K cd_law_renamed "_law_renamed"=true) (k_law_renamed:PySem.W.keepIn K (.ref f_law_renamed)=true)
  {f_law_folk_by:Addr} {od_law_folk_by an_law_folk_by:Option Addr} {sl_law_folk_by:Array (Option Value)} {oc_law_folk_by kV_law_folk_by dc_law_folk_by pm_law_folk_by cd_law_folk_by ct_law_folk_by:Value}
  (a_law_folk_by:PySem.W.nsIn K mainGlobals "_law_folk_by"=some (some (.ref f_law_folk_by))) (l_law_folk_by:K.lookup f_law_folk_by=some ⟨oc_law_folk_by,od_law_folk_by,.func (PySem.W.fnOf "_law_folk_by" "_law_folk_by" (L2.Jg JK) (L2.Jf JK) (L2.Yb JK) .none kV_law_folk_by dc_law_folk_by pm_law_folk_by an_law_folk_by cd_law_folk_by ct_law_folk_by),sl_law_folk_by⟩) (c_law_folk_by:PySem.W.codeIn K cd_law_folk_by "_law_folk_by"=true) (k_law_folk_by:PySem.W.keepIn K (.ref f_law_folk_by)=true)
  {f_law_place:Addr} {od_law_place an_law_place:Option Addr} {sl_law_place:Array (Option Value)} {oc_law_place kV_law_place dc_law_place pm_law_place cd_law_place ct_law_place:Value}
  (a_law_place:PySem.W.nsIn K mainGlobals "_law_place"=some (some (.ref f_law_place))) (l_law_place:K.lookup f_law_place=some ⟨oc_law_place,od_law_place,.func (PySem.W.fnOf "_law_place" "_law_place" (L2.Jg Z1) (L2.Jf Z1) (L2.Yb Z1) .none kV_law_place dc_law_place pm_law_place an_law_place cd_law_place ct_law_place),sl_law_place⟩) (c_law_place:PySem.W.codeIn K cd_law_place "_law_place"=true) (k_law_place:PySem.W.keepIn K (.ref f_law_place)=true)
  {f_law_right:Addr} {od_law_right an_law_right:Option Addr} {sl_law_right:Array (Option Value)} {oc_law_right kV_law_right dc_law_right pm_law_right cd_law_right ct_law_right:Value}
  (a_law_right:PySem.W.nsIn K mainGlobals "_law_right"=some (some (.ref f_law_right))) (l_law_right:K.lookup f_law_right=some ⟨oc_law_right,od_law_right,.func (PySem.W.fnOf "_law_right" "_law_right" (L2.Jg Z4) (L2.Jf Z4) (L2.Yb Z4) .none kV_law_right dc_law_right pm_law_right an_law_right cd_law_right ct_law_right),sl_law_right⟩) (c_law_right:PySem.W.codeIn K cd_law_right "_law_right"=true) (k_law_right:PySem.W.keepIn K (.ref f_law_right)=true)
  {f_law:Addr} {od_law an_law:Option Addr} {sl_law:Array (Option Value)} {oc_law kV_law dc_law pm_law cd_law ct_law:Value}
  (a_law:PySem.W.nsIn K mainGlobals "law"=some (some (.ref f_law))) (l_law:K.lookup f_law=some ⟨oc_law,od_law,.func (PySem.W.fnOf "law" "law" (L2.Jg Zbw) (L2.Jf Zbw) (L2.Yb Zbw) .none kV_law dc_law pm_law an_law cd_law ct_law),sl_law⟩) (c_law:PySem.W.codeIn K cd_law "law"=true) (k_law:PySem.W.keepIn K (.ref f_law)=true)
  (z_len:PySem.W.nsIn K mainGlobals "len"=some none)
  (z_range:PySem.W.nsIn K mainGlobals "range"=some none)
  (z_list:PySem.W.nsIn K mainGlobals "list"=some none)
  (z_all:PySem.W.nsIn K mainGlobals "all"=some none)
  (z_isinstance:PySem.W.nsIn K mainGlobals "isinstance"=some none)
  (z_max:PySem.W.nsIn K mainGlobals "max"=some none)
  (z_int:PySem.W.nsIn K mainGlobals "int"=some none)
  (z_bool:PySem.W.nsIn K mainGlobals "bool"=some none)
  (z_str:PySem.W.nsIn K mainGlobals "str"=some none)
  (z_tuple:PySem.W.nsIn K mainGlobals "tuple"=some none)
  (z_sorted:PySem.W.nsIn K mainGlobals "sorted"=some none)
  (z_set:PySem.W.nsIn K mainGlobals "set"=some none)
  (z_any:PySem.W.nsIn K mainGlobals "any"=some none)
  (z_enumerate:PySem.W.nsIn K mainGlobals "enumerate"=some none)
  (z_dict:PySem.W.nsIn K mainGlobals "dict"=some none)
  {t_MOST_ROWS:Tok} (v_MOST_ROWS:PySem.W.nsIn K mainGlobals "MOST_ROWS"=some (some (.int 12 t_MOST_ROWS))) :
  ∃ fd:FuncData,(∀ (s:Shared) (v:Value),BindsTo s fd ⟨[v],[]⟩ [("script",v)])∧∀ base:Heap,K.In base→base.Ns mainGlobals mg→L2.FnOk l.prog w K mg base L2.CX0 17 fa fd ["script"] (spR K (rk K .k) ZgE):=by
 have e:=hfa.symm.trans (PySem.W.mg_of X G a_law)
 cases e
 have T:Bt mg:=⟨PySem.W.mg_none_of X G z_len,PySem.W.mg_none_of X G z_range,PySem.W.mg_none_of X G z_list,PySem.W.mg_none_of X G z_all,PySem.W.mg_none_of X G z_isinstance,PySem.W.mg_none_of X G z_max,PySem.W.mg_none_of X G z_int,PySem.W.mg_none_of X G z_bool,PySem.W.mg_none_of X G z_str,PySem.W.mg_none_of X G z_tuple,PySem.W.mg_none_of X G z_sorted,PySem.W.mg_none_of X G z_set,PySem.W.mg_none_of X G z_any,PySem.W.mg_none_of X G z_enumerate,PySem.W.mg_none_of X G z_dict⟩
 have C_MOST_ROWS:∃ t,mg "MOST_ROWS"=some (.int 12 t):=⟨_,PySem.W.mg_of X G v_MOST_ROWS⟩
 refine ⟨PySem.W.fnOf "law" "law" (L2.Jg Zbw) (L2.Jf Zbw) (L2.Yb Zbw) .none kV_law dc_law pm_law an_law cd_law ct_law,fun s v=>.of_eq rfl,fun base _ _=>?_⟩
 have G_is_element:Cal l.prog w K mg base 1 "is_element" (rk K .k) Zz:=⟨⟨f_is_element,_,["table","number"],PySem.W.mg_of X G a_is_element,k_is_element,Zhx (P:=l.prog) (w:=w) (base:=base) (L2.Ze (st:=JT) l_is_element c_is_element k_is_element) T,bnd2 (L2.Ze (st:=JT) l_is_element c_is_element k_is_element) fun _ _ _ _ _ _ _ _=>rfl⟩⟩
 have G_ask_table:Cal l.prog w K mg base 2 "ask_table" (rk K .k) JN:=⟨⟨f_ask_table,_,["table"],PySem.W.mg_of X G a_ask_table,k_ask_table,ZiG (P:=l.prog) (w:=w) (base:=base) (L2.Ze (st:=J4) l_ask_table c_ask_table k_ask_table) T C_MOST_ROWS G_is_element,bnd1 (L2.Ze (st:=J4) l_ask_table c_ask_table k_ask_table) fun _ _ _ _ _ _ _=>rfl⟩⟩
 have G_find_three:Cal l.prog w K mg base 1 "find_three" (rk K .k) Zaj:=⟨⟨f_find_three,_,["table"],PySem.W.mg_of X G a_find_three,k_find_three,ZhA (P:=l.prog) (w:=w) (base:=base) (L2.Ze (st:=YS) l_find_three c_find_three k_find_three) T,bnd1 (L2.Ze (st:=YS) l_find_three c_find_three k_find_three) fun _ _ _ _ _ _ _=>rfl⟩⟩
 have G_find_rest:Cal l.prog w K mg base 1 "find_rest" (rk K .k) Zn:=⟨⟨f_find_rest,_,["table"],PySem.W.mg_of X G a_find_rest,k_find_rest,ZhU (P:=l.prog) (w:=w) (base:=base) (L2.Ze (st:=J2) l_find_rest c_find_rest k_find_rest) T,bnd1 (L2.Ze (st:=J2) l_find_rest c_find_rest k_find_rest) fun _ _ _ _ _ _ _=>rfl⟩⟩
 have G_find_back:Cal l.prog w K mg base 1 "find_back" (rk K .k) Zay:=⟨⟨f_find_back,_,["table","still","element"],PySem.W.mg_of X G a_find_back,k_find_back,ZhL (P:=l.prog) (w:=w) (base:=base) (L2.Ze (st:=Z5) l_find_back c_find_back k_find_back) T,bnd3 (L2.Ze (st:=Z5) l_find_back c_find_back k_find_back) fun _ _ _ _ _ _ _ _ _=>rfl⟩⟩
 have G_find_flaw:Cal l.prog w K mg base 2 "find_flaw" (rk K .k) ZX:=⟨⟨f_find_flaw,_,["table"],PySem.W.mg_of X G a_find_flaw,k_find_flaw,Ziz (P:=l.prog) (w:=w) (base:=base) (L2.Ze (st:=J3) l_find_flaw c_find_flaw k_find_flaw) T G_find_three G_find_rest G_find_back,bnd1 (L2.Ze (st:=J3) l_find_flaw c_find_flaw k_find_flaw) fun _ _ _ _ _ _ _=>rfl⟩⟩
 have G_flaw:Cal l.prog w K mg base 3 "flaw" (rk K .k) ZeC:=⟨⟨f_flaw,_,["table"],PySem.W.mg_of X G a_flaw,k_flaw,Zna (P:=l.prog) (w:=w) (base:=base) (L2.Ze (st:=ZbK) l_flaw c_flaw k_flaw) T G_ask_table G_find_flaw,bnd1 (L2.Ze (st:=ZbK) l_flaw c_flaw k_flaw) fun _ _ _ _ _ _ _=>rfl⟩⟩
 have G_ask_folk:Cal l.prog w K mg base 3 "ask_folk" (rk K .k) Ym:=⟨⟨f_ask_folk,_,["table"],PySem.W.mg_of X G a_ask_folk,k_ask_folk,ZiY (P:=l.prog) (w:=w) (base:=base) (L2.Ze (st:=Y9) l_ask_folk c_ask_folk k_ask_folk) T G_ask_table G_find_flaw,bnd1 (L2.Ze (st:=Y9) l_ask_folk c_ask_folk k_ask_folk) fun _ _ _ _ _ _ _=>rfl⟩⟩
 have G_rest:Cal l.prog w K mg base 4 "rest" (rk K .k) Zb6:=⟨⟨f_rest,_,["table"],PySem.W.mg_of X G a_rest,k_rest,Zoa (P:=l.prog) (w:=w) (base:=base) (L2.Ze (st:=ZbP) l_rest c_rest k_rest) T G_ask_folk G_find_rest,bnd1 (L2.Ze (st:=ZbP) l_rest c_rest k_rest) fun _ _ _ _ _ _ _=>rfl⟩⟩
 have G_with_all_made:Cal l.prog w K mg base 1 "with_all_made" rN YQ:=⟨⟨f_with_all_made,_,["table","inside"],PySem.W.mg_of X G a_with_all_made,k_with_all_made,ZfR (P:=l.prog) (w:=w) (base:=base) (L2.Ze (st:=Yz) l_with_all_made c_with_all_made k_with_all_made) T,bnd2 (L2.Ze (st:=Yz) l_with_all_made c_with_all_made k_with_all_made) fun _ _ _ _ _ _ _ _=>rfl⟩⟩
 have G_least_part:Cal l.prog w K mg base 2 "least_part" rN ZQ:=⟨⟨f_least_part,_,["table","some"],PySem.W.mg_of X G a_least_part,k_least_part,ZhB (P:=l.prog) (w:=w) (base:=base) (L2.Ze (st:=ZS) l_least_part c_least_part k_least_part) T G_with_all_made G_find_rest,bnd2 (L2.Ze (st:=ZS) l_least_part c_least_part k_least_part) fun _ _ _ _ _ _ _ _=>rfl⟩⟩
 have G_fewest_first:Cal l.prog w K mg base 1 "fewest_first" (rk K .k) ZC:=⟨⟨f_fewest_first,_,["part"],PySem.W.mg_of X G a_fewest_first,k_fewest_first,Zga (P:=l.prog) (w:=w) (base:=base) (L2.Ze (st:=JF) l_fewest_first c_fewest_first k_fewest_first) T,bnd1 (L2.Ze (st:=JF) l_fewest_first c_fewest_first k_fewest_first) fun _ _ _ _ _ _ _=>rfl⟩⟩
 have G_parts:Cal l.prog w K mg base 4 "parts" rN Zdz:=⟨⟨f_parts,_,["table"],PySem.W.mg_of X G a_parts,k_parts,ZmD (P:=l.prog) (w:=w) (base:=base) (L2.Ze (st:=Zbc) l_parts c_parts k_parts) T G_ask_folk G_least_part G_fewest_first,bnd1 (L2.Ze (st:=Zbc) l_parts c_parts k_parts) fun _ _ _ _ _ _ _=>rfl⟩⟩
 have G_ask_part:Cal l.prog w K mg base 3 "ask_part" (rk K .k) ZW:=⟨⟨f_ask_part,_,["table","part"],PySem.W.mg_of X G a_ask_part,k_ask_part,ZiW (P:=l.prog) (w:=w) (base:=base) (L2.Ze (st:=Zac) l_ask_part c_ask_part k_ask_part) T G_least_part G_is_element,bnd2 (L2.Ze (st:=Zac) l_ask_part c_ask_part k_ask_part) fun _ _ _ _ _ _ _ _=>rfl⟩⟩
 have G_share_ahead:Cal l.prog w K mg base 1 "share_ahead" rN ZJ:=⟨⟨f_share_ahead,_,["table","part","element"],PySem.W.mg_of X G a_share_ahead,k_share_ahead,Zg0 (P:=l.prog) (w:=w) (base:=base) (L2.Ze (st:=ZL) l_share_ahead c_share_ahead k_share_ahead) T,bnd3 (L2.Ze (st:=ZL) l_share_ahead c_share_ahead k_share_ahead) fun _ _ _ _ _ _ _ _ _=>rfl⟩⟩
 have G_all_shares:Cal l.prog w K mg base 2 "all_shares" rN Y4:=⟨⟨f_all_shares,_,["table","part"],PySem.W.mg_of X G a_all_shares,k_all_shares,ZhD (P:=l.prog) (w:=w) (base:=base) (L2.Ze (st:=ZR) l_all_shares c_all_shares k_all_shares) T G_share_ahead,bnd2 (L2.Ze (st:=ZR) l_all_shares c_all_shares k_all_shares) fun _ _ _ _ _ _ _ _=>rfl⟩⟩
 have G_shares:Cal l.prog w K mg base 4 "shares" rN ZcE:=⟨⟨f_shares,_,["table","part"],PySem.W.mg_of X G a_shares,k_shares,ZkX (P:=l.prog) (w:=w) (base:=base) (L2.Ze (st:=ZaC) l_shares c_shares k_shares) T G_ask_folk G_ask_part G_all_shares,bnd2 (L2.Ze (st:=ZaC) l_shares c_shares k_shares) fun _ _ _ _ _ _ _ _=>rfl⟩⟩
 have G_share_behind:Cal l.prog w K mg base 1 "share_behind" rN YX:=⟨⟨f_share_behind,_,["table","part","element"],PySem.W.mg_of X G a_share_behind,k_share_behind,Zgd (P:=l.prog) (w:=w) (base:=base) (L2.Ze (st:=YH) l_share_behind c_share_behind k_share_behind) T,bnd3 (L2.Ze (st:=YH) l_share_behind c_share_behind k_share_behind) fun _ _ _ _ _ _ _ _ _=>rfl⟩⟩
 have G_same_on_both_sides:Cal l.prog w K mg base 2 "same_on_both_sides" (rk K .k) Yu:=⟨⟨f_same_on_both_sides,_,["table","part"],PySem.W.mg_of X G a_same_on_both_sides,k_same_on_both_sides,Zdj (P:=l.prog) (w:=w) (base:=base) (L2.Ze (st:=Zu) l_same_on_both_sides c_same_on_both_sides k_same_on_both_sides) T G_share_ahead G_share_behind,bnd2 (L2.Ze (st:=Zu) l_same_on_both_sides c_same_on_both_sides k_same_on_both_sides) fun _ _ _ _ _ _ _ _=>rfl⟩⟩
 have G_is_loose:Cal l.prog w K mg base 4 "is_loose" (rk K .k) ZaQ:=⟨⟨f_is_loose,_,["table","part"],PySem.W.mg_of X G a_is_loose,k_is_loose,ZiV (P:=l.prog) (w:=w) (base:=base) (L2.Ze (st:=Zad) l_is_loose c_is_loose k_is_loose) T G_ask_folk G_ask_part G_same_on_both_sides,bnd2 (L2.Ze (st:=Zad) l_is_loose c_is_loose k_is_loose) fun _ _ _ _ _ _ _ _=>rfl⟩⟩
 have G_table_of_shares:Cal l.prog w K mg base 1 "table_of_shares" (rk K .k) JV:=⟨⟨f_table_of_shares,_,["table","found"],PySem.W.mg_of X G a_table_of_shares,k_table_of_shares,ZeA (P:=l.prog) (w:=w) (base:=base) (L2.Ze (st:=Jw) l_table_of_shares c_table_of_shares k_table_of_shares) T,bnd2 (L2.Ze (st:=Jw) l_table_of_shares c_table_of_shares k_table_of_shares) fun _ _ _ _ _ _ _ _=>rfl⟩⟩
 have G_taken_out:Cal l.prog w K mg base 4 "taken_out" (rk K .k) JM:=⟨⟨f_taken_out,_,["table","part"],PySem.W.mg_of X G a_taken_out,k_taken_out,Zh8 (P:=l.prog) (w:=w) (base:=base) (L2.Ze (st:=J5) l_taken_out c_taken_out k_taken_out) T G_ask_folk G_ask_part G_all_shares G_table_of_shares G_same_on_both_sides,bnd2 (L2.Ze (st:=J5) l_taken_out c_taken_out k_taken_out) fun _ _ _ _ _ _ _ _=>rfl⟩⟩
 have G_makes_the_same_behind:Cal l.prog w K mg base 1 "makes_the_same_behind" (rk K .k) Zy:=⟨⟨f_makes_the_same_behind,_,["table","element"],PySem.W.mg_of X G a_makes_the_same_behind,k_makes_the_same_behind,Zcw (P:=l.prog) (w:=w) (base:=base) (L2.Ze (st:=Zo) l_makes_the_same_behind c_makes_the_same_behind k_makes_the_same_behind) T,bnd2 (L2.Ze (st:=Zo) l_makes_the_same_behind c_makes_the_same_behind k_makes_the_same_behind) fun _ _ _ _ _ _ _ _=>rfl⟩⟩
 have G_middle:Cal l.prog w K mg base 4 "middle" rN ZbT:=⟨⟨f_middle,_,["table"],PySem.W.mg_of X G a_middle,k_middle,ZkD (P:=l.prog) (w:=w) (base:=base) (L2.Ze (st:=ZaE) l_middle c_middle k_middle) T G_ask_folk G_makes_the_same_behind,bnd1 (L2.Ze (st:=ZaE) l_middle c_middle k_middle) fun _ _ _ _ _ _ _=>rfl⟩⟩
 have G_least_without_name:Cal l.prog w K mg base 1 "least_without_name" (rk K .k) JG:=⟨⟨f_least_without_name,_,["names"],PySem.W.mg_of X G a_least_without_name,k_least_without_name,Zdd (P:=l.prog) (w:=w) (base:=base) (L2.Ze (st:=Yt) l_least_without_name c_least_without_name k_least_without_name) T,bnd1 (L2.Ze (st:=Yt) l_least_without_name c_least_without_name k_least_without_name) fun _ _ _ _ _ _ _=>rfl⟩⟩
 have G_with_all_named:Cal l.prog w K mg base 1 "with_all_named" (rk K .k) YL:=⟨⟨f_with_all_named,_,["one","other","names"],PySem.W.mg_of X G a_with_all_named,k_with_all_named,Zfa (P:=l.prog) (w:=w) (base:=base) (L2.Ze (st:=Jy) l_with_all_named c_with_all_named k_with_all_named) T,bnd3 (L2.Ze (st:=Jy) l_with_all_named c_with_all_named k_with_all_named) fun _ _ _ _ _ _ _ _ _=>rfl⟩⟩
 have G_with_name:Cal l.prog w K mg base 2 "with_name" (rk K .k) ZaB:=⟨⟨f_with_name,_,["one","other","names","element","name"],PySem.W.mg_of X G a_with_name,k_with_name,Zh7 (P:=l.prog) (w:=w) (base:=base) (L2.Ze (st:=Z2) l_with_name c_with_name k_with_name) T G_with_all_named,bnd5 (L2.Ze (st:=Z2) l_with_name c_with_name k_with_name) fun _ _ _ _ _ _ _ _ _ _ _=>rfl⟩⟩
 have G_find_renaming:Cal l.prog w K mg base 15 "find_renaming" rN ZbD:=by
  have all:∀ n:Nat,Cal l.prog w K mg base (2 + n) "find_renaming" rN (Yw n):=by
   intro n
   induction n with
   | zero=>exact ⟨⟨f_find_renaming,_,["one","other","names"],PySem.W.mg_of X G a_find_renaming,k_find_renaming,⟨fun _ _ _ _ h=>(by obtain ⟨_,_,_,_,_,e,_⟩:=h;cases e),fun _ _ _ _ _ _ _ _ _ _ _ _ _ h=>(by obtain ⟨_,_,_,_,_,e,_⟩:=h;cases e)⟩,bnd3 (L2.Ze (st:=Zx) l_find_renaming c_find_renaming k_find_renaming) fun _ _ _ _ _ _ _ _ _=>rfl⟩⟩
   | succ n ih=>exact ⟨⟨f_find_renaming,_,["one","other","names"],PySem.W.mg_of X G a_find_renaming,k_find_renaming,Zfy (P:=l.prog) (w:=w) (base:=base) (L2.Ze (st:=Zx) l_find_renaming c_find_renaming k_find_renaming) T G_least_without_name G_with_name n ih,bnd3 (L2.Ze (st:=Zx) l_find_renaming c_find_renaming k_find_renaming) fun _ _ _ _ _ _ _ _ _=>rfl⟩⟩
  exact all 13
 have G_renaming:Cal l.prog w K mg base 16 "renaming" rN ZbG:=⟨⟨f_renaming,_,["one","other"],PySem.W.mg_of X G a_renaming,k_renaming,Zjd (P:=l.prog) (w:=w) (base:=base) (L2.Ze (st:=Zab) l_renaming c_renaming k_renaming) T G_ask_folk G_find_renaming G_find_rest,bnd2 (L2.Ze (st:=Zab) l_renaming c_renaming k_renaming) fun _ _ _ _ _ _ _ _=>rfl⟩⟩
 have G_law_cell_at:Cal l.prog w K mg base 1 "_law_cell_at" (rk K .k) Zm:=⟨⟨f_law_cell_at,_,["script","k"],PySem.W.mg_of X G a_law_cell_at,k_law_cell_at,Zg4 (P:=l.prog) (w:=w) (base:=base) (L2.Ze (st:=YK) l_law_cell_at c_law_cell_at k_law_cell_at) T,bnd2 (L2.Ze (st:=YK) l_law_cell_at c_law_cell_at k_law_cell_at) fun _ _ _ _ _ _ _ _=>rfl⟩⟩
 have G_law_draw:Cal l.prog w K mg base 1 "_law_draw" (rk K .k) Z8:=⟨⟨f_law_draw,_,["cell","k","bound"],PySem.W.mg_of X G a_law_draw,k_law_draw,Zjc (P:=l.prog) (w:=w) (base:=base) (L2.Ze (st:=J8) l_law_draw c_law_draw k_law_draw) T,bnd3 (L2.Ze (st:=J8) l_law_draw c_law_draw k_law_draw) fun _ _ _ _ _ _ _ _ _=>rfl⟩⟩
 have G_law_cycles:Cal l.prog w K mg base 1 "_law_cycles" (rk K .k) Zbt:=⟨⟨f_law_cycles,_,["dims"],PySem.W.mg_of X G a_law_cycles,k_law_cycles,Zhz (P:=l.prog) (w:=w) (base:=base) (L2.Ze (st:=JR) l_law_cycles c_law_cycles k_law_cycles) T,bnd1 (L2.Ze (st:=JR) l_law_cycles c_law_cycles k_law_cycles) fun _ _ _ _ _ _ _=>rfl⟩⟩
 have G_law_twisted:Cal l.prog w K mg base 1 "_law_twisted" (rk K .k) Za8:=⟨⟨f_law_twisted,_,["many","extra"],PySem.W.mg_of X G a_law_twisted,k_law_twisted,ZgS (P:=l.prog) (w:=w) (base:=base) (L2.Ze (st:=JL) l_law_twisted c_law_twisted k_law_twisted) T,bnd2 (L2.Ze (st:=JL) l_law_twisted c_law_twisted k_law_twisted) fun _ _ _ _ _ _ _ _=>rfl⟩⟩
 have G_law_even:Cal l.prog w K mg base 1 "_law_even" (rk K .k) Zcn:=⟨⟨f_law_even,_,[],PySem.W.mg_of X G a_law_even,k_law_even,Zi7 (P:=l.prog) (w:=w) (base:=base) (L2.Ze (st:=Z9) l_law_even c_law_even k_law_even) T,(L2.Ze (st:=Z9) l_law_even c_law_even k_law_even).binds fun _ _ _ _ _ _ us hl=>match us,hl with | [],_=>rfl⟩⟩
 have G_law_base:Cal l.prog w K mg base 2 "_law_base" (rk K .k) ZP:=⟨⟨f_law_base,_,["kind"],PySem.W.mg_of X G a_law_base,k_law_base,ZiX (P:=l.prog) (w:=w) (base:=base) (L2.Ze (st:=Zaa) l_law_base c_law_base k_law_base) T G_law_even G_law_cycles G_law_twisted,bnd1 (L2.Ze (st:=Zaa) l_law_base c_law_base k_law_base) fun _ _ _ _ _ _ _=>rfl⟩⟩
 have G_law_renamed:Cal l.prog w K mg base 2 "_law_renamed" (rT K) Zat:=⟨⟨f_law_renamed,_,["base","cell"],PySem.W.mg_of X G a_law_renamed,k_law_renamed,Zg7 (P:=l.prog) (w:=w) (base:=base) (L2.Ze (st:=ZM) l_law_renamed c_law_renamed k_law_renamed) T G_law_draw,bnd2 (L2.Ze (st:=ZM) l_law_renamed c_law_renamed k_law_renamed) fun _ _ _ _ _ _ _ _=>rfl⟩⟩
 have G_law_folk_by:Cal l.prog w K mg base 3 "_law_folk_by" (rT K) Y6:=⟨⟨f_law_folk_by,_,["script","first"],PySem.W.mg_of X G a_law_folk_by,k_law_folk_by,ZgU (P:=l.prog) (w:=w) (base:=base) (L2.Ze (st:=JK) l_law_folk_by c_law_folk_by k_law_folk_by) T G_law_renamed G_law_base G_law_cell_at,bnd2 (L2.Ze (st:=JK) l_law_folk_by c_law_folk_by k_law_folk_by) fun _ _ _ _ _ _ _ _=>rfl⟩⟩
 have G_law_place:Cal l.prog w K mg base 1 "_law_place" (rk K .k) J9:=⟨⟨f_law_place,_,["known","element"],PySem.W.mg_of X G a_law_place,k_law_place,ZhQ (P:=l.prog) (w:=w) (base:=base) (L2.Ze (st:=Z1) l_law_place c_law_place k_law_place) T,bnd2 (L2.Ze (st:=Z1) l_law_place c_law_place k_law_place) fun _ _ _ _ _ _ _ _=>rfl⟩⟩
 have G_law_right:Cal l.prog w K mg base 5 "_law_right" (rk K .k) Za4:=⟨⟨f_law_right,_,["table","part","a","b"],PySem.W.mg_of X G a_law_right,k_law_right,Zik (P:=l.prog) (w:=w) (base:=base) (L2.Ze (st:=Z4) l_law_right c_law_right k_law_right) T G_taken_out G_shares G_law_place G_flaw G_rest,bnd4 (L2.Ze (st:=Z4) l_law_right c_law_right k_law_right) fun _ _ _ _ _ _ _ _ _ _=>rfl⟩⟩
 exact ZoI (P:=l.prog) (w:=w) (base:=base) (L2.Ze (st:=Zbw) l_law c_law k_law) T G_law_folk_by G_parts G_law_cell_at G_is_loose G_taken_out G_renaming G_middle G_law_right G_rest
theorem walk {l:PySem.W.OpenLaw}{q:Program}{loose:List Str}{XP:(Str→Option Value)→Heap→Prop}{YP:World→Heap→Prop}{d:DefRec}{K:Params→PySem.W.Frag}(hn:l.most=some 63)(hdf:d.params.defaults=[])
  (hY:∀ (w:World) (h:Heap),YP w h→(K w.params).In h)
  (F:∀ (w:World) (mg:Str→Option Value) (fa:Addr) (h:Heap),(K w.params).In h→h.Ns mainGlobals mg→mg d.name=some (.ref fa) →
   ∃ fd:FuncData,(∀ (s:Shared) (u:Value),BindsTo s fd ⟨[u],[]⟩ [("script",u)])∧∀ base:Heap,(K w.params).In base→base.Ns mainGlobals mg→L2.FnOk l.prog w (K w.params) mg base L2.CX0 17 fa fd ["script"] (spR (K w.params) (rk (K w.params) .k) ZgE)) :
  PySem.W.WalkO q loose XP YP l.row.toRowW d [] (fun f vs=>PySem.call f vs) :=
 L2.ZnU (n:=63) (k:=17) (x:="script") (CX:=fun _=>L2.CX0) (sp:=fun w=>spR (K w.params) (rk (K w.params) .k) ZgE) hn (by decide) hdf ⟨rfl,by decide,by decide⟩ hY F (fun _ _ a ns hl _ hS=>ZlJ (ZpH ns) hS) fun _ _ _ _ _ z=>z
end PV
set_option maxHeartbeats 0 in
theorem PySem.Challenge.cw_tablefolk_k09_whole_what_is_left_holds : PySem.Challenge.rw_tablefolk_k09_whole_what_is_left.Holds := by
  w_on; o_law; k_head; (case hw => w_witness2)
  k_fill
  refine PV.walk (l := PySem.Challenge.rw_tablefolk_k09_whole_what_is_left) rfl rfl (fun w h Y => PySem.W.kIn_of Y) ?F
  case F =>
    intro w mg fa h KX G hmg
    refine' PV.all_mk KX G hmg ?a_is_element ?l_is_element ?c_is_element ?k_is_element ?a_ask_table ?l_ask_table ?c_ask_table ?k_ask_table ?a_find_three ?l_find_three ?c_find_three ?k_find_three ?a_find_rest ?l_find_rest ?c_find_rest ?k_find_rest ?a_find_back ?l_find_back ?c_find_back ?k_find_back ?a_find_flaw ?l_find_flaw ?c_find_flaw ?k_find_flaw ?a_flaw ?l_flaw ?c_flaw ?k_flaw ?a_ask_folk ?l_ask_folk ?c_ask_folk ?k_ask_folk ?a_rest ?l_rest ?c_rest ?k_rest ?a_with_all_made ?l_with_all_made ?c_with_all_made ?k_with_all_made ?a_least_part ?l_least_part ?c_least_part ?k_least_part ?a_fewest_first ?l_fewest_first ?c_fewest_first ?k_fewest_first ?a_parts ?l_parts ?c_parts ?k_parts ?a_ask_part ?l_ask_part ?c_ask_part ?k_ask_part ?a_share_ahead ?l_share_ahead ?c_share_ahead ?k_share_ahead ?a_all_shares ?l_all_shares ?c_all_shares ?k_all_shares ?a_shares ?l_shares ?c_shares ?k_shares ?a_share_behind ?l_share_behind ?c_share_behind ?k_share_behind ?a_same_on_both_sides ?l_same_on_both_sides ?c_same_on_both_sides ?k_same_on_both_sides ?a_is_loose ?l_is_loose ?c_is_loose ?k_is_loose ?a_table_of_shares ?l_table_of_shares ?c_table_of_shares ?k_table_of_shares ?a_taken_out ?l_taken_out ?c_taken_out ?k_taken_out ?a_makes_the_same_behind ?l_makes_the_same_behind ?c_makes_the_same_behind ?k_makes_the_same_behind ?a_middle ?l_middle ?c_middle ?k_middle ?a_least_without_name ?l_least_without_name ?c_least_without_name ?k_least_without_name ?a_with_all_named ?l_with_all_named ?c_with_all_named ?k_with_all_named ?a_with_name ?l_with_name ?c_with_name ?k_with_name ?a_find_renaming ?l_find_renaming ?c_find_renaming ?k_find_renaming ?a_renaming ?l_renaming ?c_renaming ?k_renaming ?a_law_cell_at ?l_law_cell_at ?c_law_cell_at ?k_law_cell_at ?a_law_draw ?l_law_draw ?c_law_draw ?k_law_draw ?a_law_cycles ?l_law_cycles ?c_law_cycles ?k_law_cycles ?a_law_twisted ?l_law_twisted ?c_law_twisted ?k_law_twisted ?a_law_even ?l_law_even ?c_law_even ?k_law_even ?a_law_base ?l_law_base ?c_law_base ?k_law_base ?a_law_renamed ?l_law_renamed ?c_law_renamed ?k_law_renamed ?a_law_folk_by ?l_law_folk_by ?c_law_folk_by ?k_law_folk_by ?a_law_place ?l_law_place ?c_law_place ?k_law_place ?a_law_right ?l_law_right ?c_law_right ?k_law_right ?a_law ?l_law ?c_law ?k_law ?z_len ?z_range ?z_list ?z_all ?z_isinstance ?z_max ?z_int ?z_bool ?z_str ?z_tuple ?z_sorted ?z_set ?z_any ?z_enumerate ?z_dict ?v_MOST_ROWS
    (case a_is_element => k_is)
    (case l_is_element => k_is)
    (case c_is_element => k_is)
    (case k_is_element => k_is)
    (case a_ask_table => k_is)
    (case l_ask_table => k_is)
    (case c_ask_table => k_is)
    (case k_ask_table => k_is)
    (case a_find_three => k_is)
    (case l_find_three => k_is)
    (case c_find_three => k_is)
    (case k_find_three => k_is)
    (case a_find_rest => k_is)
    (case l_find_rest => k_is)
    (case c_find_rest => k_is)
    (case k_find_rest => k_is)
    (case a_find_back => k_is)
    (case l_find_back => k_is)
    (case c_find_back => k_is)
    (case k_find_back => k_is)
    (case a_find_flaw => k_is)
    (case l_find_flaw => k_is)
    (case c_find_flaw => k_is)
    (case k_find_flaw => k_is)
    (case a_flaw => k_is)
    (case l_flaw => k_is)
    (case c_flaw => k_is)
    (case k_flaw => k_is)
    (case a_ask_folk => k_is)
    (case l_ask_folk => k_is)
    (case c_ask_folk => k_is)
    (case k_ask_folk => k_is)
    (case a_rest => k_is)
    (case l_rest => k_is)
    (case c_rest => k_is)
    (case k_rest => k_is)
    (case a_with_all_made => k_is)
    (case l_with_all_made => k_is)
    (case c_with_all_made => k_is)
    (case k_with_all_made => k_is)
    (case a_least_part => k_is)
    (case l_least_part => k_is)
    (case c_least_part => k_is)
    (case k_least_part => k_is)
    (case a_fewest_first => k_is)
    (case l_fewest_first => k_is)
    (case c_fewest_first => k_is)
    (case k_fewest_first => k_is)
    (case a_parts => k_is)
    (case l_parts => k_is)
    (case c_parts => k_is)
    (case k_parts => k_is)
    (case a_ask_part => k_is)
    (case l_ask_part => k_is)
    (case c_ask_part => k_is)
    (case k_ask_part => k_is)
    (case a_share_ahead => k_is)
    (case l_share_ahead => k_is)
    (case c_share_ahead => k_is)
    (case k_share_ahead => k_is)
    (case a_all_shares => k_is)
    (case l_all_shares => k_is)
    (case c_all_shares => k_is)
    (case k_all_shares => k_is)
    (case a_shares => k_is)
    (case l_shares => k_is)
    (case c_shares => k_is)
    (case k_shares => k_is)
    (case a_share_behind => k_is)
    (case l_share_behind => k_is)
    (case c_share_behind => k_is)
    (case k_share_behind => k_is)
    (case a_same_on_both_sides => k_is)
    (case l_same_on_both_sides => k_is)
    (case c_same_on_both_sides => k_is)
    (case k_same_on_both_sides => k_is)
    (case a_is_loose => k_is)
    (case l_is_loose => k_is)
    (case c_is_loose => k_is)
    (case k_is_loose => k_is)
    (case a_table_of_shares => k_is)
    (case l_table_of_shares => k_is)
    (case c_table_of_shares => k_is)
    (case k_table_of_shares => k_is)
    (case a_taken_out => k_is)
    (case l_taken_out => k_is)
    (case c_taken_out => k_is)
    (case k_taken_out => k_is)
    (case a_makes_the_same_behind => k_is)
    (case l_makes_the_same_behind => k_is)
    (case c_makes_the_same_behind => k_is)
    (case k_makes_the_same_behind => k_is)
    (case a_middle => k_is)
    (case l_middle => k_is)
    (case c_middle => k_is)
    (case k_middle => k_is)
    (case a_least_without_name => k_is)
    (case l_least_without_name => k_is)
    (case c_least_without_name => k_is)
    (case k_least_without_name => k_is)
    (case a_with_all_named => k_is)
    (case l_with_all_named => k_is)
    (case c_with_all_named => k_is)
    (case k_with_all_named => k_is)
    (case a_with_name => k_is)
    (case l_with_name => k_is)
    (case c_with_name => k_is)
    (case k_with_name => k_is)
    (case a_find_renaming => k_is)
    (case l_find_renaming => k_is)
    (case c_find_renaming => k_is)
    (case k_find_renaming => k_is)
    (case a_renaming => k_is)
    (case l_renaming => k_is)
    (case c_renaming => k_is)
    (case k_renaming => k_is)
    (case a_law_cell_at => k_is)
    (case l_law_cell_at => k_is)
    (case c_law_cell_at => k_is)
    (case k_law_cell_at => k_is)
    (case a_law_draw => k_is)
    (case l_law_draw => k_is)
    (case c_law_draw => k_is)
    (case k_law_draw => k_is)
    (case a_law_cycles => k_is)
    (case l_law_cycles => k_is)
    (case c_law_cycles => k_is)
    (case k_law_cycles => k_is)
    (case a_law_twisted => k_is)
    (case l_law_twisted => k_is)
    (case c_law_twisted => k_is)
    (case k_law_twisted => k_is)
    (case a_law_even => k_is)
    (case l_law_even => k_is)
    (case c_law_even => k_is)
    (case k_law_even => k_is)
    (case a_law_base => k_is)
    (case l_law_base => k_is)
    (case c_law_base => k_is)
    (case k_law_base => k_is)
    (case a_law_renamed => k_is)
    (case l_law_renamed => k_is)
    (case c_law_renamed => k_is)
    (case k_law_renamed => k_is)
    (case a_law_folk_by => k_is)
    (case l_law_folk_by => k_is)
    (case c_law_folk_by => k_is)
    (case k_law_folk_by => k_is)
    (case a_law_place => k_is)
    (case l_law_place => k_is)
    (case c_law_place => k_is)
    (case k_law_place => k_is)
    (case a_law_right => k_is)
    (case l_law_right => k_is)
    (case c_law_right => k_is)
    (case k_law_right => k_is)
    (case a_law => k_is)
    (case l_law => k_is)
    (case c_law => k_is)
    (case k_law => k_is)
    (case z_len => k_is)
    (case z_range => k_is)
    (case z_list => k_is)
    (case z_all => k_is)
    (case z_isinstance => k_is)
    (case z_max => k_is)
    (case z_int => k_is)
    (case z_bool => k_is)
    (case z_str => k_is)
    (case z_tuple => k_is)
    (case z_sorted => k_is)
    (case z_set => k_is)
    (case z_any => k_is)
    (case z_enumerate => k_is)
    (case z_dict => k_is)
    (case v_MOST_ROWS => k_is)
