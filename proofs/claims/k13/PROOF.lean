import PyProof.Rows.All
import Wide.All
import OpenK.AllK
import Wide.FinOn
import Lean
import PyProof.EqAt
import PyProof.EqKinds
import PyProof.TupleCall
import PySem.Str
import PyProof.NeKinds
import PyProof.SetKind
import PyProof.DictStraight
import PyProof.Rows.TupIn
import PyProof.CollectIter
import PyProof.FactsAll.set
import PyProof.SetNew
import PyProof.Rows.SortShell
import PyProof.Rows.SetFrom
import KE.KSortAsk
import PyProof.StrLawsTight
import PyProof.StrCalls2
import PySem.Challenge.RW_tablefolk_k13_texts
set_option Elab.async false
set_option linter.all false
set_option maxRecDepth 100000
namespace L2
open PySem PySem.Spec PyProof.Rows
abbrev Key := Sum Int Str
def keyIs : Key → Value → Bool
  | .inl k, v => Value.isInt k v
  | .inr x, v => Value.isStrOf x v
def keyH (w : World) : Key → Int
  | .inl k => hashInt k
  | .inr x => hashStr w x
theorem keyIs_shape : ∀ {k : Key} {v : Value}, keyIs k v = true → (∃ i t, k = Sum.inl i ∧ v = Value.int i t) ∨ (∃ x t, k = Sum.inr x ∧ v = Value.str x t)
  | .inl i, v, h => by
    obtain ⟨t, e⟩ := Value.isInt_shape (k := i) (v := v) h
    exact .inl ⟨i, t, rfl, e⟩
  | .inr x, v, h => by
    obtain ⟨t, e⟩ := Value.isStrOf_shape (x := x) (v := v) h
    exact .inr ⟨x, t, rfl, e⟩
theorem key_ll (a b : Int) : decide ((Sum.inl a : Key) = Sum.inl b) = (a == b) := by
  by_cases e : a = b
  · subst e; simp
  · have h : ¬ (Sum.inl a : Key) = Sum.inl b := fun q => e (Sum.inl.inj q)
    rw [decide_eq_false h]
    exact (beq_eq_false_iff_ne.mpr e).symm
theorem key_rr (a b : Str) : decide ((Sum.inr a : Key) = Sum.inr b) = decide (a = b) := by
  by_cases e : a = b
  · subst e; simp
  · have h : ¬ (Sum.inr a : Key) = Sum.inr b := fun q => e (Sum.inr.inj q)
    rw [decide_eq_false h, decide_eq_false e]
theorem key_lr (a : Int) (b : Str) : decide ((Sum.inl a : Key) = Sum.inr b) = false := decide_eq_false (fun q => nomatch q)
theorem key_rl (a : Str) (b : Int) : decide ((Sum.inr a : Key) = Sum.inl b) = false := decide_eq_false (fun q => nomatch q)
def mixKind (prog : Program) (w : World) : PySem.KeyKind prog w Key where
  is := keyIs
  hash := keyH w
  inj := fun v a b ha hb => by
    rcases keyIs_shape ha with ⟨i, t, rfl, rfl⟩ | ⟨x, t, rfl, rfl⟩
    · rcases keyIs_shape hb with ⟨j, u, rfl, e⟩ | ⟨y, u, rfl, e⟩
      · injection e with e1 _; rw [e1]
      · exact nomatch e
    · rcases keyIs_shape hb with ⟨j, u, rfl, e⟩ | ⟨y, u, rfl, e⟩
      · exact nomatch e
      · injection e with e1 _; rw [e1]
  byValue := fun k v h => by
    rcases keyIs_shape h with ⟨i, t, rfl, rfl⟩ | ⟨x, t, rfl, rfl⟩ <;> rfl
  pyHash := fun hv h => by
    rcases keyIs_shape hv with ⟨i, t, rfl, rfl⟩ | ⟨x, t, rfl, rfl⟩
    · exact wpAny_pyHash_int h
    · exact wpAny_pyHash_str h
  eqBool := fun hu hv h => by
    rcases keyIs_shape hu with ⟨i, t, rfl, rfl⟩ | ⟨x, t, rfl, rfl⟩
    · rcases keyIs_shape hv with ⟨j, u, rfl, rfl⟩ | ⟨y, u, rfl, rfl⟩
      · rw [key_ll] at h; exact wpAny_eqBool_int h
      · rw [key_lr] at h; exact SeqAt.EqAt.int_str i t y u _ _ _ _ h
    · rcases keyIs_shape hv with ⟨j, u, rfl, rfl⟩ | ⟨y, u, rfl, rfl⟩
      · rw [key_rl] at h; exact SeqAt.EqAt.str_int x t j u _ _ _ _ h
      · rw [key_rr] at h; exact wpAny_eqBool_str h
  «strs» := fun k x t v h => by
    rcases keyIs_shape h with ⟨i, u, rfl, e⟩ | ⟨y, u, rfl, e⟩
    · exact nomatch e
    · injection e with e1 _
      subst e1
      cases v <;> rfl
end L2
namespace L2
open PySem PySem.Spec PyProof.Rows
inductive V where
  | non | bl (b : Bool) | int (i : Int) | str (x : Str) | byt (b : Array UInt8) | flt (b : UInt64) | ref (a : Addr) | ty (n : String)
  deriving DecidableEq
def RelV : V → Value → Prop
  | .non, u => u = Value.none
  | .bl b, u => u = Value.bool b
  | .int i, u => ∃ t, u = Value.int i t
  | .str x, u => ∃ t, u = Value.str x t
  | .byt b, u => ∃ t, u = Value.bytes b t
  | .flt b, u => ∃ t, u = Value.float b t
  | .ref a, u => u = Value.ref a
  | .ty n, u => u = Value.type n
abbrev Vals : List V → List Value → Prop := Paired RelV
theorem Vals.length {xs : List V} {us : List Value} (r : Vals xs us) : xs.length = us.length := Paired.length r
theorem Vals.get : ∀ {xs : List V} {us : List Value} {i : Nat} {x : V}, Vals xs us → xs[i]? = some x → ∃ u, us[i]? = some u ∧ RelV x u
  | _, _, _, _, .nil, e => by simp at e
  | _, _, 0, _, .cons r _, e => by simp at e; subst e; exact ⟨_, rfl, r⟩
  | _, _, i + 1, x, .cons _ t, e => by
    obtain ⟨u, h1, h2⟩ := Vals.get (i := i) (x := x) t (by simpa using e)
    exact ⟨u, by simpa using h1, h2⟩
theorem Vals.set {x : V} {u : Value} (r : RelV x u) : ∀ {xs : List V} {us : List Value} (i : Nat), Vals xs us → Vals (xs.set i x) (us.set i u)
  | _, _, _, .nil => .nil
  | _, _, 0, .cons _ t => .cons r t
  | _, _, i + 1, .cons q t => .cons q (Vals.set r i t)
theorem Vals.append : ∀ {xs ys : List V} {us ws : List Value}, Vals xs us → Vals ys ws → Vals (xs ++ ys) (us ++ ws)
  | _, _, _, _, .nil, s => s
  | _, _, _, _, .cons r t, s => .cons r (Vals.append t s)
theorem Vals.take : ∀ {xs : List V} {us : List Value} (n : Nat), Vals xs us → Vals (xs.take n) (us.take n)
  | _, _, 0, _ => .nil
  | _, _, _ + 1, .nil => .nil
  | _, _, n + 1, .cons r t => .cons r (Vals.take n t)
theorem Vals.drop : ∀ {xs : List V} {us : List Value} (n : Nat), Vals xs us → Vals (xs.drop n) (us.drop n)
  | _, _, 0, r => r
  | _, _, _ + 1, .nil => .nil
  | _, _, n + 1, .cons _ t => Vals.drop n t
def RelO : Option V → Option Value → Prop
  | some v, some u => RelV v u
  | none, none => True
  | _, _ => False
def KV {κ : Type} : List (κ × V) → List (κ × Value) → Prop := Paired fun (p : κ × V) (q : κ × Value) => p.1 = q.1 ∧ RelV p.2 q.2
def kV : Key → V
  | .inl i => .int i
  | .inr x => .str x
inductive HO where
  | lst (xs : List V)
  | tup (xs : List V)
  | dK (kvs : List (Key × V)) | dT (kvs : List (List Key × V))
  | set (S : Int → Bool) (n : Nat)
  | ins (C dx : Addr) (fs : List (Str × V))
  | own (x : Addr)
  | xd (fs : List (Str × V))
  | met (f x : Addr)
  | rng (lo hi : Int)
  | frz (o : Obj) (u : HO)
  | tbl (ps : Array Value)
  | ext (φ : Heap → Prop)
abbrev Hp := Addr → Option HO
def upd (H : Hp) (a : Addr) (o : HO) : Hp := fun b => if b = a then some o else H b
theorem upd_same {H : Hp} {a : Addr} {o : HO} : upd H a o a = some o := by unfold upd; rw [if_pos rfl]
theorem upd_ne {H : Hp} {a b : Addr} {o : HO} (h : b ≠ a) : upd H a o b = H b := by unfold upd; rw [if_neg h]
theorem ne_of_none {H : Hp} {a b : Addr} {o : HO} (h : H a = some o) (h' : H b = none) : a ≠ b := by
  intro e; subst e; rw [h] at h'; cases h'
section
variable (P : Program) (w : World)
def ObjOk (H : Hp) (h : Heap) (a : Addr) : HO → Prop
  | .lst xs => xs.length ≤ sizeLine ∧ ∃ (its : List Value) (n : Nat), Vals xs its ∧ h.get? a = some { cls := .type "list", data := .seq its.toArray n }
  | .tup xs => xs.length ≤ sizeLine ∧ ∃ its : List Value, Vals xs its ∧ IsTup h a its.toArray
  | .dK kvs => kvs.length ≤ sizeLine ∧ (a == sysModules) = false ∧ ∃ vs, KV kvs vs ∧ h.DictOf (mixKind P w) a vs
  | .dT kvs => kvs.length ≤ sizeLine ∧ (a == sysModules) = false ∧ ∃ xs : List (List Key × Addr × Value),
      Paired (fun (p : List Key × V) (q : List Key × Addr × Value) => p.1 = q.1 ∧ H q.2.1 = some (.tup (p.1.map kV)) ∧ RelV p.2 q.2.2) kvs xs ∧
      ∃ o es ep, h.get? a = some o ∧ o.ExactDict ∧ o.data = .dict es ep ∧ es.toList = xs.map (entryOfKey (tupleKind (mixKind P w))) ∧ (xs.map (·.1)).Nodup
  | .set S n => h.SetOf (intKind P w) a S n
  | .ins C dx fs => H dx = some (.own a) ∧ fs.length ≤ 1000 ∧ dx ≠ a ∧ h.get? a = some (PySem.W.instObj C dx) ∧
      ∃ mA, h.Ns1 dx mA ∧ (∀ f, RelO (fs.lookup f) (mA f)) ∧ PySem.Within mA (fs.map (·.1))
  | .own _ => ∃ o, h.get? a = some o
  | .xd fs => ∃ mA, h.Ns1 a mA ∧ ∀ f, RelO (fs.lookup f) (mA f)
  | .rng lo hi => ∃ t u v, h.get? a = some { cls := .type "range", data := .fields #[.int lo t, .int hi u, .int 1 v] }
  | .frz o u => h.get? a = some o ∧ ObjOk H h a u
  | .tbl ps => h.get? a = some { cls := .none, data := .fields ps }
  | .met f x => h.get? a = some (PySem.W.methodObj (.ref f) (.ref x))
  | .ext φ => φ h ∧ (∃ o, h.get? a = some o) ∧ ∀ h1 h2 : Heap, φ h1 → (∀ o, h1.get? a = some o → h2.get? a = some o) → φ h2
def HOk (H : Hp) (h : Heap) : Prop := ∀ a o, H a = some o → ObjOk P w H h a o
end
section
variable {P : Program} {w : World} {H H' : Hp} {h h' : Heap} {a : Addr} {o : HO}
theorem ObjOk.lt (x : ObjOk P w H h a o) : a < h.objs.size := by
  cases o with
  | lst xs => obtain ⟨_, _, _, _, e⟩ := x; exact Heap.lt_size e
  | tup xs => obtain ⟨_, _, _, p⟩ := x; exact p.lt
  | dK kvs => obtain ⟨_, _, _, _, o, _, _, e, _⟩ := x; exact Heap.lt_size e
  | dT kvs => obtain ⟨_, _, _, _, o, _, _, e, _⟩ := x; exact Heap.lt_size e
  | set S n => obtain ⟨o, _, _, _, e, _⟩ := x; exact Heap.lt_size e
  | ins C dx fs => obtain ⟨_, _, _, e, _⟩ := x; exact Heap.lt_size e
  | own y => obtain ⟨_, e⟩ := x; exact Heap.lt_size e
  | xd fs => obtain ⟨_, ⟨_, _, _, e, _⟩, _⟩ := x; exact Heap.lt_size e
  | rng lo hi => obtain ⟨_, _, _, e⟩ := x; exact Heap.lt_size e
  | frz ob u => obtain ⟨e, _⟩ := x; exact Heap.lt_size e
  | tbl ps => exact Heap.lt_size (show h.get? a = some _ from x)
  | met f y => exact Heap.lt_size (show h.get? a = some _ from x)
  | ext φ => obtain ⟨_, ⟨_, e⟩, _⟩ := x; exact Heap.lt_size e
theorem Paired.mapP {α β : Type} {F G : α → β → Prop} : ∀ {l₁ : List α} {l₂ : List β}, Paired F l₁ l₂ → (∀ a b, F a b → G a b) → Paired G l₁ l₂
  | _, _, .nil, _ => .nil
  | _, _, .cons r t, f => .cons (f _ _ r) (Paired.mapP t f)
theorem ObjOk.stay (x : ObjOk P w H h a o) (k : ∀ b u, (b = a ∨ H b = some (.own a)) → h.get? b = some u → h'.get? b = some u)
    (ho : ∀ b, H b = some (.own a) → H' b = some (.own a)) (ht : ∀ b xs, H b = some (.tup xs) → H' b = some (.tup xs)) : ObjOk P w H' h' a o := by
  induction o with
  | lst xs => obtain ⟨z, its, n, r, e⟩ := x; exact ⟨z, its, n, r, k _ _ (.inl rfl) e⟩
  | tup xs => obtain ⟨z, its, r, ob, e, c⟩ := x; exact ⟨z, its, r, ob, k _ _ (.inl rfl) e, c⟩
  | dK kvs => obtain ⟨z, y, vs, r, ob, es, ep, e, c⟩ := x; exact ⟨z, y, vs, r, ob, es, ep, k _ _ (.inl rfl) e, c⟩
  | dT kvs =>
    obtain ⟨z, y, xs, r, ob, es, ep, e, c⟩ := x
    exact ⟨z, y, xs, Paired.mapP r fun p q z => ⟨z.1, ht _ _ z.2.1, z.2.2⟩, ob, es, ep, k _ _ (.inl rfl) e, c⟩
  | set S n => obtain ⟨ob, es, ep, t, e, c⟩ := x; exact ⟨ob, es, ep, t, k _ _ (.inl rfl) e, c⟩
  | ins C dx fs =>
    obtain ⟨d, z, ne, e, mA, ⟨od, es, ep, e2, c⟩, r⟩ := x
    exact ⟨ho _ d, z, ne, k _ _ (.inl rfl) e, mA, ⟨od, es, ep, k _ _ (.inr d) e2, c⟩, r⟩
  | own y => obtain ⟨ob, e⟩ := x; exact ⟨ob, k _ _ (.inl rfl) e⟩
  | xd fs => obtain ⟨mA, ⟨od, es, ep, e, c⟩, r⟩ := x; exact ⟨mA, ⟨od, es, ep, k _ _ (.inl rfl) e, c⟩, r⟩
  | rng lo hi => obtain ⟨t, u, v, e⟩ := x; exact ⟨t, u, v, k _ _ (.inl rfl) e⟩
  | frz ob u ih => obtain ⟨e, q⟩ := x; exact ⟨k _ _ (.inl rfl) e, ih q⟩
  | tbl ps =>
    have e : h.get? a = some { cls := .none, data := .fields ps } := x
    show h'.get? a = some { cls := .none, data := .fields ps }
    exact k a _ (.inl rfl) e
  | met f y =>
    have e : h.get? a = some (PySem.W.methodObj (.ref f) (.ref y)) := x
    show h'.get? a = some (PySem.W.methodObj (.ref f) (.ref y))
    exact k a _ (.inl rfl) e
  | ext φ => obtain ⟨p, ⟨o, e⟩, st⟩ := x; exact ⟨st _ _ p fun o q => k _ _ (.inl rfl) q, ⟨o, k _ _ (.inl rfl) e⟩, st⟩
theorem HOk.lt (x : HOk P w H h) (e : H a = some o) : a < h.objs.size := (x a o e).lt
theorem HOk.fresh (x : HOk P w H h) (e : h.objs.size ≤ a) : H a = none := by
  cases q : H a with
  | none => rfl
  | some u => exact absurd (Nat.lt_of_lt_of_le (x.lt q) e) (Nat.lt_irrefl _)
theorem HOk.kept (x : HOk P w H h) (k : ∀ b u, h.get? b = some u → h'.get? b = some u) : HOk P w H h' := fun a o e =>
  (x a o e).stay (fun b u _ q => k b u q) (fun _ q => q) fun _ _ q => q
theorem HOk.laid (x : HOk P w H h) (k : ∀ b u, h.get? b = some u → h'.get? b = some u) (hp : h.objs.size ≤ a) (new : ObjOk P w (upd H a o) h' a o) : HOk P w (upd H a o) h' := fun b u e => by
  have hn := x.fresh hp
  by_cases hb : b = a
  · subst hb; rw [upd_same] at e; cases e; exact new
  · rw [upd_ne hb] at e
    exact (x b u e).stay (fun c v _ q => k c v q) (fun c q => by rw [upd_ne (ne_of_none q hn)]; exact q) fun c xs q => by rw [upd_ne (ne_of_none q hn)]; exact q
end
def Rd (H : Hp) (a : Addr) (u : HO) : Prop := H a = some u ∨ ∃ o, H a = some (.frz o u)
theorem Rd.of {H : Hp} {a : Addr} {u : HO} (h : H a = some u) : Rd H a u := .inl h
theorem Rd.ok {P : Program} {w : World} {H : Hp} {h : Heap} {a : Addr} {u : HO} (r : Rd H a u) (x : HOk P w H h) : ObjOk P w H h a u := by
  rcases r with r | ⟨o, r⟩
  · exact x a u r
  · obtain ⟨_, q⟩ := x a _ r
    exact q
def Mut : Option HO → Prop
  | some (.lst _) => True
  | some (.dK _) => True
  | some (.dT _) => True
  | some (.set _ _) => True
  | some (.ins _ _ _) => True
  | some (.ext _) => True
  | _ => False
section
variable {P : Program} {w : World} {H : Hp} {h h' : Heap} {x e : Addr} {o' : HO}
theorem HOk.write (ok : HOk P w H h) (mu : Mut (H x)) (he : e = x ∨ H e = some (.own x)) (k : ∀ b u, b ≠ e → h.get? b = some u → h'.get? b = some u) (heo : ∃ u, h'.get? e = some u)
    (new : ObjOk P w (upd H x o') h' x o') : HOk P w (upd H x o') h' := fun b u q => by
  have nown : ∀ c y, H c = some (.own y) → c ≠ x := fun c y r z => by subst z; rw [r] at mu; exact mu
  have ntup : ∀ c xs, H c = some (.tup xs) → c ≠ x := fun c xs r z => by subst z; rw [r] at mu; exact mu
  by_cases hb : b = x
  · subst hb; rw [upd_same] at q; cases q; exact new
  · rw [upd_ne hb] at q
    by_cases hbe : b = e
    · have q' : H b = some (.own x) := by
        rcases he with z | z
        · exact absurd (hbe.trans z) hb
        · rw [hbe]; exact z
      rw [q] at q'; cases q'
      obtain ⟨v, hv⟩ := heo
      exact ⟨v, by rw [hbe]; exact hv⟩
    · refine (ok b u q).stay (fun c v hc r => k c v ?_ r) (fun c r => by rw [upd_ne (nown c b r)]; exact r) fun c xs r => by rw [upd_ne (ntup c xs r)]; exact r
      rcases hc with rfl | hc
      · exact hbe
      · rintro rfl
        rcases he with z | z
        · exact nown c b hc z
        · rw [hc] at z; cases z; exact hb rfl
end
structure Un (fs ex : List Addr) (H H' : Hp) (h h' : Heap) : Prop where
  keep : ∀ b o, h.get? b = some o → H b = none → b ∉ fs → b ∉ ex → h'.get? b = some o
  slot : ∀ b o, h.get? b = some o → H b = none → b ∈ fs → b ∉ ex → ∃ sl, h'.get? b = some { o with slots := sl }
  free : ∀ b o, h.get? b = some o → H b = none → b ∉ ex → H' b = none
  there : ∀ b o, h.get? b = some o → b ∉ ex → ∃ o', h'.get? b = some o'
  tups : ∀ b xs, H b = some (.tup xs) → H' b = some (.tup xs)
  frzs : ∀ b o u, H b = some (.frz o u) → H' b = some (.frz o u)
  tbls : ∀ b ps, H b = some (.tbl ps) → ∃ more, H' b = some (.tbl (ps ++ more))
section
variable {fs fs' ex ex' : List Addr} {H H1 H2 : Hp} {h h1 h2 h' : Heap} {a x e : Addr} {o : HO}
theorem Un.any (u : Un fs ex H H1 h h1) {b : Addr} {ob : Obj} (q : h.get? b = some ob) (n : H b = none) (hx : b ∉ ex) : ∃ sl, h1.get? b = some { ob with slots := sl } := by
  by_cases hb : b ∈ fs
  · exact u.slot b ob q n hb hx
  · exact ⟨ob.slots, u.keep b ob q n hb hx⟩
theorem Un.trans (a : Un fs ex H H1 h h1) (b : Un fs ex H1 H2 h1 h2) : Un fs ex H H2 h h2 where
  keep := fun c ob q n hc hx => b.keep c ob (a.keep c ob q n hc hx) (a.free c ob q n hx) hc hx
  slot := fun c ob q n hc hx => by
    obtain ⟨sl, e1⟩ := a.slot c ob q n hc hx
    obtain ⟨sl', e2⟩ := b.slot c _ e1 (a.free c ob q n hx) hc hx
    exact ⟨sl', e2⟩
  free := fun c ob q n hx => by
    obtain ⟨o', e1⟩ := a.there c ob q hx
    exact b.free c o' e1 (a.free c ob q n hx) hx
  there := fun c ob q hx => by
    obtain ⟨o', e1⟩ := a.there c ob q hx
    exact b.there c o' e1 hx
  tups := fun c xs q => b.tups c xs (a.tups c xs q)
  frzs := fun c ob xs q => b.frzs c ob xs (a.frzs c ob xs q)
  tbls := fun c ps q => by
    obtain ⟨m1, e1⟩ := a.tbls c ps q
    obtain ⟨m2, e2⟩ := b.tbls c _ e1
    exact ⟨m1 ++ m2, by rw [e2, Array.append_assoc]⟩
theorem Un.kept (k : ∀ b u, h.get? b = some u → h'.get? b = some u) : Un fs ex H H h h' :=
  ⟨fun b ob q _ _ _ => k b ob q, fun b ob q _ _ _ => ⟨ob.slots, k b ob q⟩, fun _ _ _ n _ => n, fun b ob q _ => ⟨ob, k b ob q⟩, fun _ _ q => q, fun _ _ _ q => q, fun _ ps q => ⟨#[], by rw [q]; simp⟩⟩
theorem Un.refl : Un fs ex H H h h := Un.kept fun _ _ q => q
theorem Un.laid (k : ∀ b u, h.get? b = some u → h'.get? b = some u) (hp : h.objs.size ≤ a) (hn : H a = none) : Un fs ex H (upd H a o) h h' where
  keep := fun b u q _ _ _ => k b u q
  slot := fun b u q _ _ _ => ⟨u.slots, k b u q⟩
  free := fun b u q n _ => by rw [upd_ne (Nat.ne_of_lt (Nat.lt_of_lt_of_le (Heap.lt_size q) hp))]; exact n
  there := fun b u q _ => ⟨u, k b u q⟩
  tups := fun b xs q => by rw [upd_ne (ne_of_none q hn)]; exact q
  frzs := fun b u xs q => by rw [upd_ne (ne_of_none q hn)]; exact q
  tbls := fun b ps q => ⟨#[], by rw [upd_ne (ne_of_none q hn), q]; simp⟩
theorem Un.write (mu : Mut (H x)) (he : e = x ∨ H e = some (.own x)) (k : ∀ b u, b ≠ e → h.get? b = some u → h'.get? b = some u) (heo : ∃ u, h'.get? e = some u) : Un fs ex H (upd H x o) h h' := by
  have hx : ∀ b, H b = none → b ≠ x := fun b n z => by subst z; rw [n] at mu; exact mu
  have hb : ∀ b, H b = none → b ≠ e := fun b n z => by
    subst z
    rcases he with r | r
    · exact hx b n r
    · rw [n] at r; cases r
  have hm : ∀ b u, H b = some u → ¬ Mut (some u) → b ≠ x := fun b u q nm z => by subst z; rw [q] at mu; exact nm mu
  refine ⟨fun b u q n _ _ => k b u (hb b n) q, fun b u q n _ _ => ⟨u.slots, k b u (hb b n) q⟩, fun b u q n _ => by rw [upd_ne (hx b n)]; exact n, fun b u q _ => ?_,
    fun b xs q => by rw [upd_ne (hm b _ q fun z => z)]; exact q, fun b u xs q => by rw [upd_ne (hm b _ q fun z => z)]; exact q, fun b ps q => ⟨#[], by rw [upd_ne (hm b _ q fun z => z), q]; simp⟩⟩
  by_cases hbe : b = e
  · subst hbe; exact heo
  · exact ⟨u, k b u hbe q⟩
theorem Un.mono (u : Un fs ex H H1 h h1) (hs : ∀ b ∈ fs, b ∈ fs') (hx : ∀ b ∈ ex, b ∈ ex') : Un fs' ex' H H1 h h1 :=
  ⟨fun b ob q n hb he => u.keep b ob q n (fun z => hb (hs b z)) fun z => he (hx b z), fun _ _ q n _ he => u.any q n fun z => he (hx _ z), fun b ob q n he => u.free b ob q n fun z => he (hx b z), fun b ob q he => u.there b ob q fun z => he (hx b z), u.tups, u.frzs, u.tbls⟩
end
def trk (h : Heap) (H : Hp) : List Addr := (List.range h.objs.size).filter fun a => (H a).isSome
def hidT (h : Heap) (H : Hp) : Heap := PySem.W.hideAll h (trk h H)
theorem hidT_size (h : Heap) (H : Hp) : (hidT h H).objs.size = h.objs.size := PySem.W.hideAll_size _ _
theorem hidT_get {h : Heap} {H : Hp} {b : Addr} {o : Obj} (e : h.get? b = some o) (n : H b = none) : (hidT h H).get? b = some o :=
  PySem.W.hideAll_get _ e fun hm => by
    have q : (H b).isSome = true := (List.mem_filter.mp hm).2
    rw [n] at q; simp at q
theorem of_hidT {h : Heap} {H : Hp} {b : Addr} {o : Obj} (e : (hidT h H).get? b = some o) : h.get? b = some o ∧ H b = none := by
  have e' : h.get? b = some o := PySem.W.of_hideAll (trk h H) e
  refine ⟨e', ?_⟩
  cases q : H b with
  | none => rfl
  | some x =>
    have hm : b ∈ trk h H := List.mem_filter.mpr ⟨List.mem_range.mpr (Heap.lt_size e'), by simp [q]⟩
    have z : (hidT h H).get? b = none := PySem.W.hideAll_none (trk h H) hm
    rw [z] at e; cases e
def allNews (g h : Heap) (L : Addr) : List (Addr × Obj) := (List.range h.objs.size).filterMap fun a => if a = L ∨ (g.get? a).isSome = true then none else (h.get? a).map fun o => (a, o)
def rest (g h : Heap) (L d : Addr) : List (Addr × Obj) := (allNews g h L).filter fun p => decide (p.1 ≠ d)
end L2
namespace L2
open PySem PySem.Spec PyProof.Rows
structure Mod (K : PySem.W.Frag) (mg : Str → Option Value) (base : Heap) : Prop where
  kin : K.In base
  glob : base.Ns mainGlobals mg
  blt : ∃ mb, base.Ns builtinsNs mb ∧ ∀ x : Str, x ≠ "__name__" → mb x = bootBuiltins x
  nolimit : base.NoLimit
structure Cx where
  prog : Program
  w : World
  K : PySem.W.Frag
  mg : Str → Option Value
  base : Heap
  A : Around
  N : List Str
  s₀ : Shared
  H₀ : Hp
  env : Env
  outer : List Env
  stack : List Env
  ex : List Addr
  fn : Str → Bool
  calm : Bool
  pn : List (Addr × Obj)
  xe : Value → Shared → Prop
def frs (l : List Env) : List Addr := l.filterMap (·.frame)
abbrev Cx.fs (X : Cx) : List Addr := frs X.outer
def Vis (sc : Scope) (x : Str) : Prop := sc.names.lookup x = some .local ∨ sc.names.lookup x = some .cell ∨ sc.names.lookup x = some .free
def Loc (sc : Scope) (x : Str) : Prop := sc.names.lookup x = some .local ∨ sc.names.lookup x = some .cell
def Look (env : Env) (h : Heap) (m : Str → Option Value) (x : Str) (u : Value) : Prop :=
  (env.kindOf x = some .local ∧ m x = some u) ∨ ((env.kindOf x = some .cell ∨ env.kindOf x = some .free) ∧ ∃ c, env.cells.lookup x = some c ∧ h.IsCell c (some u))
structure Cx.Ok (X : Cx) : Prop where
  mod : Mod X.K X.mg X.base
  kind : X.env.scope.kind = .function
  glob : X.env.globals = mainGlobals
  blt : X.env.builtins = builtinsNs
  above : X.s₀.heap.objs.size ≤ X.env.locals
  inj : ∀ x y c, X.env.cells.lookup x = some c → X.env.cells.lookup y = some c → x = y
  has : ∀ x, (X.env.kindOf x = some .cell ∨ X.env.kindOf x = some .free) → ∃ c, X.env.cells.lookup x = some c
  cab : ∀ x c, X.fn x = true → X.env.cells.lookup x = some c → X.s₀.heap.objs.size ≤ c
  hd : X.calm = true → X.A.handled = none
  frames : X.A.frames = some X.stack
  stk : X.stack = X.outer ∨ (X.stack = X.env :: X.outer ∧ X.env.frame = some X.env.locals)
  exf : ∀ b ∈ X.ex, b ≠ X.env.locals ∧ ∀ x c, X.env.cells.lookup x = some c → c ≠ b
  bs : ∀ b o, X.base.get? b = some o → X.s₀.heap.get? b = some o ∧ X.H₀ b = none
  bsz : X.base.objs.size ≤ X.s₀.heap.objs.size
  noex : ∀ b o, X.base.get? b = some o → b ∉ X.ex
  exfs : ∀ b ∈ X.ex, b ∉ X.fs
  funs : X.s₀.heap.FunFrames X.base X.outer
  frf : ∀ b ∈ X.fs, X.H₀ b = none
structure Inv (X : Cx) (pins : List (Addr × Obj)) (σ : List (Option V)) (H : Hp) (s : Shared) : Prop where
  ok : X.Ok
  os : s.os = X.s₀.os
  bare : AllBare s.gens
  base : Un X.fs X.ex X.H₀ H X.s₀.heap s.heap
  loc : ∃ m, s.heap.Ns X.env.locals m ∧ ∀ (i : Nat) (x : Str) (v : V), X.N[i]? = some x → σ[i]? = some (some v) → Vis X.env.scope x → ∃ u, RelV v u ∧ Look X.env s.heap m x u
  cell : ∀ x c, X.env.cells.lookup x = some c → ∃ v, s.heap.IsCell c v
  free : H X.env.locals = none
  freeC : ∀ x c, X.env.cells.lookup x = some c → H c = none
  pin : ∀ p ∈ X.pn ++ pins, s.heap.get? p.1 = some p.2 ∧ H p.1 = none ∧ p.1 ≠ X.env.locals ∧ p.1 ∉ X.fs ∧ ∀ v, p.2.data ≠ .cell v
  hok : HOk X.prog X.w H s.heap
  len : σ.length = X.N.length
section
variable {X : Cx} {pins : List (Addr × Obj)} {σ : List (Option V)} {H H' : Hp} {s : Shared} {h' : Heap}
theorem Cx.Ok.nofr (ok : X.Ok) {b : Addr} {o : Obj} (e : X.base.get? b = some o) : b ∉ X.fs := fun hb => by
  have := (ok.funs.mem hb).1
  rw [e] at this; cases this
theorem Inv.bs (I : Inv X pins σ H s) : ∀ b o, X.base.get? b = some o → s.heap.get? b = some o ∧ H b = none := fun b o e =>
  ⟨I.base.keep b o (I.ok.bs b o e).1 (I.ok.bs b o e).2 (I.ok.nofr e) (I.ok.noex b o e), I.base.free b o (I.ok.bs b o e).1 (I.ok.bs b o e).2 (I.ok.noex b o e)⟩
theorem Inv.bk (I : Inv X pins σ H s) : ∀ b o, X.base.get? b = some o → s.heap.get? b = some o := fun b o e => (I.bs b o e).1
theorem Inv.mod (I : Inv X pins σ H s) : Mod X.K X.mg X.base := I.ok.mod
theorem Inv.kIn (I : Inv X pins σ H s) : X.K.In s.heap := I.ok.mod.kin.keeps I.bk
theorem Inv.nolimit (I : Inv X pins σ H s) : s.heap.NoLimit := I.ok.mod.nolimit.keeps I.bk
theorem Inv.fr (I : Inv X pins σ H s) : ∃ m, Fr X.base X.env.locals s.heap m :=
  let ⟨m, hn, _⟩ := I.loc
  ⟨m, hn, I.bk, Nat.le_trans I.ok.bsz I.ok.above⟩
theorem Inv.lt (I : Inv X pins σ H s) : X.env.locals < s.heap.objs.size := let ⟨_, hn, _⟩ := I.loc; hn.lt
theorem Inv.sz (I : Inv X pins σ H s) : X.s₀.heap.objs.size ≤ s.heap.objs.size := Nat.le_trans I.ok.above (Nat.le_of_lt I.lt)
theorem Inv.nofs (I : Inv X pins σ H s) {a : Addr} (h : s.heap.objs.size ≤ a) : a ∉ X.fs := fun hb => by
  obtain ⟨_, o, ho, _⟩ := I.ok.funs.mem hb
  exact absurd (Nat.lt_of_lt_of_le (Heap.lt_size ho) (Nat.le_trans I.sz h)) (Nat.lt_irrefl _)
theorem Inv.cne (I : Inv X pins σ H s) : ∀ x c, X.env.cells.lookup x = some c → c ≠ X.env.locals := fun x c e z => by
  obtain ⟨v, o, ho, hd⟩ := I.cell x c e
  obtain ⟨m, ⟨o', es, ep, ho', hd', _⟩, _⟩ := I.loc
  rw [z, ho'] at ho; cases ho; rw [hd'] at hd; cases hd
theorem Inv.funs (I : Inv X pins σ H s) : s.heap.FunFrames X.base X.outer := by
  have all : ∀ (l : List Env), (∀ b ∈ frs l, b ∈ X.fs) → X.s₀.heap.FunFrames X.base l → s.heap.FunFrames X.base l := by
    intro l
    induction l with
    | nil => intro _ _; trivial
    | cons env r ih =>
      intro hs hl
      obtain ⟨hk, ⟨L, o, hf, hn, ho, hd⟩, hr⟩ := hl
      have hL : L ∈ X.fs := hs L (by unfold frs; rw [List.filterMap_cons, hf]; exact List.mem_cons_self)
      obtain ⟨sl, e⟩ := I.base.slot L o ho (I.ok.frf L hL) hL fun z => I.ok.exfs L z hL
      exact ⟨hk, ⟨L, _, hf, hn, e, hd⟩, ih (fun b hb => hs b (by unfold frs; rw [List.filterMap_cons, hf]; exact List.mem_cons_of_mem _ hb)) hr⟩
  exact all X.outer (fun _ hb => hb) I.ok.funs
theorem Inv.stack (I : Inv X pins σ H s) : s.heap.FunFrames X.base X.stack := by
  rcases I.ok.stk with e | ⟨e, hf⟩
  · rw [e]; exact I.funs
  · rw [e]
    obtain ⟨m, hn, _⟩ := I.loc
    refine .cons (by rw [I.ok.kind]; decide) hf hn ?_ I.funs
    exact Heap.get?_none_of_le (Nat.le_trans I.ok.bsz I.ok.above)
theorem Inv.stkSub (I : Inv X pins σ H s) : ∀ b ∈ frs X.stack, b ∈ X.env.locals :: X.fs := fun b hb => by
  rcases I.ok.stk with e | ⟨e, hf⟩
  · rw [e] at hb; exact List.mem_cons_of_mem _ hb
  · rw [e] at hb
    unfold frs at hb
    rw [List.filterMap_cons, hf] at hb
    exact hb
theorem Inv.stkFree (I : Inv X pins σ H s) : ∀ b ∈ frs X.stack, H b = none := fun b hb => by
  rcases List.mem_cons.mp (I.stkSub b hb) with e | hb
  · rw [e]; exact I.free
  · obtain ⟨_, o, ho, _⟩ := I.ok.funs.mem hb
    exact I.base.free b o ho (I.ok.frf b hb) fun z => I.ok.exfs b z hb
theorem Inv.step {g' : Array GenState} {t' : Nat} {d' : Drawn} {ch : List Addr} (I : Inv X pins σ H s)
    (hch : ∀ b ∈ ch, (b ∈ X.ex ∨ X.s₀.heap.objs.size ≤ b) ∧ b ≠ X.env.locals ∧ (∀ x c, X.env.cells.lookup x = some c → c ≠ b) ∧ ∀ p ∈ X.pn ++ pins, p.1 ≠ b)
    (keep : ∀ b o, b ≠ X.env.locals → b ∉ X.fs → b ∉ ch → s.heap.get? b = some o → H b = none → h'.get? b = some o)
    (slot : ∀ b o, b ≠ X.env.locals → b ∈ X.fs → b ∉ ch → s.heap.get? b = some o → H b = none → ∃ sl, h'.get? b = some { o with slots := sl }) (free : ∀ b o, b ∉ ch → s.heap.get? b = some o → H b = none → H' b = none)
    (there : ∀ b o, b ∉ ch → s.heap.get? b = some o → ∃ o', h'.get? b = some o')
    (tups : ∀ b xs, H b = some (.tup xs) → H' b = some (.tup xs)) (frzs : ∀ b o u, H b = some (.frz o u) → H' b = some (.frz o u)) (tbls : ∀ b ps, H b = some (.tbl ps) → ∃ more, H' b = some (.tbl (ps ++ more)))
    (ns : ∀ m, s.heap.Ns X.env.locals m → h'.Ns X.env.locals m) (hok : HOk X.prog X.w H' h') (hg : AllBare g') :
    Inv X pins σ H' { s with heap := h', gens := g', drawn := d', toks := t' } := by
  have neL : ∀ b o, X.s₀.heap.get? b = some o → b ≠ X.env.locals := fun b o e => Nat.ne_of_lt (Nat.lt_of_lt_of_le (Heap.lt_size e) I.ok.above)
  have neC : ∀ b o, X.s₀.heap.get? b = some o → b ∉ X.ex → b ∉ ch := fun b o e hx hb => by
    rcases (hch b hb).1 with z | z
    · exact hx z
    · exact absurd (Nat.lt_of_lt_of_le (Heap.lt_size e) z) (Nat.lt_irrefl _)
  have cellK : ∀ x c, X.env.cells.lookup x = some c → ∀ v, s.heap.IsCell c v → h'.IsCell c v := fun x c e v ⟨o, ho, hd⟩ => by
    have nch : c ∉ ch := fun z => (hch c z).2.2.1 x c e rfl
    by_cases hc : c ∈ X.fs
    · obtain ⟨sl, q⟩ := slot c o (I.cne x c e) hc nch ho (I.freeC x c e)
      exact ⟨_, q, hd⟩
    · exact ⟨o, keep c o (I.cne x c e) hc nch ho (I.freeC x c e), hd⟩
  refine ⟨I.ok, I.os, hg, ⟨fun b o e n hb hx => ?_, fun b o e n hb hx => ?_, fun b o e n hx => ?_, fun b o e hx => ?_, fun b xs e => tups b xs (I.base.tups b xs e), fun b o xs e => frzs b o xs (I.base.frzs b o xs e), fun b ps e => ?_⟩, ?_, fun x c e => ?_, ?_, fun x c e => ?_, fun p hp => ?_, hok, I.len⟩
  · exact keep b o (neL b o e) hb (neC b o e hx) (I.base.keep b o e n hb hx) (I.base.free b o e n hx)
  · obtain ⟨sl, e1⟩ := I.base.slot b o e n hb hx
    obtain ⟨sl', e2⟩ := slot b _ (neL b o e) hb (neC b o e hx) e1 (I.base.free b o e n hx)
    exact ⟨sl', e2⟩
  · obtain ⟨o', e1⟩ := I.base.there b o e hx
    exact free b o' (neC b o e hx) e1 (I.base.free b o e n hx)
  · obtain ⟨o', e1⟩ := I.base.there b o e hx
    exact there b o' (neC b o e hx) e1
  · obtain ⟨m1, e1⟩ := I.base.tbls b ps e
    obtain ⟨m2, e2⟩ := tbls b _ e1
    exact ⟨m1 ++ m2, by rw [e2, Array.append_assoc]⟩
  · obtain ⟨m, hn, hl⟩ := I.loc
    refine ⟨m, ns m hn, fun i x v e1 e2 e3 => ?_⟩
    obtain ⟨u, r, l⟩ := hl i x v e1 e2 e3
    refine ⟨u, r, ?_⟩
    rcases l with l | ⟨k, c, e, z⟩
    · exact .inl l
    · exact .inr ⟨k, c, e, cellK x c e _ z⟩
  · obtain ⟨v, z⟩ := I.cell x c e
    exact ⟨v, cellK x c e v z⟩
  · obtain ⟨m, ⟨o, _, _, ho, _⟩, _⟩ := I.loc
    exact free _ o (fun z => (hch _ z).2.1 rfl) ho I.free
  · obtain ⟨v, o, ho, hd⟩ := I.cell x c e
    exact free c o (fun z => (hch c z).2.2.1 x c e rfl) ho (I.freeC x c e)
  · obtain ⟨e, n, ne, nf, d⟩ := I.pin p hp
    have nch : p.1 ∉ ch := fun z => (hch p.1 z).2.2.2 p hp rfl
    exact ⟨keep p.1 p.2 ne nf nch e n, free p.1 p.2 nch e n, ne, nf, d⟩
theorem Inv.un {t' : Nat} (I : Inv X pins σ H s) (u : Un X.fs [] H H' s.heap h') (hok : HOk X.prog X.w H' h') : Inv X pins σ H' { s with heap := h', toks := t' } := by
  obtain ⟨m, ⟨o, es, ep, ho, r⟩, _⟩ := id I.loc
  obtain ⟨sl, hL⟩ := u.any ho I.free (by simp)
  exact I.step (g' := s.gens) (d' := s.drawn) (ch := []) (fun _ z => nomatch z) (fun b o _ hb _ e n => u.keep b o e n hb (by simp)) (fun b o _ hb _ e n => u.slot b o e n hb (by simp)) (fun b o _ e n => u.free b o e n (by simp)) (fun b o _ e => u.there b o e (by simp)) u.tups u.frzs u.tbls (fun m' hm => by
    obtain ⟨o', es', ep', ho', r'⟩ := hm
    rw [ho] at ho'; cases ho'
    exact ⟨_, es', ep', hL, r'⟩) hok I.bare
theorem Inv.call {g' : Array GenState} {t' : Nat} {d' : Drawn} {ch : List Addr} (I : Inv X pins σ H s) (u : Un (frs X.stack) ch H H' s.heap h') (hok : HOk X.prog X.w H' h') (hg : AllBare g')
    (hch : ∀ b ∈ ch, (b ∈ X.ex ∨ X.s₀.heap.objs.size ≤ b) ∧ b ≠ X.env.locals ∧ (∀ x c, X.env.cells.lookup x = some c → c ≠ b) ∧ ∀ p ∈ X.pn ++ pins, p.1 ≠ b) :
    Inv X pins σ H' { s with heap := h', gens := g', drawn := d', toks := t' } := by
  obtain ⟨m, ⟨o, es, ep, ho, r⟩, _⟩ := id I.loc
  obtain ⟨sl, hL⟩ := u.any ho I.free fun z => (hch _ z).2.1 rfl
  exact I.step (ch := ch) hch (fun b o hL hb hc e n => u.keep b o e n (fun z => (List.mem_cons.mp (I.stkSub b z)).elim hL hb) hc) (fun b o _ _ hc e n => u.any e n hc) (fun b o hc e n => u.free b o e n hc) (fun b o hc e => u.there b o e hc) u.tups u.frzs u.tbls (fun m' hm => by
    obtain ⟨o', es', ep', ho', r'⟩ := hm
    rw [ho] at ho'; cases ho'
    exact ⟨_, es', ep', hL, r'⟩) hok hg
theorem Inv.turned {t' : Nat} {it : Addr} (I : Inv X pins σ H s) (k : ∀ b o, b ≠ it → s.heap.get? b = some o → h'.get? b = some o) (hn : H it = none) (hL : it ≠ X.env.locals)
    (h1 : it ∈ X.ex ∨ X.s₀.heap.objs.size ≤ it) (h2 : ∀ x c, X.env.cells.lookup x = some c → c ≠ it) (h3 : ∀ p ∈ X.pn ++ pins, p.1 ≠ it) : Inv X pins σ H { s with heap := h', toks := t' } := by
  have nit : ∀ b u, H b = some u → b ≠ it := fun b u e z => by rw [z, hn] at e; cases e
  refine I.step (g' := s.gens) (d' := s.drawn) (ch := [it]) (fun b hb => ?_) (fun b o _ _ hc e _ => k b o (fun z => hc (by simp [z])) e) (fun b o _ _ hc e _ => ⟨o.slots, k b o (fun z => hc (by simp [z])) e⟩) (fun _ _ _ _ n => n)
    (fun b o hc e => ⟨o, k b o (fun z => hc (by simp [z])) e⟩) (fun _ _ e => e) (fun _ _ _ e => e) (fun b ps e => ⟨#[], by rw [e]; simp⟩) (fun m hm => ?_) (fun b u e => ?_) I.bare
  · have e : b = it := by simpa using hb
    subst e
    exact ⟨h1, hL, h2, h3⟩
  · obtain ⟨o, es, ep, ho, r⟩ := hm
    exact ⟨o, es, ep, k _ o (Ne.symm hL) ho, r⟩
  · refine (I.hok b u e).stay (fun c v hc q => k c v ?_ q) (fun _ q => q) fun _ _ q => q
    rcases hc with z | z
    · rw [z]; exact nit b u e
    · exact nit c _ z
theorem Inv.tok (I : Inv X pins σ H s) (t : Nat) : Inv X pins σ H { s with toks := t } := I.un (h' := s.heap) (t' := t) Un.refl I.hok
theorem Inv.kept {t' : Nat} (I : Inv X pins σ H s) (k : ∀ b u, s.heap.get? b = some u → h'.get? b = some u) : Inv X pins σ H { s with heap := h', toks := t' } := I.un (Un.kept k) (I.hok.kept k)
theorem Inv.laid {a : Addr} {o : HO} {t' : Nat} (I : Inv X pins σ H s) (k : ∀ b u, s.heap.get? b = some u → h'.get? b = some u) (hp : s.heap.objs.size ≤ a) (new : ObjOk X.prog X.w (upd H a o) h' a o) :
    Inv X pins σ (upd H a o) { s with heap := h', toks := t' } := I.un (Un.laid k hp (I.hok.fresh hp)) (I.hok.laid k hp new)
theorem Inv.write {x e : Addr} {o : HO} {t' : Nat} (I : Inv X pins σ H s) (mu : Mut (H x)) (he : e = x ∨ H e = some (.own x)) (k : ∀ b u, b ≠ e → s.heap.get? b = some u → h'.get? b = some u) (heo : ∃ u, h'.get? e = some u)
    (new : ObjOk X.prog X.w (upd H x o) h' x o) : Inv X pins σ (upd H x o) { s with heap := h', toks := t' } := I.un (Un.write mu he k heo) (I.hok.write mu he k heo new)
theorem Inv.pins_of {pins' : List (Addr × Obj)} (I : Inv X pins σ H s) (h : ∀ p ∈ pins', s.heap.get? p.1 = some p.2 ∧ H p.1 = none ∧ p.1 ≠ X.env.locals ∧ p.1 ∉ X.fs ∧ ∀ v, p.2.data ≠ .cell v) : Inv X pins' σ H s :=
  ⟨I.ok, I.os, I.bare, I.base, I.loc, I.cell, I.free, I.freeC, fun p hp => (List.mem_append.mp hp).elim (fun z => I.pin p (List.mem_append_left _ z)) (h p), I.hok, I.len⟩
theorem nodup_ix {N : List Str} (hN : N.Nodup) {i j : Nat} {x : Str} (a : N[i]? = some x) (b : N[j]? = some x) : i = j := by
  obtain ⟨h1, e1⟩ := List.getElem?_eq_some_iff.mp a
  obtain ⟨h2, e2⟩ := List.getElem?_eq_some_iff.mp b
  exact (List.getElem_inj hN).mp (e1.trans e2.symm)
theorem store_ok2 {M : Model} {A : Around} {E : Value → Shared → Prop} {i : Nat} {x : Str} {v : V} {u : Value} {Q : Unit → Shared → Prop} (I : Inv X pins σ H s) (hN : X.N.Nodup) (hi : X.N[i]? = some x) (hx : Loc X.env.scope x) (r : RelV v u)
    (h : ∀ s', Inv X pins (σ.set i (some v)) H s' → (∃ a, Heap.SameBut a s.heap s'.heap ∧ (a = X.env.locals ∨ X.env.cells.lookup x = some a)) → Q () s') (hf : X.fn x = true ∨ X.env.scope.names.lookup x = some .local := by first | exact .inl rfl | exact .inr rfl | assumption) : wpAny M A (storeName X.env x u) Q E s := by
  obtain ⟨m, hn, hl⟩ := id I.loc
  have hcls : (X.env.scope.kind == .class || (X.env.scope.kind == .module && X.env.locals != X.env.globals)) = false := by rw [I.ok.kind]; rfl
  have hiσ : i < σ.length := by rw [I.len]; exact (List.getElem?_eq_some_iff.mp hi).1
  have cne := I.cne
  have tracked : ∀ {a : Addr} {h' : Heap}, (∃ o, s.heap.get? a = some o ∧ H a = none) → Heap.SameBut a s.heap h' → HOk X.prog X.w H h' := fun {a h'} ha hs b ob e => by
    obtain ⟨_, _, hfree⟩ := ha
    refine (I.hok b ob e).stay (fun c w' hc q => (hs.2 c ?_).trans q) (fun _ q => q) fun _ _ q => q
    rintro rfl
    rcases hc with rfl | hc
    · rw [hfree] at e; cases e
    · rw [hfree] at hc; cases hc
  rcases hx with hk | hk
  · refine wpAny_storeName_local hk hn (fun h' hn' hs => ?_) hcls
    obtain ⟨oL, _, _, hoL, _⟩ := id hn
    refine h _ ⟨I.ok, I.os, I.bare, ⟨fun b o e n hb hx => ?_, fun b o e n hb hx => ?_, I.base.free, fun b o e hx => ?_, I.base.tups, I.base.frzs, I.base.tbls⟩, ⟨_, hn', fun j y v' e1 e2 e3 => ?_⟩, fun y c e => ?_, I.free, I.freeC, fun p hp => ?_, tracked ⟨oL, hoL, I.free⟩ hs, by simpa using I.len⟩ ⟨_, hs, .inl rfl⟩
    · exact (hs.2 b (Nat.ne_of_lt (Nat.lt_of_lt_of_le (Heap.lt_size e) I.ok.above))).trans (I.base.keep b o e n hb hx)
    · obtain ⟨sl, e1⟩ := I.base.slot b o e n hb hx
      exact ⟨sl, (hs.2 b (Nat.ne_of_lt (Nat.lt_of_lt_of_le (Heap.lt_size e) I.ok.above))).trans e1⟩
    · obtain ⟨o', e1⟩ := I.base.there b o e hx
      exact ⟨o', (hs.2 b (Nat.ne_of_lt (Nat.lt_of_lt_of_le (Heap.lt_size e) I.ok.above))).trans e1⟩
    · by_cases hj : j = i
      · subst hj
        rw [hi] at e1; cases e1
        rw [List.getElem?_set_self hiσ] at e2
        cases e2
        exact ⟨u, r, .inl ⟨hk, by simp⟩⟩
      · rw [List.getElem?_set_ne (Ne.symm hj)] at e2
        obtain ⟨u', r', q⟩ := hl j y v' e1 e2 e3
        refine ⟨u', r', ?_⟩
        rcases q with ⟨k, e⟩ | ⟨k, c, e, z⟩
        · refine .inl ⟨k, ?_⟩
          have : y ≠ x := fun e => hj (nodup_ix hN e1 (e ▸ hi))
          simp [this, e]
        · exact .inr ⟨k, c, e, z.sameBut hs (cne y c e)⟩
    · obtain ⟨w', z⟩ := I.cell y c e
      exact ⟨w', z.sameBut hs (cne y c e)⟩
    · obtain ⟨e, n, ne, nf, d⟩ := I.pin p hp
      exact ⟨(hs.2 p.1 ne).trans e, n, ne, nf, d⟩
  · have hfn : X.fn x = true := by
      rcases hf with z | z
      · exact z
      · rw [z] at hk; cases hk
    obtain ⟨c, hc⟩ := I.ok.has x (.inl hk)
    obtain ⟨w', z⟩ := I.cell x c hc
    refine wpAny_storeName_cell I.ok.kind hk hc z (fun h' hc' hs => ?_)
    obtain ⟨oc, hoc, hocd⟩ := id z
    refine h { s with heap := h' } ⟨I.ok, I.os, I.bare, ⟨fun b o e n hb hx => ?_, fun b o e n hb hx => ?_, I.base.free, fun b o e hx => ?_, I.base.tups, I.base.frzs, I.base.tbls⟩, ⟨m, hn.sameBut hs (Ne.symm (cne x c hc)), fun j y v' e1 e2 e3 => ?_⟩, fun y c' e => ?_, I.free, I.freeC, fun p hp => ?_, tracked ⟨oc, hoc, I.freeC x c hc⟩ hs, by simpa using I.len⟩ ⟨c, hs, .inr hc⟩
    · exact (hs.2 b (Nat.ne_of_lt (Nat.lt_of_lt_of_le (Heap.lt_size e) (I.ok.cab x c hfn hc)))).trans (I.base.keep b o e n hb hx)
    · obtain ⟨sl, e1⟩ := I.base.slot b o e n hb hx
      exact ⟨sl, (hs.2 b (Nat.ne_of_lt (Nat.lt_of_lt_of_le (Heap.lt_size e) (I.ok.cab x c hfn hc)))).trans e1⟩
    · obtain ⟨o', e1⟩ := I.base.there b o e hx
      exact ⟨o', (hs.2 b (Nat.ne_of_lt (Nat.lt_of_lt_of_le (Heap.lt_size e) (I.ok.cab x c hfn hc)))).trans e1⟩
    · by_cases hj : j = i
      · subst hj
        rw [hi] at e1; cases e1
        rw [List.getElem?_set_self hiσ] at e2
        cases e2
        exact ⟨u, r, .inr ⟨.inl hk, c, hc, hc'⟩⟩
      · rw [List.getElem?_set_ne (Ne.symm hj)] at e2
        obtain ⟨u', r', q⟩ := hl j y v' e1 e2 e3
        refine ⟨u', r', ?_⟩
        rcases q with q | ⟨k, c', e, z'⟩
        · exact .inl q
        · refine .inr ⟨k, c', e, z'.sameBut hs ?_⟩
          rintro rfl
          exact hj (nodup_ix hN e1 (I.ok.inj _ _ _ e hc ▸ hi))
    · by_cases hcc : c' = c
      · subst hcc; exact ⟨_, hc'⟩
      · obtain ⟨w2, z2⟩ := I.cell y c' e
        exact ⟨w2, z2.sameBut hs hcc⟩
    · obtain ⟨e, n, ne, nf, d⟩ := I.pin p hp
      refine ⟨(hs.2 p.1 ?_).trans e, n, ne, nf, d⟩
      intro q
      rw [q, hoc] at e
      have q' : oc = p.2 := Option.some.inj e
      exact d w' (by rw [← q']; exact hocd)
theorem store_ok {M : Model} {A : Around} {E : Value → Shared → Prop} {i : Nat} {x : Str} {v : V} {u : Value} {Q : Unit → Shared → Prop} (I : Inv X pins σ H s) (hN : X.N.Nodup) (hi : X.N[i]? = some x) (hx : Loc X.env.scope x) (r : RelV v u)
    (h : ∀ s', Inv X pins (σ.set i (some v)) H s' → Q () s') (hf : X.fn x = true ∨ X.env.scope.names.lookup x = some .local := by first | exact .inl rfl | exact .inr rfl | assumption) : wpAny M A (storeName X.env x u) Q E s :=
  store_ok2 I hN hi hx r (fun s' I' _ => h s' I') hf
theorem Inv.call' {s' : Shared} {ch : List Addr} (I : Inv X pins σ H s) (ho : s'.os = s.os) (u : Un (frs X.stack) ch H H' s.heap s'.heap) (hok : HOk X.prog X.w H' s'.heap) (hg : AllBare s'.gens)
    (hch : ∀ b ∈ ch, (b ∈ X.ex ∨ X.s₀.heap.objs.size ≤ b) ∧ b ≠ X.env.locals ∧ (∀ x c, X.env.cells.lookup x = some c → c ≠ b) ∧ ∀ p ∈ X.pn ++ pins, p.1 ≠ b) : Inv X pins σ H' s' := by
  obtain ⟨h', g', d', t', o'⟩ := s'
  have e : o' = s.os := ho
  subst e
  exact I.call (g' := g') (t' := t') (d' := d') u hok hg hch
end
abbrev XK := Value → Option Addr → Hp → Prop
abbrev St := List (Option V)
abbrev VK := V → Hp → Prop
abbrev TE := St → Hp → VK → Prop
abbrev TT := St → Hp → (Bool → Hp → Prop) → Prop
abbrev TA := St → Hp → (List V → Hp → Prop) → Prop
structure Ends where
  nx : St → Hp → Prop
  rt : VK
  bk : St → Hp → Prop := fun _ _ => False
  ct : St → Hp → Prop := fun _ _ => False
abbrev TS := Ends → St → Hp → Prop
def EP (X : Cx) (pins : List (Addr × Obj)) (σ : St) (Q : VK) (u : Value) (s' : Shared) : Prop := ∃ v H', Inv X pins σ H' s' ∧ RelV v u ∧ Q v H'
def TP (X : Cx) (pins : List (Addr × Obj)) (σ : St) (Q : Bool → Hp → Prop) (b : Bool) (s' : Shared) : Prop := ∃ H', Inv X pins σ H' s' ∧ Q b H'
def AP (X : Cx) (pins : List (Addr × Obj)) (σ : St) (Q : List V → Hp → Prop) (us : List Value) (s' : Shared) : Prop := ∃ vs H', Inv X pins σ H' s' ∧ Vals vs us ∧ Q vs H'
def SP (X : Cx) (pins : List (Addr × Obj)) (D : Ends) (f : Flow) (s' : Shared) : Prop :=
  match f with
  | .next => ∃ σ' H', Inv X pins σ' H' s' ∧ D.nx σ' H'
  | .brk => ∃ σ' H', Inv X pins σ' H' s' ∧ D.bk σ' H'
  | .cont => ∃ σ' H', Inv X pins σ' H' s' ∧ D.ct σ' H'
  | .ret u => ∃ v σ' H', Inv X pins σ' H' s' ∧ RelV v u ∧ D.rt v H'
def PE (X : Cx) (e : Expr) (t : TE) : Prop :=
  ∀ (pins : List (Addr × Obj)) (s : Shared) (σ : St) (H : Hp) (Q : VK), Inv X pins σ H s → t σ H Q → wpAny (model X.prog X.w) X.A (eval e X.env) (EP X pins σ Q) X.xe s
def PT (X : Cx) (e : Expr) (t : TT) : Prop :=
  ∀ (pins : List (Addr × Obj)) (s : Shared) (σ : St) (H : Hp) (Q : Bool → Hp → Prop), Inv X pins σ H s → t σ H Q → wpAny (model X.prog X.w) X.A (isTrue e X.env (eval e X.env)) (TP X pins σ Q) X.xe s
def PW (X : Cx) (e : Expr) (t : TT) : Prop :=
  ∀ (whole : Sem Value) (pins : List (Addr × Obj)) (s : Shared) (σ : St) (H : Hp) (Q : Bool → Hp → Prop), Inv X pins σ H s → t σ H Q → wpAny (model X.prog X.w) X.A (isTrue e X.env whole) (TP X pins σ Q) X.xe s
def PA (X : Cx) (es : List Expr) (t : TA) : Prop :=
  ∀ (pos : Pos) (pins : List (Addr × Obj)) (s : Shared) (σ : St) (H : Hp) (Q : List V → Hp → Prop), Inv X pins σ H s → t σ H Q → wpAny (model X.prog X.w) X.A (spliced (backTo pos (starEach es X.env))) (AP X pins σ Q) X.xe s
def PS (X : Cx) (st : Stmt) (t : TS) : Prop :=
  ∀ (pins : List (Addr × Obj)) (s : Shared) (σ : St) (H : Hp) (D : Ends), Inv X pins σ H s → t D σ H → wpAny (model X.prog X.w) X.A (exec st X.env) (SP X pins D) X.xe s
def PSs (X : Cx) (st : List Stmt) (t : TS) : Prop :=
  ∀ (pins : List (Addr × Obj)) (s : Shared) (σ : St) (H : Hp) (D : Ends), Inv X pins σ H s → t D σ H → wpAny (model X.prog X.w) X.A (execs st X.env) (SP X pins D) X.xe s
theorem thn {α : Type} {t : Sem α} {Q Q' : α → Shared → Prop} {M : Model} {A : Around} {E : Value → Shared → Prop} {s : Shared} (h : wpAny M A t Q E s) (hQ : ∀ a s, Q a s → Q' a s) : wpAny M A t Q' E s := wpAny_mono h hQ fun _ _ x => x
end L2
namespace L2
open PySem PySem.Spec PyProof.Rows
section
variable {X : Cx}
def tVar (i : Nat) : TE := fun σ H Q => ∃ v, σ[i]? = some (some v) ∧ Q v H
def tC (v : V) : TE := fun _ H Q => Q v H
theorem pe_var {i : Nat} {x : Str} {pos : Pos} (hN : X.N[i]? = some x) (hv : Vis X.env.scope x) (hd : (x == ("__debug__" : Str)) = false := by decide) (hcd : (x == ("__classdict__" : Str)) = false := by decide) : PE X (.Name x pos) (tVar i) := by
  intro pins s σ H Q I h
  obtain ⟨v, e, h⟩ := h
  obtain ⟨m, hn, hl⟩ := I.loc
  obtain ⟨u, r, l⟩ := hl i x v hN e hv
  have fin : EP X pins σ Q u s := ⟨v, H, I, r, h⟩
  rcases l with ⟨hk, hm⟩ | ⟨hk, c, hc, hcell⟩
  · exact wpAny_Name (wpAny_loadName_local I.ok.kind hk hn hm fin) hd
  · rcases hk with hk | hk
    · exact wpAny_Name (wpAny_loadName_cell I.ok.kind hk hc hcell fin) hd
    · exact wpAny_Name (wpAny_loadName_free I.ok.kind hk hc hcell fin hcd) hd
theorem pe_int {i j pos} : PE X (.Constant (.int i) j pos) (tC (.int i)) := fun _ _ _ H _ I h => wpAny_Constant_int ⟨.int i, H, I.tok _, ⟨_, rfl⟩, h⟩
theorem pe_bl {b j pos} : PE X (.Constant (.bool b) j pos) (tC (.bl b)) := fun _ _ _ H _ I h => Constant_bool ⟨.bl b, H, I, rfl, h⟩
theorem pe_str {x j pos} : PE X (.Constant (.str x) j pos) (tC (.str x)) := fun _ _ _ H _ I h => Calls.Constant_str ⟨.str x, H, I.tok _, ⟨_, rfl⟩, h⟩
def Gl (X : Cx) (x : Str) : Prop := X.env.kindOf x = some .globalImplicit
theorem ld_glob {E : Value → Shared → Prop} {pins : List (Addr × Obj)} {s : Shared} {σ : St} {H : Hp} {x : Str} {u : Value} {pos : Pos} {Q : Value → Shared → Prop} (I : Inv X pins σ H s) (hg : Gl X x) (hm : X.mg x = some u) (h : Q u s)
    (hd : (x == ("__debug__" : Str)) = false := by decide) : wpAny (model X.prog X.w) X.A (eval (.Name x pos) X.env) Q E s :=
  Calls.Name_function_global I.ok.kind hg (Calls.loadGlobal_global (by rw [I.ok.glob]; exact I.mod.glob.keeps I.bk) hm h) hd
theorem ld_blt {E : Value → Shared → Prop} {pins : List (Addr × Obj)} {s : Shared} {σ : St} {H : Hp} {x : Str} {u : Value} {pos : Pos} {Q : Value → Shared → Prop} (I : Inv X pins σ H s) (hg : Gl X x) (hm : X.mg x = none) (hv : bootBuiltins x = some u) (h : Q u s)
    (hn : x ≠ "__name__" := by decide) (hd : (x == ("__debug__" : Str)) = false := by decide) : wpAny (model X.prog X.w) X.A (eval (.Name x pos) X.env) Q E s := by
  obtain ⟨mb, h1, h2⟩ := I.mod.blt
  exact Calls.Name_function_global I.ok.kind hg (Calls.loadGlobal_builtin (by rw [I.ok.glob]; exact I.mod.glob.keeps I.bk) hm (by rw [I.ok.blt]; exact h1.keeps I.bk) ((h2 x hn).trans hv) h) hd
theorem pe_glob {x : Str} {v : V} {u : Value} {pos : Pos} (hg : Gl X x) (hm : X.mg x = some u) (r : RelV v u) (hd : (x == ("__debug__" : Str)) = false := by decide) : PE X (.Name x pos) (tC v) :=
  fun _ _ _ H _ I h => ld_glob I hg hm ⟨v, H, I, r, h⟩ hd
theorem pe_bltn {x : Str} {v : V} {u : Value} {pos : Pos} (hg : Gl X x) (hm : X.mg x = none) (hv : bootBuiltins x = some u) (r : RelV v u) (hn : x ≠ "__name__" := by decide) (hd : (x == ("__debug__" : Str)) = false := by decide) : PE X (.Name x pos) (tC v) :=
  fun _ _ _ H _ I h => ld_blt I hg hm hv ⟨v, H, I, r, h⟩ hn hd
def t2I (ta tb : TE) (k : Int → Int → Hp → Prop) : St → Hp → Prop := fun σ H => ta σ H fun x H1 => tb σ H1 fun y H2 => ∃ i j, x = .int i ∧ y = .int j ∧ k i j H2
variable {a b : Expr} {ta tb : TE} {pos : Pos}
def PC (X : Cx) (op : CmpOp) (a b : Expr) (t : TE) : Prop :=
  ∀ (pins : List (Addr × Obj)) (s : Shared) (σ : St) (H : Hp) (Q : VK), Inv X pins σ H s → t σ H Q →
    wpAny (model X.prog X.w) X.A (eval a X.env) (fun v s₁ => wpAny (model X.prog X.w) X.A (eval b X.env) (fun u s₂ => wpAny (model X.prog X.w) X.A (compareOp op v u) (EP X pins σ Q) X.xe s₂) X.xe s₁) X.xe s
theorem nobehind (b : Expr) {op : CmpOp} (h : op ≠ .In) (h2 : op ≠ .NotIn) : behindInMarks op b = false := by
  have e1 : (op == CmpOp.In) = false := by cases op <;> first | rfl | exact absurd rfl h
  have e2 : (op == CmpOp.NotIn) = false := by cases op <;> first | rfl | exact absurd rfl h2
  cases b <;> simp [behindInMarks, e1, e2]
def tB (t : TE) : TT := fun σ H Q => t σ H fun x H1 => ∃ c, x = .bl c ∧ Q c H1
theorem pt_cmp {op : CmpOp} {t : TE} (h : PC X op a b t) (h1 : behindInMarks op b = false := by first | exact nobehind _ (by decide) (by decide) | rfl) : PT X (.Compare a [op] [b] pos) (tB t) := by
  intro pins s σ H Q I hw
  refine wpAny_isTrue_Compare1 (thn (h pins s σ H _ I hw) fun v s1 h1 => thn h1 fun u s2 h2 => thn h2 fun c s3 ⟨x, H1, I1, r1, q1⟩ => ?_) h1
  obtain ⟨d, rfl, q⟩ := q1
  cases r1
  exact wpAny_truthy_bool ⟨H1, I1, q⟩
theorem pt_val {e : Expr} {t : TE} (h : PE X e t) (he : ∀ whole, isTrue e X.env whole = (do let v ← whole; standAt e.pos; holding [v] (truthy v)) := by intro _; rfl) : PT X e (tB t) := by
  intro pins s σ H Q I hw
  refine isTrue_plain (thn (h pins s σ H _ I hw) fun v s1 ⟨x, H1, I1, r1, q1⟩ => ?_) (he _)
  obtain ⟨d, rfl, q⟩ := q1
  cases r1
  exact wpAny_truthy_bool ⟨H1, I1, q⟩
variable {tA tB' : TT} {rest : List Expr}
def tAnd (t u : TT) : TT := fun σ H Q => t σ H fun c H1 => if c = true then u σ H1 Q else Q false H1
def tOr (t u : TT) : TT := fun σ H Q => t σ H fun c H1 => if c = true then Q true H1 else u σ H1 Q
def tNot (t : TT) : TT := fun σ H Q => t σ H fun c H1 => Q (!c) H1
theorem pw_or1 (ha : PT X a tA) : PW X (.BoolOp .Or [a] pos) tA := by
  intro wh pins s σ H Q I h
  refine isTrue_or (thn (ha pins s σ H Q I h) fun c s1 e => ?_)
  cases c with
  | false => exact isTrue_or_nil e
  | true => exact e
theorem pw_or (ha : PT X a tA) (hb : PW X (.BoolOp .Or (b :: rest) pos) tB') : PW X (.BoolOp .Or (a :: b :: rest) pos) (tOr tA tB') := by
  intro wh pins s σ H Q I h
  refine isTrue_or (thn (ha pins s σ H _ I h) fun c s1 ⟨H1, I1, q1⟩ => ?_)
  cases c with
  | true => exact ⟨H1, I1, q1⟩
  | false => exact hb wh pins s1 σ H1 Q I1 q1
theorem pt_not (ha : PT X a tA) : PT X (.UnaryOp .Not a pos) (tNot tA) := by
  intro pins s σ H Q I h
  exact isTrue_not (ha pins s σ H (fun c H1 => Q (!c) H1) I h)
def tAndV (ta tb : TE) : TE := fun σ H Q => ta σ H fun x H1 => ∃ c, x = .bl c ∧ if c = true then tb σ H1 Q else Q (.bl false) H1
def tNotV (ta : TE) : TE := fun σ H Q => ta σ H fun x H1 => ∃ c, x = .bl c ∧ Q (.bl (!c)) H1
theorem pe_one {op} {t : TE} (h : PE X a t) : PE X (.BoolOp op [a] pos) t := fun pins s σ H Q I hw => BoolOp_one (h pins s σ H Q I hw)
theorem pe_and (ha : PE X a ta) (hb : PE X (.BoolOp .And (b :: rest) pos) tb) : PE X (.BoolOp .And (a :: b :: rest) pos) (tAndV ta tb) := by
  intro pins s σ H Q I h
  refine BoolOp_and (thn (ha pins s σ H _ I h) fun v s1 ⟨x, H1, I1, r1, q1⟩ => ?_)
  obtain ⟨c, rfl, q1⟩ := q1
  cases r1
  refine wpAny_truthy_bool ?_
  cases c with
  | true => exact hb pins s1 σ H1 Q I1 q1
  | false => exact ⟨.bl false, H1, I1, rfl, q1⟩
theorem pe_not (ha : PE X a ta) : PE X (.UnaryOp .Not a pos) (tNotV ta) := by
  intro pins s σ H Q I h
  refine UnaryOp_ (thn (ha pins s σ H _ I h) fun v s1 ⟨x, H1, I1, r1, q1⟩ => ?_)
  obtain ⟨c, rfl, q1⟩ := q1
  cases r1
  exact not_of (wpAny_truthy_bool ⟨.bl (!c), H1, I1, rfl, q1⟩)
end
end L2
namespace L2
open PySem PySem.Spec PyProof.Rows
def SqL (K : PySem.W.Frag) (H : Hp) (a : Addr) (xs : List V) : Prop :=
  Rd H a (.lst xs) ∨
    ∃ (o : Obj) (its : Array Value) (n : Nat), K.lookup a = some o ∧ o.cls = .type "list" ∧ o.dict = none ∧ o.data = .seq its n ∧ its.size ≤ sizeLine ∧ Vals xs its.toList
def SqT (K : PySem.W.Frag) (H : Hp) (a : Addr) (xs : List V) : Prop :=
  Rd H a (.tup xs) ∨
    ∃ (o : Obj) (its : Array Value) (n : Nat), K.lookup a = some o ∧ o.cls = .type "tuple" ∧ o.data = .seq its n ∧ its.size ≤ sizeLine ∧ Vals xs its.toList
def absV : Value → Option V
  | .none => some .non
  | .bool b => some (.bl b)
  | .int i _ => some (.int i)
  | .str x _ => some (.str x)
  | .bytes b _ => some (.byt b)
  | .float b _ => some (.flt b)
  | .ref a => some (.ref a)
  | .type n => some (.ty n)
  | _ => none
theorem RelV.abs {x : V} {u : Value} (r : RelV x u) : absV u = some x := by
  cases x with
  | non => cases r; rfl
  | bl _ => cases r; rfl
  | int _ => obtain ⟨t, rfl⟩ := r; rfl
  | str _ => obtain ⟨t, rfl⟩ := r; rfl
  | byt _ => obtain ⟨t, rfl⟩ := r; rfl
  | flt _ => obtain ⟨t, rfl⟩ := r; rfl
  | ref _ => cases r; rfl
  | ty _ => cases r; rfl
theorem RelV.inj {x y : V} {u : Value} (r : RelV x u) (q : RelV y u) : x = y := Option.some.inj (r.abs.symm.trans q.abs)
theorem Vals.inj : ∀ {xs ys : List V} {us : List Value}, Vals xs us → Vals ys us → xs = ys
  | _, _, _, .nil, .nil => rfl
  | _, _, _, .cons r t, .cons r' t' => by rw [r.inj r', Vals.inj t t']
section
variable {X : Cx} {pins : List (Addr × Obj)} {σ : St} {H : Hp} {s : Shared} {a : Addr} {xs ys : List V}
theorem SqL.of {K : PySem.W.Frag} (h : H a = some (.lst xs)) : SqL K H a xs := .inl (.inl h)
theorem SqT.of {K : PySem.W.Frag} (h : H a = some (.tup xs)) : SqT K H a xs := .inl (.inl h)
theorem Inv.list (I : Inv X pins σ H s) (h : SqL X.K H a xs) : ∃ its : List Value, Vals xs its ∧ PlainL s.heap a its.toArray ∧ xs.length ≤ sizeLine := by
  rcases h with h | ⟨o, its, n, hk, hc, hd, hs, hz, r⟩
  · obtain ⟨z, its, n, r, e⟩ := h.ok I.hok
    exact ⟨its, r, ⟨_, n, e, rfl, rfl, rfl⟩, z⟩
  · refine ⟨its.toList, r, ⟨o, n, I.kIn a o hk, hc, hd, by simpa using hs⟩, ?_⟩
    have e := r.length
    simp only [Array.length_toList] at e
    omega
theorem Inv.tuple (I : Inv X pins σ H s) (h : SqT X.K H a xs) : ∃ its : List Value, Vals xs its ∧ IsTup s.heap a its.toArray ∧ xs.length ≤ sizeLine := by
  rcases h with h | ⟨o, its, n, hk, hc, hs, hz, r⟩
  · obtain ⟨z, its, r, p⟩ := h.ok I.hok
    exact ⟨its, r, p, z⟩
  · refine ⟨its.toList, r, ⟨o, I.kIn a o hk, hc, n, by simpa using hs⟩, ?_⟩
    have e := r.length
    simp only [Array.length_toList] at e
    omega
theorem Inv.list_inj (I : Inv X pins σ H s) (h : SqL X.K H a xs) (h' : SqL X.K H a ys) : xs = ys := by
  obtain ⟨its, r, ⟨o, n, e, _, _, d⟩, _⟩ := I.list h
  obtain ⟨its', r', ⟨o', n', e', _, _, d'⟩, _⟩ := I.list h'
  rw [e] at e'; cases e'
  rw [d] at d'
  injection d' with d1 _
  have : its = its' := by simpa using congrArg Array.toList d1
  subst this
  exact r.inj r'
theorem Inv.tuple_inj (I : Inv X pins σ H s) (h : SqT X.K H a xs) (h' : SqT X.K H a ys) : xs = ys := by
  obtain ⟨its, r, ⟨o, e, _, n, d⟩, _⟩ := I.tuple h
  obtain ⟨its', r', ⟨o', e', _, n', d'⟩, _⟩ := I.tuple h'
  rw [e] at e'; cases e'
  rw [d] at d'
  injection d' with d1 _
  have : its = its' := by simpa using congrArg Array.toList d1
  subst this
  exact r.inj r'
end
abbrev Cx.wish (X : Cx) (E : Value → Shared → Prop) : Cx := { X with xe := E }
abbrev Cx.nox (X : Cx) : Cx := X.wish fun _ _ => False
theorem Cx.Ok.wish {X : Cx} (ok : X.Ok) (E : Value → Shared → Prop) : (X.wish E).Ok :=
  ⟨ok.mod, ok.kind, ok.glob, ok.blt, ok.above, ok.inj, ok.has, ok.cab, ok.hd, ok.frames, ok.stk, ok.exf, ok.bs, ok.bsz, ok.noex, ok.exfs, ok.funs, ok.frf⟩
theorem Cx.Ok.unwish {X : Cx} {E : Value → Shared → Prop} (ok : (X.wish E).Ok) : X.Ok :=
  ⟨ok.mod, ok.kind, ok.glob, ok.blt, ok.above, ok.inj, ok.has, ok.cab, ok.hd, ok.frames, ok.stk, ok.exf, ok.bs, ok.bsz, ok.noex, ok.exfs, ok.funs, ok.frf⟩
section
variable {X : Cx} {pins : List (Addr × Obj)} {σ : St} {H : Hp} {s : Shared} {E : Value → Shared → Prop}
theorem Inv.wish (I : Inv X pins σ H s) (E : Value → Shared → Prop) : Inv (X.wish E) pins σ H s := ⟨I.ok.wish E, I.os, I.bare, I.base, I.loc, I.cell, I.free, I.freeC, I.pin, I.hok, I.len⟩
theorem Inv.unwish (I : Inv (X.wish E) pins σ H s) : Inv X pins σ H s := ⟨I.ok.unwish, I.os, I.bare, I.base, I.loc, I.cell, I.free, I.freeC, I.pin, I.hok, I.len⟩
theorem SP.unwish {D : Ends} {f : Flow} {s' : Shared} (h : SP (X.wish E) pins D f s') : SP X pins D f s' := by
  cases f with
  | next => obtain ⟨σ', H', I, q⟩ := h; exact ⟨σ', H', I.unwish, q⟩
  | brk => obtain ⟨σ', H', I, q⟩ := h; exact ⟨σ', H', I.unwish, q⟩
  | cont => obtain ⟨σ', H', I, q⟩ := h; exact ⟨σ', H', I.unwish, q⟩
  | ret u => obtain ⟨v, σ', H', I, r, q⟩ := h; exact ⟨v, σ', H', I.unwish, r, q⟩
theorem PE.nox {e : Expr} {t : TE} (h : PE X.nox e t) : PE X e t := fun pins s σ H Q I hw =>
  wpAny_mono (h pins s σ H Q (I.wish _) hw) (fun _ _ ⟨v, H', I', r, q⟩ => ⟨v, H', I'.unwish, r, q⟩) fun _ _ z => False.elim z
theorem PT.nox {e : Expr} {t : TT} (h : PT X.nox e t) : PT X e t := fun pins s σ H Q I hw =>
  wpAny_mono (h pins s σ H Q (I.wish _) hw) (fun _ _ ⟨H', I', q⟩ => ⟨H', I'.unwish, q⟩) fun _ _ z => False.elim z
theorem PSs.nox {st : List Stmt} {t : TS} (h : PSs X.nox st t) : PSs X st t := fun pins s σ H D I hw =>
  wpAny_mono (h pins s σ H D (I.wish _) hw) (fun _ _ q => q.unwish) fun _ _ z => False.elim z
end
section
variable {X : Cx} {st : Stmt} {rest : List Stmt} {t u : TS} {e : Expr} {te : TE} {pos : Pos}
def tNext : TS := fun D σ H => D.nx σ H
def tSeq (t u : TS) : TS := fun D σ H => t { D with nx := u D } σ H
theorem pss_nil : PSs X [] tNext := fun _ _ σ H _ I h => wpAny_execs_nil ⟨σ, H, I, h⟩
theorem pss_cons (h1 : PS X st t) (h2 : PSs X rest u) : PSs X (st :: rest) (tSeq t u) := by
  intro pins s σ H D I h
  refine wpAny_execs_cons (thn (h1 pins s σ H { D with nx := u D } I h) fun f s1 q => ?_)
  cases f with
  | next =>
    obtain ⟨σ', H', I', q⟩ := q
    exact h2 pins s1 σ' H' D I' q
  | ret v => exact q
  | brk => exact q
  | cont => exact q
theorem pss_one (h1 : PS X st t) : PSs X [st] t := by
  intro pins s σ H D I h
  refine wpAny_execs_cons (thn (h1 pins s σ H D I h) fun f s1 q => ?_)
  cases f with
  | next => exact wpAny_execs_nil q
  | ret v => exact q
  | brk => exact q
  | cont => exact q
theorem Inv.quiet {pins : List (Addr × Obj)} {σ : St} {H : Hp} {s : Shared} (I : Inv X pins σ H s) : interactive X.env = false := by simp [interactive, I.ok.kind]
def tDrop (te : TE) : TS := fun D σ H => te σ H fun _ H1 => D.nx σ H1
theorem ps_expr (he : PE X e te) (hs : swapsWith e none pos.line X.env = pure false := by rfl) : PS X (.Expr e pos) (tDrop te) := by
  intro pins s σ H D I h
  exact wpAny_Expr_any (thn (he pins s σ H _ I h) fun v s1 ⟨x, H1, I1, r1, q1⟩ => ⟨σ, H1, I1, q1⟩) I.quiet hs
def tRet (te : TE) : TS := fun D σ H => te σ H D.rt
theorem ps_ret (he : PE X e te) : PS X (.Return (some e) pos) (tRet te) := by
  intro pins s σ H D I h
  exact wpAny_Return_some (thn (he pins s σ H _ I h) fun v s1 ⟨x, H1, I1, r1, q1⟩ => ⟨x, σ, H1, I1, r1, q1⟩)
def tIfS (c : TT) (t u : TS) : TS := fun D σ H => c σ H fun b H1 => if b = true then t D σ H1 else u D σ H1
theorem ps_if {c : Expr} {a b : List Stmt} {tc : TT} (hc : PT X c tc) (ha : PSs X a t) (hb : PSs X b u) : PS X (.If c a b pos) (tIfS tc t u) := by
  intro pins s σ H D I h
  refine wpAny_If (thn (hc pins s σ H _ I h) fun d s1 ⟨H1, I1, q1⟩ => ?_)
  cases d with
  | true => exact ha pins s1 σ H1 D I1 q1
  | false => exact hb pins s1 σ H1 D I1 q1
def tNever : TS := fun _ _ _ => False
theorem ps_never : PS X st tNever := fun _ _ _ _ _ _ h => h.elim
end
abbrev TG := V → St → Hp → (St → Hp → Prop) → Prop
def PG (X : Cx) (target : Expr) (t : TG) : Prop :=
  ∀ (pins : List (Addr × Obj)) (s : Shared) (σ : St) (H : Hp) (v : V) (u : Value) (Q : St → Hp → Prop), Inv X pins σ H s → RelV v u → t v σ H Q →
    wpAny (model X.prog X.w) X.A (assign target X.env u) (fun _ s' => ∃ σ' H', Inv X pins σ' H' s' ∧ Q σ' H') X.xe s
abbrev TSet := V → V → V → Hp → (Hp → Prop) → Prop
def PSet (X : Cx) (t : TSet) : Prop :=
  ∀ (pins : List (Addr × Obj)) (s : Shared) (σ : St) (H : Hp) (o i v : V) (ov iv u : Value) (Q : Hp → Prop), Inv X pins σ H s → RelV o ov → RelV i iv → RelV v u → t o i v H Q →
    wpAny (model X.prog X.w) X.A (setItem ov iv u) (fun _ s' => ∃ H', Inv X pins σ H' s' ∧ Q H') X.xe s
section
variable {X : Cx} {pos : Pos}
def gName (i : Nat) : TG := fun v σ H Q => Q (σ.set i (some v)) H
theorem pg_name {i : Nat} {x : Str} (hN : X.N.Nodup) (hi : X.N[i]? = some x) (hx : Loc X.env.scope x) (hf : X.fn x = true ∨ X.env.scope.names.lookup x = some .local := by first | exact .inl rfl | exact .inr rfl | assumption) : PG X (.Name x pos) (gName i) := by
  intro pins s σ H v u Q I r h
  exact wpAny_assign_Name (store_ok I hN hi hx r (fun s' I' => ⟨_, H, I', h⟩) hf)
def gSub (to ti : TE) (t : TSet) : TG := fun v σ H Q => to σ H fun o H1 => ti σ H1 fun i H2 => t o i v H2 fun H3 => Q σ H3
theorem pg_sub {o i : Expr} {to ti : TE} {t : TSet} (ho : PE X o to) (hi : PE X i ti) (hs : PSet X t)
    (ha : ∀ v, assign (.Subscript o i pos) X.env v = (do
      let ov ← holding [v] (eval o X.env)
      let iv ← holding [v, ov] (eval i X.env)
      standAt pos
      holding [v, ov, iv] (setItem ov iv v)
      release [v, ov, iv] []) := by intro _; rfl) : PG X (.Subscript o i pos) (gSub to ti t) := by
  intro pins s σ H v u Q I r h
  rw [ha]
  refine wpAny_bind (wpAny_holding (thn (ho pins s σ H _ I h) fun ov s1 ⟨x, H1, I1, r1, q1⟩ => ?_))
  refine wpAny_bind (wpAny_holding (thn (hi pins s1 σ H1 _ I1 q1) fun iv s2 ⟨y, H2, I2, r2, q2⟩ => ?_))
  refine wpAny_bind (wpAny_standAt (wpAny_bind (wpAny_holding (thn (hs pins s2 σ H2 x y v ov iv u _ I2 r1 r2 r q2) fun _ s3 ⟨H3, I3, q3⟩ => ?_))))
  exact wpAny_release ⟨σ, H3, I3, q3⟩
def tAsg (te : TE) (g : TG) : TS := fun D σ H => te σ H fun x H1 => g x σ H1 D.nx
theorem ps_asg {tg e : Expr} {te : TE} {g : TG} (he : PE X e te) (hg : PG X tg g) (hs : swapsWithSole [tg] e pos.line X.env = pure false := by rfl) (hw : swappedStores [tg] e X.env = pure none := by rfl)
    (h1 : (assignEach [tg] X.env).map (·.2) = [assign tg X.env] := by rfl) : PS X (.Assign [tg] e pos) (tAsg te g) := by
  intro pins s σ H D I h
  refine wpAny_Assign_stores (thn (he pins s σ H _ I h) fun v s1 ⟨x, H1, I1, r1, q1⟩ => ?_) hs hw
  rw [h1]
  exact thn (hg pins s1 σ H1 x v _ I1 r1 q1) fun _ s2 q => q
theorem ps_set {i : Nat} {x : Str} {e : Expr} {te : TE} {pos' : Pos} (hN : X.N.Nodup) (hi : X.N[i]? = some x) (hx : Loc X.env.scope x) (he : PE X e te) (hs : swapsWith e (some (.Name x pos')) pos.line X.env = pure false := by rfl) (hf : X.fn x = true ∨ X.env.scope.names.lookup x = some .local := by first | exact .inl rfl | exact .inr rfl | assumption) :
    PS X (.Assign [.Name x pos'] e pos) (tAsg te (gName i)) := by
  intro pins s σ H D I h
  refine wpAny_Assign_Name (thn (he pins s σ H _ I h) fun v s1 ⟨y, H1, I1, r1, q1⟩ => ?_) hs
  exact store_ok I1 hN hi hx r1 (fun s2 I2 => ⟨_, H1, I2, q1⟩) hf
end
section
variable {X : Cx} {pos : Pos}
end
structure It where
  go : Nat → Hp → Prop
  yld : Nat → Hp → V → Hp → Prop
  stop : Nat → Hp → Prop
def FpOk (X : Cx) (pins : List (Addr × Obj)) (H : Hp) (b : Addr) : Prop :=
  H b = none ∧ b ≠ X.env.locals ∧ b ∉ X.fs ∧ (b ∈ X.ex ∨ X.s₀.heap.objs.size ≤ b) ∧ (∀ x c, X.env.cells.lookup x = some c → c ≠ b) ∧ ∀ p ∈ X.pn ++ pins, p.1 ≠ b
theorem Inv.fpOk {X : Cx} {pins : List (Addr × Obj)} {σ : St} {H H' : Hp} {s : Shared} {b : Addr} (I : Inv X pins σ H s) (hb : s.heap.objs.size ≤ b) (hn : H' b = none) : FpOk X pins H' b := by
  refine ⟨hn, Nat.ne_of_gt (Nat.lt_of_lt_of_le I.lt hb), I.nofs hb, .inr (Nat.le_trans I.sz hb), fun x c e z => ?_, fun p hp z => ?_⟩
  · obtain ⟨v, q⟩ := I.cell x c e
    exact absurd (Nat.lt_of_lt_of_le q.lt (by rw [z]; exact hb)) (Nat.lt_irrefl _)
  · exact absurd (Nat.lt_of_lt_of_le (Heap.lt_size (I.pin p hp).1) (by rw [z]; exact hb)) (Nat.lt_irrefl _)
structure Turn (P : Program) (w : World) (K : PySem.W.Frag) (tg : Expr) (J : It) (fp : List Addr) (it : Addr) (tn : Nat → Heap → Prop) : Prop where
  mem : it ∈ fp
  obj : ∀ i h, tn i h → ∀ b ∈ fp, ∃ o, h.get? b = some o ∧ ∀ v, o.data ≠ .cell v
  keep : ∀ i h h', tn i h → (∀ b ∈ fp, ∀ o, h.get? b = some o → h'.get? b = some o) → tn i h'
  item : ∀ (X : Cx), X.prog = P → X.w = w → X.K = K → X.calm = true → ∀ (i : Nat) (pins : List (Addr × Obj)) (s : Shared) (σ : St) (H : Hp) (E : Value → Shared → Prop), Inv X pins σ H s → (∀ b ∈ fp, FpOk X pins H b) → tn i s.heap → J.go i H →
    wpAny (model P w) X.A (pyNext (.ref it)) (fun r s1 => ∃ u, r = some u ∧
      wpAny (model P w) X.A (letOwnedTupleGo tg (.ref it) u) (fun _ s2 => ∃ x H', Inv X pins σ H' s2 ∧ RelV x u ∧ J.yld i H x H' ∧ tn (i + 1) s2.heap ∧ ∀ b ∈ fp, H' b = none) E s1) E s
  done : ∀ (X : Cx), X.prog = P → X.w = w → X.K = K → X.calm = true → ∀ (i : Nat) (pins : List (Addr × Obj)) (s : Shared) (σ : St) (H : Hp) (E : Value → Shared → Prop), Inv X pins σ H s → (∀ b ∈ fp, FpOk X pins H b) → tn i s.heap → J.stop i H →
    wpAny (model P w) X.A (pyNext (.ref it)) (fun r s1 => r = none ∧ Inv X pins σ H s1) E s
  self : ∀ (A : Around) (i : Nat) (s : Shared) (Q : Value → Shared → Prop) (E : Value → Shared → Prop), tn i s.heap → Q (.ref it) s → wpAny (model P w) A (pyIter (.ref it)) Q E s
abbrev TI := St → Hp → (It → Hp → Prop) → Prop
def PIE (X : Cx) (pins : List (Addr × Obj)) (σ : St) (tg : Expr) (R : It → Hp → Prop) (itv : Value) (s2 : Shared) : Prop :=
  ∃ (it : Addr) (fp : List Addr) (tn : Nat → Heap → Prop) (J : It) (H' : Hp), itv = .ref it ∧ Inv X pins σ H' s2 ∧ Turn X.prog X.w X.K tg J fp it tn ∧ tn 0 s2.heap ∧ (∀ b ∈ fp, FpOk X pins H' b) ∧ R J H'
def PI (X : Cx) (tg iter : Expr) (wi : TI) : Prop :=
  ∀ (pins : List (Addr × Obj)) (s : Shared) (σ : St) (H : Hp) (R : It → Hp → Prop), Inv X pins σ H s → wi σ H R →
    wpAny (model X.prog X.w) X.A (eval iter X.env) (fun v s1 => wpAny (model X.prog X.w) X.A (pyIter v) (PIE X pins σ tg R) X.xe s1) X.xe s
theorem go_of {M : Model} {A : Around} {E : Value → Shared → Prop} {s : Shared} {tg : Expr} {it : Addr} {u : Value} {o : Obj} {n : String} {vs : Array Value} {Q : Unit → Shared → Prop} (ho : s.heap.get? it = some o) (hc : o.cls = .type n) (hd : o.data = .fields vs)
    (hn : ["enumerate", "zip", "dict_itemiterator", "dict_reverseitemiterator", "odict_iterator", "itertools.zip_longest", "itertools.pairwise"].contains n = false) (hQ : Q () s) : wpAny M A (letOwnedTupleGo tg (.ref it) u) Q E s := by
  unfold letOwnedTupleGo
  cases tg <;> first
    | exact wpAny_pure hQ
    | (cases u <;> first
        | exact wpAny_pure hQ
        | (refine wpAny_bind (wpAny_load ho ?_)
           rw [hc, hd]
           show wpAny M A (if (["enumerate", "zip", "dict_itemiterator", "dict_reverseitemiterator", "odict_iterator", "itertools.zip_longest", "itertools.pairwise"].contains n && vs[0]? == some (rawInt _)) = true then _ else _) Q E s
           rw [if_neg (by intro h; rw [hn, Bool.false_and] at h; cases h)]
           exact wpAny_pure hQ))
def Itl (K : PySem.W.Frag) (a : Addr) : It :=
  ⟨fun i H => ∃ xs x, SqL K H a xs ∧ xs[i]? = some x, fun i H x H' => H' = H ∧ ∀ xs, SqL K H a xs → xs[i]? = some x, fun i H => ∃ xs, SqL K H a xs ∧ xs.length ≤ i⟩
def Itt (K : PySem.W.Frag) (a : Addr) : It :=
  ⟨fun i H => ∃ xs x, SqT K H a xs ∧ xs[i]? = some x, fun i H x H' => H' = H ∧ ∀ xs, SqT K H a xs → xs[i]? = some x, fun i H => ∃ xs, SqT K H a xs ∧ xs.length ≤ i⟩
def Itr (lo : Int) (n : Nat) : It := ⟨fun i _ => i < n, fun i H x H' => H' = H ∧ x = .int (lo + i), fun i _ => n ≤ i⟩
theorem turn_list {P : Program} {w : World} {K : PySem.W.Frag} {tg : Expr} (a it : Addr) : Turn P w K tg (Itl K a) [it] it (fun i h => h.IsListIter it a i) where
  mem := by simp
  obj := fun i h st b hb => by
    have e : b = it := by simpa using hb
    subst e
    obtain ⟨o, e, c, d⟩ := st
    exact ⟨o, e, fun v z => by rw [d] at z; cases z⟩
  keep := fun i h h' st k => st.at fun o e => k it (by simp) o e
  item := by
    intro X hP hw hK hc i pins s σ H E I hf st hg
    subst hP hw hK
    obtain ⟨xs, x, hq, hx⟩ := hg
    obtain ⟨its, rv, p, hz⟩ := I.list hq
    obtain ⟨u, hu, ru⟩ := rv.get hx
    obtain ⟨f0, f1, f2, f3, f4, f5⟩ := hf it (by simp)
    refine wpAny_pyNext_list_item st p.isList (x := u) (by simpa using hu) fun h' st' sb => ?_
    have I1 : Inv X pins σ H { s with heap := h' } := I.turned (t' := s.toks) (fun b o hb e => (sb.2 b hb).trans e) f0 f1 f3 f4 f5
    obtain ⟨o, e, c, d⟩ := id st'
    exact ⟨u, rfl, go_of (s := { s with heap := h' }) e c d (by decide) ⟨x, H, I1, ru, ⟨rfl, fun ys hy => by rw [I.list_inj hy hq]; exact hx⟩, st', fun b hb => (hf b hb).1⟩⟩
  done := by
    intro X hP hw hK hc i pins s σ H E I hf st hg
    subst hP hw hK
    obtain ⟨xs, hq, hx⟩ := hg
    obtain ⟨its, rv, p, hz⟩ := I.list hq
    obtain ⟨f0, f1, f2, f3, f4, f5⟩ := hf it (by simp)
    have hl := rv.length
    exact wpAny_pyNext_list_end (I.ok.hd hc) st p.isList (by simp; omega) fun h' eb => ⟨rfl, I.turned (t' := s.toks) (fun b o hb e => eb b o hb e) f0 f1 f3 f4 f5⟩
  self := fun _ _ _ _ _ st h => wpAny_pyIter_listiter st h
theorem turn_tuple {P : Program} {w : World} {K : PySem.W.Frag} {tg : Expr} (a it : Addr) : Turn P w K tg (Itt K a) [it] it (fun i h => h.IsTupleIter it a i) where
  mem := by simp
  obj := fun i h st b hb => by
    have e : b = it := by simpa using hb
    subst e
    obtain ⟨o, e, c, d⟩ := st
    exact ⟨o, e, fun v z => by rw [d] at z; cases z⟩
  keep := fun i h h' st k => st.at fun o e => k it (by simp) o e
  item := by
    intro X hP hw hK hc i pins s σ H E I hf st hg
    subst hP hw hK
    obtain ⟨xs, x, hq, hx⟩ := hg
    obtain ⟨its, rv, p, hz⟩ := I.tuple hq
    obtain ⟨u, hu, ru⟩ := rv.get hx
    obtain ⟨f0, f1, f2, f3, f4, f5⟩ := hf it (by simp)
    refine wpAny_pyNext_tuple_item st (show s.heap.IsTuple a its.toArray from p) (x := u) (by simpa using hu) fun h' st' sb => ?_
    have I1 : Inv X pins σ H { s with heap := h' } := I.turned (t' := s.toks) (fun b o hb e => (sb.2 b hb).trans e) f0 f1 f3 f4 f5
    obtain ⟨o, e, c, d⟩ := id st'
    exact ⟨u, rfl, go_of (s := { s with heap := h' }) e c d (by decide) ⟨x, H, I1, ru, ⟨rfl, fun ys hy => by rw [I.tuple_inj hy hq]; exact hx⟩, st', fun b hb => (hf b hb).1⟩⟩
  done := by
    intro X hP hw hK hc i pins s σ H E I hf st hg
    subst hP hw hK
    obtain ⟨xs, hq, hx⟩ := hg
    obtain ⟨its, rv, p, hz⟩ := I.tuple hq
    obtain ⟨f0, f1, f2, f3, f4, f5⟩ := hf it (by simp)
    have hl := rv.length
    exact wpAny_pyNext_tuple_end (I.ok.hd hc) st (show s.heap.IsTuple a its.toArray from p) (by simp; omega) fun h' eb => ⟨rfl, I.turned (t' := s.toks) (fun b o hb e => eb b o hb e) f0 f1 f3 f4 f5⟩
  self := fun _ _ _ _ _ st h => wpAny_pyIter_tupleiter st h
theorem turn_range {P : Program} {w : World} {K : PySem.W.Frag} {tg : Expr} (it : Addr) (lo : Int) (n : Nat) : Turn P w K tg (Itr lo n) [it] it (fun i h => IsRangeIter h it (lo + (i : Nat) * 1) ((n : Int) - (i : Nat)) 1) where
  mem := by simp
  obj := fun i h st b hb => by
    have e : b = it := by simpa using hb
    subst e
    exact ⟨_, st, fun v z => by
      have z' : Data.fields _ = Data.cell v := z
      cases z'⟩
  keep := fun i h h' st k => k it (by simp) _ st
  item := by
    intro X hP hw hK hc i pins s σ H E I hf st hg
    subst hP hw hK
    obtain ⟨f0, f1, f2, f3, f4, f5⟩ := hf it (by simp)
    have W := Walks.range (prog := X.prog) (w := X.w) (I.ok.hd hc) it lo 1 n
    refine W.item i s _ _ hg st fun v h' tk hv st' kk => ?_
    obtain ⟨t, rfl⟩ := hv
    have I1 : Inv X pins σ H { s with heap := h', toks := tk } := I.turned (fun b o hb e => kk b o (by simpa using hb) e) f0 f1 f3 f4 f5
    refine ⟨_, rfl, go_of (s := { s with heap := h', toks := tk }) (n := "range_iterator") st' rfl rfl (by decide) ⟨.int (lo + i), H, I1, ⟨t, ?_⟩, ⟨rfl, rfl⟩, st', fun b hb => (hf b hb).1⟩⟩
    rw [Int.mul_one]
  done := by
    intro X hP hw hK hc i pins s σ H E I hf st hg
    subst hP hw hK
    obtain ⟨f0, f1, f2, f3, f4, f5⟩ := hf it (by simp)
    exact wpAny_pyNext_range_end (I.ok.hd hc) st (by have : n ≤ i := hg; omega) fun h' eb => ⟨rfl, I.turned (t' := s.toks) (fun b o hb e => eb b o hb e) f0 f1 f3 f4 f5⟩
  self := fun _ _ _ _ _ st h => wpAny_pyIter_rangeiter st h
end L2
namespace L2
open PySem PySem.Spec PyProof.Rows
section
variable {X : Cx} {tg : Expr}
theorem range_it {pins : List (Addr × Obj)} {σ : St} {H : Hp} {s : Shared} {R : It → Hp → Prop} {E : Value → Shared → Prop} {lo hi : Int} {t u v : Tok} {tk : Nat} (I : Inv X pins σ H s) (h1 : -(2 ^ 62) ≤ lo) (h2 : lo < 2 ^ 62) (h3 : -(2 ^ 62) ≤ hi) (h4 : hi < 2 ^ 62)
    (q : R (Itr lo (hi - lo).toNat) H) : wpAny (model X.prog X.w) X.A (pyIter (.ref s.heap.objs.size)) (PIE X pins σ tg R) E { s with heap := s.heap.push { cls := .type "range", data := .fields #[.int lo t, .int hi u, .int 1 v] }, toks := tk } := by
  refine wpAny_pyIter_range (IsRange.new ..) (small_one h1 h2 h3 h4) ?_
  have I1 : Inv X pins σ H { s with heap := s.heap.push { cls := .type "range", data := .fields #[.int lo t, .int hi u, .int 1 v] }, toks := tk } := I.kept fun b o e => Heap.get?_push_of_some _ e
  refine ⟨(s.heap.push { cls := .type "range", data := .fields #[.int lo t, .int hi u, .int 1 v] }).objs.size, [(s.heap.push { cls := .type "range", data := .fields #[.int lo t, .int hi u, .int 1 v] }).objs.size], _, _, H, rfl,
    I1.kept (t' := tk) fun b o e => Heap.get?_push_of_some _ e, turn_range _ lo (hi - lo).toNat, ?_, fun b hb => ?_, q⟩
  · have e1 : lo + ((0 : Nat) : Int) * 1 = lo := by simp
    have e2 : (((hi - lo).toNat : Nat) : Int) - ((0 : Nat) : Int) = Builtin.Range.rangeSize lo hi 1 := by rw [rangeSize_one]; split <;> omega
    show IsRangeIter _ _ (lo + ((0 : Nat) : Int) * 1) ((((hi - lo).toNat : Nat) : Int) - ((0 : Nat) : Int)) 1
    rw [e1, e2]
    exact Heap.get?_push_size _ rfl
  · have e : b = (s.heap.push { cls := .type "range", data := .fields #[.int lo t, .int hi u, .int 1 v] }).objs.size := by simpa using hb
    subst e
    exact I1.fpOk (Nat.le_refl _) (I1.hok.fresh (Nat.le_refl _))
def iRng1 (ta : TA) : TI := fun σ H R => ta σ H fun vs H1 => ∃ j : Int, vs = [.int j] ∧ -(2 ^ 62) ≤ j ∧ j < 2 ^ 62 ∧ R (Itr 0 j.toNat) H1
theorem pi_range1 {a : Expr} {ta : TA} {p pos : Pos} (hg : Gl X "range") (hm : X.mg "range" = none) (ha : PA X [a] ta) (hs : starEach [a] X.env = [(false, eval a X.env)] := by rfl) : PI X tg (.Call (.Name "range" p) [a] [] pos) (iRng1 ta) := by
  intro pins s σ H R I h
  refine Call_ (ld_blt I hg hm boot_range (PyProof.Rows.callWith_type1 (thn (ha pos pins s σ H _ I h) fun us s1 ⟨vs, H1, I1, r1, q1⟩ => ?_) hs rfl))
  obtain ⟨j, e, q1, q2, q⟩ := q1
  subst e
  cases r1 with
  | cons r rr =>
    cases rr
    obtain ⟨t, rfl⟩ := r
    exact call_range_1 (range_it I1 (by omega) (by omega) q1 q2 (by simpa using q))
def tFor (wi : TI) (g : TG) (tb : TS) : TS := fun D σ H => wi σ H fun J H1 => ∃ W : Nat → Nat → St → Hp → Prop, (∃ m, W 0 m σ H1) ∧ ∀ i m σ H, W i m σ H →
  (J.stop i H ∧ D.nx σ H) ∨ (J.go i H ∧ ∃ N : St → Hp → Prop, (∀ σ' H', N σ' H' → ∃ m', m' < m ∧ W (i + 1) m' σ' H') ∧ ∀ x H', J.yld i H x H' → g x σ H' fun σ2 H2 => tb { D with nx := N, ct := N, bk := D.nx } σ2 H2)
def pinsAt (fp : List Addr) (h : Heap) : List (Addr × Obj) := fp.filterMap fun b => (h.get? b).map fun o => (b, o)
theorem mem_pinsAt {fp : List Addr} {h : Heap} {b : Addr} {o : Obj} (hb : b ∈ fp) (e : h.get? b = some o) : (b, o) ∈ pinsAt fp h := List.mem_filterMap.mpr ⟨b, hb, by rw [e]; rfl⟩
theorem of_pinsAt {fp : List Addr} {h : Heap} {p : Addr × Obj} (hp : p ∈ pinsAt fp h) : p.1 ∈ fp ∧ h.get? p.1 = some p.2 := by
  obtain ⟨b, hb, e⟩ := List.mem_filterMap.mp hp
  cases q : h.get? b with
  | none => rw [q] at e; cases e
  | some o =>
    rw [q] at e
    have e' : (b, o) = p := Option.some.inj e
    subst e'
    exact ⟨hb, q⟩
theorem Inv.pinned {pins : List (Addr × Obj)} {σ : St} {H : Hp} {s : Shared} {fp : List Addr} (I : Inv X pins σ H s) (hf : ∀ b ∈ fp, FpOk X pins H b) (ho : ∀ b ∈ fp, ∃ o, s.heap.get? b = some o ∧ ∀ v, o.data ≠ .cell v) : Inv X (pins ++ pinsAt fp s.heap) σ H s :=
  I.pins_of fun p hp => (List.mem_append.mp hp).elim (fun z => I.pin p (List.mem_append_right _ z)) fun z => by
    obtain ⟨hb, e⟩ := of_pinsAt z
    obtain ⟨f0, f1, f2, _⟩ := hf p.1 hb
    obtain ⟨o, e', d⟩ := ho p.1 hb
    rw [e] at e'; cases e'
    exact ⟨e, f0, f1, f2, d⟩
theorem Inv.unpinned {pins pl : List (Addr × Obj)} {σ : St} {H : Hp} {s : Shared} (I : Inv X (pins ++ pl) σ H s) : Inv X pins σ H s := I.pins_of fun p hp => I.pin p (List.mem_append_right _ (List.mem_append_left _ hp))
theorem ps_for {iter : Expr} {body : List Stmt} {wi : TI} {g : TG} {tb : TS} {pos : Pos} (hp : PassesOwn (model X.prog X.w) X.A X.env X.xe) (hc : X.calm = true) (hi : PI X tg iter wi) (hg : PG X tg g) (hb : PSs X body tb)
    (hs : ∀ x, foldedSetIterable iter X.env x = pure x := by intro _; rfl) : PS X (.For tg iter body [] pos) (tFor wi g tb) := by
  intro pins s σ H D I h
  refine wpAny_For (thn (hi pins s σ H _ I h) fun v s1 h1 => thn h1 fun itv s2 h2 => ?_) hs
  obtain ⟨it, fp, tn, J, H2, e, I2, T, st2, f2, W, ⟨m0, w0⟩, turn⟩ := h2
  subst e
  have stat : ∀ {H' : Hp}, (∀ b ∈ fp, H' b = none) → ∀ b ∈ fp, FpOk X pins H' b := fun hn b hb => ⟨hn b hb, (f2 b hb).2⟩
  refine codeAny_forLoop_any (fun n s' => ∃ i σ' H', Inv X pins σ' H' s' ∧ tn i s'.heap ∧ (∀ b ∈ fp, H' b = none) ∧ W i n σ' H') ?_ m0 ⟨0, σ, H2, I2, st2, fun b hb => (f2 b hb).1, w0⟩
  rintro n s3 ⟨i, σ3, H3, I3, st3, fr3, w3⟩
  rcases turn i n σ3 H3 w3 with ⟨stop, qn⟩ | ⟨go, N, hN, step⟩
  · refine wpAny_passesOwn hp (thn (T.done X rfl rfl rfl hc i pins s3 σ3 H3 X.xe I3 (stat fr3) st3 stop) fun r s4 ⟨hr, I4⟩ => ?_)
    subst hr
    exact wpAny_execs_nil ⟨σ3, H3, I4, qn⟩
  · refine wpAny_passesOwn hp (thn (T.item X rfl rfl rfl hc i pins s3 σ3 H3 X.xe I3 (stat fr3) st3 go) fun r s4 ⟨u, hr, h4⟩ => ?_)
    subst hr
    refine wpAny_passesOwn hp (thn h4 fun _ s5 ⟨x, H5, I5, r5, y5, st5, fr5⟩ => ?_)
    have I5' := I5.pinned (stat fr5) (T.obj _ _ st5)
    refine wpAny_passesOwn hp (thn (hg _ s5 σ3 H5 x u _ I5' r5 (step x H5 y5)) fun _ s6 ⟨σ6, H6, I6, q6⟩ => ?_)
    refine wpAny_passesOwn hp (thn (hb _ s6 σ6 H6 _ I6 q6) fun f s7 q7 => ?_)
    have again : ∀ {σ7 : St} {H7 : Hp}, Inv X (pins ++ pinsAt fp s5.heap) σ7 H7 s7 → N σ7 H7 → ∃ m, m < n ∧ ∃ i σ' H', Inv X pins σ' H' s7 ∧ tn i s7.heap ∧ (∀ b ∈ fp, H' b = none) ∧ W i m σ' H' := fun {σ7 H7} I7 n7 => by
      obtain ⟨m', hm, w7⟩ := hN σ7 H7 n7
      refine ⟨m', hm, i + 1, σ7, H7, I7.unpinned, T.keep _ _ _ st5 fun b hb o e => (I7.pin (b, o) (List.mem_append_right _ (List.mem_append_right _ (mem_pinsAt hb e)))).1, fun b hb => ?_, w7⟩
      obtain ⟨o, e, d⟩ := T.obj _ _ st5 b hb
      exact (I7.pin (b, o) (List.mem_append_right _ (List.mem_append_right _ (mem_pinsAt hb e)))).2.1
    cases f with
    | next => obtain ⟨σ7, H7, I7, n7⟩ := q7; exact again I7 n7
    | cont => obtain ⟨σ7, H7, I7, n7⟩ := q7; exact again I7 n7
    | brk => obtain ⟨σ7, H7, I7, q7⟩ := q7; exact ⟨σ7, H7, I7.unpinned, q7⟩
    | ret v => obtain ⟨x7, σ7, H7, I7, r7, q7⟩ := q7; exact ⟨x7, σ7, H7, I7.unpinned, r7, q7⟩
end
end L2
namespace L2
open PySem PySem.Spec PyProof.Rows
abbrev R2 := V → V → Hp → VK → Prop
def OpR (X : Cx) (f : Value → Value → Sem Value) (r : R2) : Prop :=
  ∀ (pins : List (Addr × Obj)) (s : Shared) (σ : St) (H : Hp) (x y : V) (v u : Value) (Q : VK), Inv X pins σ H s → RelV x v → RelV y u → r x y H Q →
    wpAny (model X.prog X.w) X.A (f v u) (EP X pins σ Q) X.xe s
def CallR (X : Cx) (f : Value) (r : List V → Hp → VK → Prop) : Prop :=
  ∀ (pins : List (Addr × Obj)) (s : Shared) (σ : St) (H : Hp) (xs : List V) (us : List Value) (Q : VK), Inv X pins σ H s → Vals xs us → r xs H Q →
    wpAny (model X.prog X.w) X.A (call f us) (EP X pins σ Q) X.xe s
def tOp (r : R2) (ta tb : TE) : TE := fun σ H Q => ta σ H fun x H1 => tb σ H1 fun y H2 => r x y H2 Q
def rI (C : Int → Int → Prop) (g : Int → Int → V) : R2 := fun x y H Q => ∃ i j, x = .int i ∧ y = .int j ∧ C i j ∧ Q (g i j) H
def rI0 (g : Int → Int → V) : R2 := fun x y H Q => ∃ i j, x = .int i ∧ y = .int j ∧ Q (g i j) H
section
variable {X : Cx} {a b c : Expr} {ta tb tc : TE} {pos : Pos}
theorem binT (ha : PE X a ta) (hb : PE X b tb) {pins : List (Addr × Obj)} {s : Shared} {σ : St} {H : Hp} {R : V → V → Hp → Prop} (I : Inv X pins σ H s)
    (h : ta σ H fun x H1 => tb σ H1 fun y H2 => R x y H2) {Q : Value → Shared → Prop} {f : Value → Value → Sem Value}
    (hf : ∀ v u s2 x y H2, Inv X pins σ H2 s2 → RelV x v → RelV y u → R x y H2 → wpAny (model X.prog X.w) X.A (f v u) Q X.xe s2) :
    wpAny (model X.prog X.w) X.A (eval a X.env) (fun v s₁ => wpAny (model X.prog X.w) X.A (eval b X.env) (fun u s₂ => wpAny (model X.prog X.w) X.A (f v u) Q X.xe s₂) X.xe s₁) X.xe s := by
  refine thn (ha pins s σ H _ I h) fun v s1 ⟨x, H1, I1, r1, q1⟩ => ?_
  refine thn (hb pins s1 σ H1 _ I1 q1) fun u s2 ⟨y, H2, I2, r2, q2⟩ => ?_
  exact hf v u s2 x y H2 I2 r1 r2 q2
theorem pe_op {op : Operator} {r : R2} (ho : OpR X (binaryOp op) r) (ha : PE X a ta) (hb : PE X b tb) : PE X (.BinOp a op b pos) (tOp r ta tb) := by
  intro pins s σ H Q I h
  exact wpAny_BinOp (binT ha hb I h fun v u s2 x y H2 I2 rx ry q => ho pins s2 σ H2 x y v u Q I2 rx ry q)
theorem opI {f : Value → Value → Sem Value} {C : Int → Int → Prop} {g : Int → Int → Int}
    (rule : ∀ (i j : Int) (t u : Tok) (s : Shared) (Q : Value → Shared → Prop) (E : Value → Shared → Prop), C i j → Q (.int (g i j) s.toks) { s with toks := s.toks + 1 } → wpAny (model X.prog X.w) X.A (f (.int i t) (.int j u)) Q E s) :
    OpR X f (rI C fun i j => .int (g i j)) := by
  intro pins s σ H x y v u Q I rx ry h
  obtain ⟨i, j, rfl, rfl, hc, q⟩ := h
  obtain ⟨t, rfl⟩ := rx
  obtain ⟨t', rfl⟩ := ry
  exact rule i j t t' s _ _ hc ⟨.int (g i j), H, I.tok _, ⟨_, rfl⟩, q⟩
theorem opI0 {f : Value → Value → Sem Value} {g : Int → Int → Int}
    (rule : ∀ (i j : Int) (t u : Tok) (s : Shared) (Q : Value → Shared → Prop) (E : Value → Shared → Prop), Q (.int (g i j) s.toks) { s with toks := s.toks + 1 } → wpAny (model X.prog X.w) X.A (f (.int i t) (.int j u)) Q E s) :
    OpR X f (rI0 fun i j => .int (g i j)) := by
  intro pins s σ H x y v u Q I rx ry h
  obtain ⟨i, j, rfl, rfl, q⟩ := h
  obtain ⟨t, rfl⟩ := rx
  obtain ⟨t', rfl⟩ := ry
  exact rule i j t t' s _ _ ⟨.int (g i j), H, I.tok _, ⟨_, rfl⟩, q⟩
theorem opB0 {f : Value → Value → Sem Value} {g : Int → Int → Bool}
    (rule : ∀ (i j : Int) (t u : Tok) (s : Shared) (Q : Value → Shared → Prop) (E : Value → Shared → Prop), Q (.bool (g i j)) s → wpAny (model X.prog X.w) X.A (f (.int i t) (.int j u)) Q E s) :
    OpR X f (rI0 fun i j => .bl (g i j)) := by
  intro pins s σ H x y v u Q I rx ry h
  obtain ⟨i, j, rfl, rfl, q⟩ := h
  obtain ⟨t, rfl⟩ := rx
  obtain ⟨t', rfl⟩ := ry
  exact rule i j t t' s _ _ ⟨.bl (g i j), H, I, rfl, q⟩
def CDiv (i j : Int) : Prop := 0 < j ∧ j < 1073741824
def CMul (i j : Int) : Prop := (-(2 ^ 64) < i ∧ i < 2 ^ 64) ∨ (-(2 ^ 64) < j ∧ j < 2 ^ 64)
theorem CMul.ok {i j : Int} (h : CMul i j) : IntMulOk i j := by
  rcases h with ⟨h1, h2⟩ | ⟨h1, h2⟩
  · exact .of_left (intBits_le_64 h1 h2)
  · exact .of_right (intBits_le_64 h1 h2)
theorem op_add : OpR X (binaryOp .Add) (rI0 fun i j => .int (i + j)) := opI0 fun _ _ _ _ _ _ _ q => add_int q
theorem op_sub : OpR X (binaryOp .Sub) (rI0 fun i j => .int (i - j)) := opI0 fun _ _ _ _ _ _ _ q => sub_int q
theorem op_mul : OpR X (binaryOp .Mult) (rI CMul fun i j => .int (i * j)) := opI fun _ _ _ _ _ _ _ hc q => mul_int q hc.ok
theorem op_fdiv : OpR X (binaryOp .FloorDiv) (rI CDiv fun i j => .int (i / j)) := opI fun i j _ _ _ _ _ hc q => by
  have h1 : (0 : Int) < j := hc.1
  have h2 : j < 1073741824 := hc.2
  exact floordiv_int (by omega) (by rw [Int.fdiv_eq_ediv_of_nonneg i (by omega)]; exact q) (.inl (PyProof.noPylong_small (by omega)))
theorem op_mod : OpR X (binaryOp .Mod) (rI (fun _ j => 0 < j) fun i j => .int (i % j)) := opI fun i j _ _ _ _ _ hc q => by
  have h1 : (0 : Int) < j := hc
  exact mod_int' (by omega) (by rw [Int.fmod_eq_emod_of_nonneg i (by omega)]; exact q)
end
def scal : V → V → Bool
  | .non, .non => true | .non, .int _ => true | .int _, .non => true | .non, .bl _ => true | .bl _, .non => true | .non, .str _ => true | .str _, .non => true
  | .int _, .int _ => true | .bl _, .bl _ => true | .str _, .str _ => true | .byt _, .byt _ => true
  | .int _, .str _ => true | .str _, .int _ => true | .bl _, .str _ => true | .str _, .bl _ => true
  | _, _ => false
section
variable {X : Cx} {a b c : Expr} {ta tb tc : TE} {pos : Pos}
theorem op_lt : OpR X (compareOp .Lt) (rI0 fun i j => .bl (decide (i < j))) := opB0 fun _ _ _ _ _ _ _ q => lt_int q
theorem op_gt : OpR X (compareOp .Gt) (rI0 fun i j => .bl (decide (j < i))) := opB0 fun _ _ _ _ _ _ _ q => gt_int q
theorem op_ge : OpR X (compareOp .GtE) (rI0 fun i j => .bl (decide (j ≤ i))) := opB0 fun _ _ _ _ _ _ _ q => ge_int q
theorem OpR.or {f : Value → Value → Sem Value} {r r' : R2} (h : OpR X f r) (h' : OpR X f r') : OpR X f (fun x y H Q => r x y H Q ∨ r' x y H Q) := by
  intro pins s σ H x y v u Q I rx ry q
  rcases q with q | q
  · exact h pins s σ H x y v u Q I rx ry q
  · exact h' pins s σ H x y v u Q I rx ry q
theorem nomark (b : Expr) {op : CmpOp} (h : op ≠ .In := by decide) (h2 : op ≠ .NotIn := by decide) : behindInMarks op b = false := by
  have e1 : (op == CmpOp.In) = false := by cases op <;> first | rfl | exact absurd rfl h
  have e2 : (op == CmpOp.NotIn) = false := by cases op <;> first | rfl | exact absurd rfl h2
  cases b <;> simp [behindInMarks, e1, e2]
theorem pe_cmpR {op : CmpOp} {r : R2} (ho : OpR X (compareOp op) r) (ha : PE X a ta) (hb : PE X b tb) (hm : behindInMarks op b = false) : PE X (.Compare a [op] [b] pos) (tOp r ta tb) := by
  intro pins s σ H Q I h
  exact wpAny_Compare1 (binT ha hb I h fun v u s2 x y H2 I2 rx ry q => ho pins s2 σ H2 x y v u Q I2 rx ry q) hm
def tTest (t : TE) : TT := fun σ H Q => t σ H fun x H' => ∃ k, x = .bl k ∧ Q k H'
theorem pt_cmpR {op : CmpOp} {r : R2} (ho : OpR X (compareOp op) r) (ha : PE X a ta) (hb : PE X b tb) (hm : behindInMarks op b = false) : PT X (.Compare a [op] [b] pos) (tTest (tOp r ta tb)) := by
  intro pins s σ H Q I h
  refine wpAny_isTrue_Compare1 (thn (ha pins s σ H _ I h) fun v s1 ⟨x, H1, I1, r1, q1⟩ => thn (hb pins s1 σ H1 _ I1 q1) fun u s2 ⟨y, H2, I2, r2, q2⟩ =>
    thn (ho pins s2 σ H2 x y v u _ I2 r1 r2 q2) fun c s3 ⟨z, H3, I3, r3, k, e, q3⟩ => ?_) hm
  subst e
  cases r3
  exact wpAny_truthy_bool ⟨H3, I3, q3⟩
theorem line63 : (sizeLine : Nat) < 2 ^ 63 := by rw [sizeLine_eq]; decide
theorem op_add_str : OpR X (binaryOp .Add) (fun x y H Q => ∃ i j, x = .str i ∧ y = .str j ∧ i.length + j.length ≤ sizeLine ∧ Q (.str (i ++ j)) H) := by
  intro pins s σ H x y v u Q I rx ry h
  obtain ⟨i, j, rfl, rfl, hz, q⟩ := h
  obtain ⟨t, rfl⟩ := rx
  obtain ⟨t', rfl⟩ := ry
  exact add_str (fun t' tk => ⟨.str (i ++ j), H, I.tok _, ⟨_, rfl⟩, q⟩) hz
theorem vals1 {x : V} {us : List Value} (r : Vals [x] us) : ∃ u, us = [u] ∧ RelV x u := by
  cases r with
  | cons r1 r2 => cases r2; exact ⟨_, rfl, r1⟩
theorem call_int1 : CallR X (.type "int") (fun xs H Q => (∃ i, xs = [.int i] ∧ Q (.int i) H) ∨ ∃ k, xs = [.bl k] ∧ Q (.int (if k then 1 else 0)) H) := by
  intro pins s σ H xs us Q I r h
  rcases h with ⟨i, rfl, q⟩ | ⟨k, rfl, q⟩
  · obtain ⟨u, rfl, t, rfl⟩ := vals1 r
    exact call_int_int ⟨.int i, H, I, ⟨_, rfl⟩, q⟩
  · obtain ⟨u, rfl, r1⟩ := vals1 r
    cases r1
    exact call_int_bool ⟨.int (if k then 1 else 0), H, I.tok _, ⟨_, rfl⟩, q⟩
theorem call_str_int : CallR X (.type "str") (fun xs H Q => ∃ i, xs = [.int i] ∧ i.natAbs.log2 < 1920 ∧ Q (.str (toString i)) H) := by
  intro pins s σ H xs us Q I r h
  obtain ⟨i, rfl, hz, q⟩ := h
  obtain ⟨u, rfl, t, rfl⟩ := vals1 r
  exact PySem.P.str_of_int hz ⟨.str _, H, I.tok _, ⟨_, rfl⟩, q⟩
end
end L2
namespace L2
open PySem PySem.Spec PyProof.Rows
section
variable {prog : Program} {w : World} {A : Around} {E : Value → Shared → Prop} {s : Shared} {K : PySem.W.Frag} {x dx C f : Addr} {mA : Str → Option Value} {name : Str} {v : Value}
end
section
variable {P : Program} {w : World} {H H' : Hp} {h h' : Heap} {a C dx : Addr} {fs fs' : List (Str × V)}
end
structure Cls (K : PySem.W.Frag) (C : Addr) : Prop where
  pg : PySem.W.plainGet K C Str.empty = true
  hd : PySem.W.hasDictIn K C = true
  po : PySem.W.plainOver K C = true
  sa : PySem.W.findIn K (.ref C) "__setattr__" = some (some (.builtin "object.__setattr__"))
theorem Cls.get {K : PySem.W.Frag} {C : Addr} (c : Cls K C) (f : Str) : PySem.W.plainGet K C f = true := c.pg
section
variable {X : Cx} {pins : List (Addr × Obj)} {σ : St} {H : Hp} {s : Shared} {a C dx : Addr} {fs : List (Str × V)} {f : Str} {v : V} {A : Around} {E : Value → Shared → Prop}
theorem Inv.made (I : Inv X pins σ H s) : Inv X pins σ (upd (upd H s.heap.objs.size (.own (s.heap.objs.size + 1))) (s.heap.objs.size + 1) (.ins C s.heap.objs.size []))
    { s with heap := (s.heap.push PySem.W.emptyDict).push (PySem.W.instObj C s.heap.objs.size) } := by
  have e1 : (s.heap.push PySem.W.emptyDict).get? s.heap.objs.size = some PySem.W.emptyDict := Heap.get?_push_size s.heap rfl
  have e2 : ((s.heap.push PySem.W.emptyDict).push (PySem.W.instObj C s.heap.objs.size)).get? (s.heap.objs.size + 1) = some (PySem.W.instObj C s.heap.objs.size) := by
    have := Heap.get?_push_size (s.heap.push PySem.W.emptyDict) (o := PySem.W.instObj C s.heap.objs.size) rfl
    rwa [Heap.size_push] at this
  have e3 : (s.heap.push PySem.W.emptyDict).Ns s.heap.objs.size (fun _ => none) := ⟨PySem.W.emptyDict, #[], _, e1, rfl, (fun e he => absurd he (by simp)), fun _ => rfl⟩
  have I1 := I.laid (a := s.heap.objs.size) (o := .own (s.heap.objs.size + 1)) (h' := s.heap.push PySem.W.emptyDict) (t' := s.toks) (fun b u q => Heap.get?_push_of_some _ q) (Nat.le_refl _) ⟨_, e1⟩
  refine I1.laid (a := s.heap.objs.size + 1) (o := .ins C s.heap.objs.size []) (t' := s.toks) (fun b u q => Heap.get?_push_of_some _ q) (Nat.le_of_eq (Heap.size_push _ _)) ?_
  have ne : s.heap.objs.size ≠ s.heap.objs.size + 1 := Nat.ne_of_lt (Nat.lt_succ_self _)
  refine ⟨by rw [upd_ne ne, upd_same], Nat.zero_le _, ne, e2, fun _ => none, (Heap.Ns1.of_empty e3).at fun o q => Heap.get?_push_of_some _ q, fun _ => True.intro, fun y hy => absurd rfl hy⟩
end
section
variable {X : Cx} {o e value : Expr} {f : Str} {pos pos' tpos : Pos} {ta tv : TE}
end
section
variable {X : Cx} {pins : List (Addr × Obj)} {σ : St} {H : Hp} {s : Shared} {A : Around} {E : Value → Shared → Prop} {Q : Value → Shared → Prop} {c : Value} {b : Bool}
end
end L2
namespace L2
open PySem PySem.Spec PyProof.Rows
structure Room (k : Nat) (A : Around) : Prop where
  hd : A.handled = none
  dp : A.depth + 3 * k + 5 < recursionLimit
  un : A.units + 16 * k + 200 < cLine
theorem Room.mono {j k : Nat} {A : Around} (r : Room k A) (h : j ≤ k) : Room j A := ⟨r.hd, by have := r.dp; omega, by have := r.un; omega⟩
theorem Room.deeper {k : Nat} {A : Around} (r : Room (k + 1) A) (env : Env) : Room k (A.deeper env) :=
  ⟨r.hd, by have := r.dp; show A.depth + 1 + 3 * k + 5 < _; omega, by have := r.un; show A.units + 3 + 16 * k + 200 < _; omega⟩
theorem Room.in1 {k : Nat} {A : Around} (r : Room (k + 1) A) : Room k A.in1 :=
  ⟨r.hd, by have := r.dp; show A.depth + 3 * k + 5 < _; omega, by have := r.un; show A.units + 1 + 16 * k + 200 < _; omega⟩
theorem Room.depth {k : Nat} {A : Around} (r : Room k A) : A.depth < recursionLimit := by have := r.dp; omega
theorem Room.units {k : Nat} {A : Around} (r : Room k A) : A.units + 64 < cLine := by have := r.un; omega
def tNil : TA := fun _ H Q => Q [] H
def tCons (ta : TE) (tr : TA) : TA := fun σ H Q => ta σ H fun x H1 => tr σ H1 fun xs H2 => Q (x :: xs) H2
section
variable {X : Cx} {e : Expr} {es : List Expr} {te : TE} {t : TA} {pos : Pos}
theorem pa_nil : PA X [] tNil := fun _ _ _ _ H Q I h => Calls.spliced_nil ⟨[], H, I, .nil, h⟩
theorem pa_cons (ha : PE X e te) (hr : PA X es t) (hs : starEach (e :: es) X.env = (false, eval e X.env) :: starEach es X.env := by rfl) : PA X (e :: es) (tCons te t) := by
  intro pos pins s σ H Q I h
  rw [hs]
  show wpAny _ _ (spliced ((false, eval e X.env) :: backTo pos (starEach es X.env))) _ _ s
  refine Calls.spliced_cons (thn (ha pins s σ H _ I h) fun u s1 ⟨x, H1, I1, r1, q1⟩ => ?_)
  exact thn (hr pos pins s1 σ H1 _ I1 q1) fun us s2 ⟨xs, H2, I2, r2, q2⟩ => ⟨x :: xs, H2, I2, .cons r1 r2, q2⟩
def tTup (t : TA) : TE := fun σ H Q => t σ H fun xs H1 => xs.length ≤ sizeLine ∧ ∀ p, H1 p = none → Q (.ref p) (upd H1 p (.tup xs))
def tLst (t : TA) : TE := fun σ H Q => t σ H fun xs H1 => xs.length ≤ sizeLine ∧ ∀ p, H1 p = none → Q (.ref p) (upd H1 p (.lst xs))
theorem pe_tup {x1} (h : PA X es t) : PE X (.Tuple es x1 pos) (tTup t) := by
  intro pins s σ H Q I hq
  refine wpAny_Tuple_spliced (thn (h pos pins s σ H _ I hq) fun us s1 ⟨xs, H1, I1, r, z, q⟩ => ⟨by rw [← r.length]; exact z, ?_⟩)
  have hf : H1 s1.heap.objs.size = none := I1.hok.fresh (Nat.le_refl _)
  refine ⟨.ref s1.heap.objs.size, upd H1 s1.heap.objs.size (.tup xs), I1.laid (t' := s1.toks) (fun b u e => Heap.get?_push_of_some _ e) (Nat.le_refl _) ?_, rfl, q _ hf⟩
  exact ⟨z, us, r, ⟨_, Heap.get?_push_size _ rfl, rfl, _, rfl⟩⟩
theorem pe_lst (h : PA X es t) : PE X (.List es pos) (tLst t) := by
  intro pins s σ H Q I hq
  refine wpAny_List_spliced (thn (h pos pins s σ H _ I hq) fun us s1 ⟨xs, H1, I1, r, z, q⟩ => ⟨by rw [← r.length]; exact z, ?_⟩)
  have hf : H1 s1.heap.objs.size = none := I1.hok.fresh (Nat.le_refl _)
  refine ⟨.ref s1.heap.objs.size, upd H1 s1.heap.objs.size (.lst xs), I1.laid (t' := s1.toks) (fun b u e => Heap.get?_push_of_some _ e) (Nat.le_refl _) ?_, rfl, q _ hf⟩
  exact ⟨z, us, 0, r, Heap.get?_push_size _ rfl⟩
end
abbrev Sp := List V → Hp → VK → XK → Prop
abbrev CXT := List Env → Hp → Shared → XK → Value → Shared → Prop
structure Env0 (P : Program) (w : World) (K : PySem.W.Frag) (mg : Str → Option Value) (base : Heap) (A : Around) (outer : List Env) (s : Shared) (H : Hp) : Prop where
  frames : A.frames = some outer
  mod : Mod K mg base
  bs : ∀ b o, base.get? b = some o → s.heap.get? b = some o ∧ H b = none
  bsz : base.objs.size ≤ s.heap.objs.size
  funs : s.heap.FunFrames base outer
  frf : ∀ b ∈ frs outer, H b = none
  hok : HOk P w H s.heap
  bare : AllBare s.gens
def CE (outer : List Env) (P : Program) (w : World) (H : Hp) (s : Shared) (Q : VK) (u : Value) (s' : Shared) : Prop :=
  ∃ v H', s'.os = s.os ∧ AllBare s'.gens ∧ Un (frs outer) [] H H' s.heap s'.heap ∧ HOk P w H' s'.heap ∧ RelV v u ∧ Q v H'
def CR (CX : CXT) (outer : List Env) (P : Program) (w : World) (H : Hp) (s : Shared) (Q : VK) (E : XK) (r : Result) (s' : Shared) : Prop :=
  match r with
  | .ok (.ret u) => CE outer P w H s Q u s'
  | .ok _ => False
  | .error e => CX outer H s E e s'
structure FnOk (P : Program) (w : World) (K : PySem.W.Frag) (mg : Str → Option Value) (base : Heap) (CX : CXT) (k : Nat) (f : Addr) (fd : FuncData) (ps : List Str) (sp : Sp) : Prop where
  len : ∀ vs H Q E, sp vs H Q E → vs.length = ps.length
  run : ∀ (A : Around) (outer : List Env) (s : Shared) (H : Hp) (args : Args) (us : List Value) (vs : List V) (Q : VK) (E : XK), Room k A → Env0 P w K mg base A outer s H → BindsTo s fd args (ps.zip us) → Vals vs us → sp vs H Q E →
    codeAny (model P w) A (.call (.ref f) args) (CR CX outer P w H s Q E) s
theorem FnOk.mono {P : Program} {w : World} {K : PySem.W.Frag} {mg : Str → Option Value} {base : Heap} {CX : CXT} {j k : Nat} {f : Addr} {fd : FuncData} {ps : List Str} {sp : Sp} (F : FnOk P w K mg base CX j f fd ps sp) (h : j ≤ k) :
    FnOk P w K mg base CX k f fd ps sp := ⟨F.len, fun A outer s H args us vs Q E hr => F.run A outer s H args us vs Q E (hr.mono h)⟩
theorem FnOk.imp {P : Program} {w : World} {K : PySem.W.Frag} {mg : Str → Option Value} {base : Heap} {CX : CXT} {k : Nat} {f : Addr} {fd : FuncData} {ps : List Str} {sp sp' : Sp} (F : FnOk P w K mg base CX k f fd ps sp)
    (h : ∀ vs H Q E, sp' vs H Q E → sp vs H Q E) : FnOk P w K mg base CX k f fd ps sp' :=
  ⟨fun vs H Q E q => F.len vs H Q E (h _ _ _ _ q), fun A outer s H args us vs Q E hr he hb hv hs => F.run A outer s H args us vs Q E hr he hb hv (h _ _ _ _ hs)⟩
theorem Env0.in1 {P : Program} {w : World} {K : PySem.W.Frag} {mg : Str → Option Value} {base : Heap} {A : Around} {outer : List Env} {s : Shared} {H : Hp} (e : Env0 P w K mg base A outer s H) :
    Env0 P w K mg base A.in1 outer s H := ⟨e.frames, e.mod, e.bs, e.bsz, e.funs, e.frf, e.hok, e.bare⟩
section
variable {X : Cx} {pins : List (Addr × Obj)} {σ : St} {H : Hp} {s s' : Shared}
theorem Inv.env0 (I : Inv X pins σ H s) : Env0 X.prog X.w X.K X.mg X.base X.A X.stack s H :=
  ⟨I.ok.frames, I.ok.mod, I.bs, Nat.le_trans I.ok.bsz I.sz, I.stack, I.stkFree, I.hok, I.bare⟩
theorem Inv.after {Q : VK} {u : Value} (I : Inv X pins σ H s) (h : CE X.stack X.prog X.w H s Q u s') : EP X pins σ Q u s' := by
  obtain ⟨v, H', os, bare, un, hok, r, q⟩ := h
  obtain ⟨hh, g, d, t, os'⟩ := s'
  obtain rfl : os' = s.os := os
  exact ⟨v, H', I.call (h' := hh) (g' := g) (d' := d) (t' := t) (ch := []) un hok bare (fun b z => absurd z (by simp)), r, q⟩
end
def tCall (sp : Sp) (dvs : List V) (E : XK) (t : TA) : TE := fun σ H Q => t σ H fun vs H1 => sp (vs ++ dvs) H1 Q E
def Binds (K : PySem.W.Frag) (fd : FuncData) (ps : List Str) (ds : List Value) : Prop :=
  ∀ (s : Shared) (us : List Value), K.In s.heap → (us ++ ds).length = ps.length → BindsTo s fd ⟨us, []⟩ (ps.zip (us ++ ds))
theorem Binds.all {K : PySem.W.Frag} {fd : FuncData} {ps : List Str} (h : ∀ us : List Value, us.length = ps.length → bindArgs fd ⟨us, []⟩ = pure (ps.zip us)) : Binds K fd ps [] := fun s us _ hl => by
  rw [List.append_nil] at hl ⊢
  exact .of_eq (h us hl)
def Passes (CX : CXT) (X : Cx) (E : XK) : Prop := ∀ (pins : List (Addr × Obj)) (σ : St) (H : Hp) (s : Shared) (e : Value) (s' : Shared), Inv X pins σ H s → CX X.stack H s E e s' → X.xe e s'
section
variable {X : Cx} {CX : CXT} {k : Nat} {f C : Addr} {fd : FuncData} {ps : List Str} {sp : Sp} {dvs : List V} {ds : List Value} {E : XK} {x m : Str} {p pos apos : Pos} {e o : Expr} {es : List Expr} {ta : TE} {t : TA}
theorem run_fn {pins : List (Addr × Obj)} {σ : St} {H : Hp} {s : Shared} {Q : VK} {us : List Value} {vs : List V} (F : FnOk X.prog X.w X.K X.mg X.base CX k f fd ps sp) (hr : Room k X.A) (hb : Binds X.K fd ps ds) (hd : Vals dvs ds) (hx : Passes CX X E)
    (I : Inv X pins σ H s) (r : Vals vs us) (h : sp (vs ++ dvs) H Q E) : wpAny (model X.prog X.w) X.A (call (.ref f) us) (EP X pins σ Q) X.xe s := by
  have r2 : Vals (vs ++ dvs) (us ++ ds) := r.append hd
  have hl : (us ++ ds).length = ps.length := by rw [← r2.length]; exact F.len _ _ _ _ h
  refine wpAny_call (codeAny_mono (F.run X.A X.stack s H ⟨us, []⟩ (us ++ ds) (vs ++ dvs) Q E hr I.env0 (hb s us I.kIn hl) r2 h) fun r s' hq => ?_)
  cases r with
  | error e => exact hx pins σ H s e s' I hq
  | ok fl =>
    cases fl with
    | ret u => exact I.after hq
    | next => exact False.elim hq
    | brk => exact False.elim hq
    | cont => exact False.elim hq
theorem pe_call (F : FnOk X.prog X.w X.K X.mg X.base CX k f fd ps sp) (hr : Room k X.A) (hg : Gl X x) (hm : X.mg x = some (.ref f)) (hk : PySem.W.keepIn X.K (.ref f) = true) (hb : Binds X.K fd ps ds) (hd : Vals dvs ds) (hx : Passes CX X E)
    (ha : PA X (e :: es) t) (hdb : (x == ("__debug__" : Str)) = false := by decide) (he : starEach (e :: es) X.env = (false, eval e X.env) :: starEach es X.env := by rfl) (hpl : (backTo pos (starEach es X.env)).any (·.1) = false := by rfl) :
    PE X (.Call (.Name x p) (e :: es) [] pos) (tCall sp dvs E t) := by
  intro pins s σ H Q I h
  refine wpAny_Call_Name_kw (ld_glob I hg hm ?_ hdb)
  refine PySem.W.callWith_K (h₀ := X.base) I.ok.mod.kin hk (thn (ha pos pins s σ H _ I h) fun us s1 ⟨vs, H1, I1, r, q⟩ => ⟨I1.kIn, ?_⟩) he hpl
  exact run_fn F hr hb hd hx I1 r q
theorem pe_call0 (F : FnOk X.prog X.w X.K X.mg X.base CX k f fd ps sp) (hr : Room k X.A) (hg : Gl X x) (hm : X.mg x = some (.ref f)) (hk : PySem.W.keepIn X.K (.ref f) = true) (hb : Binds X.K fd ps ds) (hd : Vals dvs ds) (hx : Passes CX X E)
    (hdb : (x == ("__debug__" : Str)) = false := by decide) : PE X (.Call (.Name x p) [] [] pos) (tCall sp dvs E tNil) := by
  intro pins s σ H Q I h
  refine wpAny_Call_Name_kw (ld_glob I hg hm ?_ hdb)
  exact PySem.W.callWith_K0 I.kIn hk (run_fn (us := []) F hr hb hd hx I .nil h)
end
section
variable {X : Cx} {CX : CXT} {k : Nat} {f C : Addr} {fd : FuncData} {ps ks : List Str} {sp : Sp} {E : XK} {x m : Str} {p pos apos kpos : Pos} {e o : Expr} {es : List Expr} {kws : List Keyword} {te ta : TE} {t tk : TA} {nm : Option Str}
variable {g : List Value → List Value → List Value} {gV : List V → List V → List V}
end
structure FnScope (N P : List Str) (sc : Scope) : Prop where
  kind : sc.kind = .function
  co : sc.isCoroutine = false
  gen : sc.isGenerator = false
  nd : N.Nodup
  pre : N.take P.length = P
  par : ∀ x ∈ P, sc.names.lookup x = some .local ∨ sc.names.lookup x = some .cell
  nofree : ∀ y ∈ sc.names, y.2 ≠ .free
theorem bindL_out {kindOf : Str → Option NameKind} {x : Str} : ∀ {binds : List (Str × Value)} {m : Str → Option Value}, (∀ v, (x, v) ∉ binds) → bindL kindOf binds m x = m x
  | [], _, _ => rfl
  | (n, v) :: r, m, h => by
    unfold bindL
    rw [bindL_out fun w hw => h w (List.mem_cons_of_mem _ hw)]
    split
    · have : x ≠ n := by rintro rfl; exact h v List.mem_cons_self
      simp [this]
    · rfl
theorem bindC_out {kindOf : Str → Option NameKind} {x : Str} : ∀ {binds : List (Str × Value)} {m : Str → Option Value}, (∀ v, (x, v) ∉ binds) → bindC kindOf binds m x = m x
  | [], _, _ => rfl
  | (n, v) :: r, m, h => by
    unfold bindC
    rw [bindC_out fun w hw => h w (List.mem_cons_of_mem _ hw)]
    split
    · rfl
    · have : x ≠ n := by rintro rfl; exact h v List.mem_cons_self
      simp [this]
theorem bindL_get {kindOf : Str → Option NameKind} {x : Str} {v : Value} : ∀ {P : List Str} {vs : List Value} {i : Nat} {m : Str → Option Value}, P.Nodup → P[i]? = some x → vs[i]? = some v → kindOf x = some .local →
    bindL kindOf (P.zip vs) m x = some v
  | [], _, _, _, _, h, _, _ => by simp at h
  | _ :: _, [], _, _, _, _, h, _ => by simp at h
  | p :: P, w :: vs, 0, m, nd, h1, h2, hk => by
    simp at h1 h2; subst h1; subst h2
    show bindL kindOf ((p, w) :: P.zip vs) m p = _
    unfold bindL
    rw [bindL_out fun v hv => (List.nodup_cons.mp nd).1 (List.of_mem_zip hv).1, if_pos hk]
    simp
  | p :: P, w :: vs, i + 1, m, nd, h1, h2, hk => by
    show bindL kindOf ((p, w) :: P.zip vs) m x = _
    unfold bindL
    exact bindL_get (i := i) (List.nodup_cons.mp nd).2 (by simpa using h1) (by simpa using h2) hk
theorem bindC_get {kindOf : Str → Option NameKind} {x : Str} {v : Value} : ∀ {P : List Str} {vs : List Value} {i : Nat} {m : Str → Option Value}, P.Nodup → P[i]? = some x → vs[i]? = some v → kindOf x ≠ some .local →
    bindC kindOf (P.zip vs) m x = some v
  | [], _, _, _, _, h, _, _ => by simp at h
  | _ :: _, [], _, _, _, _, h, _ => by simp at h
  | p :: P, w :: vs, 0, m, nd, h1, h2, hk => by
    simp at h1 h2; subst h1; subst h2
    show bindC kindOf ((p, w) :: P.zip vs) m p = _
    unfold bindC
    rw [bindC_out fun v hv => (List.nodup_cons.mp nd).1 (List.of_mem_zip hv).1, if_neg hk]
    simp
  | p :: P, w :: vs, i + 1, m, nd, h1, h2, hk => by
    show bindC kindOf ((p, w) :: P.zip vs) m x = _
    unfold bindC
    exact bindC_get (i := i) (List.nodup_cons.mp nd).2 (by simpa using h1) (by simpa using h2) hk
def start (N : List Str) (vs : List V) : St := vs.map some ++ List.replicate (N.length - vs.length) none
def cxOf (CX : CXT) (P : Program) (w : World) (K : PySem.W.Frag) (mg : Str → Option Value) (base : Heap) (N : List Str) (qual : Str) (scope : Scope) (f : Addr) (cd : Value) (A : Around) (outer : List Env) (s : Shared) (H : Hp) (E : XK) : Cx where
  prog := P
  w := w
  K := K
  mg := mg
  base := base
  A := A.deeper (envOfC qual scope s.heap.objs.size f cd)
  N := N
  s₀ := s
  H₀ := H
  env := envOfC qual scope s.heap.objs.size f cd
  outer := outer
  stack := envOfC qual scope s.heap.objs.size f cd :: outer
  ex := []
  calm := true
  fn := fun _ => true
  pn := []
  xe := fun e s' => wpAny (model P w) (A.deeper (envOfC qual scope s.heap.objs.size f cd)) (leaving (envOfC qual scope s.heap.objs.size f cd) e) (fun _ s'' => CX outer H s E e s'') (fun e' s'' => CX outer H s E e' s'') s'
theorem cell_has {sc : Scope} {n : Nat} {x : Str} (h : sc.names.lookup x = some .cell) : ∃ c, (cellsFrom n sc.names []).lookup x = some c := by
  have q := PySem.W.cellsFrom_some sc.names n [] (.inl h)
  exact Option.isSome_iff_exists.mp q
theorem inv_start {CX : CXT} {P : Program} {w : World} {K : PySem.W.Frag} {mg : Str → Option Value} {base : Heap} {N ps : List Str} {qual : Str} {scope : Scope} {f : Addr} {cd : Value} {A : Around} {outer : List Env} {s s1 : Shared} {H : Hp} {E : XK} {us : List Value} {vs : List V}
    (S : FnScope N ps scope) (hd : A.handled = none) (e0 : Env0 P w K mg base A outer s H) (hl : vs.length = ps.length) (r : Vals vs us)
    (x : InCallC s s.heap.objs.size (bindL (envOfC qual scope s.heap.objs.size f cd).kindOf (ps.zip us) fun _ => none) (cellsFrom (s.heap.objs.size + 1) scope.names []) (bindC (envOfC qual scope s.heap.objs.size f cd).kindOf (ps.zip us) fun _ => none) s1) :
    Inv (cxOf CX P w K mg base N qual scope f cd A outer s H E) [] (start N vs) H s1 := by
  have hpl : ps.length ≤ N.length := by have := congrArg List.length S.pre; rw [List.length_take] at this; omega
  obtain ⟨h1, tk, rfl, hk⟩ := x.done
  have noA : ∀ b : Addr, b ∉ (cxOf CX P w K mg base N qual scope f cd A outer s H E).ex := fun b z => absurd (show b ∈ ([] : List Addr) from z) (by simp)
  refine ⟨⟨e0.mod, S.kind, rfl, rfl, Nat.le_refl _, fun y z c h1 h2 => ?_, fun y hy => ?_, fun y c _ h => ?_, fun _ => hd, Around.frames_deeper e0.frames, .inr ⟨rfl, rfl⟩, fun b z => absurd z (noA b), e0.bs, e0.bsz, fun b _ _ => noA b, fun b z => absurd z (noA b), e0.funs, e0.frf⟩,
    rfl, e0.bare, Un.kept hk, ⟨_, x.toInCall.ns, fun i y v h1 h2 h3 => ?_⟩, fun y c h => ⟨_, x.cell y c h⟩, e0.hok.fresh (Nat.le_refl _), fun y c h => ?_, fun p hp => absurd (show p ∈ ([] : List (Addr × Obj)) from hp) (by simp), e0.hok.kept hk, ?_⟩
  · exact name_of_addr x.apart (PySem.mem_of_lookup h1) (PySem.mem_of_lookup h2)
  · have hy : scope.names.lookup y = some .cell ∨ scope.names.lookup y = some .free := hy
    rcases hy with hy | hy
    · exact cell_has hy
    · exact absurd rfl (S.nofree _ (PySem.mem_of_lookup hy))
  · exact Nat.le_of_lt (x.above y c (PySem.mem_of_lookup h))
  · have hi : i < vs.length := by
      unfold start at h2
      by_cases hi : i < vs.length
      · exact hi
      · rw [List.getElem?_append_right (by simpa using hi)] at h2
        rw [List.getElem?_replicate] at h2
        split at h2 <;> cases h2
    have ha : vs[i]? = some v := by
      unfold start at h2
      rw [List.getElem?_append_left (by simpa using hi), List.getElem?_map] at h2
      cases e : vs[i]? with
      | none => rw [e] at h2; cases h2
      | some a => rw [e] at h2; cases h2; rfl
    obtain ⟨u, hu, rv⟩ := r.get ha
    have hp : ps[i]? = some y := by
      rw [← S.pre, List.getElem?_take_of_lt (by omega)]; exact h1
    have ndP : ps.Nodup := by rw [← S.pre]; exact S.nd.sublist (List.take_sublist _ _)
    refine ⟨u, rv, ?_⟩
    rcases S.par y (List.mem_of_getElem? hp) with k | k
    · exact .inl ⟨k, bindL_get ndP hp hu k⟩
    · obtain ⟨c, e⟩ := cell_has (n := s.heap.objs.size + 1) k
      refine .inr ⟨.inl k, c, e, ?_⟩
      have q := x.cell y c e
      rw [bindC_get ndP hp hu (by show scope.names.lookup y ≠ _; rw [k]; decide)] at q
      exact q
  · exact e0.hok.fresh (Nat.le_of_lt (x.above y c (PySem.mem_of_lookup h)))
  · unfold start
    show _ = N.length
    rw [List.length_append, List.length_map, List.length_replicate]
    omega
theorem fn_of {CX : CXT} {P : Program} {w : World} {K : PySem.W.Frag} {mg : Str → Option Value} {base : Heap} {k : Nat} {f : Addr} {name qual : Str} {params : Arguments} {body : List Stmt} {scope : Scope} {dV kV doc pm cdv ct oc : Value} {an od : Option Addr}
    {osl : Array (Option Value)} {N ps : List Str} {sp : Sp} (lk : K.lookup f = some ⟨oc, od, .func (PySem.W.fnOf name qual params body scope dV kV doc pm an cdv ct), osl⟩) (hcd : PySem.W.codeIn K cdv qual = true) (S : FnScope N ps scope)
    (len : ∀ vs H Q E, sp vs H Q E → vs.length = ps.length)
    (hbody : ∀ (A : Around) (outer : List Env) (s : Shared) (H : Hp) (vs : List V) (Q : VK) (E : XK), Room k (A.deeper (envOfC qual scope s.heap.objs.size f cdv)) → sp vs H Q E →
      ∃ t, PSs (cxOf CX P w K mg base N qual scope f cdv A outer s H E) body t ∧ t { nx := fun _ H' => Q .non H', rt := Q } (start N vs) H) :
    FnOk P w K mg base CX (k + 1) f (PySem.W.fnOf name qual params body scope dV kV doc pm an cdv ct) ps sp := by
  refine ⟨len, fun A outer s H args us vs Q E hr e0 hb r hsp => ?_⟩
  have hl := len _ _ _ _ hsp
  have KX : K.In s.heap := e0.mod.kin.keeps fun b o e => (e0.bs b o e).1
  have lim : s.heap.NoLimit := e0.mod.nolimit.keeps fun b o e => (e0.bs b o e).1
  have hkind : ∀ y ∈ ps.zip us, scope.names.lookup y.1 = some .local ∨ (scope.names.lookup y.1 = some .cell ∧ ((cellsFrom (s.heap.objs.size + 1) scope.names []).lookup y.1).isSome = true) := fun ⟨n, v⟩ hy => by
    rcases S.par n (List.of_mem_zip hy).1 with q | q
    · exact .inl q
    · exact .inr ⟨q, PySem.W.cellsFrom_some _ _ _ (.inl q)⟩
  refine codeAny_call_function hr.depth (KX _ _ lk) rfl S.co S.gen rfl (PySem.W.codeRec_of KX hcd) (hb _ _ _ _ ?_)
  refine wpAny_newFunctionEnv_cells S.kind hkind fun env he s1 x => ?_
  subst he
  refine ⟨lim.keeps x.toInCall.keep, codeAny_func ?_⟩
  obtain ⟨t, ht, hq⟩ := hbody A outer s H vs Q E (hr.deeper _) hsp
  have I : Inv (cxOf CX P w K mg base N qual scope f cdv A outer s H E) [] (start N vs) H s1 := inv_start S hr.hd e0 hl r x
  refine wpAny_mono (ht [] s1 (start N vs) H _ I hq) (fun fl s' hs => ?_) fun e s' hs => hs
  have fin : ∀ {σ' : St} {H' : Hp} {v : V} {u : Value}, Inv (cxOf CX P w K mg base N qual scope f cdv A outer s H E) [] σ' H' s' → RelV v u → Q v H' → CE outer P w H s Q u s' :=
    fun {σ' H' v u} J rv q => ⟨v, H', J.os, J.bare, J.base, J.hok, rv, q⟩
  cases fl with
  | ret u =>
    obtain ⟨v, σ', H', J, rv, q⟩ := hs
    exact fin J rv q
  | next =>
    obtain ⟨σ', H', J, q⟩ := hs
    exact fin (v := V.non) (u := Value.none) J rfl q
  | brk =>
    obtain ⟨_, _, _, q⟩ := hs
    exact False.elim q
  | cont =>
    obtain ⟨_, _, _, q⟩ := hs
    exact False.elim q
end L2
namespace L2
open PySem PySem.Spec PyProof.Rows
section
variable {X : Cx} {x : Str} {p pos : Pos} {e : Expr} {es : List Expr} {t : TA} {id T : String} {r : List V → Hp → VK → Prop}
def tCB (r : List V → Hp → VK → Prop) (t : TA) : TE := fun σ H Q => t σ H fun vs H1 => r vs H1 Q
theorem pe_callB (hc : CallR X (.builtin id) r) (hg : Gl X x) (hm : X.mg x = none) (hv : bootBuiltins x = some (.builtin id)) (ha : PA X (e :: es) t) (hn : x ≠ "__name__" := by decide) (hdb : (x == ("__debug__" : Str)) = false := by decide)
    (he : starEach (e :: es) X.env = (false, eval e X.env) :: starEach es X.env := by rfl) (hpl : (backTo pos (starEach es X.env)).any (·.1) = false := by rfl) : PE X (.Call (.Name x p) (e :: es) [] pos) (tCB r t) := by
  intro pins s σ H Q I h
  refine wpAny_Call_Name_kw (ld_blt I hg hm hv ?_ hn hdb)
  exact PyProof.Rows.callWith_builtin1 (thn (ha pos pins s σ H _ I h) fun us s1 ⟨vs, H1, I1, r1, q1⟩ => hc pins s1 σ H1 vs us Q I1 r1 q1) he hpl
theorem pe_callTy (hc : CallR X (.type T) r) (hg : Gl X x) (hm : X.mg x = none) (hv : bootBuiltins x = some (.type T)) (ha : PA X (e :: es) t) (hn : x ≠ "__name__" := by decide) (hdb : (x == ("__debug__" : Str)) = false := by decide)
    (he : starEach (e :: es) X.env = (false, eval e X.env) :: starEach es X.env := by rfl) (hpl : (backTo pos (starEach es X.env)).any (·.1) = false := by rfl) : PE X (.Call (.Name x p) (e :: es) [] pos) (tCB r t) := by
  intro pins s σ H Q I h
  refine wpAny_Call_Name_kw (ld_blt I hg hm hv ?_ hn hdb)
  exact PyProof.Rows.callWith_type1 (thn (ha pos pins s σ H _ I h) fun us s1 ⟨vs, H1, I1, r1, q1⟩ => hc pins s1 σ H1 vs us Q I1 r1 q1) he hpl
end
end L2
namespace HT
open PySem PyProof.Rows
section
open PySem.SeqAt
open PySem.AutoSeq1 (wpAny_loadPart')
open PySem.MeetsSeq PySem.MeetsSeq2 PySem.MeetsSeq3
end
section
variable {prog : Program} {w : World} {A : Around} {E : Value → Shared → Prop} {s : Shared}
end
end HT
namespace L2
open PySem PySem.Spec PyProof.Rows
abbrev TO := St → Hp → (Option Int → Hp → Prop) → Prop
section
variable {X : Cx} {e : Expr} {te : TE} {lo hi : Option Expr} {tl th : TO} {pos p2 : Pos}
def SlR (X : Cx) (r : V → Option Int → Option Int → Hp → VK → Prop) : Prop :=
  ∀ (pins : List (Addr × Obj)) (s : Shared) (σ : St) (H : Hp) (x : V) (v vl vu : Value) (lo hi : Option Int) (sl : Addr) (Q : VK), Inv X pins σ H s → RelV x v → s.heap.IsSliceOf sl vl vu .none → IsPart vl lo → IsPart vu hi → r x lo hi H Q →
    ∃ T id, typeLookup (.type T) "__getitem__" = pure (some (.builtin id)) ∧ s.TypeIs v T ∧ wpAny (model X.prog X.w) X.A (getItem v (.ref sl)) (EP X pins σ Q) X.xe s
theorem SlR.or {r r' : V → Option Int → Option Int → Hp → VK → Prop} (h : SlR X r) (h' : SlR X r') : SlR X (fun x lo hi H Q => r x lo hi H Q ∨ r' x lo hi H Q) := by
  intro pins s σ H x v vl vu lo hi sl Q I rx hs pl pu q
  rcases q with q | q
  · exact h pins s σ H x v vl vu lo hi sl Q I rx hs pl pu q
  · exact h' pins s σ H x v vl vu lo hi sl Q I rx hs pl pu q
end
end L2
namespace L2
open PySem PySem.Spec PyProof.Rows
def ixN (n : Nat) (i : Int) : Option Nat := if 0 ≤ i then (if i < n then some i.toNat else none) else if -(n : Int) ≤ i then some (i + n).toNat else none
def atI {α : Type} (xs : List α) (i : Int) : Option α := (ixN xs.length i).bind fun j => xs[j]?
theorem ixN_seq {n : Nat} {i : Int} {j : Nat} (h : ixN n i = some j) : seqIndex? i n = some j ∧ j < n ∧ -(n : Int) ≤ i ∧ i < n := by
  unfold ixN at h
  by_cases h0 : 0 ≤ i
  · rw [if_pos h0] at h
    by_cases h1 : i < n
    · rw [if_pos h1] at h
      have e : i.toNat = j := Option.some.inj h
      exact ⟨by rw [seqIndex_of h0 h1, e], by omega, by omega, h1⟩
    · rw [if_neg h1] at h; cases h
  · rw [if_neg h0] at h
    by_cases h1 : -(n : Int) ≤ i
    · rw [if_pos h1] at h
      have e : (i + n).toNat = j := Option.some.inj h
      exact ⟨by rw [seqIndex_neg (by omega) h1, e], by omega, h1, by omega⟩
    · rw [if_neg h1] at h; cases h
theorem atI_get {α : Type} {xs : List α} {i : Int} {v : α} (h : atI xs i = some v) : ∃ j, seqIndex? i xs.length = some j ∧ xs[j]? = some v ∧ j < xs.length ∧ -(xs.length : Int) ≤ i ∧ i < xs.length := by
  unfold atI at h
  cases e : ixN xs.length i with
  | none => rw [e] at h; cases h
  | some j =>
    rw [e] at h
    obtain ⟨h1, h2, h3, h4⟩ := ixN_seq e
    exact ⟨j, h1, h, h2, h3, h4⟩
def PlainIx (b : Expr) : Prop := ∀ o i, subscripted b false o i = operate [o, i] (getItem o i)
def IxR (X : Cx) (r : R2) : Prop :=
  ∀ (value slice : Expr) (pins : List (Addr × Obj)) (s : Shared) (σ : St) (H : Hp) (x y : V) (v u : Value) (Q : VK), Inv X pins σ H s → RelV x v → RelV y u → r x y H Q →
    subscripted slice false v u = operate [v, u] (getItem v u) → wpAny (model X.prog X.w) X.A (subscriptTail value slice v u) (EP X pins σ Q) X.xe s
def MtR (X : Cx) (id : String) (r : V → List V → Hp → VK → Prop) : Prop :=
  ∀ (pins : List (Addr × Obj)) (s : Shared) (σ : St) (H : Hp) (x : V) (xs : List V) (v : Value) (us : List Value) (Q : VK), Inv X pins σ H s → RelV x v → Vals xs us → r x xs H Q →
    wpAny (model X.prog X.w) X.A (call (.builtin id) (v :: us)) (EP X pins σ Q) X.xe s
section
variable {X : Cx} {a b : Expr} {ta tb : TE} {pos : Pos}
theorem IxR.or {r r' : R2} (h : IxR X r) (h' : IxR X r') : IxR X (fun x y H Q => r x y H Q ∨ r' x y H Q) := by
  intro value slice pins s σ H x y v u Q I rx ry q hs
  rcases q with q | q
  · exact h value slice pins s σ H x y v u Q I rx ry q hs
  · exact h' value slice pins s σ H x y v u Q I rx ry q hs
theorem MtR.or {id : String} {r r' : V → List V → Hp → VK → Prop} (h : MtR X id r) (h' : MtR X id r') : MtR X id (fun x xs H Q => r x xs H Q ∨ r' x xs H Q) := by
  intro pins s σ H x xs v us Q I rx rs q
  rcases q with q | q
  · exact h pins s σ H x xs v us Q I rx rs q
  · exact h' pins s σ H x xs v us Q I rx rs q
theorem pe_ix {r : R2} (hr : IxR X r) (ha : PE X a ta) (hb : PE X b tb) (hs : PlainIx b) : PE X (.Subscript a b pos) (tOp r ta tb) := by
  intro pins s σ H Q I h
  exact Subscript_ (binT ha hb I h fun v u s2 x y H2 I2 rx ry q => hr a b pins s2 σ H2 x y v u Q I2 rx ry q (hs _ _))
def rIxL (K : PySem.W.Frag) : R2 := fun x y H Q => ∃ p xs i v, x = .ref p ∧ y = .int i ∧ SqL K H p xs ∧ atI xs i = some v ∧ Q v H
def rIxT (K : PySem.W.Frag) : R2 := fun x y H Q => ∃ p xs i v, x = .ref p ∧ y = .int i ∧ SqT K H p xs ∧ atI xs i = some v ∧ Q v H
def rIxS : R2 := fun x y H Q => ∃ z i c, x = .str z ∧ y = .int i ∧ z.length ≤ sizeLine ∧ atI z.cps.toList i = some c ∧ Q (.str ⟨#[c]⟩) H
theorem ix_list : IxR X (rIxL X.K) := by
  intro value slice pins s σ H x y v u Q I rx ry h hs
  obtain ⟨p, xs, i, z, rfl, rfl, hq, he, q⟩ := h
  cases rx
  obtain ⟨t, rfl⟩ := ry
  obtain ⟨its, r, pl, hz⟩ := I.list hq
  obtain ⟨j, h1, h2, h3, h4, h5⟩ := atI_get he
  obtain ⟨w, ew, rw'⟩ := r.get h2
  have hl := r.length
  have hn := line63
  have fin : EP X pins σ Q w s := ⟨z, H, I, rw', q⟩
  by_cases h0 : 0 ≤ i
  · have hj : i.toNat = j := by
      rw [seqIndex_of h0 h5] at h1
      exact Option.some.inj h1
    exact item_listR pl.isList h0 (by omega) (by rw [hj]; simpa using ew) fin hs
  · have hj : (i + (its.toArray.size : Int)).toNat = j := by
      rw [seqIndex_neg (by omega) h4] at h1
      rw [List.size_toArray, ← hl]
      exact Option.some.inj h1
    exact subscriptTail_builtinR (x := w) pl.isList.typeIs slot_list_getitem.lookup
      (wpAny_getItem_list_neg (Q := fun r s' => r = w ∧ EP X pins σ Q r s') pl.isList (by omega) (by rw [List.size_toArray] <;> omega) (by omega) (by rw [hj]; simpa using ew) ⟨rfl, fin⟩) hs
theorem ix_tup : IxR X (rIxT X.K) := by
  intro value slice pins s σ H x y v u Q I rx ry h hs
  obtain ⟨p, xs, i, z, rfl, rfl, hq, he, q⟩ := h
  cases rx
  obtain ⟨t, rfl⟩ := ry
  obtain ⟨its, r, pl, hz⟩ := I.tuple hq
  obtain ⟨j, h1, h2, h3, h4, h5⟩ := atI_get he
  obtain ⟨w, ew, rw'⟩ := r.get h2
  have hl := r.length
  have hn := line63
  have fin : EP X pins σ Q w s := ⟨z, H, I, rw', q⟩
  exact subscriptTail_builtinR (x := w) pl.typeIs slot_tuple_getitem.lookup
    (getItem_tuple (j := j) (Q := fun r s' => r = w ∧ EP X pins σ Q r s') pl (by omega) (by omega) (by rw [List.size_toArray, ← hl]; exact h1) (by simpa using ew) ⟨rfl, fin⟩) hs
theorem ix_str : IxR X rIxS := by
  intro value slice pins s σ H x y v u Q I rx ry h hs
  obtain ⟨z, i, c, rfl, rfl, hz, he, q⟩ := h
  obtain ⟨t, rfl⟩ := rx
  obtain ⟨t', rfl⟩ := ry
  obtain ⟨j, h1, h2, h3, h4, h5⟩ := atI_get he
  have hl : z.cps.toList.length = z.length := by simp [Str.length]
  rw [hl] at h1 h4 h5
  have hn := line63
  exact tail_any (typeIs_str s z t) slot_str_getitem.lookup (getItem_str (c := c) (by
    have e1 : decide (i < -(2 ^ 63 : Int)) = false := decide_eq_false (by omega)
    have e2 : decide (i ≥ 2 ^ 63) = false := decide_eq_false (by omega)
    rw [e1, e2, Bool.or_false]) (by rw [h1]; simpa using h2) ⟨.str ⟨#[c]⟩, H, I.tok _, ⟨_, rfl⟩, q⟩) hs
def rIx (K : PySem.W.Frag) : R2 := fun x y H Q => rIxL K x y H Q ∨ rIxT K x y H Q ∨ rIxS x y H Q
theorem ix_seq : IxR X (rIx X.K) := ix_list.or (ix_tup.or ix_str)
theorem mapSeq_set (its : List Value) (n j : Nat) (u : Value) : Obj.mapSeq (·.setIfInBounds j u) { cls := .type "list", data := .seq its.toArray n } = { cls := .type "list", data := .seq (its.set j u).toArray n } := by
  simp [Obj.mapSeq]
theorem Inv.lst {pins : List (Addr × Obj)} {σ : St} {H : Hp} {s : Shared} {p : Addr} {xs : List V} (I : Inv X pins σ H s) (h : H p = some (.lst xs)) :
    ∃ (its : List Value) (n : Nat), Vals xs its ∧ s.heap.get? p = some { cls := .type "list", data := .seq its.toArray n } ∧ xs.length ≤ sizeLine := by
  obtain ⟨z, its, n, r, e⟩ := I.hok p _ h
  exact ⟨its, n, r, e, z⟩
theorem Inv.lstUpd {pins : List (Addr × Obj)} {σ : St} {H : Hp} {s : Shared} {p : Addr} {xs ys : List V} {its its' : List Value} {n n' : Nat} {f : Obj → Obj} (I : Inv X pins σ H s) (h : H p = some (.lst xs))
    (ho : s.heap.get? p = some { cls := .type "list", data := .seq its.toArray n }) (hf : f { cls := .type "list", data := .seq its.toArray n } = { cls := .type "list", data := .seq its'.toArray n' }) (r : Vals ys its') (hz : ys.length ≤ sizeLine) (t : Nat) :
    Inv X pins σ (upd H p (.lst ys)) { s with heap := s.heap.update p f, toks := t } := by
  have e : (s.heap.update p f).get? p = some { cls := .type "list", data := .seq its'.toArray n' } := by
    rw [Heap.get?_update_self f ho (by rw [hf] <;> rfl), hf]
  refine I.write (x := p) (e := p) (by rw [h]; trivial) (.inl rfl) (fun b u hb q => (Heap.get?_update_other _ _ (Ne.symm hb)).trans q) ⟨_, e⟩ ?_
  exact ⟨hz, its', n', r, e⟩
def rSetL : V → V → V → Hp → (Hp → Prop) → Prop := fun o i v H Q => ∃ p xs k j, o = .ref p ∧ i = .int k ∧ H p = some (.lst xs) ∧ ixN xs.length k = some j ∧ Q (upd H p (.lst (xs.set j v)))
theorem set_list : PSet X rSetL := by
  intro pins s σ H o i v ov iv u Q I ro ri rv h
  obtain ⟨p, xs, k, j, rfl, rfl, hp, hj, q⟩ := h
  cases ro
  obtain ⟨t, rfl⟩ := ri
  obtain ⟨its, n, r, ho, hz⟩ := I.lst hp
  obtain ⟨h1, h2, h3, h4⟩ := ixN_seq hj
  have hl := r.length
  have hn := line63
  have I' : Inv X pins σ (upd H p (.lst (xs.set j v))) { s with heap := s.heap.update p (Obj.mapSeq (·.setIfInBounds j u)) } :=
    I.lstUpd hp ho (mapSeq_set its n j u) (r.set rv j) (by rw [List.length_set]; exact hz) s.toks
  by_cases h0 : 0 ≤ k
  · have hk : k.toNat = j := by
      rw [seqIndex_of h0 h4] at h1
      exact Option.some.inj h1
    exact PySem.W.ki_setAt ho h0 (by omega) (by rw [List.size_toArray, ← hl]; exact h4) (by rw [hk]; exact ⟨_, I', q⟩)
  · have hk : (k + (its.toArray.size : Int)).toNat = j := by
      rw [seqIndex_neg (by omega) h3] at h1
      rw [List.size_toArray, ← hl]
      exact Option.some.inj h1
    exact PySem.W.ki_setBack ho (by omega) (by rw [List.size_toArray, ← hl]; exact h3) (by omega) (by rw [hk]; exact ⟨_, I', q⟩)
theorem call_len_seq : CallR X (.builtin "len") (fun xs H Q => ∃ p ys, xs = [.ref p] ∧ (SqL X.K H p ys ∨ SqT X.K H p ys) ∧ Q (.int ys.length) H) := by
  intro pins s σ H xs us Q I r h
  obtain ⟨p, ys, rfl, hq, q⟩ := h
  obtain ⟨u, rfl, rx⟩ := vals1 r
  cases rx
  have hn := line63
  rcases hq with hq | hq
  · obtain ⟨its, r', pl, hz⟩ := I.list hq
    have hlen := r'.length
    exact Calls.call_len_list pl.isList (by simp only [List.size_toArray] <;> omega) ⟨.int ys.length, H, I.tok _, ⟨s.toks + 1, by rw [List.size_toArray, hlen]⟩, q⟩
  · obtain ⟨its, r', pl, hz⟩ := I.tuple hq
    have hlen := r'.length
    exact len_tuple pl (by simp only [List.size_toArray] <;> omega) ⟨.int ys.length, H, I.tok _, ⟨s.toks + 1, by rw [List.size_toArray, hlen]⟩, q⟩
theorem CallR.or {f : Value} {r r' : List V → Hp → VK → Prop} (h : CallR X f r) (h' : CallR X f r') : CallR X f (fun xs H Q => r xs H Q ∨ r' xs H Q) := by
  intro pins s σ H xs us Q I rs q
  rcases q with q | q
  · exact h pins s σ H xs us Q I rs q
  · exact h' pins s σ H xs us Q I rs q
theorem call_list_of : CallR X (.type "list") (fun xs H Q => ∃ p ys, xs = [.ref p] ∧ (SqL X.K H p ys ∨ SqT X.K H p ys) ∧ ∀ l, H l = none → Q (.ref l) (upd H l (.lst ys))) := by
  intro pins s σ H xs us Q I r h
  obtain ⟨p, ys, rfl, hq, q⟩ := h
  obtain ⟨u, rfl, rx⟩ := vals1 r
  cases rx
  have fin : ∀ (its : List Value), Vals ys its → ys.length ≤ sizeLine → ∀ (h' : Heap) (c' : Nat), (∀ b o', s.heap.get? b = some o' → h'.get? b = some o') →
      h'.get? s.heap.objs.size = some { cls := .type "list", dict := none, data := .seq its.toArray c', slots := #[] } → EP X pins σ Q (.ref s.heap.objs.size) { s with heap := h' } := fun its r' hz h' c' kp e =>
    ⟨.ref s.heap.objs.size, _, I.laid (t' := s.toks) kp (Nat.le_refl _) (show ObjOk X.prog X.w _ h' _ (.lst ys) from ⟨hz, its, c', r', e⟩), rfl, q _ (I.hok.fresh (Nat.le_refl _))⟩
  rcases hq with hq | hq
  · obtain ⟨its, r', pl, hz⟩ := I.list hq
    have hlen := r'.length
    obtain ⟨o, ho, hc, n, hd⟩ := pl.isList
    exact call_list_seq p (.inl rfl) ho hc hd (fun h' c' kp e => fin its r' hz h' c' kp e) (by simp only [List.size_toArray] <;> omega)
  · obtain ⟨its, r', pl, hz⟩ := I.tuple hq
    have hlen := r'.length
    obtain ⟨o, ho, hc, n, hd⟩ := pl
    exact call_list_seq p (.inr rfl) ho hc hd (fun h' c' kp e => fin its r' hz h' c' kp e) (by simp only [List.size_toArray] <;> omega)
def tyV (K : PySem.W.Frag) (T : String) (x : V) (H : Hp) : Prop := match x with
  | .str _ => T = "str"
  | .int _ => T = "int"
  | .ref p => (T = "list" ∧ ∃ xs, SqL K H p xs) ∨ (T = "tuple" ∧ ∃ o, K.lookup p = some o ∧ o.cls = .type "tuple" ∧ o.dict = none) ∨
      (T = "dict" ∧ ((∃ kvs, H p = some (.dK kvs)) ∨ ∃ kvs, H p = some (.dT kvs))) ∨ (T = "set" ∧ ∃ S n, H p = some (.set S n))
  | _ => False
theorem tyV_is {pins : List (Addr × Obj)} {σ : St} {H : Hp} {s : Shared} {T : String} {x : V} {v : Value} (I : Inv X pins σ H s) (r : RelV x v) (ty : tyV X.K T x H) :
    s.TypeIs v T ∧ ∀ a, v = .ref a → ∃ ob, s.heap.get? a = some ob ∧ ob.dict = none := by
  cases x with
  | str z =>
    obtain ⟨t, rfl⟩ := r
    cases (show T = "str" from ty)
    exact ⟨typeIs_str s z t, fun _ e => nomatch e⟩
  | int i =>
    obtain ⟨t, rfl⟩ := r
    cases (show T = "int" from ty)
    exact ⟨typeIs_int s i t, fun _ e => nomatch e⟩
  | ref p =>
    cases r
    rcases ty with ⟨rfl, xs, hq⟩ | ⟨rfl, o, hk, hc, hd⟩ | ⟨rfl, hk⟩ | ⟨rfl, S, n, hk⟩
    · obtain ⟨its, _, pl, _⟩ := I.list hq
      refine ⟨pl.isList.typeIs, fun a e => ?_⟩
      cases e
      obtain ⟨o, n, e, c, hd, _⟩ := pl
      exact ⟨o, e, hd⟩
    · refine ⟨⟨o, I.kIn p o hk, hc⟩, fun a e => ?_⟩
      cases e
      exact ⟨o, I.kIn _ o hk, hd⟩
    · have z : ∃ o, s.heap.get? p = some o ∧ o.ExactDict := by
        rcases hk with ⟨kvs, hk⟩ | ⟨kvs, hk⟩
        · obtain ⟨_, _, _, _, o, _, _, e, ex, _⟩ := I.hok p _ hk
          exact ⟨o, e, ex⟩
        · obtain ⟨_, _, _, _, o, _, _, e, ex, _⟩ := I.hok p _ hk
          exact ⟨o, e, ex⟩
      obtain ⟨o, e, ex⟩ := z
      refine ⟨⟨o, e, ex.1⟩, fun a e2 => ?_⟩
      cases e2
      exact ⟨o, e, ex.2.1⟩
    · obtain ⟨o, _, _, _, e, ex, _⟩ := I.hok p _ hk
      refine ⟨⟨o, e, ex.1⟩, fun a e2 => ?_⟩
      cases e2
      exact ⟨o, e, ex.2.1⟩
  | _ => exact False.elim ty
def tBM (K : PySem.W.Frag) (T : String) (r : V → List V → Hp → VK → Prop) (to : TE) (t : TA) : TE := fun σ H Q => to σ H fun x H1 => tyV K T x H1 ∧ t σ H1 fun xs H2 => r x xs H2 Q
variable {o e : Expr} {es : List Expr} {to : TE} {t : TA} {name : Str} {apos cpos : Pos} {T id : String} {r : V → List V → Hp → VK → Prop}
theorem pe_bm (pa : PlainAttrs T) (slot : Slot T name id) (hty : typeOf (.builtin id) = pure (.type "method_descriptor")) (hm : MtR X id r) (ho : PE X o to) (ha : PA X (e :: es) t)
    (hbase : attributeBase o name X.env (eval o X.env) = eval o X.env := by rfl)
    (hfew : ((backTo cpos (starEach (e :: es) X.env)).all (fun x => !x.1) && (backToKw cpos (keywordEach [] X.env)).all (fun x => x.1.isSome)
      && decide ((e :: es).length + ([] : List Keyword).length + (if ([] : List Keyword).isEmpty then 0 else 1) < 30)) = true := by rfl)
    (hline : (apos.endLine == cpos.line) = true := by rfl) (hs : starEach (e :: es) X.env = (false, eval e X.env) :: starEach es X.env := by rfl) (hplain : (backTo cpos (starEach es X.env)).any (·.1) = false := by rfl) :
    PE X (.Call (.Attribute o name apos) (e :: es) [] cpos) (tBM X.K T r to t) := by
  intro pins s σ H Q I h
  refine wpAny_Call_method_late hbase hfew hline rfl (thn (ho pins s σ H _ I h) fun v s1 ⟨x, H1, I1, r1, ty, q1⟩ => ?_)
  obtain ⟨h1, h2⟩ := tyV_is I1 r1 ty
  refine ⟨T, id, pa, slot, hty, h1, h2, ?_⟩
  have hA := ha cpos pins s1 σ H1 _ I1 q1
  rw [hs] at hA ⊢
  refine Calls.callWith_builtin (by show (false || (backTo cpos (starEach es X.env)).any (·.1)) = false; rw [hplain] <;> rfl) (Calls.evalArgs_plain ?_)
  exact thn hA fun us s2 ⟨vs, H2, I2, r2, q2⟩ => hm pins s2 σ H2 x vs v us Q I2 r1 r2 q2
end
end L2
namespace L2
open PySem PySem.Spec PyProof.Rows
def MtM (X : Cx) (id : String) (r : V → List V → Hp → VK → Prop) : Prop :=
  ∀ (pins : List (Addr × Obj)) (s : Shared) (σ : St) (H : Hp) (x : V) (xs : List V) (v : Value) (us : List Value) (Q : VK), Inv X pins σ H s → RelV x v → Vals xs us → r x xs H Q →
    wpAny (model X.prog X.w) X.A (call (.builtin id) (v :: us)) (EP X pins σ Q) X.xe s
theorem Vals.one : ∀ {x : V} {us : List Value}, Vals [x] us → ∃ u, us = [u] ∧ RelV x u
  | _, _, .cons r .nil => ⟨_, rfl, r⟩
theorem Vals.two : ∀ {x y : V} {us : List Value}, Vals [x, y] us → ∃ u v, us = [u, v] ∧ RelV x u ∧ RelV y v
  | _, _, _, .cons r (.cons q .nil) => ⟨_, _, rfl, r, q⟩
theorem Vals.zero : ∀ {us : List Value}, Vals [] us → us = []
  | _, .nil => rfl
theorem Vals.rep {xs : List V} {us : List Value} (h : Vals xs us) : ∀ k : Nat, Vals (List.replicate k xs).flatten (List.replicate k us).flatten
  | 0 => .nil
  | k + 1 => by
    rw [List.replicate_succ, List.replicate_succ, List.flatten_cons, List.flatten_cons]
    exact Vals.append h (Vals.rep h k)
section
variable {X : Cx} {pins : List (Addr × Obj)} {σ : St} {H : Hp} {s : Shared} {l b : Addr} {xs ys zs : List V}
theorem Inv.lset {its its' : List Value} {n : Nat} {f : Array Value → Array Value} {t' : Nat} (I : Inv X pins σ H s) (hH : H l = some (.lst xs))
    (e : s.heap.get? l = some { cls := .type "list", data := .seq its.toArray n }) (hf : f its.toArray = its'.toArray) (hv : Vals ys its') (hz : ys.length ≤ sizeLine) :
    Inv X pins σ (upd H l (.lst ys)) { s with heap := s.heap.update l (Obj.mapSeq f), toks := t' } := by
  have q := PySem.IsL.update e f
  rw [hf] at q
  refine I.write (x := l) (e := l) (by rw [hH]; exact trivial) (.inl rfl) (fun b' u hb hu => (Heap.get?_update_other s.heap (Obj.mapSeq f) (Ne.symm hb)).trans hu) ⟨_, q⟩ ?_
  exact ⟨hz, its', _, hv, q⟩
theorem Inv.lnew {its : List Value} {t' : Nat} (I : Inv X pins σ H s) (hv : Vals ys its) (hz : ys.length ≤ sizeLine) :
    Inv X pins σ (upd H s.heap.objs.size (.lst ys)) { s with heap := s.heap.push { cls := .type "list", data := .seq its.toArray }, toks := t' } :=
  I.laid (fun _ _ q => Heap.get?_push_of_some _ q) (Nat.le_refl _) ⟨hz, its, 0, hv, Heap.get?_push_size _ rfl⟩
theorem Inv.fresh (I : Inv X pins σ H s) : H s.heap.objs.size = none := I.hok.fresh (Nat.le_refl _)
theorem Inv.lstM (I : Inv X pins σ H s) (hH : H l = some (.lst xs)) : xs.length ≤ sizeLine ∧ ∃ (its : List Value) (n : Nat), Vals xs its ∧ xs.length = its.length ∧ s.heap.get? l = some { cls := .type "list", data := .seq its.toArray n } := by
  obtain ⟨z, its, n, r, e⟩ := I.hok l _ hH
  exact ⟨z, its, n, r, r.length, e⟩
end
section
variable {X : Cx}
def rAppend : V → List V → Hp → VK → Prop := fun x vs H Q => ∃ l xs y, x = .ref l ∧ vs = [y] ∧ H l = some (.lst xs) ∧ xs.length < sizeLine ∧ Q .non (upd H l (.lst (xs ++ [y])))
theorem mt_append : MtM X "list.append" rAppend := by
  intro pins s σ H x vs v us Q I rx rv h
  obtain ⟨l, xs, y, rfl, rfl, hH, hz, q⟩ := h
  cases rx
  obtain ⟨u, rfl, ru⟩ := rv.one
  obtain ⟨z, its, n, r, hl, e⟩ := I.lstM hH
  refine call_meets F.slot_list_append ⟨_, e, rfl⟩ F.entry_list_append (F.args_list_append_2 _ _) (PySem.list_append l its.toArray n u (by rw [List.size_toArray]; omega)) ⟨e, ?_⟩
  refine ⟨.non, _, I.lset (its' := its ++ [u]) hH e (by simp) (r.append (.cons ru .nil)) ?_, rfl, q⟩
  rw [List.length_append, List.length_singleton]
  omega
end
section
variable {prog : Program} {w : World} {A : Around} {E : Value → Shared → Prop} {s : Shared}
end
section
variable {X : Cx}
end
end L2
namespace Att
open PySem PySem.W PySem.Calls PyProof.Rows
theorem ints_of_wellAll {P : Params} {h : Heap} : ∀ (ns : List Int) (vs : List Value), WellAll P h vs (ns.map WData.int) → IntsAre vs ns := by
  intro ns
  induction ns with
  | nil =>
    intro vs w
    rw [List.map_nil] at w
    cases w
    exact .nil
  | cons n ns ih =>
    intro vs w
    rw [List.map_cons] at w
    cases w with
    | cons a b =>
      cases a
      exact .cons _ _ (ih _ b)
theorem script_of {l : OpenLaw} {n : Nat} (hn : l.most = some n) {P : Params} {h : Heap} {args : List WData} {vals : List Value}
    (hpre : l.row.toRowW.claim.pre args = true) (hwl : WellAll P h vals args) :
    ∃ a vs ns, vals = [Value.ref a] ∧ args = [WData.list (ns.map WData.int)] ∧ h.get? a = some { cls := .type "list", data := .seq vs.toArray } ∧ IntsAre vs ns ∧ ns.length ≤ n := by
  have hsh : WShape.hasAll [] args [.list .int] = true := (pre_splitW hpre).1
  have hc : l.pre.holds [] { args := args } = true := (pre_splitW hpre).2
  obtain ⟨d, r, rfl, h1, h2⟩ := hasAllW_cons hsh
  obtain rfl := hasAllW_nil h2
  obtain ⟨xs, rfl, h3⟩ := hasW_list h1
  obtain ⟨ns, rfl⟩ := items_int h3
  have hlen : ns.length ≤ n := by
    unfold OpenLaw.pre at hc
    have h4 : (WTm.not (.lt (.lit (.int (n : Int))) (.len (.arg 0)))).holds [] { args := [.list (ns.map .int)] } = true := by
      have h4 := (holds_andW hc).1
      rw [hn] at h4
      exact h4
    have h5 := condW_of h4 (w_not (w_lt w_lit (w_len_list (w_arg rfl))))
    rw [List.length_map] at h5
    refine Nat.le_of_not_lt fun q => ?_
    have q' : (n : Int) < ((ns.length : Nat) : Int) := by omega
    first
      | (rw [decide_eq_true q'] at h5; exact absurd h5 (by decide))
      | (simp at h5; omega)
  cases hwl with
  | cons w1 w2 =>
    cases w2
    cases w1 with
    | list ho hall => exact ⟨_, _, ns, rfl, rfl, ho, ints_of_wellAll ns _ hall, hlen⟩
theorem post_true (l : OpenLaw) (args : List WData) : l.row.toRowW.claim.post args (.bool true) args = true :=
  postW_of (r := l.row.toRowW) (X := (true == true))
    (show WShape.has [] (.bool true) .bool = true by first | rfl | decide | simp [WShape.has, WShape.arms, WShape.armsAll])
    (show (WTm.eq .res (.lit (.bool true))).value [] { args := args, res := some (.bool true), after := args } = some (.bool (true == true)) from w_eq_bool (w_res rfl) w_lit) rfl
theorem attach_call {l : OpenLaw} {n : Nat} {q : Program} {loose : List Str} {XP : (Str → Option Value) → Heap → Prop} {YP : World → Heap → Prop} {d : DefRec}
    (hn : l.most = some n) (hdf : d.params.defaults = [])
    (call : ∀ (w : World) (s₀ s₁ : Shared) (mg mb : Str → Option Value) (fa : Addr) (o : Obj) (pm cd doc : Value) (a : Addr) (vs : List Value) (ns : List Int),
      Ground q loose [] XP w s₀ mg mb s₁.heap → YP w s₁.heap →
      s₁.heap.get? fa = some o → o.data = .func (docDef d.name d.params d.body d.scope pm cd doc) → s₁.heap.CodeRec cd d.name → mg d.name = some (.ref fa) →
      s₁.heap.get? a = some { cls := .type "list", data := .seq vs.toArray } → IntsAre vs ns → ns.length ≤ n → s₁.gens = #[] →
      codeAny (model l.prog w) callerA (.call (.ref fa) ⟨[.ref a], []⟩) (fun r s' => r = .ok (.ret (.bool true)) ∧ OldK s₁.heap s'.heap ∧ s'.os = s₁.os ∧ AllBare s'.gens) s₁) :
    WalkO q loose XP YP l.row.toRowW d [] (fun f vs => PySem.call f vs) := by
  intro w s₀ s₁ mg mb G Y fa o pm cd doc dV kV ho hd hcd hD hmg hg args vals as hpre hlay hrd hwl hlo
  obtain rfl : dV = .none := Dflts.none hD hdf
  obtain rfl : kV = .none := Dflts.noKw hD
  obtain ⟨a, vs, ns, rfl, rfl, hobj, hints, hlen⟩ := script_of hn hpre hwl
  refine enter_call (codeAny_mono (call w s₀ s₁ mg mb fa o pm cd doc a vs ns G Y ho (fd_plain hd) hcd hmg hobj hints hlen hg) fun r s' hq => ?_)
  obtain ⟨rfl, h2, h3, h4⟩ := hq
  exact ⟨.inl ⟨.bool true, .bool true, [], rfl, fun _ => rfl, .bool true, post_true l _, fun _ => ⟨List.Pairwise.nil, fun _ hm => (nomatch hm)⟩⟩, h2, h3, h4⟩
section
variable {prog : Program} {w : World} {A : Around} {E : Value → Shared → Prop} {s : Shared} {K : Frag}
end
end Att
namespace L2
open PySem PySem.Spec PyProof.Rows
theorem vals_ints : ∀ {vs : List Value} {ns : List Int}, IntsAre vs ns → Vals (ns.map V.int) vs
  | _, _, .nil => .nil
  | _, _, .cons n t h => .cons ⟨t, rfl⟩ (vals_ints h)
def Only (H : Hp) : Prop := ∀ b, H b = none ∨ ∃ o xs, H b = some (.frz o (.lst xs))
theorem law_call {P : Program} {w : World} {K : PySem.W.Frag} {mg mb : Str → Option Value} {CX : CXT} {k : Nat} {fa a : Addr} {fd : FuncData} {x : Str} {sp : Sp} {s₁ : Shared} {vs : List Value} {ns : List Int}
    (KX : K.In s₁.heap) (hns : s₁.heap.Ns mainGlobals mg) (hb : s₁.heap.Ns builtinsNs mb) (hbb : ∀ x : Str, x ≠ "__name__" → mb x = bootBuiltins x) (hlim : s₁.heap.NoLimit) (hg : s₁.gens = #[])
    (ha : s₁.heap.get? a = some { cls := .type "list", data := .seq vs.toArray }) (hi : IntsAre vs ns) (hl : ns.length ≤ sizeLine) (hr : Room k callerA)
    (F : ∀ base : Heap, K.In base → base.Ns mainGlobals mg → FnOk P w K mg base CX k fa fd [x] sp) (hbind : ∀ (s : Shared) (u : Value), BindsTo s fd ⟨[u], []⟩ [(x, u)])
    (hsp : ∀ H : Hp, Only H → SqL K H a (ns.map V.int) → sp [.ref a] H (fun v _ => v = .bl true) fun _ _ _ => False)
    (hCX : ∀ H e s', CX [] H s₁ (fun _ _ _ => False) e s' → False) :
    codeAny (model P w) callerA (.call (.ref fa) ⟨[.ref a], []⟩) (fun r s' => r = .ok (.ret (.bool true)) ∧ OldK s₁.heap s'.heap ∧ s'.os = s₁.os ∧ AllBare s'.gens) s₁ := by
  have rv := vals_ints hi
  have lenV := hi.length
  have core : ∀ H : Hp, Only H → SqL K H a (ns.map V.int) → HOk P w H s₁.heap → (∀ b, H b ≠ none → b = a) → (H a ≠ none → K.lookup a = none) →
      codeAny (model P w) callerA (.call (.ref fa) ⟨[.ref a], []⟩) (fun r s' => r = .ok (.ret (.bool true)) ∧ OldK s₁.heap s'.heap ∧ s'.os = s₁.os ∧ AllBare s'.gens) s₁ := by
    intro H hO hS hok hA hK
    have base_of : ∀ {b : Addr} {o : Obj}, s₁.heap.get? b = some o → H b = none → (hidT s₁.heap H).get? b = some o := fun e n => hidT_get e n
    have noA : ∀ {b : Addr} {o : Obj} {es : Array DictEntry} {ep : Nat}, s₁.heap.get? b = some o → o.data = .dict es ep → H b = none := fun {b o es ep} e d => by
      cases q : H b with
      | none => rfl
      | some u =>
        have e' : b = a := hA b (by rw [q]; simp)
        subst e'
        rw [ha] at e; cases e
        have d' : Data.seq vs.toArray _ = Data.dict es ep := d
        cases d'
    have nsK : ∀ {b : Addr} {m : Str → Option Value}, s₁.heap.Ns b m → (hidT s₁.heap H).Ns b m := fun {b m} ⟨o, es, ep, e, d, r⟩ => ⟨o, es, ep, base_of e (noA e d), d, r⟩
    have hKb : K.In (hidT s₁.heap H) := fun b o e => base_of (KX b o e) (by
      cases q : H b with
      | none => rfl
      | some u =>
        have e' : b = a := hA b (by rw [q]; simp)
        subst e'
        rw [hK (by rw [q]; simp)] at e; cases e)
    have hM : Mod K mg (hidT s₁.heap H) := ⟨hKb, nsK hns, ⟨mb, nsK hb, hbb⟩, let ⟨mc, h1, h2⟩ := hlim; ⟨mc, nsK h1, h2⟩⟩
    have e0 : Env0 P w K mg (hidT s₁.heap H) callerA [] s₁ H := ⟨rfl, hM, fun b o e => of_hidT e, Nat.le_of_eq (hidT_size _ _), trivial, fun b hb => absurd (show b ∈ ([] : List Addr) from hb) (by simp), hok, .of_eq hg⟩
    refine codeAny_mono ((F _ hKb (nsK hns)).run callerA [] s₁ H ⟨[.ref a], []⟩ [.ref a] [.ref a] _ _ hr e0 (hbind s₁ (.ref a)) (.cons rfl .nil) (hsp H hO hS)) fun r s' h => ?_
    cases r with
    | error e => exact (hCX H e s' h).elim
    | ok fl =>
      cases fl with
      | next => exact False.elim h
      | brk => exact False.elim h
      | cont => exact False.elim h
      | ret u =>
        obtain ⟨v, H', os, bare, un, hok', r', q⟩ := h
        have q' : v = .bl true := q
        subst q'
        obtain rfl : u = Value.bool true := r'
        refine ⟨rfl, OldK.of_keep fun b o e => ?_, os, bare⟩
        cases q : H b with
        | none => exact un.keep b o e q (by intro z; exact absurd (show b ∈ ([] : List Addr) from z) (by simp)) (by simp)
        | some u =>
          rcases hO b with z | ⟨ob, xs, z⟩
          · rw [q] at z; cases z
          · have z2 := un.frzs b ob _ z
            obtain ⟨e1, _⟩ := hok b _ z
            obtain ⟨e2, _⟩ := hok' b _ z2
            rw [e] at e1; cases e1
            exact e2
  cases hk : K.lookup a with
  | some o =>
    have e := KX a o hk
    rw [ha] at e
    cases e
    refine core (fun _ => none) (fun _ => .inl rfl) (.inr ⟨_, vs.toArray, _, hk, rfl, rfl, rfl, by rw [List.size_toArray, lenV]; exact hl, by simpa using rv⟩) (fun b u z => by have z' : (none : Option HO) = some u := z; cases z') (fun b z => absurd rfl z) fun z => absurd rfl z
  | none =>
    refine core (fun b => if b = a then some (.frz { cls := .type "list", data := .seq vs.toArray } (.lst (ns.map V.int))) else none) (fun b => ?_) (.inl (.inr ⟨{ cls := .type "list", data := .seq vs.toArray }, if_pos rfl⟩)) (fun b u z => ?_) (fun b z => ?_) fun _ => hk
    · by_cases hb : b = a
      · exact .inr ⟨_, _, if_pos hb⟩
      · exact .inl (if_neg hb)
    · by_cases hb : b = a
      · have z' := (if_pos hb).symm.trans z
        cases z'
        subst hb
        exact ⟨ha, by rw [List.length_map]; exact hl, vs, _, rv, ha⟩
      · have z' := (if_neg hb).symm.trans z
        cases z'
    · by_cases hb : b = a
      · exact hb
      · exact absurd (if_neg hb) z
end L2
namespace L2
open PySem PySem.Spec PyProof.Rows
theorem walk_of {l : PySem.W.OpenLaw} {n k : Nat} {q : Program} {loose : List Str} {XP : (Str → Option Value) → Heap → Prop} {YP : World → Heap → Prop} {d : DefRec} {K : Params → PySem.W.Frag} {CX : World → CXT} {sp : World → Sp} {x : Str}
    (hn : l.most = some n) (hn2 : n ≤ sizeLine) (hdf : d.params.defaults = []) (hr : Room k callerA)
    (hY : ∀ (w : World) (h : Heap), YP w h → (K w.params).In h)
    (F : ∀ (w : World) (mg : Str → Option Value) (fa : Addr) (h : Heap), (K w.params).In h → h.Ns mainGlobals mg → mg d.name = some (.ref fa) →
      ∃ fd : FuncData, (∀ (s : Shared) (u : Value), BindsTo s fd ⟨[u], []⟩ [(x, u)]) ∧
        ∀ base : Heap, (K w.params).In base → base.Ns mainGlobals mg → FnOk l.prog w (K w.params) mg base (CX w) k fa fd [x] (sp w))
    (hsp : ∀ (w : World) (H : Hp) (a : Addr) (ns : List Int), ns.length ≤ n → Only H → SqL (K w.params) H a (ns.map V.int) → sp w [.ref a] H (fun v _ => v = .bl true) fun _ _ _ => False)
    (hCX : ∀ (w : World) (H : Hp) (s : Shared) (e : Value) (s' : Shared), CX w [] H s (fun _ _ _ => False) e s' → False) :
    PySem.W.WalkO q loose XP YP l.row.toRowW d [] (fun f vs => PySem.call f vs) := by
  refine Att.attach_call hn hdf fun w s₀ s₁ mg mb fa o pm cd doc a vs ns G Y ho hd hcd hmg hobj hints hlen hg => ?_
  have KX := hY w _ Y
  obtain ⟨fd, hb, hF⟩ := F w mg fa _ KX G.T.g hmg
  exact law_call KX G.T.g G.T.b G.T.builtins G.T.nolimit hg hobj hints (Nat.le_trans hlen hn2) hr hF hb (fun H hO hS => hsp w H a ns hlen hO hS) fun H e s' => hCX w H s₁ e s'
end L2
namespace L2
open PySem PySem.Spec PyProof.Rows
def defArgs (s : Stmt) : Arguments := match s with
  | .FunctionDef _ a _ _ _ _ _ _ _ _ => a
  | _ => { posonlyargs := [], args := [], vararg := none, kwonlyargs := [], kw_defaults := [], kwarg := none, defaults := [] }
def defBody (s : Stmt) : List Stmt := match s with
  | .FunctionDef _ _ b _ _ _ _ _ _ _ => b
  | _ => []
def defScope (s : Stmt) : Scope := match s with
  | .FunctionDef _ _ _ _ _ _ sc _ _ _ => sc
  | _ => { kind := .function, names := [], isGenerator := false, isCoroutine := false }
abbrev CX0 : CXT := fun _ _ _ _ _ _ => False
abbrev E0 : XK := fun _ _ _ => False
theorem pass0 {X : Cx} : Passes CX0 X E0 := fun _ _ _ _ _ _ _ h => h.elim
structure Fun (K : PySem.W.Frag) (x qual : Str) (st : Stmt) (f : Addr) (fd : FuncData) : Prop where
  ex : ∃ (oc : Value) (od : Option Addr) (kV doc pm : Value) (an : Option Addr) (cdv ct : Value) (osl : Array (Option Value)),
    fd = PySem.W.fnOf x qual (defArgs st) (defBody st) (defScope st) .none kV doc pm an cdv ct ∧ K.lookup f = some ⟨oc, od, .func fd, osl⟩ ∧ PySem.W.codeIn K cdv qual = true
  kp : PySem.W.keepIn K (.ref f) = true
section
variable {P : Program} {w : World} {K : PySem.W.Frag} {mg : Str → Option Value} {base : Heap}
theorem Fun.ok {x qual : Str} {st : Stmt} {f : Addr} {fd : FuncData} {N ps : List Str} {k : Nat} {sp : Sp} (F : Fun K x qual st f fd) (S : FnScope N ps (defScope st)) (len : ∀ vs H Q E, sp vs H Q E → vs.length = ps.length)
    (hbody : ∀ (cdv : Value) (A : Around) (outer : List Env) (s : Shared) (H : Hp) (vs : List V) (Q : VK) (E : XK), Room k (A.deeper (envOfC qual (defScope st) s.heap.objs.size f cdv)) → sp vs H Q E →
      ∃ t, PSs (cxOf CX0 P w K mg base N qual (defScope st) f cdv A outer s H E).nox (defBody st) t ∧ t { nx := fun _ H' => Q .non H', rt := Q } (start N vs) H) : FnOk P w K mg base CX0 (k + 1) f fd ps sp := by
  obtain ⟨oc, od, kV, doc, pm, an, cdv, ct, osl, rfl, lk, hcd⟩ := F.ex
  refine fn_of lk hcd S len fun A outer s H vs Q E hr hsp => ?_
  obtain ⟨t, h, q⟩ := hbody cdv A outer s H vs Q E hr hsp
  exact ⟨t, h.nox, q⟩
theorem Fun.binds {x qual : Str} {st : Stmt} {f : Addr} {fd : FuncData} {ps : List Str} (F : Fun K x qual st f fd)
    (h : ∀ (kV doc pm : Value) (an : Option Addr) (cdv ct : Value) (us : List Value), us.length = ps.length → bindArgs (PySem.W.fnOf x qual (defArgs st) (defBody st) (defScope st) .none kV doc pm an cdv ct) ⟨us, []⟩ = pure (ps.zip us)) : Binds K fd ps [] := by
  obtain ⟨oc, od, kV, doc, pm, an, cdv, ct, osl, rfl, lk, hcd⟩ := F.ex
  exact .all (h kV doc pm an cdv ct)
theorem fun_mk {x qual : Str} {st : Stmt} {f : Addr} {oc : Value} {od an : Option Addr} {osl : Array (Option Value)} {kV doc pm cdv ct : Value} (l : K.lookup f = some ⟨oc, od, .func (PySem.W.fnOf x qual (defArgs st) (defBody st) (defScope st) .none kV doc pm an cdv ct), osl⟩)
    (c : PySem.W.codeIn K cdv qual = true) (k : PySem.W.keepIn K (.ref f) = true) : Fun K x qual st f (PySem.W.fnOf x qual (defArgs st) (defBody st) (defScope st) .none kV doc pm an cdv ct) := ⟨⟨oc, od, kV, doc, pm, an, cdv, ct, osl, rfl, l, c⟩, k⟩
end
section
variable {X : Cx}
theorem pv (i : Nat) {x : Str} {pos : Pos} (hN : X.N[i]? = some x := by rfl) (hv : Vis X.env.scope x := by first | exact Or.inl rfl | exact Or.inr (Or.inl rfl) | exact Or.inr (Or.inr rfl)) (hd : (x == ("__debug__" : Str)) = false := by decide)
    (hcd : (x == ("__classdict__" : Str)) = false := by decide) : PE X (.Name x pos) (tVar i) := pe_var hN hv hd hcd
end
theorem iteF {A B : Prop} (h : B) : if false = true then A else B := by
  rw [if_neg Bool.false_ne_true]
  exact h
theorem iteT {A B : Prop} (h : A) : if true = true then A else B := by
  rw [if_pos rfl]
  exact h
def Same (H H' : Hp) : Prop := ∀ b o, H b = some o → H' b = some o
theorem Same.refl (H : Hp) : Same H H := fun _ _ h => h
theorem Same.trans {H H1 H2 : Hp} (a : Same H H1) (b : Same H1 H2) : Same H H2 := fun c o h => b c o (a c o h)
theorem Same.free {H H' : Hp} (e : Same H H') {l : Addr} (h : H' l = Option.none) : H l = Option.none := by
  cases q : H l with
  | none => rfl
  | some o =>
    rw [e l o q] at h
    cases h
theorem Same.seq {K : PySem.W.Frag} {H H' : Hp} {a : Addr} {xs : List V} (e : Same H H') (h : SqL K H a xs) : SqL K H' a xs := by
  rcases h with (h | ⟨o, h⟩) | h
  · exact .inl (.inl (e _ _ h))
  · exact .inl (.inr ⟨o, e _ _ h⟩)
  · exact .inr h
end L2
set_option linter.all false
set_option Elab.async false
namespace PV
open PySem (Str)
inductive D where
  | non | bl (b : Bool) | int (i : Int) | str (x : Str) | lst (xs : List D) | tup (xs : List D)
  deriving Inhabited
inductive Sl where
  | un | sh (d : D) | fr (d : D) | ow (ds : List D) | tab (rows : List (List D)) | dc (kvs : List (Int × D)) | nw (ds : List D) | jk (d : D) | jl (n : Nat)
  deriving Inhabited
def lim : Nat := 100000
mutual
def D.dep : D → Nat
  | .lst xs => D.deps xs + 1
  | .tup xs => D.deps xs + 1
  | _ => 0
def D.deps : List D → Nat
  | [] => 0
  | x :: xs => max (D.dep x) (D.deps xs)
end
mutual
def eqD : D → D → Bool
  | .non, .non => true
  | .bl a, .bl b => a == b
  | .bl a, .int b => (if a then 1 else 0) == b
  | .int a, .bl b => a == (if b then 1 else 0)
  | .int a, .int b => a == b
  | .str a, .str b => a == b
  | .lst a, .lst b => eqDs a b
  | .tup a, .tup b => eqDs a b
  | _, _ => false
def eqDs : List D → List D → Bool
  | [], [] => true
  | x :: xs, y :: ys => eqD x y && eqDs xs ys
  | _, _ => false
end
abbrev Env := List Sl
abbrev Ex := Env → Option D
abbrev Tx := Env → Option Bool
abbrev Lx := Env → Option (List D)
def Sl.val : Sl → Option D
  | .un => none
  | .sh d => some d
  | .fr d => some d
  | .ow ds => some (.lst ds)
  | .tab rows => some (.lst (rows.map .lst))
  | .nw ds => some (.lst ds)
  | _ => none
def Sl.shd : Sl → Option D
  | .sh d => some d
  | .fr d => some d
  | _ => none
def eC (d : D) : Ex := fun _ => some d
def eVar (i : Nat) : Ex := fun env => env[i]?.bind Sl.shd
def eVarR (i : Nat) : Ex := fun env => env[i]?.bind Sl.val
def e2I (f : Int → Int → Option D) (a b : Ex) : Ex := fun env => match a env, b env with
  | some (.int i), some (.int j) => f i j
  | _, _ => none
def iSub (i j : Int) : Option D := some (.int (i - j))
def iMul (i j : Int) : Option D := if (-18446744073709551616 < i ∧ i < 18446744073709551616) ∨ (-18446744073709551616 < j ∧ j < 18446744073709551616) then some (.int (i * j)) else none
def iMod (i j : Int) : Option D := if 0 < j then some (.int (i % j)) else none
def iDiv (i j : Int) : Option D := if 0 < j ∧ j < 1073741824 then some (.int (i / j)) else none
def t2I (p : Int → Int → Bool) (a b : Ex) : Tx := fun env => match a env, b env with
  | some (.int i), some (.int j) => some (p i j)
  | _, _ => none
def pLt (i j : Int) : Bool := decide (i < j)
def pGt (i j : Int) : Bool := decide (j < i)
def pGe (i j : Int) : Bool := decide (j ≤ i)
def tEq (a b : Ex) : Tx := fun env => match a env, b env with
  | some x, some y => if x.dep ≤ 8 then some (eqD x y) else none
  | _, _ => none
def tNe (a b : Ex) : Tx := fun env => match a env, b env with
  | some x, some y => if x.dep ≤ 8 then some (!eqD x y) else none
  | _, _ => none
def inD (x : D) (ys : List D) : Bool := ys.any fun y => eqD y x
def tIn (a b : Ex) : Tx := fun env => match a env, b env with
  | some x, some (.lst ys) => if D.deps ys ≤ 8 then some (inD x ys) else none
  | some x, some (.tup ys) => if D.deps ys ≤ 8 then some (inD x ys) else none
  | _, _ => none
def tNi (a b : Ex) : Tx := fun env => match tIn a b env with
  | some k => some (!k)
  | none => none
def tAnd (a b : Tx) : Tx := fun env => match a env with
  | some true => b env
  | some false => some false
  | none => none
def tOr (a b : Tx) : Tx := fun env => match a env with
  | some true => some true
  | some false => b env
  | none => none
def tNot (a : Tx) : Tx := fun env => match a env with
  | some k => some (!k)
  | none => none
def tB (a : Ex) : Tx := fun env => match a env with
  | some (.bl k) => some k
  | _ => none
def eB (a : Tx) : Ex := fun env => match a env with
  | some k => some (.bl k)
  | none => none
def evs : List Ex → Env → Option (List D)
  | [], _ => some []
  | e :: es, env => match e env, evs es env with
    | some d, some ds => some (d :: ds)
    | _, _ => none
def eLst (es : List Ex) : Ex := fun env => match evs es env with
  | some ds => some (.lst ds)
  | none => none
def eTup (es : List Ex) : Ex := fun env => match evs es env with
  | some ds => some (.tup ds)
  | none => none
def eCall (φ : List D → Option D) (es : List Ex) : Ex := fun env => match evs es env with
  | some ds => φ ds
  | none => none
def eF1 (φ : D → Option D) (a : Ex) : Ex := fun env => match a env with
  | some x => φ x
  | none => none
def eF2 (φ : D → D → Option D) (a b : Ex) : Ex := fun env => match a env, b env with
  | some x, some y => φ x y
  | _, _ => none
def ixN (n : Nat) (i : Int) : Option Nat := if 0 ≤ i then (if i < n then some i.toNat else none) else if -(n : Int) ≤ i then some (i + n).toNat else none
def atD (xs : List D) (i : Int) : Option D := (ixN xs.length i).bind fun j => xs[j]?
def fIx : D → D → Option D
  | .lst xs, .int i => atD xs i
  | .tup xs, .int i => atD xs i
  | _, _ => none
def eIx (a b : Ex) : Ex := eF2 fIx a b
def fAdd : D → D → Option D
  | .int i, .int j => some (.int (i + j))
  | .lst xs, .lst ys => if xs.length + ys.length ≤ lim then some (.lst (xs ++ ys)) else none
  | _, _ => none
def eAdd (a b : Ex) : Ex := eF2 fAdd a b
def fLen : D → Option D
  | .lst xs => some (.int xs.length)
  | .tup xs => some (.int xs.length)
  | _ => none
def fList : D → Option D
  | .lst xs => some (.lst xs)
  | .tup xs => some (.lst xs)
  | _ => none
def allB : List D → Option Bool
  | [] => some true
  | .bl b :: xs => match allB xs with
    | some c => some (b && c)
    | none => none
  | _ :: _ => none
def fAll : D → Option D
  | .lst xs => match allB xs with
    | some b => some (.bl b)
    | none => none
  | _ => none
def ints? : List D → Option (List Int)
  | [] => some []
  | .int i :: xs => match ints? xs with
    | some r => some (i :: r)
    | none => none
  | _ :: _ => none
def ltL : List Int → List Int → Bool
  | [], [] => false
  | [], _ :: _ => true
  | _ :: _, [] => false
  | x :: xs, y :: ys => if x = y then ltL xs ys else decide (x < y)
inductive Ty where
  | int | bool | str | list | tuple
def isTy : Ty → D → Bool
  | .int, .int _ => true
  | .int, .bl _ => true
  | .bool, .bl _ => true
  | .str, .str _ => true
  | .list, .lst _ => true
  | .tuple, .tup _ => true
  | _, _ => false
def fIs (t : Ty) (x : D) : Option D := some (.bl (isTy t x))
def scalD : D → Bool
  | .lst _ => false
  | .tup _ => false
  | _ => true
def eSc (f : Ex) : Ex := fun env => match f env with
  | some d => if scalD d then some d else none
  | none => none
def eFl (f : Ex) : Ex := fun env => match f env with
  | some (.lst ds) => if ds.all scalD then some (.lst ds) else none
  | _ => none
def idxD (x : D) : List D → Option Nat
  | [] => none
  | y :: ys => if eqD y x then some 0 else match idxD x ys with
    | some j => some (j + 1)
    | none => none
def fIndex : D → D → Option D
  | .lst ys, x => if D.deps ys ≤ 8 then (match idxD x ys with
    | some j => some (.int j)
    | none => none) else none
  | _, _ => none
def iOf (a : Ex) : Lx := fun env => match a env with
  | some (.lst xs) => some xs
  | some (.tup xs) => some xs
  | _ => none
def rangeD (lo : Int) (n : Nat) : List D := (List.range n).map fun k => .int (lo + (k : Nat))
def iRng (a : Ex) : Lx := fun env => match a env with
  | some (.int j) => if -(lim : Int) ≤ j ∧ j ≤ lim then some (rangeD 0 j.toNat) else none
  | _ => none
def compL (i : Nat) (c : Tx) (e : Ex) (env : Env) : List D → Option (List D)
  | [] => some []
  | d :: ds => match c (env.set i (.sh d)) with
    | some true => match e (env.set i (.sh d)), compL i c e env ds with
      | some x, some xs => some (x :: xs)
      | _, _ => none
    | some false => compL i c e env ds
    | none => none
def tTrue : Tx := fun _ => some true
def eComp (i : Nat) (it : Lx) (c : Tx) (e : Ex) : Ex := fun env => match it env with
  | some ds => if ds.length ≤ lim then (match compL i c e env ds with
    | some xs => some (.lst xs)
    | none => none) else none
  | none => none
inductive Out where
  | nx | bk | ct | rt (d : D)
abbrev St := Env → Option (Out × Env)
def sSkip : St := fun env => some (.nx, env)
def sSet (i : Nat) (e : Ex) : St := fun env => match e env with
  | some d => some (.nx, env.set i (.sh d))
  | none => none
def sOwn (i : Nat) (e : Ex) : St := fun env => match e env with
  | some (.lst ds) => some (.nx, env.set i (.ow ds))
  | _ => none
def rows? : List D → Option (List (List D))
  | [] => some []
  | .lst r :: xs => match rows? xs with
    | some rs => some (r :: rs)
    | none => none
  | _ :: _ => none
def sTab (i : Nat) (e : Ex) : St := fun env => match e env with
  | some (.lst ds) => match rows? ds with
    | some rs => some (.nx, env.set i (.tab rs))
    | none => none
  | _ => none
def sFrz (i : Nat) : St := fun env => match env[i]? with
  | some (.ow ds) => some (.nx, env.set i (.sh (.lst ds)))
  | some (.tab rs) => some (.nx, env.set i (.sh (.lst (rs.map .lst))))
  | some (.nw ds) => some (.nx, env.set i (.fr (.lst ds)))
  | some (.sh _) => some (.nx, env)
  | some (.fr _) => some (.nx, env)
  | _ => none
def sApp (i : Nat) (e : Ex) : St := fun env => match env[i]?, e env with
  | some (.ow ds), some d => if ds.length < lim then some (.nx, env.set i (.ow (ds ++ [d]))) else none
  | _, _ => none
def sIns (i : Nat) (a e : Ex) : St := fun env => match env[i]?, a env, e env with
  | some (.ow ds), some (.int k), some d => if 0 ≤ k ∧ k ≤ ds.length ∧ ds.length < lim then some (.nx, env.set i (.ow (ds.insertIdx k.toNat d))) else none
  | _, _, _ => none
def sPut2 (i : Nat) (a b e : Ex) : St := fun env => match env[i]?, e env, a env, b env with
  | some (.tab rs), some d, some (.int k), some (.int l) => match ixN rs.length k with
    | some j => match rs[j]? with
      | some r => match ixN r.length l with
        | some m => some (.nx, env.set i (.tab (rs.set j (r.set m d))))
        | none => none
      | none => none
    | none => none
  | _, _, _, _ => none
def sDo (e : Ex) : St := fun env => match e env with
  | some _ => some (.nx, env)
  | none => none
def sRet (e : Ex) : St := fun env => match e env with
  | some d => some (.rt d, env)
  | none => none
def sRetT (i : Nat) : St := fun env => match env[i]? with
  | some (.tab rs) => some (.rt (.lst (rs.map .lst)), env)
  | _ => none
def sSeq (a b : St) : St := fun env => match a env with
  | some (.nx, env1) => b env1
  | r => r
def sIf (c : Tx) (a b : St) : St := fun env => match c env with
  | some true => a env
  | some false => b env
  | none => none
def sNever : St := fun _ => none
abbrev Tg := D → Env → Option Env
def gN (i : Nat) : Tg := fun d env => some (env.set i (.sh d))
def g2 (i j : Nat) : Tg := fun d env => match d with
  | .tup [x, y] => some ((env.set i (.sh x)).set j (.sh y))
  | _ => none
def forL (g : Tg) (b : St) : List D → St
  | [], env => some (.nx, env)
  | d :: ds, env => match g d env with
    | some e0 => match b e0 with
      | some (.nx, e1) => forL g b ds e1
      | some (.ct, e1) => forL g b ds e1
      | some (.bk, e1) => some (.nx, e1)
      | some (.rt r, e1) => some (.rt r, e1)
      | none => none
    | none => none
def sFor (g : Tg) (it : Lx) (b : St) : St := fun env => match it env with
  | some ds => forL g b ds env
  | none => none
def enter (n : Nat) (ds : List D) : Env := ds.map .sh ++ List.replicate (n - ds.length) .un
def run (p n : Nat) (g : St) (ds : List D) : Option D := if ds.length = p then (match g (enter n ds) with
  | some (.rt d, _) => some d
  | some (.nx, _) => some .non
  | _ => none) else none
end PV
set_option linter.all false
set_option Elab.async false
set_option maxHeartbeats 1000000
namespace PV
open PySem (Str)
structure Agr (S : List Nat) (env env0 : Env) : Prop where
  len : env.length = env0.length
  out : ∀ i, i ∉ S → env[i]? = env0[i]?
theorem Agr.refl (S : List Nat) (env : Env) : Agr S env env := ⟨rfl, fun _ _ => rfl⟩
theorem Agr.trans {S : List Nat} {a b c : Env} (h : Agr S a b) (k : Agr S b c) : Agr S a c := ⟨h.len.trans k.len, fun i hi => (h.out i hi).trans (k.out i hi)⟩
theorem Agr.set {S : List Nat} {a b : Env} (h : Agr S a b) {i : Nat} (hi : i ∈ S) (s : Sl) : Agr S (a.set i s) b :=
  ⟨by rw [List.length_set]; exact h.len, fun j hj => by rw [List.getElem?_set_ne (by rintro rfl; exact hj hi)]; exact h.out j hj⟩
theorem Agr.mono {S T : List Nat} {a b : Env} (h : Agr S a b) (st : ∀ i ∈ S, i ∈ T) : Agr T a b := ⟨h.len, fun i hi => h.out i fun z => hi (st i z)⟩
theorem set_get {env : Env} {i : Nat} {s : Sl} (h : i < env.length) : (env.set i s)[i]? = some s := by rw [List.getElem?_set_self h]
theorem eVar_set_ne {env : Env} {i j : Nat} {s : Sl} (h : i ≠ j) : eVar j (env.set i s) = eVar j env := by unfold eVar; rw [List.getElem?_set_ne h]
theorem eVar_set {env : Env} {i : Nat} {d : D} (h : i < env.length) : eVar i (env.set i (.sh d)) = some d := by unfold eVar; rw [set_get h]; rfl
theorem Agr.var {S : List Nat} {a b : Env} (h : Agr S a b) {i : Nat} (hi : i ∉ S) : eVar i a = eVar i b := by unfold eVar; rw [h.out i hi]
theorem Agr.varR {S : List Nat} {a b : Env} (h : Agr S a b) {i : Nat} (hi : i ∉ S) : eVarR i a = eVarR i b := by unfold eVarR; rw [h.out i hi]
theorem sSeq_nx {a b : St} {env e1 : Env} (h : a env = some (.nx, e1)) : sSeq a b env = b e1 := by unfold sSeq; rw [h]
theorem sSeq_rt {a b : St} {env e1 : Env} {r : D} (h : a env = some (.rt r, e1)) : sSeq a b env = some (.rt r, e1) := by unfold sSeq; rw [h]
theorem sIf_tt {c : Tx} {a b : St} {env : Env} (h : c env = some true) : sIf c a b env = a env := by unfold sIf; rw [h]
theorem sIf_ff {c : Tx} {a b : St} {env : Env} (h : c env = some false) : sIf c a b env = b env := by unfold sIf; rw [h]
theorem sFor_of {g : Tg} {it : Lx} {b : St} {env : Env} {ds : List D} (h : it env = some ds) : sFor g it b env = forL g b ds env := by unfold sFor; rw [h]
theorem sRet_of {e : Ex} {env : Env} {d : D} (h : e env = some d) : sRet e env = some (.rt d, env) := by unfold sRet; rw [h]
theorem sSet_of {i : Nat} {e : Ex} {env : Env} {d : D} (h : e env = some d) : sSet i e env = some (.nx, env.set i (.sh d)) := by unfold sSet; rw [h]
theorem sSkip_of {env : Env} : sSkip env = some (.nx, env) := rfl
theorem run_rt {p n : Nat} {g : St} {ds : List D} {r : D} {e1 : Env} (hp : ds.length = p) (h : g (enter n ds) = some (.rt r, e1)) : run p n g ds = some r := by unfold run; rw [if_pos hp, h]
theorem run_nx {p n : Nat} {g : St} {ds : List D} {e1 : Env} (hp : ds.length = p) (h : g (enter n ds) = some (.nx, e1)) : run p n g ds = some .non := by unfold run; rw [if_pos hp, h]
theorem eCall1 {φ : List D → Option D} {a : Ex} {env : Env} {x : D} (h : a env = some x) : eCall φ [a] env = φ [x] := by simp [eCall, evs, h]
theorem eCall2 {φ : List D → Option D} {a b : Ex} {env : Env} {x y : D} (h : a env = some x) (h2 : b env = some y) : eCall φ [a, b] env = φ [x, y] := by simp [eCall, evs, h, h2]
theorem eCall3 {φ : List D → Option D} {a b c : Ex} {env : Env} {x y z : D} (h : a env = some x) (h2 : b env = some y) (h3 : c env = some z) : eCall φ [a, b, c] env = φ [x, y, z] := by simp [eCall, evs, h, h2, h3]
theorem eF1_of {φ : D → Option D} {a : Ex} {env : Env} {x : D} (h : a env = some x) : eF1 φ a env = φ x := by simp [eF1, h]
theorem forL_run {g : Tg} {b : St} {ds : List D} (I : Nat → Env → Prop)
    (step : ∀ k d env, ds[k]? = some d → I k env → ∃ e0 e1, g d env = some e0 ∧ b e0 = some (.nx, e1) ∧ I (k + 1) e1) (env : Env) (h0 : I 0 env) : ∃ e1, forL g b ds env = some (.nx, e1) ∧ I ds.length e1 := by
  have go : ∀ (m k : Nat) (env : Env), k + m = ds.length → I k env → ∃ e1, forL g b (ds.drop k) env = some (.nx, e1) ∧ I ds.length e1 := by
    intro m
    induction m with
    | zero => intro k env hk hI; have : k = ds.length := by omega
              subst this; rw [List.drop_length]; exact ⟨env, rfl, hI⟩
    | succ m ih =>
      intro k env hk hI
      have hlt : k < ds.length := by omega
      obtain ⟨e0, e1, h1, h2, h3⟩ := step k ds[k] env (by simp [hlt]) hI
      rw [List.drop_eq_getElem_cons hlt]
      simp only [forL, h1, h2]
      exact ih (k + 1) e1 (by omega) h3
  simpa using go ds.length 0 env (by omega) h0
theorem compL_map {i : Nat} {e : Ex} {env : Env} (F : D → D) : ∀ (ds : List D), (∀ d ∈ ds, e (env.set i (.sh d)) = some (F d)) → compL i tTrue e env ds = some (ds.map F)
  | [], _ => rfl
  | d :: ds, h => by
    simp only [compL, tTrue, h d List.mem_cons_self, compL_map F ds fun d' hd' => h d' (List.mem_cons_of_mem _ hd'), List.map_cons]
theorem allB_map {p : D → Bool} : ∀ ds : List D, allB (ds.map fun d => .bl (p d)) = some (ds.all p)
  | [] => rfl
  | d :: ds => by simp only [List.map_cons, allB, allB_map ds, List.all_cons]
theorem rangeD_length (lo : Int) (n : Nat) : (rangeD lo n).length = n := by simp [rangeD]
theorem mem_rangeD {n : Nat} {d : D} (h : d ∈ rangeD 0 n) : ∃ k : Nat, k < n ∧ d = .int k := by
  simp only [rangeD, List.mem_map, List.mem_range] at h
  obtain ⟨k, hk, rfl⟩ := h
  exact ⟨k, hk, by simp⟩
theorem rangeD_get {lo : Int} {n k : Nat} (h : k < n) : (rangeD lo n)[k]? = some (.int (lo + k)) := by simp [rangeD, h]
theorem lim_eq : lim = 100000 := rfl
theorem iRng_of {e : Ex} {env : Env} {n : Nat} (h : e env = some (.int n)) (hn : n ≤ 1000) : iRng e env = some (rangeD 0 n) := by
  unfold iRng
  simp only [h]
  rw [if_pos ⟨by rw [lim_eq]; omega, by rw [lim_eq]; omega⟩]
  simp
def rowD (r : List Int) : D := .lst (r.map .int)
def tabD (T : List (List Int)) : D := .lst (T.map rowD)
structure Tab (T : List (List Int)) (n : Nat) : Prop where
  len : T.length = n
  row : ∀ r ∈ T, r.length = n
  ent : ∀ r ∈ T, ∀ x ∈ r, 0 ≤ x ∧ x < n
  pos : 1 ≤ n
  top : n ≤ 12
def tg (T : List (List Int)) (a b : Int) : Int := (T.getD a.toNat []).getD b.toNat 0
theorem atD_nat {xs : List D} {j : Nat} {d : D} (h : xs[j]? = some d) : atD xs (j : Int) = some d := by
  have hj : j < xs.length := (List.getElem?_eq_some_iff.mp h).1
  unfold atD ixN
  rw [if_pos (by omega), if_pos (by omega)]
  simpa using h
theorem fIx_row {r : List Int} {b : Int} (h0 : 0 ≤ b) (h1 : b < r.length) : fIx (rowD r) (.int b) = some (.int (r.getD b.toNat 0)) := by
  obtain ⟨k, rfl⟩ := Int.eq_ofNat_of_zero_le h0
  have hk : k < r.length := by omega
  show atD _ _ = _
  rw [atD_nat (d := .int (r.getD k 0))]
  · simp
  · simp [hk, List.getD]
theorem fIx_tab {T : List (List Int)} {a : Int} (h0 : 0 ≤ a) (h1 : a < T.length) : fIx (tabD T) (.int a) = some (rowD (T.getD a.toNat [])) := by
  obtain ⟨k, rfl⟩ := Int.eq_ofNat_of_zero_le h0
  have hk : k < T.length := by omega
  show atD _ _ = _
  rw [atD_nat (d := rowD (T.getD k []))]
  · simp
  · simp [hk, List.getD]
theorem Tab.rowlen {T : List (List Int)} {n : Nat} (h : Tab T n) {a : Int} (h0 : 0 ≤ a) (h1 : a < n) : (T.getD a.toNat []).length = n := by
  have hk : a.toNat < T.length := by have := h.len; omega
  rw [List.getD_eq_getElem?_getD, List.getElem?_eq_getElem hk]
  exact h.row _ (List.getElem_mem hk)
theorem Tab.bound {T : List (List Int)} {n : Nat} (h : Tab T n) {a b : Int} (h0 : 0 ≤ a) (h1 : a < n) (h2 : 0 ≤ b) (h3 : b < n) : 0 ≤ tg T a b ∧ tg T a b < n := by
  have hk : a.toNat < T.length := by have := h.len; omega
  have hl := h.rowlen h0 h1
  have hb : b.toNat < (T.getD a.toNat []).length := by omega
  unfold tg
  rw [List.getD_eq_getElem?_getD (l := T.getD a.toNat []), List.getElem?_eq_getElem hb]
  refine h.ent _ ?_ _ (List.getElem_mem hb)
  rw [List.getD_eq_getElem?_getD, List.getElem?_eq_getElem hk]
  exact List.getElem_mem hk
theorem ix2 {T : List (List Int)} {n : Nat} (h : Tab T n) {env : Env} {e0 e1 e2 : Ex} {a b : Int} (k0 : e0 env = some (tabD T)) (k1 : e1 env = some (.int a)) (k2 : e2 env = some (.int b))
    (h0 : 0 ≤ a) (h1 : a < n) (h2 : 0 ≤ b) (h3 : b < n) : eIx (eIx e0 e1) e2 env = some (.int (tg T a b)) := by
  have hl := h.rowlen h0 h1
  unfold eIx eF2
  simp only [k0, k1, k2, fIx_tab h0 (show a < T.length by rw [h.len]; exact h1)]
  rw [fIx_row h2 (by rw [hl]; exact h3)]
  rfl
theorem fLen_tab (T : List (List Int)) : fLen (tabD T) = some (.int T.length) := by simp [tabD, fLen]
theorem fLen_row (r : List Int) : fLen (rowD r) = some (.int r.length) := by simp [rowD, fLen]
mutual
theorem eqD_refl : ∀ d : D, eqD d d = true
  | .non => by simp [eqD]
  | .bl _ => by simp [eqD]
  | .int _ => by simp [eqD]
  | .str _ => by simp [eqD]
  | .lst xs => by simp only [eqD]; exact eqDs_refl xs
  | .tup xs => by simp only [eqD]; exact eqDs_refl xs
theorem eqDs_refl : ∀ ds : List D, eqDs ds ds = true
  | [] => by simp [eqDs]
  | d :: ds => by simp only [eqDs, eqD_refl d, eqDs_refl ds, Bool.and_self]
end
theorem deps_ints : ∀ xs : List Int, D.deps (xs.map .int) = 0
  | [] => by simp [D.deps]
  | x :: xs => by simp [D.deps, D.dep, deps_ints xs]
theorem dep_row (r : List Int) : (rowD r).dep = 1 := by simp [rowD, D.dep, deps_ints]
theorem deps_rows : ∀ T : List (List Int), D.deps (T.map rowD) ≤ 1
  | [] => by simp [D.deps]
  | r :: T => by simp only [List.map_cons, D.deps, dep_row]; have := deps_rows T; omega
theorem dep_tab (T : List (List Int)) : (tabD T).dep ≤ 2 := by have := deps_rows T; simp only [tabD, D.dep]; omega
theorem tEq_int {a b : Ex} {env : Env} {i j : Int} (h1 : a env = some (.int i)) (h2 : b env = some (.int j)) : tEq a b env = some (i == j) := by
  simp [tEq, h1, h2, D.dep, eqD]
theorem tNe_int {a b : Ex} {env : Env} {i j : Int} (h1 : a env = some (.int i)) (h2 : b env = some (.int j)) : tNe a b env = some (!(i == j)) := by
  simp [tNe, h1, h2, D.dep, eqD]
theorem rise_ext {a b : List Int} (ha : a.Pairwise (· < ·)) (hb : b.Pairwise (· < ·)) (h : ∀ x, x ∈ a ↔ x ∈ b) : a = b := by
  have na : a.Nodup := ha.imp fun {x y} h e => by omega
  have nb : b.Nodup := hb.imp fun {x y} h e => by omega
  exact ((List.perm_ext_iff_of_nodup na nb).mpr h).eq_of_pairwise (fun x y _ _ h1 h2 => by omega) ha hb
theorem ltL_irr : ∀ x : List Int, ltL x x = false
  | [] => rfl
  | a :: x => by simp [ltL, ltL_irr x]
theorem ltL_tr : ∀ {x y z : List Int}, ltL x y = true → ltL y z = true → ltL x z = true
  | [], [], z, h, _ => by simp [ltL] at h
  | [], b :: y, [], _, h => by simp [ltL] at h
  | [], b :: y, c :: z, _, _ => by simp [ltL]
  | a :: x, [], z, h, _ => by simp [ltL] at h
  | a :: x, b :: y, [], _, h => by simp [ltL] at h
  | a :: x, b :: y, c :: z, h, k => by
    simp only [ltL] at h k ⊢
    by_cases e1 : a = b
    · subst e1
      rw [if_pos rfl] at h
      by_cases e2 : a = c
      · subst e2
        rw [if_pos rfl] at k ⊢
        exact ltL_tr h k
      · rw [if_neg e2] at k ⊢; exact k
    · rw [if_neg e1] at h
      have h' := of_decide_eq_true h
      by_cases e2 : b = c
      · subst e2
        rw [if_neg e1]; exact h
      · rw [if_neg e2] at k
        have k' := of_decide_eq_true k
        rw [if_neg (by omega)]
        exact decide_eq_true (by omega)
theorem ltL_tot : ∀ x y : List Int, ltL x y = false → ltL y x = false → x = y
  | [], [], _, _ => rfl
  | [], b :: y, h, _ => by simp [ltL] at h
  | a :: x, [], _, h => by simp [ltL] at h
  | a :: x, b :: y, h, k => by
    simp only [ltL] at h k
    by_cases e : a = b
    · subst e
      rw [if_pos rfl] at h k
      rw [ltL_tot x y h k]
    · rw [if_neg e] at h
      rw [if_neg (fun q => e q.symm)] at k
      have h' := of_decide_eq_false h
      have k' := of_decide_eq_false k
      omega
def leL (x y : List Int) : Prop := ltL y x = false
theorem leL.refl (x : List Int) : leL x x := ltL_irr x
theorem leL.of {x y : List Int} (h : ltL x y = true) : leL x y := by
  unfold leL
  cases k : ltL y x with
  | false => rfl
  | true => have := ltL_tr h k; rw [ltL_irr] at this; cases this
theorem leL.trans {x y z : List Int} (h : leL x y) (k : leL y z) : leL x z := by
  unfold leL at *
  cases q : ltL z x with
  | false => rfl
  | true =>
    cases e : ltL x y with
    | true => have := ltL_tr q e; rw [k] at this; cases this
    | false => rw [ltL_tot x y e h] at q; rw [k] at q; cases q
end PV
set_option linter.all false
set_option Elab.async false
set_option maxHeartbeats 1000000
namespace PV
open PySem (Str)
def ev (e : Ex) (env : Env) (P : D → Prop) : Prop := ∃ d, e env = some d ∧ P d
def evI (e : Ex) (env : Env) (P : Int → Prop) : Prop := ∃ i, e env = some (.int i) ∧ P i
def evR (e : Ex) (env : Env) (P : List Int → Prop) : Prop := ∃ r, e env = some (rowD r) ∧ P r
def evT (e : Ex) (env : Env) (P : List (List Int) → Prop) : Prop := ∃ T, e env = some (tabD T) ∧ P T
def tv (t : Tx) (env : Env) (P : Bool → Prop) : Prop := ∃ k, t env = some k ∧ P k
def wp (s : St) (env : Env) (Q : Out → Env → Prop) : Prop := ∃ o e, s env = some (o, e) ∧ Q o e
theorem ev.mono {e : Ex} {env : Env} {P P' : D → Prop} (h : ev e env P) (k : ∀ d, P d → P' d) : ev e env P' := let ⟨d, a, b⟩ := h; ⟨d, a, k d b⟩
theorem wp.mono {s : St} {env : Env} {Q Q' : Out → Env → Prop} (h : wp s env Q) (k : ∀ o e, Q o e → Q' o e) : wp s env Q' := let ⟨o, e, a, b⟩ := h; ⟨o, e, a, k o e b⟩
theorem tv.mono {t : Tx} {env : Env} {P P' : Bool → Prop} (h : tv t env P) (k : ∀ d, P d → P' d) : tv t env P' := let ⟨d, a, b⟩ := h; ⟨d, a, k d b⟩
theorem evI.ev {e : Ex} {env : Env} {P : D → Prop} (h : evI e env fun i => P (.int i)) : ev e env P := let ⟨i, a, b⟩ := h; ⟨_, a, b⟩
theorem evR.ev {e : Ex} {env : Env} {P : D → Prop} (h : evR e env fun r => P (rowD r)) : ev e env P := let ⟨i, a, b⟩ := h; ⟨_, a, b⟩
theorem evT.ev {e : Ex} {env : Env} {P : D → Prop} (h : evT e env fun r => P (tabD r)) : ev e env P := let ⟨i, a, b⟩ := h; ⟨_, a, b⟩
theorem ev.eq {e : Ex} {env : Env} {d : D} (h : ev e env (· = d)) : e env = some d := let ⟨x, a, b⟩ := h; b ▸ a
theorem evI.eq {e : Ex} {env : Env} {i : Int} (h : evI e env (· = i)) : e env = some (.int i) := let ⟨x, a, b⟩ := h; b ▸ a
theorem tv.eq {e : Tx} {env : Env} {d : Bool} (h : tv e env (· = d)) : e env = some d := let ⟨x, a, b⟩ := h; b ▸ a
theorem ev_of {e : Ex} {env : Env} {d : D} {P : D → Prop} (h : e env = some d) (k : P d) : ev e env P := ⟨d, h, k⟩
theorem evI_of {e : Ex} {env : Env} {d : Int} {P : Int → Prop} (h : e env = some (.int d)) (k : P d) : evI e env P := ⟨d, h, k⟩
theorem evR_of {e : Ex} {env : Env} {d : List Int} {P : List Int → Prop} (h : e env = some (rowD d)) (k : P d) : evR e env P := ⟨d, h, k⟩
theorem evT_of {e : Ex} {env : Env} {d : List (List Int)} {P : List (List Int) → Prop} (h : e env = some (tabD d)) (k : P d) : evT e env P := ⟨d, h, k⟩
theorem tv_of {e : Tx} {env : Env} {d : Bool} {P : Bool → Prop} (h : e env = some d) (k : P d) : tv e env P := ⟨d, h, k⟩
theorem evI_addF {a b : Ex} {env : Env} {P : Int → Prop} (h : evI a env fun i => evI b env fun j => P (i + j)) : evI (eAdd a b) env P := by
  obtain ⟨i, h1, j, h2, p⟩ := h; exact ⟨_, by simp [eAdd, eF2, h1, h2, fAdd], p⟩
theorem evI_mul {a b : Ex} {env : Env} {P : Int → Prop} (h : evI a env fun i => evI b env fun j => ((-18446744073709551616 < i ∧ i < 18446744073709551616) ∨ (-18446744073709551616 < j ∧ j < 18446744073709551616)) ∧ P (i * j)) : evI (e2I iMul a b) env P := by
  obtain ⟨i, h1, j, h2, q, p⟩ := h; exact ⟨_, by simp only [e2I, h1, h2, iMul, if_pos q], p⟩
theorem evI_mod {a b : Ex} {env : Env} {P : Int → Prop} (h : evI a env fun i => evI b env fun j => 0 < j ∧ P (i % j)) : evI (e2I iMod a b) env P := by
  obtain ⟨i, h1, j, h2, q, p⟩ := h; exact ⟨_, by simp only [e2I, h1, h2, iMod, if_pos q], p⟩
theorem evI_div {a b : Ex} {env : Env} {P : Int → Prop} (h : evI a env fun i => evI b env fun j => (0 < j ∧ j < 1073741824) ∧ P (i / j)) : evI (e2I iDiv a b) env P := by
  obtain ⟨i, h1, j, h2, q, p⟩ := h; exact ⟨_, by simp only [e2I, h1, h2, iDiv, if_pos q], p⟩
theorem evI_lenT {a : Ex} {env : Env} {P : Int → Prop} (h : evT a env fun T => P T.length) : evI (eF1 fLen a) env P := by
  obtain ⟨T, h1, p⟩ := h; exact ⟨_, by simp [eF1, h1, fLen_tab], p⟩
theorem evI_ix2 {e0 e1 e2 : Ex} {env : Env} {P : Int → Prop} {T : List (List Int)} {n : Nat} (hT : Tab T n) (h0 : e0 env = some (tabD T)) (h : evI e1 env fun a => evI e2 env fun b => (0 ≤ a ∧ a < n) ∧ (0 ≤ b ∧ b < n) ∧ P (tg T a b)) : evI (eIx (eIx e0 e1) e2) env P := by
  obtain ⟨a, h1, b, h2, ⟨a0, a1⟩, ⟨b0, b1⟩, p⟩ := h; exact ⟨_, ix2 hT h0 h1 h2 a0 a1 b0 b1, p⟩
theorem evR_ixT {e0 e1 : Ex} {env : Env} {P : List Int → Prop} (h : evT e0 env fun r => evI e1 env fun b => (0 ≤ b ∧ b < r.length) ∧ P (r.getD b.toNat [])) : evR (eIx e0 e1) env P := by
  obtain ⟨r, h0, b, h1, ⟨b0, b1⟩, p⟩ := h; exact ⟨_, by simp only [eIx, eF2, h0, h1, fIx_tab b0 b1], p⟩
theorem ev_B {t : Tx} {env : Env} {P : D → Prop} (h : tv t env fun k => P (.bl k)) : ev (eB t) env P := by
  obtain ⟨k, h1, p⟩ := h; exact ⟨_, by simp only [eB, h1], p⟩
theorem tv_gt {a b : Ex} {env : Env} {P : Bool → Prop} (h : evI a env fun i => evI b env fun j => P (decide (j < i))) : tv (t2I pGt a b) env P := by
  obtain ⟨i, h1, j, h2, p⟩ := h; exact ⟨_, by simp [t2I, h1, h2, pGt], p⟩
theorem tv_eqI {a b : Ex} {env : Env} {P : Bool → Prop} (h : evI a env fun i => evI b env fun j => P (decide (i = j))) : tv (tEq a b) env P := by
  obtain ⟨i, h1, j, h2, p⟩ := h; exact ⟨_, (tEq_int h1 h2).trans (by congr 1), p⟩
theorem tv_neI {a b : Ex} {env : Env} {P : Bool → Prop} (h : evI a env fun i => evI b env fun j => P (decide (i ≠ j))) : tv (tNe a b) env P := by
  obtain ⟨i, h1, j, h2, p⟩ := h
  exact ⟨_, (tNe_int h1 h2).trans (by congr 1; by_cases e : i = j <;> simp [e]), p⟩
theorem eqDs_int : ∀ (r q : List Int), eqDs (r.map .int) (q.map .int) = decide (r = q)
  | [], [] => by simp [eqDs]
  | [], _ :: _ => by simp [eqDs]
  | _ :: _, [] => by simp [eqDs]
  | x :: r, y :: q => by
    simp only [List.map_cons, eqDs, eqD, eqDs_int r q]
    by_cases h1 : x = y <;> by_cases h2 : r = q <;> simp [h1, h2]
theorem eqD_row (r q : List Int) : eqD (rowD r) (rowD q) = decide (r = q) := by simp only [rowD, eqD, eqDs_int]
theorem eqDs_rows : ∀ (r q : List (List Int)), eqDs (r.map rowD) (q.map rowD) = decide (r = q)
  | [], [] => by simp [eqDs]
  | [], _ :: _ => by simp [eqDs]
  | _ :: _, [] => by simp [eqDs]
  | x :: r, y :: q => by
    simp only [List.map_cons, eqDs, eqD_row, eqDs_rows r q]
    by_cases h1 : x = y <;> by_cases h2 : r = q <;> simp [h1, h2]
theorem eqD_tab (r q : List (List Int)) : eqD (tabD r) (tabD q) = decide (r = q) := by simp only [tabD, eqD, eqDs_rows]
theorem tv_neR {a b : Ex} {env : Env} {P : Bool → Prop} (h : evR a env fun i => evR b env fun j => P (decide (i ≠ j))) : tv (tNe a b) env P := by
  obtain ⟨i, h1, j, h2, p⟩ := h; exact ⟨_, by simp [tNe, h1, h2, dep_row, eqD_row], p⟩
theorem tv_neT {a b : Ex} {env : Env} {P : Bool → Prop} (h : evT a env fun i => evT b env fun j => P (decide (i ≠ j))) : tv (tNe a b) env P := by
  obtain ⟨i, h1, j, h2, p⟩ := h
  exact ⟨_, by have := dep_tab i; simp only [tNe, h1, h2, eqD_tab]; rw [if_pos (by omega)]; simp, p⟩
theorem tv_not {a : Tx} {env : Env} {P : Bool → Prop} (h : tv a env fun d => P (!d)) : tv (tNot a) env P := by
  obtain ⟨i, h1, p⟩ := h; exact ⟨_, by simp only [tNot, h1], p⟩
theorem tv_or {a b : Tx} {env : Env} {P : Bool → Prop} (h : tv a env fun d => (d = true → P true) ∧ (d = false → tv b env P)) : tv (tOr a b) env P := by
  obtain ⟨i, h1, p, q⟩ := h
  cases i with
  | false => obtain ⟨j, h2, p⟩ := q rfl; exact ⟨j, by simp only [tOr, h1, h2], p⟩
  | true => exact ⟨true, by simp only [tOr, h1], p rfl⟩
theorem tv_B {a : Ex} {env : Env} {P : Bool → Prop} (h : ev a env fun d => ∃ k, d = .bl k ∧ P k) : tv (tB a) env P := by
  obtain ⟨_, h1, k, rfl, p⟩ := h; exact ⟨_, by simp only [tB, h1], p⟩
theorem wp_skip {env : Env} {Q : Out → Env → Prop} (h : Q .nx env) : wp sSkip env Q := ⟨_, _, rfl, h⟩
theorem wp_set {i : Nat} {e : Ex} {env : Env} {Q : Out → Env → Prop} (h : ev e env fun d => Q .nx (env.set i (.sh d))) : wp (sSet i e) env Q := by
  obtain ⟨d, h1, p⟩ := h; exact ⟨_, _, by simp only [sSet, h1], p⟩
theorem wp_do {e : Ex} {env : Env} {Q : Out → Env → Prop} (h : ev e env fun _ => Q .nx env) : wp (sDo e) env Q := by
  obtain ⟨d, h1, p⟩ := h; exact ⟨_, _, by simp only [sDo, h1], p⟩
theorem wp_ret {e : Ex} {env : Env} {Q : Out → Env → Prop} (h : ev e env fun d => Q (.rt d) env) : wp (sRet e) env Q := by
  obtain ⟨d, h1, p⟩ := h; exact ⟨_, _, by simp only [sRet, h1], p⟩
def thn (b : St) (Q : Out → Env → Prop) : Out → Env → Prop
  | .nx, e => wp b e Q
  | .bk, e => Q .bk e
  | .ct, e => Q .ct e
  | .rt d, e => Q (.rt d) e
theorem wp_seq {a b : St} {env : Env} {Q : Out → Env → Prop} (h : wp a env (thn b Q)) : wp (sSeq a b) env Q := by
  obtain ⟨o, e, h1, p⟩ := h
  cases o with
  | nx => obtain ⟨o, e', h2, p⟩ := p; exact ⟨o, e', by simp only [sSeq, h1, h2], p⟩
  | bk => exact ⟨_, _, by simp only [sSeq, h1], p⟩
  | ct => exact ⟨_, _, by simp only [sSeq, h1], p⟩
  | rt d => exact ⟨_, _, by simp only [sSeq, h1], p⟩
theorem wp_if {c : Tx} {a b : St} {env : Env} {Q : Out → Env → Prop} (h : tv c env fun k => (k = true → wp a env Q) ∧ (k = false → wp b env Q)) : wp (sIf c a b) env Q := by
  obtain ⟨k, h1, p, q⟩ := h
  cases k with
  | true => obtain ⟨o, e, h2, p⟩ := p rfl; exact ⟨o, e, by simp only [sIf, h1, h2], p⟩
  | false => obtain ⟨o, e, h2, p⟩ := q rfl; exact ⟨o, e, by simp only [sIf, h1, h2], p⟩
theorem wp_no {c : Tx} {a : St} {env : Env} {Q : Out → Env → Prop} (h : tv c env (· = false)) (k : Q .nx env) : wp (sIf c a sSkip) env Q :=
  wp_if (tv.mono h fun d hd => ⟨fun e => (by rw [hd] at e; cases e), fun _ => wp_skip k⟩)
def lps (I : Env → Prop) (Q : Out → Env → Prop) : Out → Env → Prop
  | .nx, e => I e
  | .ct, e => I e
  | .bk, e => Q .nx e
  | .rt d, e => Q (.rt d) e
theorem wp_for {g : Tg} {it : Lx} {b : St} {env : Env} {Q : Out → Env → Prop} {ds : List D} (I : Nat → Env → Prop) (hit : it env = some ds) (h0 : I 0 env)
    (step : ∀ k d e, ds[k]? = some d → I k e → ∃ e0, g d e = some e0 ∧ wp b e0 (lps (I (k + 1)) Q)) (h1 : ∀ e, I ds.length e → Q .nx e) : wp (sFor g it b) env Q := by
  have go : ∀ (m k : Nat) (env : Env), k + m = ds.length → I k env → ∃ o e, forL g b (ds.drop k) env = some (o, e) ∧ Q o e := by
    intro m
    induction m with
    | zero => intro k env hk hI; have : k = ds.length := by omega
              subst this; rw [List.drop_length]; exact ⟨_, env, rfl, h1 _ hI⟩
    | succ m ih =>
      intro k env hk hI
      have hlt : k < ds.length := by omega
      obtain ⟨e0, hg, o, e1, hb, p⟩ := step k ds[k] env (by simp [hlt]) hI
      rw [List.drop_eq_getElem_cons hlt]
      cases o with
      | nx => obtain ⟨o, e, h2, p⟩ := ih (k + 1) e1 (by omega) p; exact ⟨o, e, by simp only [forL, hg, hb, h2], p⟩
      | ct => obtain ⟨o, e, h2, p⟩ := ih (k + 1) e1 (by omega) p; exact ⟨o, e, by simp only [forL, hg, hb, h2], p⟩
      | bk => exact ⟨_, _, by simp only [forL, hg, hb], p⟩
      | rt d => exact ⟨_, _, by simp only [forL, hg, hb], p⟩
  obtain ⟨o, e, h2, p⟩ := go ds.length 0 env (by omega) h0
  exact ⟨o, e, by simp only [sFor, hit]; simpa using h2, p⟩
theorem wp_forR {i n : Nat} {it : Lx} {b : St} {env : Env} {Q : Out → Env → Prop} (I : Nat → Env → Prop) (hit : it env = some (rangeD 0 n)) (h0 : I 0 env)
    (step : ∀ (k : Nat) e, k < n → I k e → wp b (e.set i (.sh (.int k))) (lps (I (k + 1)) Q)) (h1 : ∀ e, I n e → Q .nx e) : wp (sFor (gN i) it b) env Q := by
  refine wp_for I hit h0 (fun k d e hd hI => ?_) (fun e hI => h1 e (by rwa [rangeD_length] at hI))
  have hk : k < n := by have := (List.getElem?_eq_some_iff.mp hd).1; rwa [rangeD_length] at this
  rw [rangeD_get hk] at hd
  injection hd with hd
  subst hd
  refine ⟨_, rfl, ?_⟩
  have := step k e hk hI
  rwa [show (0 : Int) + (k : Nat) = k by omega]
theorem wp_forTab {i : Nat} {it : Lx} {r : List (List Int)} {b : St} {env : Env} {Q : Out → Env → Prop} (I : Nat → Env → Prop) (hit : it env = some (r.map rowD)) (h0 : I 0 env)
    (step : ∀ (k : Nat) e x, r[k]? = some x → I k e → wp b (e.set i (.sh (rowD x))) (lps (I (k + 1)) Q)) (h1 : ∀ e, I r.length e → Q .nx e) : wp (sFor (gN i) it b) env Q := by
  refine wp_for I hit h0 (fun k d e hd hI => ?_) (fun e hI => h1 e (by rwa [List.length_map] at hI))
  rw [List.getElem?_map, Option.map_eq_some_iff] at hd
  obtain ⟨x, hx, rfl⟩ := hd
  exact ⟨_, rfl, step k e x hx hI⟩
def ends (d : D) : Out → Env → Prop
  | .rt x, _ => x = d
  | .nx, _ => d = .non
  | _, _ => False
theorem run_of {p n : Nat} {g : St} {ds : List D} {d : D} (hp : ds.length = p) (h : wp g (enter n ds) (ends d)) : run p n g ds = some d := by
  obtain ⟨o, e, h1, q⟩ := h
  cases o with
  | rt x => have : x = d := q; subst this; exact run_rt hp h1
  | nx => have : d = .non := q; subst this; exact run_nx hp h1
  | bk => cases q
  | ct => cases q
def upto (n : Nat) : List Int := (List.range n).map Int.ofNat
theorem upto_D (n : Nat) : (upto n).map D.int = rangeD 0 n := by simp [upto, rangeD, Function.comp_def]
theorem mem_upto {n : Nat} {x : Int} : x ∈ upto n ↔ 0 ≤ x ∧ x < n := by
  simp only [upto, List.mem_map, List.mem_range]
  exact ⟨fun ⟨k, hk, e⟩ => by subst e; simp only [Int.ofNat_eq_natCast]; omega, fun ⟨h0, h1⟩ => ⟨x.toNat, by omega, by simp only [Int.ofNat_eq_natCast]; omega⟩⟩
theorem upto_len (n : Nat) : (upto n).length = n := by simp [upto]
theorem iRng_upto {e : Ex} {env : Env} {n : Nat} (h : e env = some (.int n)) (hn : n ≤ 1000) : iRng e env = some ((upto n).map .int) := by rw [upto_D]; exact iRng_of h hn
theorem ev_sc {e : Ex} {env : Env} {P : D → Prop} (h : ev e env fun d => scalD d = true ∧ P d) : ev (eSc e) env P := by
  obtain ⟨d, h1, h2, p⟩ := h
  exact ⟨d, by simp only [eSc, h1, h2, if_true], p⟩
theorem iOf_R {r : List Int} {e : Ex} {env : Env} (h : e env = some (rowD r)) : iOf e env = some (r.map .int) := by simp [iOf, h, rowD]
theorem tv_allR {i : Nat} {it : Lx} {e : Ex} {env : Env} {P : Bool → Prop} {r : List Int} (p : Int → Bool) (hit : it env = some (r.map .int)) (hl : r.length ≤ lim) (he : ∀ x ∈ r, ev e (env.set i (.sh (.int x))) (· = .bl (p x))) (h : P (r.all p)) : ev (eF1 fAll (eComp i it tTrue e)) env fun d => ∃ k, d = .bl k ∧ P k := by
  refine ⟨_, ?_, _, rfl, h⟩
  have hc := compL_map (i := i) (e := e) (env := env) (fun d => match d with | .int x => .bl (p x) | _ => .non) (r.map .int) (fun d hd => by obtain ⟨x, hx, rfl⟩ := List.mem_map.mp hd; exact (he x hx).eq)
  have e2 : (r.map D.int).map (fun d => match d with | .int x => D.bl (p x) | _ => .non) = r.map fun x => .bl (p x) := by simp
  have e3 : ∀ q : List Int, allB (q.map fun x => D.bl (p x)) = some (q.all p) := by
    intro q
    induction q with
    | nil => rfl
    | cons x q ih => simp only [List.map_cons, allB, ih, List.all_cons]
  simp only [eF1, eComp, hit, List.length_map, if_pos hl, hc, e2, fAll, e3]
end PV
namespace PV
theorem evR_fl {e : Ex} {env : Env} {P : List Int → Prop} (h : evR e env P) : evR (eFl e) env P := by
  obtain ⟨r, h1, p⟩ := h
  refine ⟨r, ?_, p⟩
  simp only [eFl, h1, rowD]
  rw [if_pos (by simp [List.all_map, scalD, Function.comp_def])]
theorem iOf_T {T : List (List Int)} {e : Ex} {env : Env} (h : e env = some (tabD T)) : iOf e env = some (T.map rowD) := by simp [iOf, h, tabD]
end PV
set_option linter.all false
set_option Elab.async false
set_option maxRecDepth 100000
set_option maxHeartbeats 4000000
namespace PV
open PySem PySem.Spec PyProof.Rows
open L2 (V Hp HO Vals SqL SqT Same upd Cx PE PT PW PA PS PSs TE TT TA TS Inv RelV upd_same upd_ne ne_of_none)
mutual
def Rep (K : PySem.W.Frag) (H : Hp) : D → V → Prop
  | .non, v => v = .non
  | .bl b, v => v = .bl b
  | .int i, v => v = .int i
  | .str x, v => v = .str x
  | .lst ds, v => ∃ a vs, v = .ref a ∧ SqL K H a vs ∧ Reps K H ds vs
  | .tup ds, v => ∃ a vs, v = .ref a ∧ SqT K H a vs ∧ Reps K H ds vs
def Reps (K : PySem.W.Frag) (H : Hp) : List D → List V → Prop
  | [], vs => vs = []
  | d :: ds, vs => ∃ v r, vs = v :: r ∧ Rep K H d v ∧ Reps K H ds r
end
theorem seqT {K : PySem.W.Frag} {H H' : Hp} {a : Addr} {xs : List V} (e : Same H H') (h : SqT K H a xs) : SqT K H' a xs := by
  rcases h with (h | ⟨o, h⟩) | h
  · exact .inl (.inl (e _ _ h))
  · exact .inl (.inr ⟨o, e _ _ h⟩)
  · exact .inr h
mutual
theorem Rep.mono {K : PySem.W.Frag} {H H' : Hp} (e : Same H H') : ∀ (d : D) (v : V), Rep K H d v → Rep K H' d v
  | .non, _, h => by simp only [Rep] at h ⊢; exact h
  | .bl _, _, h => by simp only [Rep] at h ⊢; exact h
  | .int _, _, h => by simp only [Rep] at h ⊢; exact h
  | .str _, _, h => by simp only [Rep] at h ⊢; exact h
  | .lst ds, v, h => by
    simp only [Rep] at h ⊢
    obtain ⟨a, vs, h1, h2, h3⟩ := h
    exact ⟨a, vs, h1, e.seq h2, Reps.mono e ds vs h3⟩
  | .tup ds, v, h => by
    simp only [Rep] at h ⊢
    obtain ⟨a, vs, h1, h2, h3⟩ := h
    exact ⟨a, vs, h1, seqT e h2, Reps.mono e ds vs h3⟩
theorem Reps.mono {K : PySem.W.Frag} {H H' : Hp} (e : Same H H') : ∀ (ds : List D) (vs : List V), Reps K H ds vs → Reps K H' ds vs
  | [], _, h => by simp only [Reps] at h ⊢; exact h
  | d :: ds, vs, h => by
    simp only [Reps] at h ⊢
    obtain ⟨v, r, h1, h2, h3⟩ := h
    exact ⟨v, r, h1, Rep.mono e d v h2, Reps.mono e ds r h3⟩
end
section
variable {K : PySem.W.Frag} {H : Hp}
theorem Reps.nil : Reps K H [] [] := by simp [Reps]
theorem Reps.cons {d : D} {v : V} {ds : List D} {vs : List V} (h : Rep K H d v) (t : Reps K H ds vs) : Reps K H (d :: ds) (v :: vs) := by
  simp only [Reps]; exact ⟨v, vs, rfl, h, t⟩
theorem Reps.length : ∀ {ds : List D} {vs : List V}, Reps K H ds vs → ds.length = vs.length
  | [], vs, h => by simp only [Reps] at h; subst h; rfl
  | d :: ds, vs, h => by
    simp only [Reps] at h
    obtain ⟨v, r, rfl, _, t⟩ := h
    simp [t.length]
theorem Reps.get : ∀ {ds : List D} {vs : List V} {i : Nat} {d : D}, Reps K H ds vs → ds[i]? = some d → ∃ v, vs[i]? = some v ∧ Rep K H d v
  | [], vs, i, d, h, e => by simp at e
  | d' :: ds, vs, 0, d, h, e => by
    simp only [Reps] at h
    obtain ⟨v, r, rfl, h1, t⟩ := h
    simp at e; subst e
    exact ⟨v, rfl, h1⟩
  | d' :: ds, vs, i + 1, d, h, e => by
    simp only [Reps] at h
    obtain ⟨v, r, rfl, h1, t⟩ := h
    obtain ⟨w, q1, q2⟩ := Reps.get (i := i) (d := d) t (by simpa using e)
    exact ⟨w, by simpa using q1, q2⟩
theorem Reps.getV : ∀ {ds : List D} {vs : List V} {i : Nat} {v : V}, Reps K H ds vs → vs[i]? = some v → ∃ d, ds[i]? = some d ∧ Rep K H d v
  | [], vs, i, v, h, e => by simp only [Reps] at h; subst h; simp at e
  | d' :: ds, vs, 0, v, h, e => by
    simp only [Reps] at h
    obtain ⟨w, r, rfl, h1, t⟩ := h
    simp at e; subst e
    exact ⟨d', rfl, h1⟩
  | d' :: ds, vs, i + 1, v, h, e => by
    simp only [Reps] at h
    obtain ⟨w, r, rfl, h1, t⟩ := h
    obtain ⟨d, q1, q2⟩ := Reps.getV (i := i) (v := v) t (by simpa using e)
    exact ⟨d, by simpa using q1, q2⟩
theorem Reps.append : ∀ {ds es : List D} {vs ws : List V}, Reps K H ds vs → Reps K H es ws → Reps K H (ds ++ es) (vs ++ ws)
  | [], es, vs, ws, h, h2 => by simp only [Reps] at h; subst h; exact h2
  | d :: ds, es, vs, ws, h, h2 => by
    simp only [Reps] at h
    obtain ⟨v, r, rfl, h1, t⟩ := h
    exact Reps.cons h1 (t.append h2)
theorem Reps.take : ∀ {ds : List D} {vs : List V} (n : Nat), Reps K H ds vs → Reps K H (ds.take n) (vs.take n)
  | [], vs, n, h => by simp only [Reps] at h; subst h; simp [Reps]
  | d :: ds, vs, 0, h => by simp [Reps]
  | d :: ds, vs, n + 1, h => by
    simp only [Reps] at h
    obtain ⟨v, r, rfl, h1, t⟩ := h
    exact Reps.cons h1 (t.take n)
theorem Reps.drop : ∀ {ds : List D} {vs : List V} (n : Nat), Reps K H ds vs → Reps K H (ds.drop n) (vs.drop n)
  | [], vs, n, h => by simp only [Reps] at h; subst h; simp [Reps]
  | d :: ds, vs, 0, h => h
  | d :: ds, vs, n + 1, h => by
    simp only [Reps] at h
    obtain ⟨v, r, rfl, h1, t⟩ := h
    exact t.drop n
theorem Reps.set {d : D} {v : V} (h : Rep K H d v) : ∀ {ds : List D} {vs : List V} (i : Nat), Reps K H ds vs → Reps K H (ds.set i d) (vs.set i v)
  | [], vs, i, t => by simp only [Reps] at t; subst t; simp [Reps]
  | e :: ds, vs, 0, t => by
    simp only [Reps] at t
    obtain ⟨w, r, rfl, h1, t⟩ := t
    exact Reps.cons h t
  | e :: ds, vs, i + 1, t => by
    simp only [Reps] at t
    obtain ⟨w, r, rfl, h1, t⟩ := t
    exact Reps.cons h1 (t.set h i)
theorem Reps.insertIdx {d : D} {v : V} (h : Rep K H d v) : ∀ {ds : List D} {vs : List V} (i : Nat), Reps K H ds vs → Reps K H (ds.insertIdx i d) (vs.insertIdx i v)
  | ds, vs, 0, t => by simp only [List.insertIdx_zero]; exact Reps.cons h t
  | [], vs, i + 1, t => by simp only [Reps] at t; subst t; simp [Reps]
  | e :: ds, vs, i + 1, t => by
    simp only [Reps] at t
    obtain ⟨w, r, rfl, h1, t⟩ := t
    simp only [List.insertIdx_succ_cons]
    exact Reps.cons h1 (t.insertIdx h i)
end
def cut (F G : Hp) : Hp := fun a => match G a with
  | none => F a
  | some _ => none
theorem cut_sub {F G : Hp} : Same (cut F G) F := fun b o h => by
  unfold cut at h
  split at h
  · exact h
  · cases h
theorem cut_get {F G : Hp} {a : Addr} (h : G a = none) : cut F G a = F a := by unfold cut; rw [h]
structure Ext (F H F' H' : Hp) : Prop where
  hh : Same H H'
  ff : Same F F'
  dm : ∀ a o, F' a = some o → F a = some o ∨ H a = none
  fh : Same F' H'
theorem Ext.refl {F H : Hp} (h : Same F H) : Ext F H F H := ⟨.refl _, .refl _, fun _ _ e => .inl e, h⟩
theorem Ext.trans {F H F1 H1 F2 H2 : Hp} (a : Ext F H F1 H1) (b : Ext F1 H1 F2 H2) : Ext F H F2 H2 :=
  ⟨a.hh.trans b.hh, a.ff.trans b.ff, fun c o e => (b.dm c o e).elim (fun q => a.dm c o q) fun q => .inr (a.hh.free q), b.fh⟩
theorem Ext.laid {F H : Hp} (fh : Same F H) {p : Addr} {o : HO} (hp : H p = none) : Ext F H (upd F p o) (upd H p o) := by
  refine ⟨fun b u e => ?_, fun b u e => ?_, fun b u e => ?_, fun b u e => ?_⟩
  · rw [upd_ne (ne_of_none e hp)]; exact e
  · rw [upd_ne (ne_of_none (fh _ _ e) hp)]; exact e
  · by_cases hb : b = p
    · subst hb; exact .inr hp
    · rw [upd_ne hb] at e; exact .inl e
  · by_cases hb : b = p
    · subst hb; rw [upd_same] at e ⊢; exact e
    · rw [upd_ne hb] at e ⊢; exact fh _ _ e
theorem Ext.own {F H : Hp} (fh : Same F H) {p : Addr} {o : HO} (hp : H p = none) : Ext F H F (upd H p o) := by
  have s : Same H (upd H p o) := fun b u e => by rw [upd_ne (ne_of_none e hp)]; exact e
  exact ⟨s, .refl _, fun _ _ e => .inl e, fh.trans s⟩
theorem Ext.frz {F H F' H' : Hp} (e : Ext F H F' H') {p : Addr} {o : HO} (hp : H p = none) (h' : H' p = some o) (f' : F' p = none) : Ext F H (upd F' p o) H' := by
  refine ⟨e.hh, fun b u q => ?_, fun b u q => ?_, fun b u q => ?_⟩
  · rw [upd_ne (ne_of_none (e.ff _ _ q) f')]; exact e.ff _ _ q
  · by_cases hb : b = p
    · subst hb; exact .inr hp
    · rw [upd_ne hb] at q; exact e.dm _ _ q
  · by_cases hb : b = p
    · subst hb; rw [upd_same] at q; cases q; exact h'
    · rw [upd_ne hb] at q; exact e.fh _ _ q
def RowsOk (K : PySem.W.Frag) (F H : Hp) : List (List D) → List Addr → Prop
  | [], as => as = []
  | r :: rs, as => ∃ a t vs, as = a :: t ∧ H a = some (.lst vs) ∧ Reps K F r vs ∧ RowsOk K F H rs t
theorem RowsOk.mono {K : PySem.W.Frag} {F H F' H' : Hp} (ff : Same F F') : ∀ {rs : List (List D)} {as : List Addr}, (∀ a ∈ as, ∀ o, H a = some o → H' a = some o) → RowsOk K F H rs as → RowsOk K F' H' rs as
  | [], _, _, h => h
  | r :: rs, _, hh, h => by
    obtain ⟨a, t, vs, rfl, h1, h2, h3⟩ := h
    exact ⟨a, t, vs, rfl, hh a List.mem_cons_self _ h1, Reps.mono ff _ _ h2, RowsOk.mono ff (fun b hb => hh b (List.mem_cons_of_mem _ hb)) h3⟩
theorem RowsOk.length {K : PySem.W.Frag} {F H : Hp} : ∀ {rs : List (List D)} {as : List Addr}, RowsOk K F H rs as → rs.length = as.length
  | [], _, h => by have : _ = [] := h; rw [this]; rfl
  | r :: rs, _, h => by obtain ⟨a, t, vs, rfl, _, _, h3⟩ := h; simp [h3.length]
theorem RowsOk.get {K : PySem.W.Frag} {F H : Hp} : ∀ {rs : List (List D)} {as : List Addr} {j : Nat} {r : List D}, RowsOk K F H rs as → rs[j]? = some r → ∃ a vs, as[j]? = some a ∧ H a = some (.lst vs) ∧ Reps K F r vs
  | [], _, _, _, _, e => by simp at e
  | r :: rs, _, 0, q, h, e => by obtain ⟨a, t, vs, rfl, h1, h2, h3⟩ := h; simp at e; subst e; exact ⟨a, vs, rfl, h1, h2⟩
  | r :: rs, _, j + 1, q, h, e => by
    obtain ⟨a, t, vs, rfl, h1, h2, h3⟩ := h
    obtain ⟨b, ws, k1, k2, k3⟩ := RowsOk.get (j := j) h3 (by simpa using e)
    exact ⟨b, ws, by simpa using k1, k2, k3⟩
theorem RowsOk.reps {K : PySem.W.Frag} {F H : Hp} (fh : Same F H) : ∀ {rs : List (List D)} {as : List Addr}, RowsOk K F H rs as → Reps K H (rs.map .lst) (as.map .ref)
  | [], _, h => by have e : _ = [] := h; subst e; exact Reps.nil
  | r :: rs, _, h => by
    obtain ⟨a, t, vs, rfl, h1, h2, h3⟩ := h
    exact Reps.cons (by simp only [Rep]; exact ⟨a, vs, rfl, .inl (.inl h1), Reps.mono fh _ _ h2⟩) (h3.reps fh)
mutual
def RepN (H : Hp) : D → V → Prop
  | .non, v => v = .non
  | .bl b, v => v = .bl b
  | .int i, v => v = .int i
  | .str x, v => v = .str x
  | .lst ds, v => ∃ a vs, v = .ref a ∧ H a = some (.lst vs) ∧ RepsN H ds vs
  | .tup ds, v => ∃ a vs, v = .ref a ∧ H a = some (.tup vs) ∧ RepsN H ds vs
def RepsN (H : Hp) : List D → List V → Prop
  | [], vs => vs = []
  | d :: ds, vs => ∃ v r, vs = v :: r ∧ RepN H d v ∧ RepsN H ds r
end
mutual
theorem RepN.rep {K : PySem.W.Frag} {H : Hp} : ∀ (d : D) (v : V), RepN H d v → Rep K H d v
  | .non, _, h => by simp only [Rep, RepN] at h ⊢; exact h
  | .bl _, _, h => by simp only [Rep, RepN] at h ⊢; exact h
  | .int _, _, h => by simp only [Rep, RepN] at h ⊢; exact h
  | .str _, _, h => by simp only [Rep, RepN] at h ⊢; exact h
  | .lst ds, v, h => by
    simp only [Rep, RepN] at h ⊢
    obtain ⟨a, vs, h1, h2, h3⟩ := h
    exact ⟨a, vs, h1, .inl (.inl h2), RepsN.reps ds vs h3⟩
  | .tup ds, v, h => by
    simp only [Rep, RepN] at h ⊢
    obtain ⟨a, vs, h1, h2, h3⟩ := h
    exact ⟨a, vs, h1, .inl (.inl h2), RepsN.reps ds vs h3⟩
theorem RepsN.reps {K : PySem.W.Frag} {H : Hp} : ∀ (ds : List D) (vs : List V), RepsN H ds vs → Reps K H ds vs
  | [], _, h => by simp only [Reps, RepsN] at h ⊢; exact h
  | d :: ds, vs, h => by
    simp only [Reps, RepsN] at h ⊢
    obtain ⟨v, r, h1, h2, h3⟩ := h
    exact ⟨v, r, h1, RepN.rep d v h2, RepsN.reps ds r h3⟩
end
mutual
theorem RepN.mono {H H' : Hp} (e : Same H H') : ∀ (d : D) (v : V), RepN H d v → RepN H' d v
  | .non, _, h => by simp only [RepN] at h ⊢; exact h
  | .bl _, _, h => by simp only [RepN] at h ⊢; exact h
  | .int _, _, h => by simp only [RepN] at h ⊢; exact h
  | .str _, _, h => by simp only [RepN] at h ⊢; exact h
  | .lst ds, v, h => by
    simp only [RepN] at h ⊢
    obtain ⟨a, vs, h1, h2, h3⟩ := h
    exact ⟨a, vs, h1, e _ _ h2, RepsN.mono e ds vs h3⟩
  | .tup ds, v, h => by
    simp only [RepN] at h ⊢
    obtain ⟨a, vs, h1, h2, h3⟩ := h
    exact ⟨a, vs, h1, e _ _ h2, RepsN.mono e ds vs h3⟩
theorem RepsN.mono {H H' : Hp} (e : Same H H') : ∀ (ds : List D) (vs : List V), RepsN H ds vs → RepsN H' ds vs
  | [], _, h => by simp only [RepsN] at h ⊢; exact h
  | d :: ds, vs, h => by
    simp only [RepsN] at h ⊢
    obtain ⟨v, r, h1, h2, h3⟩ := h
    exact ⟨v, r, h1, RepN.mono e d v h2, RepsN.mono e ds r h3⟩
end
def hpL (H : Hp) (L : List Addr) : Hp := fun b => if b ∈ L then H b else none
theorem hpL_mono {H H' : Hp} {L : List Addr} (h : ∀ a ∈ L, ∀ o, H a = some o → H' a = some o) : Same (hpL H L) (hpL H' L) := fun b o q => by
  unfold hpL at q ⊢
  split at q
  · rename_i hb; rw [if_pos hb]; exact h b hb o q
  · cases q
def SlOk (K : PySem.W.Frag) (B F H : Hp) : Sl → Option V → List Addr → Prop
  | .un, _, _ => True
  | .sh d, ov, _ => ∃ v, ov = some v ∧ Rep K F d v
  | .fr d, ov, _ => ∃ v, ov = some v ∧ RepN (cut F B) d v
  | .ow ds, ov, L => ∃ a vs, ov = some (.ref a) ∧ L = [a] ∧ H a = some (.lst vs) ∧ Reps K F ds vs
  | .tab rs, ov, L => ∃ a as, ov = some (.ref a) ∧ L = a :: as ∧ (a :: as).Nodup ∧ H a = some (.lst (as.map .ref)) ∧ RowsOk K F H rs as
  | .dc _, _, _ => False
  | .nw ds, ov, L => ∃ a vs, ov = some (.ref a) ∧ L = [a] ∧ H a = some (.lst vs) ∧ RepsN (cut F B) ds vs
  | .jk d, ov, L => ∃ v, ov = some v ∧ RepN (hpL H L) d v
  | .jl n, ov, L => ∃ a vs, ov = some (.ref a) ∧ a ∈ L ∧ H a = some (.lst vs) ∧ vs.length ≤ n
structure SOk (K : PySem.W.Frag) (BF BH F H : Hp) (σ : L2.St) (env : Env) (L : Nat → List Addr) : Prop where
  s0 : Same BH H
  f0 : Same BF F
  fh : Same F H
  fd : ∀ a o, F a = some o → BF a = some o ∨ BH a = none
  ow : ∀ i a, a ∈ L i → F a = none ∧ BH a = none ∧ H a ≠ none
  dj : ∀ i j a, a ∈ L i → a ∈ L j → i = j
  len : σ.length = env.length
  sl : ∀ i s, env[i]? = some s → ∃ ov, σ[i]? = some ov ∧ SlOk K BH F H s ov (L i)
theorem cut_mono {F F' G : Hp} (h : Same F F') : Same (cut F G) (cut F' G) := fun b o q => by
  unfold cut at q ⊢
  split at q
  · exact h _ _ q
  · cases q
theorem SlOk.ext {K : PySem.W.Frag} {B F H F' H' : Hp} {s : Sl} {ov : Option V} {L : List Addr} (ff : Same F F') (hl : ∀ a ∈ L, ∀ o, H a = some o → H' a = some o) (h : SlOk K B F H s ov L) : SlOk K B F' H' s ov L := by
  cases s with
  | un => trivial
  | sh d => obtain ⟨v, e, r⟩ := h; exact ⟨v, e, Rep.mono ff _ _ r⟩
  | fr d => obtain ⟨v, e, r⟩ := h; exact ⟨v, e, RepN.mono (cut_mono ff) _ _ r⟩
  | ow ds => obtain ⟨a, vs, e, rfl, h1, r⟩ := h; exact ⟨a, vs, e, rfl, hl a (by simp) _ h1, Reps.mono ff _ _ r⟩
  | tab rs =>
    obtain ⟨a, as, e, rfl, nd, h1, r⟩ := h
    exact ⟨a, as, e, rfl, nd, hl a List.mem_cons_self _ h1, r.mono ff fun b hb => hl b (List.mem_cons_of_mem _ hb)⟩
  | dc _ => exact h
  | nw ds => obtain ⟨a, vs, e, rfl, h1, r⟩ := h; exact ⟨a, vs, e, rfl, hl a (by simp) _ h1, RepsN.mono (cut_mono ff) _ _ r⟩
  | jk d => obtain ⟨v, e, r⟩ := h; exact ⟨v, e, RepN.mono (hpL_mono hl) _ _ r⟩
  | jl n => obtain ⟨a, vs, e, ha, h1, r⟩ := h; exact ⟨a, vs, e, ha, hl a ha _ h1, r⟩
theorem SOk.ext {K : PySem.W.Frag} {BF BH F H F' H' : Hp} {σ : L2.St} {env : Env} {L : Nat → List Addr} (S : SOk K BF BH F H σ env L) (e : Ext F H F' H') : SOk K BF BH F' H' σ env L where
  s0 := S.s0.trans e.hh
  f0 := S.f0.trans e.ff
  fh := e.fh
  fd := fun a o q => (e.dm a o q).elim (S.fd a o) fun z => .inr (S.s0.free z)
  ow := fun i a q => by
    obtain ⟨h1, h2, h3⟩ := S.ow i a q
    refine ⟨?_, h2, ?_⟩
    · cases z : F' a with
      | none => rfl
      | some o =>
        rcases e.dm a o z with y | y
        · rw [h1] at y; cases y
        · exact absurd y h3
    · intro z
      cases y : H a with
      | none => exact h3 y
      | some o => rw [e.hh _ _ y] at z; cases z
  dj := S.dj
  len := S.len
  sl := fun i s q => by
    obtain ⟨ov, h1, h2⟩ := S.sl i s q
    exact ⟨ov, h1, h2.ext e.ff fun a _ o z => e.hh a o z⟩
inductive Md where
  | r | k | f
def hpM (BH F H : Hp) : Md → Hp
  | .r => H
  | .k => F
  | .f => cut F BH
theorem hpM_ext {BH F H F' H' : Hp} (e : Ext F H F' H') : ∀ m : Md, Same (hpM BH F H m) (hpM BH F' H' m)
  | .r => e.hh
  | .k => e.ff
  | .f => cut_mono e.ff
theorem hpM_r {BH F H : Hp} (fh : Same F H) : ∀ m : Md, Same (hpM BH F H m) H
  | .r => .refl _
  | .k => fh
  | .f => cut_sub.trans fh
theorem Rep.scal {K : PySem.W.Frag} {H H' : Hp} {d : D} {v : V} (hs : scalD d = true) (h : Rep K H d v) : Rep K H' d v := by
  cases d <;> simp_all [Rep, scalD]
def tD (K : PySem.W.Frag) (m : Md) (f : Ex) : TE := fun σ H Q => ∃ BF BH F env L d, SOk K BF BH F H σ env L ∧ f env = some d ∧
  ∀ v F' H', Ext F H F' H' → Rep K (hpM BH F' H' m) d v → Q v H'
def tTst (K : PySem.W.Frag) (t : Tx) : TT := fun σ H Q => ∃ BF BH F env L b, SOk K BF BH F H σ env L ∧ t env = some b ∧
  ∀ F' H', Ext F H F' H' → Q b H'
def tO (K : PySem.W.Frag) (m : Md) (f : Ex) : TE := fun σ H Q => ∃ BF BH F env L ds, SOk K BF BH F H σ env L ∧ f env = some (.lst ds) ∧
  ∀ a vs F' H', Ext F H F' H' → H a = none → H' a = some (.lst vs) → F' a = none → Reps K (hpM BH F' H' m) ds vs → Q (.ref a) H'
structure PD (X : Cx) (m : Md) (e : Expr) (f : Ex) : Prop where
  h : PE X e (tD X.K m f)
def PDo (X : Cx) (m : Md) (e : Expr) (f : Ex) : Prop := PE X e (tO X.K m f)
def PTd (X : Cx) (e : Expr) (t : Tx) : Prop := PT X e (tTst X.K t)
theorem PE.of {X : Cx} {e : Expr} {t t' : TE} (h : PE X e t') (i : ∀ σ H Q, t σ H Q → t' σ H Q) : PE X e t := fun pins s σ H Q I q => h pins s σ H Q I (i σ H Q q)
theorem PT.of {X : Cx} {e : Expr} {t t' : TT} (h : PT X e t') (i : ∀ σ H Q, t σ H Q → t' σ H Q) : PT X e t := fun pins s σ H Q I q => h pins s σ H Q I (i σ H Q q)
theorem PW.of {X : Cx} {e : Expr} {t t' : TT} (h : PW X e t') (i : ∀ σ H Q, t σ H Q → t' σ H Q) : PW X e t := fun wh pins s σ H Q I q => h wh pins s σ H Q I (i σ H Q q)
theorem PS.of {X : Cx} {e : Stmt} {t t' : TS} (h : PS X e t') (i : ∀ D σ H, t D σ H → t' D σ H) : PS X e t := fun pins s σ H D I q => h pins s σ H D I (i D σ H q)
theorem PSs.of {X : Cx} {e : List Stmt} {t t' : TS} (h : PSs X e t') (i : ∀ D σ H, t D σ H → t' D σ H) : PSs X e t := fun pins s σ H D I q => h pins s σ H D I (i D σ H q)
section
variable {X : Cx} {m : Md} {a b c : Expr} {f g h : Ex} {pos : Pos}
theorem PD.r (h : PD X m a f) : PD X .r a f := PD.mk <| PE.of h.h fun σ H Q ⟨BF, BH, F, env, L, d, S, e, q⟩ =>
  ⟨BF, BH, F, env, L, d, S, e, fun v F' H' x r => q v F' H' x (Rep.mono (hpM_r x.fh m) _ _ r)⟩
theorem PDo.d (h : PDo X m a f) (hf : ∀ env d, f env = some d → ∃ ds, d = .lst ds) : PD X m a f := PD.mk <| PE.of h fun σ H Q ⟨BF, BH, F, env, L, d, S, e, q⟩ => by
  obtain ⟨ds, rfl⟩ := hf env d e
  refine ⟨BF, BH, F, env, L, ds, S, e, fun p vs F' H' x hp h1 h2 r => ?_⟩
  have x' := x.frz hp h1 h2
  refine q (.ref p) (upd F' p (.lst vs)) H' x' ?_
  have hB : BH p = none := S.s0.free hp
  have s : Same (hpM BH F' H' m) (hpM BH (upd F' p (.lst vs)) H' m) := by
    have ss : Same F' (upd F' p (.lst vs)) := fun b u e => by rw [upd_ne (ne_of_none e h2)]; exact e
    cases m with
    | r => exact .refl _
    | k => exact ss
    | f => exact cut_mono ss
  simp only [Rep]
  refine ⟨p, vs, rfl, .inl (.inl ?_), Reps.mono s _ _ r⟩
  cases m with
  | r => exact h1
  | k => exact upd_same
  | f => show cut _ _ p = _; rw [cut_get hB]; exact upd_same
def nst : Expr → Bool
  | .Starred _ _ => false
  | _ => true
def nsts : List Expr → Bool
  | [] => true
  | e :: es => nst e && nsts es
theorem star_cons {e : Expr} {es : List Expr} {env : PySem.Env} (h : nst e = true) : starEach (e :: es) env = (false, eval e env) :: starEach es env := by
  cases e <;> first | rfl | (cases h)
theorem star_one {e : Expr} {env : PySem.Env} (h : nst e = true) : starEach [e] env = [(false, eval e env)] := (star_cons h).trans rfl
theorem star_any {env : PySem.Env} {pos : Pos} : ∀ {es : List Expr}, nsts es = true → (backTo pos (starEach es env)).any (·.1) = false
  | [], _ => rfl
  | e :: es, h => by
    unfold nsts at h
    rw [Bool.and_eq_true] at h
    rw [star_cons h.1]
    show (false || (backTo pos (starEach es env)).any (·.1)) = false
    rw [star_any h.2]; rfl
theorem star_few {env : PySem.Env} {pos : Pos} : ∀ {es : List Expr}, nsts es = true → (backTo pos (starEach es env)).all (fun x => !x.1) = true
  | [], _ => rfl
  | e :: es, h => by
    unfold nsts at h
    rw [Bool.and_eq_true] at h
    rw [star_cons h.1]
    show (true && (backTo pos (starEach es env)).all (fun x => !x.1)) = true
    rw [star_few h.2]; rfl
theorem nsts_two {a b : Expr} (h : nst a = true) (h2 : nst b = true) : nsts [a, b] = true := by unfold nsts nsts nsts; rw [h, h2]; rfl
theorem nsts_one {a : Expr} (h : nst a = true) : nsts [a] = true := by unfold nsts nsts; rw [h]; rfl
def visB (sc : Scope) (x : Str) : Bool := match sc.names.lookup x with
  | some .local => true
  | some .cell => true
  | some .free => true
  | _ => false
theorem visB_ok {sc : Scope} {x : Str} (h : visB sc x = true) : L2.Vis sc x := by
  unfold visB at h
  split at h
  · rename_i e; exact .inl e
  · rename_i e; exact .inr (.inl e)
  · rename_i e; exact .inr (.inr e)
  · cases h
def locB (sc : Scope) (x : Str) : Bool := match sc.names.lookup x with
  | some .local => true
  | some .cell => true
  | _ => false
theorem locB_ok {sc : Scope} {x : Str} (h : locB sc x = true) : L2.Loc sc x := by
  unfold locB at h
  split at h
  · rename_i e; exact .inl e
  · rename_i e; exact .inr e
  · cases h
def fnB (X : Cx) (x : Str) : Bool := X.fn x || (match X.env.scope.names.lookup x with
  | some .local => true
  | _ => false)
theorem fnB_ok {X : Cx} {x : Str} (h : fnB X x = true) : X.fn x = true ∨ X.env.scope.names.lookup x = some .local := by
  unfold fnB at h
  rw [Bool.or_eq_true] at h
  rcases h with h | h
  · exact .inl h
  · split at h
    · rename_i e; exact .inr e
    · cases h
theorem pd_int {i j} : PD X m (.Constant (.int i) j pos) (eC (.int i)) := PD.mk <| PE.of L2.pe_int fun σ H Q ⟨BF, BH, F, env, L, d, S, e, q⟩ => by
  cases e; exact q _ F H (.refl S.fh) (by simp [Rep])
theorem pd_bl {i j} : PD X m (.Constant (.bool i) j pos) (eC (.bl i)) := PD.mk <| PE.of L2.pe_bl fun σ H Q ⟨BF, BH, F, env, L, d, S, e, q⟩ => by
  cases e; exact q _ F H (.refl S.fh) (by simp [Rep])
theorem pd_str {i j} : PD X m (.Constant (.str i) j pos) (eC (.str i)) := PD.mk <| PE.of L2.pe_str fun σ H Q ⟨BF, BH, F, env, L, d, S, e, q⟩ => by
  cases e; exact q _ F H (.refl S.fh) (by simp [Rep])
theorem pd_var (i : Nat) {x : Str} (hN : X.N[i]? = some x := by kernel_rfl) (hv : visB X.env.scope x = true := by kernel_rfl) (hd : (x == ("__debug__" : Str)) = false := by kernel_rfl)
    (hcd : (x == ("__classdict__" : Str)) = false := by kernel_rfl) : PD X .k (.Name x pos) (eVar i) := PD.mk <| PE.of (L2.pe_var hN (visB_ok hv) hd hcd) fun σ H Q ⟨BF, BH, F, env, L, d, S, e, q⟩ => by
  unfold eVar at e
  cases he : env[i]? with
  | none => rw [he] at e; cases e
  | some s =>
    rw [he] at e
    obtain ⟨ov, h1, h2⟩ := S.sl i s he
    cases s with
    | sh d' => cases e; obtain ⟨v, rfl, r⟩ := h2; exact ⟨v, h1, q v F H (.refl S.fh) r⟩
    | fr d' => cases e; obtain ⟨v, rfl, r⟩ := h2; exact ⟨v, h1, q v F H (.refl S.fh) (RepN.rep _ _ (RepN.mono cut_sub _ _ r))⟩
    | un => cases e
    | ow _ => cases e
    | tab _ => cases e
    | dc _ => cases e
    | nw _ => cases e
    | jk _ => cases e
    | jl _ => cases e
theorem pd_varR (i : Nat) {x : Str} (hN : X.N[i]? = some x := by kernel_rfl) (hv : visB X.env.scope x = true := by kernel_rfl) (hd : (x == ("__debug__" : Str)) = false := by kernel_rfl)
    (hcd : (x == ("__classdict__" : Str)) = false := by kernel_rfl) : PD X .r (.Name x pos) (eVarR i) := PD.mk <| PE.of (L2.pe_var hN (visB_ok hv) hd hcd) fun σ H Q ⟨BF, BH, F, env, L, d, S, e, q⟩ => by
  unfold eVarR at e
  cases he : env[i]? with
  | none => rw [he] at e; cases e
  | some s =>
    rw [he] at e
    obtain ⟨ov, h1, h2⟩ := S.sl i s he
    cases s with
    | sh d' => cases e; obtain ⟨v, rfl, r⟩ := h2; exact ⟨v, h1, q v F H (.refl S.fh) (Rep.mono S.fh _ _ r)⟩
    | fr d' => cases e; obtain ⟨v, rfl, r⟩ := h2; exact ⟨v, h1, q v F H (.refl S.fh) (RepN.rep _ _ (RepN.mono (cut_sub.trans S.fh) _ _ r))⟩
    | un => cases e
    | ow ds =>
      cases e
      obtain ⟨p, vs, rfl, _, h3, r⟩ := h2
      refine ⟨_, h1, q _ F H (.refl S.fh) ?_⟩
      simp only [Rep, hpM]
      exact ⟨p, vs, rfl, .inl (.inl h3), Reps.mono S.fh _ _ r⟩
    | tab rs =>
      cases e
      obtain ⟨p, as, rfl, _, _, h3, r⟩ := h2
      refine ⟨_, h1, q _ F H (.refl S.fh) ?_⟩
      simp only [Rep, hpM]
      exact ⟨p, _, rfl, .inl (.inl h3), r.reps S.fh⟩
    | dc _ => cases e
    | nw ds =>
      cases e
      obtain ⟨p, vs, rfl, _, h3, r⟩ := h2
      refine ⟨_, h1, q _ F H (.refl S.fh) ?_⟩
      simp only [Rep, hpM]
      exact ⟨p, vs, rfl, .inl (.inl h3), RepsN.reps _ _ (RepsN.mono (cut_sub.trans S.fh) _ _ r)⟩
    | jk _ => cases e
    | jl _ => cases e
theorem pd_con {x : Str} {i : Int} (hg : X.env.kindOf x = some .globalImplicit := by kernel_rfl) (hm : ∃ t, X.mg x = some (.int i t)) (hd : (x == ("__debug__" : Str)) = false := by kernel_rfl) : PD X m (.Name x pos) (eC (.int i)) := by
  obtain ⟨t, hm⟩ := hm
  exact PD.mk <| PE.of (L2.pe_glob (v := .int i) hg hm ⟨t, rfl⟩ hd) fun σ H Q ⟨BF, BH, F, env, L, d, S, e, q⟩ => by
    cases e; exact q _ F H (.refl S.fh) (by simp [Rep])
theorem pd_sc (h : PD X .r a f) : PD X m a (eSc f) := PD.mk <| PE.of h.h fun σ H Q ⟨BF, BH, F, env, L, d, S, e, q⟩ => by
  unfold eSc at e
  cases he : f env with
  | none => rw [he] at e; cases e
  | some d' =>
    rw [he] at e
    dsimp only at e
    split at e
    · rename_i hs
      cases e
      exact ⟨BF, BH, F, env, L, _, S, he, fun v F' H' x r => q v F' H' x (r.scal hs)⟩
    · cases e
theorem two {m1 m2 : Md} {R : V → V → Hp → Prop} {σ : L2.St} {H BF BH F : Hp} {env : Env} {L : Nat → List Addr} {x y : D} (S : SOk X.K BF BH F H σ env L) (e1 : f env = some x) (e2 : g env = some y)
    (k : ∀ v w F' H', Ext F H F' H' → Rep X.K (hpM BH F' H' m1) x v → Rep X.K (hpM BH F' H' m2) y w → R v w H') :
    tD X.K m1 f σ H fun v H1 => tD X.K m2 g σ H1 fun w H2 => R v w H2 :=
  ⟨BF, BH, F, env, L, x, S, e1, fun v F1 H1 x1 r1 => ⟨BF, BH, F1, env, L, y, S.ext x1, e2, fun w F2 H2 x2 r2 => k v w F2 H2 (x1.trans x2) (Rep.mono (hpM_ext x2 m1) _ _ r1) r2⟩⟩
theorem rep_int {K : PySem.W.Frag} {H : Hp} {i : Int} {v : V} (h : Rep K H (.int i) v) : v = .int i := by simpa [Rep] using h
theorem pd_e2I {op : Operator} {C : Int → Int → Prop} {G : Int → Int → Int} {φ : Int → Int → Option D} (ho : L2.OpR X (binaryOp op) (L2.rI C fun i j => .int (G i j)))
    (hφ : ∀ i j d, φ i j = some d → C i j ∧ d = .int (G i j)) {m1 m2 : Md} (ha : PD X m1 a f) (hb : PD X m2 b g) : PD X m (.BinOp a op b pos) (e2I φ f g) :=
  PD.mk <| PE.of (L2.pe_op ho ha.h hb.h) fun σ H Q ⟨BF, BH, F, env, L, d, S, e, q⟩ => by
    unfold e2I at e
    split at e
    · rename_i i j h1 h2
      refine two S h1 h2 fun v w F' H' x r1 r2 => ?_
      obtain ⟨hc, rfl⟩ := hφ i j d e
      exact ⟨i, j, rep_int r1, rep_int r2, hc, q _ F' H' x (by simp [Rep])⟩
    · cases e
theorem pd_e2I0 {op : Operator} {G : Int → Int → Int} {φ : Int → Int → Option D} (ho : L2.OpR X (binaryOp op) (L2.rI0 fun i j => .int (G i j)))
    (hφ : ∀ i j d, φ i j = some d → d = .int (G i j)) {m1 m2 : Md} (ha : PD X m1 a f) (hb : PD X m2 b g) : PD X m (.BinOp a op b pos) (e2I φ f g) :=
  PD.mk <| PE.of (L2.pe_op ho ha.h hb.h) fun σ H Q ⟨BF, BH, F, env, L, d, S, e, q⟩ => by
    unfold e2I at e
    split at e
    · rename_i i j h1 h2
      refine two S h1 h2 fun v w F' H' x r1 r2 => ?_
      obtain rfl := hφ i j d e
      exact ⟨i, j, rep_int r1, rep_int r2, q _ F' H' x (by simp [Rep])⟩
    · cases e
variable {m1 m2 m3 : Md}
theorem pd_iSub (ha : PD X m1 a f) (hb : PD X m2 b g) : PD X m (.BinOp a .Sub b pos) (e2I iSub f g) := pd_e2I0 L2.op_sub (fun i j d h => by cases h; rfl) ha hb
theorem pd_iMul (ha : PD X m1 a f) (hb : PD X m2 b g) : PD X m (.BinOp a .Mult b pos) (e2I iMul f g) := pd_e2I L2.op_mul (fun i j d h => by
  unfold iMul at h; split at h
  · rename_i hc; cases h; exact ⟨hc, rfl⟩
  · cases h) ha hb
theorem pd_iMod (ha : PD X m1 a f) (hb : PD X m2 b g) : PD X m (.BinOp a .Mod b pos) (e2I iMod f g) := pd_e2I L2.op_mod (fun i j d h => by
  unfold iMod at h; split at h
  · rename_i hc; cases h; exact ⟨hc, rfl⟩
  · cases h) ha hb
theorem pd_iDiv (ha : PD X m1 a f) (hb : PD X m2 b g) : PD X m (.BinOp a .FloorDiv b pos) (e2I iDiv f g) := pd_e2I L2.op_fdiv (fun i j d h => by
  unfold iDiv at h; split at h
  · rename_i hc; cases h; exact ⟨hc, rfl⟩
  · cases h) ha hb
end
end PV
set_option linter.all false
set_option Elab.async false
set_option maxRecDepth 100000
set_option maxHeartbeats 4000000
namespace PV
open PySem PySem.Spec PyProof.Rows
open L2 (V Hp HO Vals SqL SqT Same upd Cx PE PT PW PA PS PSs TE TT TA TS Inv RelV upd_same upd_ne ne_of_none)
mutual
def Hr (s : Shared) : D → Value → Prop
  | .non, u => u = .none
  | .bl b, u => u = .bool b
  | .int i, u => ∃ t, u = .int i t
  | .str x, u => ∃ t, u = .str x t
  | .lst ds, u => ∃ a its, u = .ref a ∧ s.heap.IsList a its.toArray ∧ Hrs s ds its
  | .tup ds, u => ∃ a its, u = .ref a ∧ s.heap.IsTuple a its.toArray ∧ Hrs s ds its
def Hrs (s : Shared) : List D → List Value → Prop
  | [], us => us = []
  | d :: ds, us => ∃ u r, us = u :: r ∧ Hr s d u ∧ Hrs s ds r
end
mutual
theorem rep_hr {X : Cx} {pins : List (Addr × Obj)} {σ : L2.St} {H : Hp} {s : Shared} (I : Inv X pins σ H s) : ∀ (d : D) (x : V) (u : Value), Rep X.K H d x → RelV x u → Hr s d u
  | .non, x, u, h, r => by simp only [Rep] at h; subst h; simp only [Hr]; exact r
  | .bl b, x, u, h, r => by simp only [Rep] at h; subst h; simp only [Hr]; exact r
  | .int i, x, u, h, r => by simp only [Rep] at h; subst h; simp only [Hr]; exact r
  | .str i, x, u, h, r => by simp only [Rep] at h; subst h; simp only [Hr]; exact r
  | .lst ds, x, u, h, r => by
    simp only [Rep] at h
    obtain ⟨a, vs, rfl, hs, t⟩ := h
    obtain ⟨its, rv, p, _⟩ := I.list hs
    cases r
    simp only [Hr]
    exact ⟨a, its, rfl, p.isList, reps_hrs I ds vs its t rv⟩
  | .tup ds, x, u, h, r => by
    simp only [Rep] at h
    obtain ⟨a, vs, rfl, hs, t⟩ := h
    obtain ⟨its, rv, p, _⟩ := I.tuple hs
    cases r
    simp only [Hr]
    exact ⟨a, its, rfl, p, reps_hrs I ds vs its t rv⟩
theorem reps_hrs {X : Cx} {pins : List (Addr × Obj)} {σ : L2.St} {H : Hp} {s : Shared} (I : Inv X pins σ H s) : ∀ (ds : List D) (vs : List V) (us : List Value), Reps X.K H ds vs → Vals vs us → Hrs s ds us
  | [], vs, us, h, r => by simp only [Reps] at h; subst h; cases r; simp [Hrs]
  | d :: ds, vs, us, h, r => by
    simp only [Reps] at h
    obtain ⟨v, t, rfl, h1, h2⟩ := h
    cases r with
    | cons r1 r2 =>
      simp only [Hrs]
      exact ⟨_, _, rfl, rep_hr I d v _ h1 r1, reps_hrs I ds t _ h2 r2⟩
end
section
variable {s : Shared}
theorem Hrs.length : ∀ {ds : List D} {us : List Value}, Hrs s ds us → ds.length = us.length
  | [], us, h => by simp only [Hrs] at h; subst h; rfl
  | d :: ds, us, h => by simp only [Hrs] at h; obtain ⟨u, r, rfl, _, t⟩ := h; simp [Hrs.length t]
theorem Hrs.get : ∀ {ds : List D} {us : List Value} {j : Nat} (h1 : j < ds.length) (h2 : j < us.length), Hrs s ds us → Hr s ds[j] us[j]
  | [], us, j, h1, h2, h => by simp at h1
  | d :: ds, us, 0, h1, h2, h => by simp only [Hrs] at h; obtain ⟨u, r, rfl, x, t⟩ := h; exact x
  | d :: ds, us, j + 1, h1, h2, h => by simp only [Hrs] at h; obtain ⟨u, r, rfl, x, t⟩ := h; exact Hrs.get (j := j) (by simpa using h1) (by simpa using h2) t
theorem isList_inj {h : Heap} {a : Addr} {xs ys : List Value} (h1 : h.IsList a xs.toArray) (h2 : h.IsList a ys.toArray) : xs = ys := by
  obtain ⟨o, e, c, n, d⟩ := h1
  obtain ⟨o', e', c', n', d'⟩ := h2
  rw [e] at e'; cases e'
  rw [d] at d'
  injection d' with d1 _
  have := congrArg Array.toList d1
  simpa using this
theorem isTuple_inj {h : Heap} {a : Addr} {xs ys : List Value} (h1 : h.IsTuple a xs.toArray) (h2 : h.IsTuple a ys.toArray) : xs = ys := by
  obtain ⟨o, e, c, n, d⟩ := h1
  obtain ⟨o', e', c', n', d'⟩ := h2
  rw [e] at e'; cases e'
  rw [d] at d'
  injection d' with d1 _
  have := congrArg Array.toList d1
  simpa using this
mutual
theorem Hr.func : ∀ (d e : D) (u : Value), Hr s d u → Hr s e u → d = e
  | .lst ds, .lst es, u, h1, h2 => by
    simp only [Hr] at h1 h2
    obtain ⟨a, its, rfl, l1, r1⟩ := h1
    obtain ⟨b, its2, e, l2, r2⟩ := h2
    cases e
    obtain rfl := isList_inj l1 l2
    rw [Hrs.func ds es its r1 r2]
  | .tup ds, .tup es, u, h1, h2 => by
    simp only [Hr] at h1 h2
    obtain ⟨a, its, rfl, l1, r1⟩ := h1
    obtain ⟨b, its2, e, l2, r2⟩ := h2
    cases e
    obtain rfl := isTuple_inj l1 l2
    rw [Hrs.func ds es its r1 r2]
  | .lst ds, .tup es, u, h1, h2 => by
    simp only [Hr] at h1 h2
    obtain ⟨a, its, rfl, l1, r1⟩ := h1
    obtain ⟨b, its2, e, l2, r2⟩ := h2
    cases e
    exact absurd rfl (SeqAt.ne_of_list_tuple l1 l2)
  | .tup ds, .lst es, u, h1, h2 => by
    simp only [Hr] at h1 h2
    obtain ⟨a, its, rfl, l1, r1⟩ := h1
    obtain ⟨b, its2, e, l2, r2⟩ := h2
    cases e
    exact absurd rfl (SeqAt.ne_of_list_tuple l2 l1)
  | .non, e, u, h1, h2 => by simp only [Hr] at h1; subst h1; cases e <;> simp [Hr] at h2 <;> first | rfl | (obtain ⟨_, _, _, _⟩ := h2) | skip
  | .bl b, e, u, h1, h2 => by simp only [Hr] at h1; subst h1; cases e <;> simp [Hr] at h2 <;> first | (rw [h2]) | skip
  | .int i, e, u, h1, h2 => by simp only [Hr] at h1; obtain ⟨t, rfl⟩ := h1; cases e <;> simp [Hr] at h2 <;> first | (rw [h2]) | skip
  | .str i, e, u, h1, h2 => by simp only [Hr] at h1; obtain ⟨t, rfl⟩ := h1; cases e <;> simp [Hr] at h2 <;> first | (rw [h2]) | skip
  | .lst ds, .non, u, h1, h2 => by simp only [Hr] at h1 h2; obtain ⟨_, _, rfl, _⟩ := h1; cases h2
  | .lst ds, .bl _, u, h1, h2 => by simp only [Hr] at h1 h2; obtain ⟨_, _, rfl, _⟩ := h1; cases h2
  | .lst ds, .int _, u, h1, h2 => by simp only [Hr] at h1 h2; obtain ⟨_, _, rfl, _⟩ := h1; obtain ⟨_, h2⟩ := h2; cases h2
  | .lst ds, .str _, u, h1, h2 => by simp only [Hr] at h1 h2; obtain ⟨_, _, rfl, _⟩ := h1; obtain ⟨_, h2⟩ := h2; cases h2
  | .tup ds, .non, u, h1, h2 => by simp only [Hr] at h1 h2; obtain ⟨_, _, rfl, _⟩ := h1; cases h2
  | .tup ds, .bl _, u, h1, h2 => by simp only [Hr] at h1 h2; obtain ⟨_, _, rfl, _⟩ := h1; cases h2
  | .tup ds, .int _, u, h1, h2 => by simp only [Hr] at h1 h2; obtain ⟨_, _, rfl, _⟩ := h1; obtain ⟨_, h2⟩ := h2; cases h2
  | .tup ds, .str _, u, h1, h2 => by simp only [Hr] at h1 h2; obtain ⟨_, _, rfl, _⟩ := h1; obtain ⟨_, h2⟩ := h2; cases h2
theorem Hrs.func : ∀ (ds es : List D) (us : List Value), Hrs s ds us → Hrs s es us → ds = es
  | [], [], _, _, _ => rfl
  | [], e :: es, us, h1, h2 => by simp only [Hrs] at h1 h2; subst h1; obtain ⟨_, _, h, _⟩ := h2; cases h
  | d :: ds, [], us, h1, h2 => by simp only [Hrs] at h1 h2; subst h2; obtain ⟨_, _, h, _⟩ := h1; cases h
  | d :: ds, e :: es, us, h1, h2 => by
    simp only [Hrs] at h1 h2
    obtain ⟨u, r, rfl, x, t⟩ := h1
    obtain ⟨u', r', e', x', t'⟩ := h2
    cases e'
    rw [Hr.func d e u x x', Hrs.func ds es r t t']
end
theorem eqDs_range : ∀ (ds es : List D), ds.length = es.length → (List.range ds.length).all (fun j => eqD (ds.getD j .non) (es.getD j .non)) = eqDs ds es
  | [], [], _ => by simp [eqDs]
  | [], _ :: _, h => by simp at h
  | _ :: _, [], h => by simp at h
  | d :: ds, e :: es, h => by
    have ih := eqDs_range ds es (by simpa using h)
    rw [List.length_cons, List.range_succ_eq_map, List.all_cons, List.all_map]
    simp only [eqDs]
    rw [← ih]
    rfl
theorem eqDs_len : ∀ (ds es : List D), ds.length ≠ es.length → eqDs ds es = false
  | [], [], h => absurd rfl h
  | [], _ :: _, _ => by simp [eqDs]
  | _ :: _, [], _ => by simp [eqDs]
  | d :: ds, e :: es, h => by simp only [eqDs, eqDs_len ds es (by simpa using h), Bool.and_false]
theorem le_deps : ∀ {ds : List D} {j : Nat} (h : j < ds.length), (ds[j]).dep ≤ D.deps ds
  | [], _, h => by simp at h
  | d :: ds, 0, h => by simp only [D.deps]; exact Nat.le_max_left _ _
  | d :: ds, j + 1, h => by simp only [D.deps]; exact Nat.le_trans (le_deps (j := j) (by simpa using h)) (Nat.le_max_right _ _)
def Ih (s : Shared) (A : Around) (x : List D) : Prop := ∀ j (h : j < x.length) (e : D) (u v : Value), A.units + (x[j]).dep < cLine → Hr s x[j] u → Hr s e v → SeqAt.EqAt A s u v (eqD x[j] e)
theorem items {A : Around} {x y : List D} {xits yits : List Value} (ih : Ih s A.in1 x) (hu : A.units + D.deps x + 1 < cLine) (hl : x.length = y.length) (xr : Hrs s x xits) (yr : Hrs s y yits) :
    ∀ j (h1 : j < xits.toArray.size) (h2 : j < yits.toArray.size), SeqAt.EqAt A.in1 s xits.toArray[j] yits.toArray[j] (eqD (x.getD j .non) (y.getD j .non)) := fun j h1 h2 => by
  have k1 : j < x.length := by rw [xr.length]; simpa using h1
  have k2 : j < y.length := by rw [← hl]; exact k1
  have e1 : x.getD j .non = x[j] := by simp [List.getD, k1]
  have e2 : y.getD j .non = y[j] := by simp [List.getD, k2]
  rw [e1, e2]
  have hd := le_deps (ds := x) k1
  have a1 := xr.get k1 (by rw [← xr.length]; exact k1)
  have a2 := yr.get k2 (by rw [← yr.length]; exact k2)
  refine ih j k1 _ _ _ ?_ (by simpa using a1) (by simpa using a2)
  show A.units + 1 + _ < cLine
  omega
theorem rcAt_lists {A : Around} {xa ya : Addr} {xits yits : List Value} (x y : List D) (hu : A.units + D.deps x + 1 < cLine) (xl : s.heap.IsList xa xits.toArray) (yl : s.heap.IsList ya yits.toArray) (xr : Hrs s x xits) (yr : Hrs s y yits) (ih : Ih s A.in1 x) :
    SeqAt.RcAt A s (.ref xa) (.ref ya) (eqD (.lst x) (.lst y)) := by
  simp only [eqD]
  by_cases hl : x.length = y.length
  · have e := SeqAt.RcAt.lists (e := fun j => eqD (x.getD j .non) (y.getD j .non)) xl yl (by simp [← xr.length, ← yr.length, hl]) (by omega) (items ih hu hl xr yr)
    rw [show xits.toArray.size = x.length by simp [xr.length], eqDs_range x y hl] at e
    exact e
  · rw [eqDs_len x y hl]
    exact SeqAt.RcAt.lists_lengths xl yl (by simp [← xr.length, ← yr.length, hl]) (by omega)
theorem rcAt_tuples {A : Around} {xa ya : Addr} {xits yits : List Value} (x y : List D) (hu : A.units + D.deps x + 1 < cLine) (xl : s.heap.IsTuple xa xits.toArray) (yl : s.heap.IsTuple ya yits.toArray) (xr : Hrs s x xits) (yr : Hrs s y yits) (ih : Ih s A.in1 x) :
    SeqAt.RcAt A s (.ref xa) (.ref ya) (eqD (.tup x) (.tup y)) := by
  simp only [eqD]
  have e := SeqAt.RcAt.tuples (A := A) (e := fun j => eqD (x.getD j .non) (y.getD j .non)) xl yl (by omega) (fun j h1 h2 => by
    have k1 : j < x.length := by rw [xr.length]; simpa using h1
    have k2 : j < y.length := by rw [yr.length]; simpa using h2
    have e1 : x.getD j .non = x[j] := by simp [List.getD, k1]
    have e2 : y.getD j .non = y[j] := by simp [List.getD, k2]
    rw [e1, e2]
    have hd := le_deps (ds := x) k1
    have a1 := xr.get k1 (by rw [← xr.length]; exact k1)
    have a2 := yr.get k2 (by rw [← yr.length]; exact k2)
    refine ih j k1 _ _ _ ?_ (by simpa using a1) (by simpa using a2)
    show A.units + 1 + _ < cLine
    omega)
  have z : ((List.range (min xits.toArray.size yits.toArray.size)).all (fun j => eqD (x.getD j .non) (y.getD j .non)) && xits.toArray.size == yits.toArray.size) = eqDs x y := by
    rw [show xits.toArray.size = x.length by simp [xr.length], show yits.toArray.size = y.length by simp [yr.length]]
    by_cases hl : x.length = y.length
    · rw [← hl, Nat.min_self, eqDs_range x y hl]; simp
    · rw [eqDs_len x y hl, beq_eq_false_iff_ne.mpr hl, Bool.and_false]
  rw [z] at e
  exact e
theorem eqAt_lists {A : Around} {xa ya : Addr} {xits yits : List Value} (x y : List D) (hu : A.units + D.deps x + 1 < cLine) (xl : s.heap.IsList xa xits.toArray) (yl : s.heap.IsList ya yits.toArray) (xr : Hrs s x xits) (yr : Hrs s y yits) (ih : Ih s A.in1 x) :
    SeqAt.EqAt A s (.ref xa) (.ref ya) (eqD (.lst x) (.lst y)) := by
  by_cases ha : xa = ya
  · subst ha
    obtain rfl := isList_inj xl yl
    obtain rfl := Hrs.func _ _ _ xr yr
    rw [eqD_refl]
    exact SeqAt.EqAt.same _
  · exact .of_refs ha (rcAt_lists x y hu xl yl xr yr ih)
theorem eqAt_tuples {A : Around} {xa ya : Addr} {xits yits : List Value} (x y : List D) (hu : A.units + D.deps x + 1 < cLine) (xl : s.heap.IsTuple xa xits.toArray) (yl : s.heap.IsTuple ya yits.toArray) (xr : Hrs s x xits) (yr : Hrs s y yits) (ih : Ih s A.in1 x) :
    SeqAt.EqAt A s (.ref xa) (.ref ya) (eqD (.tup x) (.tup y)) := by
  by_cases ha : xa = ya
  · subst ha
    obtain rfl := isTuple_inj xl yl
    obtain rfl := Hrs.func _ _ _ xr yr
    rw [eqD_refl]
    exact SeqAt.EqAt.same _
  · exact .of_refs ha (rcAt_tuples x y hu xl yl xr yr ih)
theorem neAt_lists {A : Around} {xa ya : Addr} {xits yits : List Value} (x y : List D) (hu : A.units + D.deps x + 1 < cLine) (xl : s.heap.IsList xa xits.toArray) (yl : s.heap.IsList ya yits.toArray) (xr : Hrs s x xits) (yr : Hrs s y yits) (ih : Ih s A.in1 x) :
    SeqAt.RcNeAt A s (.ref xa) (.ref ya) (!eqD (.lst x) (.lst y)) := by
  simp only [eqD]
  by_cases hl : x.length = y.length
  · have e := SeqAt.RcNeAt.lists (e := fun j => eqD (x.getD j .non) (y.getD j .non)) xl yl (by simp [← xr.length, ← yr.length, hl]) (by omega) (items ih hu hl xr yr)
    rw [show xits.toArray.size = x.length by simp [xr.length], eqDs_range x y hl] at e
    exact e
  · rw [eqDs_len x y hl]
    exact SeqAt.RcNeAt.lists_lengths xl yl (by simp [← xr.length, ← yr.length, hl]) (by omega)
theorem neAt_tuples {A : Around} {xa ya : Addr} {xits yits : List Value} (x y : List D) (hu : A.units + D.deps x + 1 < cLine) (xl : s.heap.IsTuple xa xits.toArray) (yl : s.heap.IsTuple ya yits.toArray) (xr : Hrs s x xits) (yr : Hrs s y yits) (ih : Ih s A.in1 x) :
    SeqAt.RcNeAt A s (.ref xa) (.ref ya) (!eqD (.tup x) (.tup y)) := by
  simp only [eqD]
  have e := SeqAt.RcNeAt.tuples (A := A) (e := fun j => eqD (x.getD j .non) (y.getD j .non)) xl yl (by omega) (fun j h1 h2 => by
    have k1 : j < x.length := by rw [xr.length]; simpa using h1
    have k2 : j < y.length := by rw [yr.length]; simpa using h2
    have e1 : x.getD j .non = x[j] := by simp [List.getD, k1]
    have e2 : y.getD j .non = y[j] := by simp [List.getD, k2]
    rw [e1, e2]
    have hd := le_deps (ds := x) k1
    have a1 := xr.get k1 (by rw [← xr.length]; exact k1)
    have a2 := yr.get k2 (by rw [← yr.length]; exact k2)
    refine ih j k1 _ _ _ ?_ (by simpa using a1) (by simpa using a2)
    show A.units + 1 + _ < cLine
    omega)
  have z : ((List.range (min xits.toArray.size yits.toArray.size)).all (fun j => eqD (x.getD j .non) (y.getD j .non)) && xits.toArray.size == yits.toArray.size) = eqDs x y := by
    rw [show xits.toArray.size = x.length by simp [xr.length], show yits.toArray.size = y.length by simp [yr.length]]
    by_cases hl : x.length = y.length
    · rw [← hl, Nat.min_self, eqDs_range x y hl]; simp
    · rw [eqDs_len x y hl, beq_eq_false_iff_ne.mpr hl, Bool.and_false]
  rw [z] at e
  exact e
def D.kids : D → List D
  | .lst xs => xs
  | .tup xs => xs
  | _ => []
theorem eqAt_one {A : Around} (d e : D) (u v : Value) (hu : A.units + d.dep < cLine) (h1 : Hr s d u) (h2 : Hr s e v) (ih : Ih s A.in1 d.kids) : SeqAt.EqAt A s u v (eqD d e) := by
  have hu0 : A.units < cLine := by omega
  cases d with
  | non =>
    cases h1
    cases e with
    | non =>
      cases h2
      exact SeqAt.EqAt.same _
    | bl y =>
      cases h2
      exact SeqAt.EqAt.none_bool y
    | int y =>
      obtain ⟨yt, rfl⟩ := h2
      exact SeqAt.EqAt.none_int y yt
    | str y =>
      obtain ⟨yt, rfl⟩ := h2
      exact SeqAt.EqAt.none_str y yt
    | lst y =>
      obtain ⟨ya, yits, rfl, yl, yr⟩ := h2
      exact SeqAt.EqAt.none_list yl hu0
    | tup y =>
      obtain ⟨ya, yits, rfl, yl, yr⟩ := h2
      exact SeqAt.EqAt.none_tuple yl hu0
  | bl x =>
    cases h1
    cases e with
    | non =>
      cases h2
      exact SeqAt.EqAt.bool_none x
    | bl y =>
      cases h2
      exact SeqAt.EqAt.bool_bool x y
    | int y =>
      obtain ⟨yt, rfl⟩ := h2
      exact SeqAt.EqAt.bool_int x y yt
    | str y =>
      obtain ⟨yt, rfl⟩ := h2
      exact SeqAt.EqAt.bool_str x y yt
    | lst y =>
      obtain ⟨ya, yits, rfl, yl, yr⟩ := h2
      exact SeqAt.EqAt.bool_list x yl hu0
    | tup y =>
      obtain ⟨ya, yits, rfl, yl, yr⟩ := h2
      exact SeqAt.EqAt.bool_tuple x yl hu0
  | int x =>
    obtain ⟨xt, rfl⟩ := h1
    cases e with
    | non =>
      cases h2
      exact SeqAt.EqAt.int_none x xt
    | bl y =>
      cases h2
      exact SeqAt.EqAt.int_bool x xt y
    | int y =>
      obtain ⟨yt, rfl⟩ := h2
      exact SeqAt.EqAt.int_int x xt y yt
    | str y =>
      obtain ⟨yt, rfl⟩ := h2
      exact SeqAt.EqAt.int_str x xt y yt
    | lst y =>
      obtain ⟨ya, yits, rfl, yl, yr⟩ := h2
      exact SeqAt.EqAt.int_list x xt yl hu0
    | tup y =>
      obtain ⟨ya, yits, rfl, yl, yr⟩ := h2
      exact SeqAt.EqAt.int_tuple x xt yl hu0
  | str x =>
    obtain ⟨xt, rfl⟩ := h1
    cases e with
    | non =>
      cases h2
      exact SeqAt.EqAt.str_none x xt
    | bl y =>
      cases h2
      exact SeqAt.EqAt.str_bool x xt y
    | int y =>
      obtain ⟨yt, rfl⟩ := h2
      exact SeqAt.EqAt.str_int x xt y yt
    | str y =>
      obtain ⟨yt, rfl⟩ := h2
      exact SeqAt.EqAt.str_str x xt y yt
    | lst y =>
      obtain ⟨ya, yits, rfl, yl, yr⟩ := h2
      exact SeqAt.EqAt.str_list x xt yl hu0
    | tup y =>
      obtain ⟨ya, yits, rfl, yl, yr⟩ := h2
      exact SeqAt.EqAt.str_tuple x xt yl hu0
  | lst x =>
    obtain ⟨xa, xits, rfl, xl, xr⟩ := h1
    cases e with
    | non =>
      cases h2
      exact SeqAt.EqAt.list_none xl hu0
    | bl y =>
      cases h2
      exact SeqAt.EqAt.list_bool y xl hu0
    | int y =>
      obtain ⟨yt, rfl⟩ := h2
      exact SeqAt.EqAt.list_int y yt xl hu0
    | str y =>
      obtain ⟨yt, rfl⟩ := h2
      exact SeqAt.EqAt.list_str y yt xl hu0
    | lst y =>
      obtain ⟨ya, yits, rfl, yl, yr⟩ := h2
      exact eqAt_lists x y hu xl yl xr yr ih
    | tup y =>
      obtain ⟨ya, yits, rfl, yl, yr⟩ := h2
      exact SeqAt.EqAt.list_tuple xl yl hu0
  | tup x =>
    obtain ⟨xa, xits, rfl, xl, xr⟩ := h1
    cases e with
    | non =>
      cases h2
      exact SeqAt.EqAt.tuple_none xl hu0
    | bl y =>
      cases h2
      exact SeqAt.EqAt.tuple_bool y xl hu0
    | int y =>
      obtain ⟨yt, rfl⟩ := h2
      exact SeqAt.EqAt.tuple_int y yt xl hu0
    | str y =>
      obtain ⟨yt, rfl⟩ := h2
      exact SeqAt.EqAt.tuple_str y yt xl hu0
    | lst y =>
      obtain ⟨ya, yits, rfl, yl, yr⟩ := h2
      exact SeqAt.EqAt.tuple_list xl yl hu0
    | tup y =>
      obtain ⟨ya, yits, rfl, yl, yr⟩ := h2
      exact eqAt_tuples x y hu xl yl xr yr ih
theorem rcAt_one {A : Around} (d e : D) (u v : Value) (hu : A.units + d.dep < cLine) (h1 : Hr s d u) (h2 : Hr s e v) (ih : Ih s A.in1 d.kids) : SeqAt.RcAt A s u v (eqD d e) := by
  have hu0 : A.units < cLine := by omega
  cases d with
  | non =>
    cases h1
    cases e with
    | non =>
      cases h2
      exact SeqAt.RcAt.none_none 
    | bl y =>
      cases h2
      exact SeqAt.RcAt.none_bool y
    | int y =>
      obtain ⟨yt, rfl⟩ := h2
      exact SeqAt.RcAt.none_int y yt
    | str y =>
      obtain ⟨yt, rfl⟩ := h2
      exact SeqAt.RcAt.none_str y yt
    | lst y =>
      obtain ⟨ya, yits, rfl, yl, yr⟩ := h2
      exact SeqAt.RcAt.none_list yl hu0
    | tup y =>
      obtain ⟨ya, yits, rfl, yl, yr⟩ := h2
      exact SeqAt.RcAt.none_tuple yl hu0
  | bl x =>
    cases h1
    cases e with
    | non =>
      cases h2
      exact SeqAt.RcAt.bool_none x
    | bl y =>
      cases h2
      exact SeqAt.RcAt.bool_bool x y
    | int y =>
      obtain ⟨yt, rfl⟩ := h2
      exact SeqAt.RcAt.bool_int x y yt
    | str y =>
      obtain ⟨yt, rfl⟩ := h2
      exact SeqAt.RcAt.bool_str x y yt
    | lst y =>
      obtain ⟨ya, yits, rfl, yl, yr⟩ := h2
      exact SeqAt.RcAt.bool_list x yl hu0
    | tup y =>
      obtain ⟨ya, yits, rfl, yl, yr⟩ := h2
      exact SeqAt.RcAt.bool_tuple x yl hu0
  | int x =>
    obtain ⟨xt, rfl⟩ := h1
    cases e with
    | non =>
      cases h2
      exact SeqAt.RcAt.int_none x xt
    | bl y =>
      cases h2
      exact SeqAt.RcAt.int_bool x xt y
    | int y =>
      obtain ⟨yt, rfl⟩ := h2
      exact SeqAt.RcAt.int_int x xt y yt
    | str y =>
      obtain ⟨yt, rfl⟩ := h2
      exact SeqAt.RcAt.int_str x xt y yt
    | lst y =>
      obtain ⟨ya, yits, rfl, yl, yr⟩ := h2
      exact SeqAt.RcAt.int_list x xt yl hu0
    | tup y =>
      obtain ⟨ya, yits, rfl, yl, yr⟩ := h2
      exact SeqAt.RcAt.int_tuple x xt yl hu0
  | str x =>
    obtain ⟨xt, rfl⟩ := h1
    cases e with
    | non =>
      cases h2
      exact SeqAt.RcAt.str_none x xt
    | bl y =>
      cases h2
      exact SeqAt.RcAt.str_bool x xt y
    | int y =>
      obtain ⟨yt, rfl⟩ := h2
      exact SeqAt.RcAt.str_int x xt y yt
    | str y =>
      obtain ⟨yt, rfl⟩ := h2
      exact SeqAt.RcAt.str_str x xt y yt
    | lst y =>
      obtain ⟨ya, yits, rfl, yl, yr⟩ := h2
      exact SeqAt.RcAt.str_list x xt yl hu0
    | tup y =>
      obtain ⟨ya, yits, rfl, yl, yr⟩ := h2
      exact SeqAt.RcAt.str_tuple x xt yl hu0
  | lst x =>
    obtain ⟨xa, xits, rfl, xl, xr⟩ := h1
    cases e with
    | non =>
      cases h2
      exact SeqAt.RcAt.list_none xl hu0
    | bl y =>
      cases h2
      exact SeqAt.RcAt.list_bool y xl hu0
    | int y =>
      obtain ⟨yt, rfl⟩ := h2
      exact SeqAt.RcAt.list_int y yt xl hu0
    | str y =>
      obtain ⟨yt, rfl⟩ := h2
      exact SeqAt.RcAt.list_str y yt xl hu0
    | lst y =>
      obtain ⟨ya, yits, rfl, yl, yr⟩ := h2
      exact rcAt_lists x y hu xl yl xr yr ih
    | tup y =>
      obtain ⟨ya, yits, rfl, yl, yr⟩ := h2
      exact SeqAt.RcAt.list_tuple xl yl hu0
  | tup x =>
    obtain ⟨xa, xits, rfl, xl, xr⟩ := h1
    cases e with
    | non =>
      cases h2
      exact SeqAt.RcAt.tuple_none xl hu0
    | bl y =>
      cases h2
      exact SeqAt.RcAt.tuple_bool y xl hu0
    | int y =>
      obtain ⟨yt, rfl⟩ := h2
      exact SeqAt.RcAt.tuple_int y yt xl hu0
    | str y =>
      obtain ⟨yt, rfl⟩ := h2
      exact SeqAt.RcAt.tuple_str y yt xl hu0
    | lst y =>
      obtain ⟨ya, yits, rfl, yl, yr⟩ := h2
      exact SeqAt.RcAt.tuple_list xl yl hu0
    | tup y =>
      obtain ⟨ya, yits, rfl, yl, yr⟩ := h2
      exact rcAt_tuples x y hu xl yl xr yr ih
theorem neAt_one {A : Around} (d e : D) (u v : Value) (hu : A.units + d.dep < cLine) (h1 : Hr s d u) (h2 : Hr s e v) (ih : Ih s A.in1 d.kids) : SeqAt.RcNeAt A s u v (!eqD d e) := by
  have hu0 : A.units < cLine := by omega
  cases d with
  | non =>
    cases h1
    cases e with
    | non =>
      cases h2
      exact SeqAt.RcNeAt.none_none 
    | bl y =>
      cases h2
      exact SeqAt.RcNeAt.none_bool y
    | int y =>
      obtain ⟨yt, rfl⟩ := h2
      exact SeqAt.RcNeAt.none_int y yt
    | str y =>
      obtain ⟨yt, rfl⟩ := h2
      exact SeqAt.RcNeAt.none_str y yt
    | lst y =>
      obtain ⟨ya, yits, rfl, yl, yr⟩ := h2
      exact SeqAt.RcNeAt.none_list yl hu0
    | tup y =>
      obtain ⟨ya, yits, rfl, yl, yr⟩ := h2
      exact SeqAt.RcNeAt.none_tuple yl hu0
  | bl x =>
    cases h1
    cases e with
    | non =>
      cases h2
      exact SeqAt.RcNeAt.bool_none x
    | bl y =>
      cases h2
      exact SeqAt.RcNeAt.bool_bool x y
    | int y =>
      obtain ⟨yt, rfl⟩ := h2
      exact SeqAt.RcNeAt.bool_int x y yt
    | str y =>
      obtain ⟨yt, rfl⟩ := h2
      exact SeqAt.RcNeAt.bool_str x y yt
    | lst y =>
      obtain ⟨ya, yits, rfl, yl, yr⟩ := h2
      exact SeqAt.RcNeAt.bool_list x yl hu0
    | tup y =>
      obtain ⟨ya, yits, rfl, yl, yr⟩ := h2
      exact SeqAt.RcNeAt.bool_tuple x yl hu0
  | int x =>
    obtain ⟨xt, rfl⟩ := h1
    cases e with
    | non =>
      cases h2
      exact SeqAt.RcNeAt.int_none x xt
    | bl y =>
      cases h2
      exact SeqAt.RcNeAt.int_bool x xt y
    | int y =>
      obtain ⟨yt, rfl⟩ := h2
      exact SeqAt.RcNeAt.int_int x xt y yt
    | str y =>
      obtain ⟨yt, rfl⟩ := h2
      exact SeqAt.RcNeAt.int_str x xt y yt
    | lst y =>
      obtain ⟨ya, yits, rfl, yl, yr⟩ := h2
      exact SeqAt.RcNeAt.int_list x xt yl hu0
    | tup y =>
      obtain ⟨ya, yits, rfl, yl, yr⟩ := h2
      exact SeqAt.RcNeAt.int_tuple x xt yl hu0
  | str x =>
    obtain ⟨xt, rfl⟩ := h1
    cases e with
    | non =>
      cases h2
      exact SeqAt.RcNeAt.str_none x xt
    | bl y =>
      cases h2
      exact SeqAt.RcNeAt.str_bool x xt y
    | int y =>
      obtain ⟨yt, rfl⟩ := h2
      exact SeqAt.RcNeAt.str_int x xt y yt
    | str y =>
      obtain ⟨yt, rfl⟩ := h2
      exact SeqAt.RcNeAt.str_str x xt y yt
    | lst y =>
      obtain ⟨ya, yits, rfl, yl, yr⟩ := h2
      exact SeqAt.RcNeAt.str_list x xt yl hu0
    | tup y =>
      obtain ⟨ya, yits, rfl, yl, yr⟩ := h2
      exact SeqAt.RcNeAt.str_tuple x xt yl hu0
  | lst x =>
    obtain ⟨xa, xits, rfl, xl, xr⟩ := h1
    cases e with
    | non =>
      cases h2
      exact SeqAt.RcNeAt.list_none xl hu0
    | bl y =>
      cases h2
      exact SeqAt.RcNeAt.list_bool y xl hu0
    | int y =>
      obtain ⟨yt, rfl⟩ := h2
      exact SeqAt.RcNeAt.list_int y yt xl hu0
    | str y =>
      obtain ⟨yt, rfl⟩ := h2
      exact SeqAt.RcNeAt.list_str y yt xl hu0
    | lst y =>
      obtain ⟨ya, yits, rfl, yl, yr⟩ := h2
      exact neAt_lists x y hu xl yl xr yr ih
    | tup y =>
      obtain ⟨ya, yits, rfl, yl, yr⟩ := h2
      exact SeqAt.RcNeAt.list_tuple xl yl hu0
  | tup x =>
    obtain ⟨xa, xits, rfl, xl, xr⟩ := h1
    cases e with
    | non =>
      cases h2
      exact SeqAt.RcNeAt.tuple_none xl hu0
    | bl y =>
      cases h2
      exact SeqAt.RcNeAt.tuple_bool y xl hu0
    | int y =>
      obtain ⟨yt, rfl⟩ := h2
      exact SeqAt.RcNeAt.tuple_int y yt xl hu0
    | str y =>
      obtain ⟨yt, rfl⟩ := h2
      exact SeqAt.RcNeAt.tuple_str y yt xl hu0
    | lst y =>
      obtain ⟨ya, yits, rfl, yl, yr⟩ := h2
      exact SeqAt.RcNeAt.tuple_list xl yl hu0
    | tup y =>
      obtain ⟨ya, yits, rfl, yl, yr⟩ := h2
      exact neAt_tuples x y hu xl yl xr yr ih
mutual
theorem eqAt_D : ∀ (d : D) {A : Around} (e : D) (u v : Value), A.units + d.dep < cLine → Hr s d u → Hr s e v → SeqAt.EqAt A s u v (eqD d e)
  | .lst xs, _, e, u, v, hu, h1, h2 => eqAt_one (.lst xs) e u v hu h1 h2 (eqAt_Ds xs)
  | .tup xs, _, e, u, v, hu, h1, h2 => eqAt_one (.tup xs) e u v hu h1 h2 (eqAt_Ds xs)
  | .non, _, e, u, v, hu, h1, h2 => eqAt_one .non e u v hu h1 h2 (fun j h => by simp [D.kids] at h)
  | .bl b, _, e, u, v, hu, h1, h2 => eqAt_one (.bl b) e u v hu h1 h2 (fun j h => by simp [D.kids] at h)
  | .int b, _, e, u, v, hu, h1, h2 => eqAt_one (.int b) e u v hu h1 h2 (fun j h => by simp [D.kids] at h)
  | .str b, _, e, u, v, hu, h1, h2 => eqAt_one (.str b) e u v hu h1 h2 (fun j h => by simp [D.kids] at h)
theorem eqAt_Ds : ∀ (xs : List D) {A : Around}, Ih s A xs
  | [], _ => fun j h => by simp at h
  | x :: xs, _ => fun j h => match j, h with
    | 0, h => fun e u v hu h1 h2 => eqAt_D x e u v hu h1 h2
    | j + 1, h => fun e u v hu h1 h2 => eqAt_Ds xs j (by simpa using h) e u v hu h1 h2
end
theorem rcAt_D (d : D) {A : Around} (e : D) (u v : Value) (hu : A.units + d.dep < cLine) (h1 : Hr s d u) (h2 : Hr s e v) : SeqAt.RcAt A s u v (eqD d e) := rcAt_one d e u v hu h1 h2 (eqAt_Ds _)
theorem neAt_D (d : D) {A : Around} (e : D) (u v : Value) (hu : A.units + d.dep < cLine) (h1 : Hr s d u) (h2 : Hr s e v) : SeqAt.RcNeAt A s u v (!eqD d e) := neAt_one d e u v hu h1 h2 (eqAt_Ds _)
end
end PV
set_option linter.all false
set_option Elab.async false
set_option maxRecDepth 100000
set_option maxHeartbeats 4000000
namespace PV
open PySem PySem.Spec PyProof.Rows
open L2 (V Hp HO Vals SqL SqT Same upd Cx PE PT PW PA PS PSs TE TT TA TS Inv RelV upd_same upd_ne ne_of_none)
theorem rep_bl {K : PySem.W.Frag} {H : Hp} {i : Bool} {v : V} (h : Rep K H (.bl i) v) : v = .bl i := by simpa [Rep] using h
section
variable {X : Cx} {m m1 m2 m3 : Md} {a b c : Expr} {f g h : Ex} {t u : Tx} {pos : Pos} {rest : List Expr}
theorem pt_of (ha : PD X m a f) (he : ∀ whole, isTrue a X.env whole = (do let v ← whole; standAt a.pos; holding [v] (truthy v)) := by intro _; rfl) : PTd X a (tB f) :=
  PT.of (L2.pt_val ha.h he) fun σ H Q ⟨BF, BH, F, env, L, d, S, e, q⟩ => by
    unfold tB at e
    split at e
    · rename_i k hk
      cases e
      exact ⟨BF, BH, F, env, L, _, S, hk, fun v F' H' x r => ⟨d, rep_bl r, q F' H' x⟩⟩
    · cases e
theorem pv_of (ha : PD X m a f) : PD X m a (eB (tB f)) := PD.mk <| PE.of ha.h fun σ H Q ⟨BF, BH, F, env, L, d, S, e, q⟩ => by
  unfold eB tB at e
  split at e
  · rename_i k hk
    split at hk
    · rename_i k' hk'
      cases e; cases hk
      exact ⟨BF, BH, F, env, L, _, S, hk', q⟩
    · cases hk
  · cases e
structure CmpOk (X : Cx) (r : L2.R2) (f g : Ex) (t : Tx) : Prop where
  ok : ∀ env k, t env = some k → ∃ x y, f env = some x ∧ g env = some y ∧ ∀ v w H' (Q : V → Hp → Prop), Rep X.K H' x v → Rep X.K H' y w → Q (.bl k) H' → r v w H' Q
theorem pv_cmp {op : CmpOp} {r : L2.R2} (ho : L2.OpR X (compareOp op) r) (hc : CmpOk X r f g t) (hm : behindInMarks op b = false) (ha : PD X m1 a f) (hb : PD X m2 b g) : PD X m (.Compare a [op] [b] pos) (eB t) :=
  PD.mk <| PE.of (L2.pe_cmpR ho ha.r.h hb.r.h hm) fun σ H Q ⟨BF, BH, F, env, L, d, S, e, q⟩ => by
    unfold eB at e
    split at e
    · rename_i k hk
      cases e
      obtain ⟨x, y, hx, hy, hr⟩ := hc.ok env k hk
      exact two S hx hy fun v w F' H' z r1 r2 => hr v w H' Q r1 r2 (q _ F' H' z (by simp [Rep]))
    · cases e
theorem pt_cmp {op : CmpOp} {r : L2.R2} (ho : L2.OpR X (compareOp op) r) (hc : CmpOk X r f g t) (hm : behindInMarks op b = false) (ha : PD X m1 a f) (hb : PD X m2 b g) : PTd X (.Compare a [op] [b] pos) t :=
  PT.of (L2.pt_cmpR ho ha.r.h hb.r.h hm) fun σ H Q ⟨BF, BH, F, env, L, k, S, e, q⟩ => by
    obtain ⟨x, y, hx, hy, hr⟩ := hc.ok env k e
    exact two S hx hy fun v w F' H' z r1 r2 => hr v w H' _ r1 r2 ⟨k, rfl, q F' H' z⟩
theorem cmp_2I {p : Int → Int → Bool} {G : Int → Int → V} (hG : ∀ i j, G i j = .bl (p i j)) : CmpOk X (L2.rI0 G) f g (t2I p f g) := ⟨fun env k e => by
  unfold t2I at e
  split at e
  · rename_i i j h1 h2
    cases e
    exact ⟨_, _, h1, h2, fun v w H' Q r1 r2 q => ⟨i, j, rep_int r1, rep_int r2, by rw [hG]; exact q⟩⟩
  · cases e⟩
theorem pt_lt (ha : PD X m1 a f) (hb : PD X m2 b g) : PTd X (.Compare a [.Lt] [b] pos) (t2I pLt f g) := pt_cmp L2.op_lt (cmp_2I fun _ _ => rfl) (L2.nomark _) ha hb
theorem pt_gt (ha : PD X m1 a f) (hb : PD X m2 b g) : PTd X (.Compare a [.Gt] [b] pos) (t2I pGt f g) := pt_cmp L2.op_gt (cmp_2I fun _ _ => rfl) (L2.nomark _) ha hb
theorem pv_lt (ha : PD X m1 a f) (hb : PD X m2 b g) : PD X m (.Compare a [.Lt] [b] pos) (eB (t2I pLt f g)) := pv_cmp L2.op_lt (cmp_2I fun _ _ => rfl) (L2.nomark _) ha hb
theorem pv_ge (ha : PD X m1 a f) (hb : PD X m2 b g) : PD X m (.Compare a [.GtE] [b] pos) (eB (t2I pGe f g)) := pv_cmp L2.op_ge (cmp_2I fun _ _ => rfl) (L2.nomark _) ha hb
def rEqD (K : PySem.W.Frag) (neg : Bool) : L2.R2 := fun x y H Q => ∃ dx dy, Rep K H dx x ∧ Rep K H dy y ∧ dx.dep ≤ 8 ∧ Q (.bl (if neg then !eqD dx dy else eqD dx dy)) H
theorem op_eqD (hu : X.A.units + 64 < cLine) : L2.OpR X (compareOp .Eq) (rEqD X.K false) := by
  intro pins s σ H x y v u Q I rx ry h
  obtain ⟨dx, dy, h1, h2, hd, q⟩ := h
  exact rcAt_D dx dy v u (by omega) (rep_hr I _ _ _ h1 rx) (rep_hr I _ _ _ h2 ry) X.prog X.w X.xe _ ⟨.bl _, H, I, rfl, q⟩
theorem op_neD (hu : X.A.units + 64 < cLine) : L2.OpR X (compareOp .NotEq) (rEqD X.K true) := by
  intro pins s σ H x y v u Q I rx ry h
  obtain ⟨dx, dy, h1, h2, hd, q⟩ := h
  exact neAt_D dx dy v u (by omega) (rep_hr I _ _ _ h1 rx) (rep_hr I _ _ _ h2 ry) X.prog X.w X.xe _ ⟨.bl _, H, I, rfl, q⟩
theorem cmp_eq : CmpOk X (rEqD X.K false) f g (tEq f g) := ⟨fun env k e => by
  unfold tEq at e
  split at e
  · rename_i x y h1 h2
    split at e
    · rename_i hd
      cases e
      exact ⟨x, y, h1, h2, fun v w H' Q r1 r2 q => ⟨x, y, r1, r2, hd, q⟩⟩
    · cases e
  · cases e⟩
theorem cmp_ne : CmpOk X (rEqD X.K true) f g (tNe f g) := ⟨fun env k e => by
  unfold tNe at e
  split at e
  · rename_i x y h1 h2
    split at e
    · rename_i hd
      cases e
      exact ⟨x, y, h1, h2, fun v w H' Q r1 r2 q => ⟨x, y, r1, r2, hd, q⟩⟩
    · cases e
  · cases e⟩
variable (hu : X.A.units + 64 < cLine)
include hu
theorem pt_eq (ha : PD X m1 a f) (hb : PD X m2 b g) : PTd X (.Compare a [.Eq] [b] pos) (tEq f g) := pt_cmp (op_eqD hu) cmp_eq (L2.nomark _) ha hb
theorem pt_ne (ha : PD X m1 a f) (hb : PD X m2 b g) : PTd X (.Compare a [.NotEq] [b] pos) (tNe f g) := pt_cmp (op_neD hu) cmp_ne (L2.nomark _) ha hb
theorem pv_eq (ha : PD X m1 a f) (hb : PD X m2 b g) : PD X m (.Compare a [.Eq] [b] pos) (eB (tEq f g)) := pv_cmp (op_eqD hu) cmp_eq (L2.nomark _) ha hb
omit hu
open Classical in
noncomputable def eqH (s : Shared) (x : D) (u : Value) : Bool := if ∃ d, Hr s d u ∧ eqD d x = true then true else false
theorem eqH_of {s : Shared} {x d : D} {u : Value} (h : Hr s d u) : eqH s x u = eqD d x := by
  unfold eqH
  cases e : eqD d x with
  | true => rw [if_pos ⟨d, h, e⟩]
  | false => rw [if_neg]; rintro ⟨d', h', e'⟩; rw [Hr.func _ _ _ h' h, e] at e'; cases e'
theorem any_eqH {s : Shared} {x : D} : ∀ {ys : List D} {us : List Value}, Hrs s ys us → us.any (eqH s x) = ys.any fun y => eqD y x
  | [], us, h => by simp only [Hrs] at h; subst h; rfl
  | y :: ys, us, h => by
    simp only [Hrs] at h
    obtain ⟨u, r, rfl, h1, h2⟩ := h
    rw [List.any_cons, List.any_cons, eqH_of h1, any_eqH h2]
theorem mem_eqH {A : Around} {s : Shared} {x : D} {v : Value} (hx : Hr s x v) : ∀ {ys : List D} {us : List Value}, A.units + D.deps ys < cLine → Hrs s ys us → ∀ u ∈ us, SeqAt.EqAt A s u v (eqH s x u)
  | [], us, _, h => by simp only [Hrs] at h; subst h; intro u hu; cases hu
  | y :: ys, us, hd, h => by
    simp only [Hrs] at h
    obtain ⟨u, r, rfl, h1, h2⟩ := h
    simp only [D.deps] at hd
    intro u' hu'
    rcases List.mem_cons.mp hu' with rfl | hu'
    · rw [eqH_of h1]; exact eqAt_D y x _ v (by omega) h1 hx
    · exact mem_eqH hx (by omega) h2 u' hu'
def rInD (K : PySem.W.Frag) (neg : Bool) : L2.R2 := fun x y H Q => ∃ dx ys, Rep K H dx x ∧ (Rep K H (.lst ys) y ∨ Rep K H (.tup ys) y) ∧ D.deps ys ≤ 8 ∧ Q (.bl (if neg then !inD dx ys else inD dx ys)) H
include hu
theorem op_niD : L2.OpR X (compareOp .NotIn) (rInD X.K true) := by
  intro pins s σ H x y v u Q I rx ry h
  obtain ⟨dx, ys, h1, h2, hd, q⟩ := h
  have hx := rep_hr I _ _ _ h1 rx
  have hin : X.A.in1.units + D.deps ys < cLine := by show X.A.units + 1 + _ < _; omega
  rcases h2 with h2 | h2
  · have hy := rep_hr I _ _ _ h2 ry
    simp only [Hr] at hy
    obtain ⟨p, its, rfl, hl, hr⟩ := hy
    refine SeqAt.notIn_listAt (eqH s dx) hl (fun w hw => mem_eqH hx hin hr w (by simpa using hw)) ⟨.bl _, H, I, rfl, ?_⟩
    rw [show its.toArray.any (eqH s dx) = its.any (eqH s dx) by simp, any_eqH hr]
    exact q
  · have hy := rep_hr I _ _ _ h2 ry
    simp only [Hr] at hy
    obtain ⟨p, its, rfl, hl, hr⟩ := hy
    refine SeqAt.notIn_tupleAt (eqH s dx) hl (fun w hw => mem_eqH hx hin hr w (by simpa using hw)) ⟨.bl _, H, I, rfl, ?_⟩
    rw [show its.toArray.any (eqH s dx) = its.any (eqH s dx) by simp, any_eqH hr]
    exact q
omit hu
theorem cmp_ni : CmpOk X (rInD X.K true) f g (tNi f g) := ⟨fun env k e => by
  unfold tNi at e
  split at e
  · rename_i k' e'
    cases e
    unfold tIn at e'
    split at e'
    · rename_i x ys h1 h2
      split at e'
      · rename_i hd; cases e'; exact ⟨x, _, h1, h2, fun v w H' Q r1 r2 q => ⟨x, ys, r1, .inl r2, hd, q⟩⟩
      · cases e'
    · rename_i x ys h1 h2
      split at e'
      · rename_i hd; cases e'; exact ⟨x, _, h1, h2, fun v w H' Q r1 r2 q => ⟨x, ys, r1, .inr r2, hd, q⟩⟩
      · cases e'
    · cases e'
  · cases e⟩
include hu
theorem pt_ni (ha : PD X m1 a f) (hb : PD X m2 b g) (hm : behindInMarks .NotIn b = false := by with_unfolding_all rfl) : PTd X (.Compare a [.NotIn] [b] pos) (tNi f g) := pt_cmp (op_niD hu) cmp_ni hm ha hb
omit hu
def PWd (X : Cx) (e : Expr) (t : Tx) : Prop := PW X e (tTst X.K t)
theorem pw_t (h : PWd X a t) : PTd X a t := h _
theorem pt_oneOr (ha : PTd X a t) : PWd X (.BoolOp .Or [a] pos) t := L2.pw_or1 ha
theorem pt_or (ha : PTd X a t) (hb : PWd X (.BoolOp .Or (b :: rest) pos) u) : PWd X (.BoolOp .Or (a :: b :: rest) pos) (tOr t u) := PW.of (L2.pw_or ha hb) fun σ H Q ⟨BF, BH, F, env, L, k, S, e, q⟩ => by
  unfold tOr at e
  split at e
  · rename_i h1
    cases e
    exact ⟨BF, BH, F, env, L, true, S, h1, fun F' H' z => L2.iteT (q F' H' z)⟩
  · rename_i h1
    exact ⟨BF, BH, F, env, L, false, S, h1, fun F' H' z => L2.iteF (⟨BF, BH, F', env, L, k, S.ext z, e, fun F2 H2 z2 => q F2 H2 (z.trans z2)⟩)⟩
  · cases e
theorem pt_not (ha : PTd X a t) : PTd X (.UnaryOp .Not a pos) (tNot t) := PT.of (L2.pt_not ha) fun σ H Q ⟨BF, BH, F, env, L, k, S, e, q⟩ => by
  unfold tNot at e
  split at e
  · rename_i k' h1
    cases e
    exact ⟨BF, BH, F, env, L, k', S, h1, fun F' H' z => q F' H' z⟩
  · cases e
theorem pv_oneAnd (ha : PD X m a (eB t)) : PD X m (.BoolOp .And [a] pos) (eB t) := PD.mk <| L2.pe_one ha.h
theorem eB_inv {env : Env} {d : D} (h : eB t env = some d) : ∃ k, t env = some k ∧ d = .bl k := by
  unfold eB at h
  split at h
  · rename_i k hk; cases h; exact ⟨k, hk, rfl⟩
  · cases h
theorem eB_of {env : Env} {k : Bool} (h : t env = some k) : eB t env = some (.bl k) := by unfold eB; rw [h]
theorem pv_and (ha : PD X m1 a (eB t)) (hb : PD X m2 (.BoolOp .And (b :: rest) pos) (eB u)) : PD X m (.BoolOp .And (a :: b :: rest) pos) (eB (tAnd t u)) := PD.mk <| PE.of (L2.pe_and ha.h hb.h) fun σ H Q ⟨BF, BH, F, env, L, d, S, e, q⟩ => by
  obtain ⟨k, hk, rfl⟩ := eB_inv e
  unfold tAnd at hk
  split at hk
  · rename_i h1
    exact ⟨BF, BH, F, env, L, _, S, eB_of h1, fun v F' H' z r => ⟨true, rep_bl r, L2.iteT (⟨BF, BH, F', env, L, _, S.ext z, eB_of hk, fun w F2 H2 z2 r2 => q w F2 H2 (z.trans z2) (r2.scal rfl)⟩)⟩⟩
  · rename_i h1
    cases hk
    exact ⟨BF, BH, F, env, L, _, S, eB_of h1, fun v F' H' z r => ⟨false, rep_bl r, L2.iteF (q _ F' H' z (by simp [Rep]))⟩⟩
  · cases hk
theorem pv_not (ha : PD X m1 a (eB t)) : PD X m (.UnaryOp .Not a pos) (eB (tNot t)) := PD.mk <| PE.of (L2.pe_not ha.h) fun σ H Q ⟨BF, BH, F, env, L, d, S, e, q⟩ => by
  obtain ⟨k, hk, rfl⟩ := eB_inv e
  unfold tNot at hk
  split at hk
  · rename_i k' h1
    cases hk
    exact ⟨BF, BH, F, env, L, _, S, eB_of h1, fun v F' H' z r => ⟨k', rep_bl r, q _ F' H' z (by simp [Rep])⟩⟩
  · cases hk
end
end PV
set_option linter.all false
set_option Elab.async false
set_option maxRecDepth 100000
set_option maxHeartbeats 4000000
namespace PV
open PySem PySem.Spec PyProof.Rows
open L2 (V Hp HO Vals SqL SqT Same upd Cx PE PT PW PA PS PSs TE TT TA TS Inv RelV upd_same upd_ne ne_of_none)
structure Bt (mg : Str → Option Value) : Prop where
  len : mg "len" = none
  range : mg "range" = none
  list : mg "list" = none
  all : mg "all" = none
  isinstance : mg "isinstance" = none
  max : mg "max" = none
  int : mg "int" = none
  bool : mg "bool" = none
  str : mg "str" = none
  tuple : mg "tuple" = none
  sorted : mg "sorted" = none
  set : mg "set" = none
  any : mg "any" = none
  enumerate : mg "enumerate" = none
  dict : mg "dict" = none
theorem lim_le : lim ≤ sizeLine := by rw [sizeLine_eq]; decide
theorem lim_lt : lim < sizeLine := by rw [sizeLine_eq]; decide
section
variable {X : Cx} {m m1 m2 m3 : Md} {a b c e : Expr} {es : List Expr} {f g h : Ex} {fs : List Ex} {t u : Tx} {pos : Pos}
def tAs (K : PySem.W.Frag) (m : Md) (fs : List Ex) : TA := fun σ H Q => ∃ BF BH F env L ds, SOk K BF BH F H σ env L ∧ evs fs env = some ds ∧
  ∀ vs F' H', Ext F H F' H' → Reps K (hpM BH F' H' m) ds vs → Q vs H'
structure PAd (X : Cx) (m : Md) (es : List Expr) (fs : List Ex) : Prop where
  h : PA X es (tAs X.K m fs)
theorem PA.of {X : Cx} {e : List Expr} {t t' : TA} (h : PA X e t') (i : ∀ σ H Q, t σ H Q → t' σ H Q) : PA X e t := fun pos pins s σ H Q I q => h pos pins s σ H Q I (i σ H Q q)
theorem pa_no : PAd X m [] [] := PAd.mk <| PA.of L2.pa_nil fun σ H Q ⟨BF, BH, F, env, L, ds, S, e, q⟩ => by
  cases e; exact q [] F H (.refl S.fh) Reps.nil
theorem pa_one (ha : PD X m e f) (hr : PAd X m es fs) (hs : nst e = true := by rfl) : PAd X m (e :: es) (f :: fs) :=
  PAd.mk <| PA.of (L2.pa_cons ha.h hr.h (star_cons hs)) fun σ H Q ⟨BF, BH, F, env, L, ds, S, e, q⟩ => by
    simp only [evs] at e
    split at e
    · rename_i d ds' h1 h2
      cases e
      exact ⟨BF, BH, F, env, L, d, S, h1, fun v F1 H1 x1 r1 => ⟨BF, BH, F1, env, L, ds', S.ext x1, h2, fun vs F2 H2 x2 r2 => q (v :: vs) F2 H2 (x1.trans x2) (Reps.cons (Rep.mono (hpM_ext x2 m) _ _ r1) r2)⟩⟩
    · cases e
theorem evs_len {env : Env} : ∀ {fs : List Ex} {ds : List D}, evs fs env = some ds → ds.length = fs.length
  | [], ds, h => by cases h; rfl
  | f :: fs, ds, h => by
    simp only [evs] at h
    split at h
    · rename_i d ds' h1 h2; cases h; simp [evs_len h2]
    · cases h
theorem own_new {K : PySem.W.Frag} {BF BH F F1 H H1 : Hp} {σ : L2.St} {env : Env} {L : Nat → List Addr} (S : SOk K BF BH F H σ env L) (x : Ext F H F1 H1) {p : Addr} (hp : H1 p = none) (o : HO) :
    Ext F H F1 (upd H1 p o) ∧ H p = none ∧ F1 p = none ∧ Same (hpM BH F1 H1 m) (hpM BH F1 (upd H1 p o) m) :=
  ⟨x.trans (Ext.own x.fh hp), x.hh.free hp, x.fh.free hp, hpM_ext (Ext.own x.fh hp) m⟩
theorem po_lst (ha : PAd X m es fs) (hl : fs.length ≤ 1000 := by decide) : PDo X m (.List es pos) (eLst fs) := PE.of (L2.pe_lst ha.h) fun σ H Q ⟨BF, BH, F, env, L, ds, S, e, q⟩ => by
  unfold eLst at e
  split at e
  · rename_i ds' h1
    cases e
    refine ⟨BF, BH, F, env, L, ds, S, h1, fun vs F' H' x r => ⟨?_, fun p hp => ?_⟩⟩
    · rw [← r.length, evs_len h1]; exact Nat.le_trans hl (by rw [sizeLine_eq]; decide)
    · obtain ⟨y, h0, h2, s⟩ := own_new (m := m) S x hp (HO.lst vs)
      exact q p vs F' _ y h0 upd_same h2 (Reps.mono s _ _ r)
  · cases e
theorem eLst_inv {env : Env} {d : D} (h : eLst fs env = some d) : ∃ ds, d = .lst ds := by
  unfold eLst at h
  split at h
  · cases h; exact ⟨_, rfl⟩
  · cases h
theorem pd_lst (ha : PAd X m es fs) (hl : fs.length ≤ 1000 := by decide) : PD X m (.List es pos) (eLst fs) := (po_lst ha hl).d fun env d h => eLst_inv h
theorem pd_tup {x1} (ha : PAd X m es fs) (hl : fs.length ≤ 1000 := by decide) : PD X m (.Tuple es x1 pos) (eTup fs) := PD.mk <| PE.of (L2.pe_tup ha.h) fun σ H Q ⟨BF, BH, F, env, L, d, S, e, q⟩ => by
  unfold eTup at e
  split at e
  · rename_i ds' h1
    cases e
    refine ⟨BF, BH, F, env, L, ds', S, h1, fun vs F' H' x r => ⟨?_, fun p hp => ?_⟩⟩
    · rw [← r.length, evs_len h1]; exact Nat.le_trans hl (by rw [sizeLine_eq]; decide)
    · have y := Ext.laid (o := HO.tup vs) x.fh hp
      refine q (.ref p) _ _ (x.trans y) ?_
      simp only [Rep]
      refine ⟨p, vs, rfl, .inl (.inl ?_), Reps.mono (hpM_ext y m) _ _ r⟩
      cases m with
      | r => exact upd_same
      | k => exact upd_same
      | f => show cut _ _ p = _; rw [cut_get (S.s0.free (x.hh.free hp))]; exact upd_same
  · cases e
theorem add_listsP {prog : Program} {w : World} {A : Around} {E : Value → Shared → Prop} {s : Shared} {l b : Addr} {its its2 : Array Value} {Q : Value → Shared → Prop} (hl : s.heap.IsList l its) (hb : s.heap.IsList b its2)
    (h : Q (.ref s.heap.objs.size) { s with heap := s.heap.push { cls := .type "list", data := .seq (its ++ its2) } }) (hsz : its.size + its2.size ≤ sizeLine) : wpAny (model prog w) A (binaryOp .Add (.ref l) (.ref b)) Q E s := by
  obtain ⟨⟨cls, dd, data, sl⟩, ho, hc, n, hd⟩ := id hl
  obtain ⟨⟨cls2, dd2, data2, sl2⟩, ho2, hc2, n2, hd2⟩ := id hb
  simp only at hc hd hc2 hd2
  subst hc hd hc2 hd2
  exact concat_meets ⟨_, ho, rfl⟩ ⟨_, ho2, rfl⟩ noFill_list_add seq_list_add PySem.F.slot_list_add PySem.F.entry_list_add (PySem.F.args_list_add_2 _ _) (list_addW l b its its2 n n2 dd dd2 sl sl2 hsz) ⟨ho, ho2, h⟩
theorem op_catD : L2.OpR X (binaryOp .Add) (fun x y H Q => ∃ l b xs zs, x = .ref l ∧ y = .ref b ∧ SqL X.K H l xs ∧ SqL X.K H b zs ∧ xs.length + zs.length ≤ sizeLine ∧ ∀ p, H p = none → Q (.ref p) (upd H p (.lst (xs ++ zs)))) := by
  intro pins s σ H x y v u Q I rx ry h
  obtain ⟨l, b, xs, zs, rfl, rfl, hH, hB, hz, q⟩ := h
  cases rx
  cases ry
  obtain ⟨its, r, p, z⟩ := I.list hH
  obtain ⟨its2, r2, p2, z2⟩ := I.list hB
  have hl := r.length
  have hl2 := r2.length
  have ea : its.toArray ++ its2.toArray = (its ++ its2).toArray := by simp
  refine add_listsP p.isList p2.isList ?_ (by rw [List.size_toArray, List.size_toArray]; omega)
  rw [ea]
  exact ⟨.ref _, _, I.lnew (t' := s.toks) (r.append r2) (by rw [List.length_append]; omega), rfl, q _ I.fresh⟩
theorem pd_add (ha : PD X m a f) (hb : PD X m b g) : PD X m (.BinOp a .Add b pos) (eAdd f g) := PD.mk <| PE.of (L2.pe_op (L2.OpR.or L2.op_add op_catD) ha.h hb.h) fun σ H Q ⟨BF, BH, F, env, L, d, S, e, q⟩ => by
  unfold eAdd eF2 at e
  split at e
  · rename_i x y h1 h2
    unfold fAdd at e
    split at e
    · cases e
      exact two S h1 h2 fun v w F' H' z r1 r2 => .inl ⟨_, _, rep_int r1, rep_int r2, q _ F' H' z (by simp [Rep])⟩
    · split at e
      · rename_i xs ys hl
        cases e
        refine two S h1 h2 fun v w F' H' z r1 r2 => .inr ?_
        simp only [Rep] at r1 r2
        obtain ⟨p1, vs, rfl, s1, t1⟩ := r1
        obtain ⟨p2, ws, rfl, s2, t2⟩ := r2
        have hh := hpM_r (BH := BH) z.fh m
        refine ⟨p1, p2, vs, ws, rfl, rfl, hh.seq s1, hh.seq s2, ?_, fun p hp => ?_⟩
        · rw [← t1.length, ← t2.length]; exact Nat.le_trans hl lim_le
        · have y := Ext.laid (o := HO.lst (vs ++ ws)) z.fh hp
          refine q (.ref p) _ _ (z.trans y) ?_
          simp only [Rep]
          refine ⟨p, _, rfl, .inl (.inl ?_), Reps.mono (hpM_ext y m) _ _ (t1.append t2)⟩
          cases m with
          | r => exact upd_same
          | k => exact upd_same
          | f => show cut _ _ p = _; rw [cut_get (S.s0.free (z.hh.free hp))]; exact upd_same
      · cases e
    · cases e
  · cases e
theorem atI_of {K : PySem.W.Frag} {H : Hp} {ds : List D} {vs : List V} {i : Int} {d : D} (r : Reps K H ds vs) (h : atD ds i = some d) : ∃ v, L2.atI vs i = some v ∧ Rep K H d v := by
  unfold atD at h
  unfold L2.atI
  rw [← r.length]
  show ∃ v, ((ixN ds.length i).bind fun j => vs[j]?) = some v ∧ _
  cases e : ixN ds.length i with
  | none => rw [e] at h; cases h
  | some j =>
    rw [e] at h
    obtain ⟨v, h1, h2⟩ := r.get (i := j) h
    exact ⟨v, h1, h2⟩
theorem pd_ix (ha : PD X m a f) (hb : PD X m1 b g) (hs : L2.PlainIx b := by exact fun _ _ => rfl) : PD X m (.Subscript a b pos) (eIx f g) := PD.mk <| PE.of (L2.pe_ix L2.ix_seq ha.h hb.h hs) fun σ H Q ⟨BF, BH, F, env, L, d, S, e, q⟩ => by
  unfold eIx eF2 at e
  split at e
  · rename_i x y h1 h2
    refine two S h1 h2 fun v w F' H' z r1 r2 => ?_
    have hh := hpM_r (BH := BH) z.fh m
    unfold fIx at e
    split at e
    · simp only [Rep] at r1
      obtain ⟨p, vs, rfl, s1, t1⟩ := r1
      obtain ⟨v', k1, k2⟩ := atI_of t1 e
      exact .inl ⟨p, vs, _, v', rfl, rep_int r2, hh.seq s1, k1, q _ F' H' z k2⟩
    · simp only [Rep] at r1
      obtain ⟨p, vs, rfl, s1, t1⟩ := r1
      obtain ⟨v', k1, k2⟩ := atI_of t1 e
      exact .inr (.inl ⟨p, vs, _, v', rfl, rep_int r2, seqT hh s1, k1, q _ F' H' z k2⟩)
    · cases e
  · cases e
theorem pd_B1 {x : Str} {id : String} {p : Pos} {r : List V → Hp → L2.VK → Prop} {φ : D → Option D} (hc : L2.CallR X (.builtin id) r) (hm : X.mg x = none) (hv : bootBuiltins x = some (.builtin id))
    (hφ : ∀ d y H' v (Q : V → Hp → Prop), φ d = some y → Rep X.K H' d v → (∀ w, Rep X.K H' y w → Q w H') → r [v] H' Q ∧ scalD y = true)
    (ha : PD X m1 a f) (hg : X.env.kindOf x = some .globalImplicit := by kernel_rfl) (hn : x ≠ "__name__" := by decide) (hdb : (x == ("__debug__" : Str)) = false := by kernel_rfl) (hs : nst a = true := by rfl) : PD X m (.Call (.Name x p) [a] [] pos) (eF1 φ f) :=
  PD.mk <| PE.of (L2.pe_callB hc hg hm hv (L2.pa_cons ha.r.h L2.pa_nil (star_one hs)) hn hdb (star_cons hs) rfl) fun σ H Q ⟨BF, BH, F, env, L, d, S, e, q⟩ => by
    unfold eF1 at e
    split at e
    · rename_i y h1
      refine ⟨BF, BH, F, env, L, y, S, h1, fun v F' H' z r1 => ?_⟩
      have sc := (hφ y d H' v (fun _ _ => True) e r1 (fun _ _ => trivial)).2
      exact (hφ y d H' v Q e r1 fun w rw => q w F' H' z (rw.scal sc)).1
    · cases e
theorem pd_len {p : Pos} (T : Bt X.mg) (ha : PD X m1 a f) (hg : X.env.kindOf "len" = some .globalImplicit := by kernel_rfl) (hs : nst a = true := by rfl) : PD X m (.Call (.Name "len" p) [a] [] pos) (eF1 fLen f) :=
  pd_B1 L2.call_len_seq T.len PySem.boot_len (fun d y H' v Q e r k => by
    unfold fLen at e
    split at e
    · cases e
      simp only [Rep] at r
      obtain ⟨p, vs, rfl, s1, t1⟩ := r
      exact ⟨⟨p, vs, rfl, .inl s1, k _ (by simp [Rep, t1.length])⟩, rfl⟩
    · cases e
      simp only [Rep] at r
      obtain ⟨p, vs, rfl, s1, t1⟩ := r
      exact ⟨⟨p, vs, rfl, .inr s1, k _ (by simp [Rep, t1.length])⟩, rfl⟩
    · cases e) ha hg (by decide) (by decide) hs
theorem call_allD (hc : X.calm = true) : L2.CallR X (.builtin "all") (fun xs H Q => ∃ (p : Addr) (bs : List Bool), xs = [.ref p] ∧ SqL X.K H p (bs.map V.bl) ∧ Q (.bl (bs.all fun b => b)) H) := by
  intro pins s σ H xs us Q I r h
  obtain ⟨p, bs, rfl, hq, q⟩ := h
  obtain ⟨u, rfl, ru⟩ := r.one
  cases ru
  obtain ⟨its, rv, pl, hz⟩ := I.list hq
  have hlt : p < s.heap.objs.size := by obtain ⟨o, e, _⟩ := pl.isList; exact Heap.lt_size e
  refine call_all_walk (wpAny_pyIter_list pl.isList ?_)
  have hlen : its.length = bs.length := by have := rv.length; rw [List.length_map] at this; exact this.symm
  have tru : ∀ (j : Nat) (v : Value), its[j]? = some v → v = .bool (bs.getD j true) := fun j v hj => by
    have hjl : j < bs.length := by rw [← hlen]; exact (List.getElem?_eq_some_iff.mp hj).1
    obtain ⟨w, h1, h2⟩ := rv.get (i := j) (x := V.bl bs[j]) (by simp [hjl])
    rw [hj] at h1; cases h1
    have : v = .bool bs[j] := h2
    rw [this]; simp [List.getD, hjl]
  refine ⟨s.heap.objs.size, _, _, _, _, _, fun j => bs.getD j true, rfl, Walks.list (show (X.A.in1).handled = none from I.ok.hd hc) s.heap.objs.size p (Nat.ne_of_lt hlt) its.toArray, ⟨⟨_, Heap.get?_push_size _ rfl, rfl, rfl⟩, pl.isList.push _⟩, ?_, fun h' tk hk => ?_⟩
  · intro i v s' Q' E' hP hq'
    have e := tru i v (by simpa using hP)
    subst e
    exact wpAny_truthy_bool hq'
  · have e : (List.range its.toArray.size).all (fun j => bs.getD j true) = bs.all fun b => b := by
      rw [List.size_toArray, hlen]
      clear tru hlen rv hq q hz
      induction bs with
      | nil => rfl
      | cons b bs ih => rw [List.length_cons, List.range_succ_eq_map, List.all_cons, List.all_map]; rw [List.all_cons]; congr 1
    rw [e]
    refine ⟨.bl _, H, I.kept (h' := h') (t' := tk) fun b o eo => ?_, rfl, q⟩
    exact hk b o (by simp; exact Nat.ne_of_lt (Heap.lt_size eo)) (Heap.get?_push_of_some _ eo)
theorem allB_inv {K : PySem.W.Frag} {H : Hp} : ∀ {xs : List D} {vs : List V} {b : Bool}, allB xs = some b → Reps K H xs vs → ∃ bs : List Bool, vs = bs.map V.bl ∧ (bs.all fun b => b) = b
  | [], vs, b, h, r => by simp only [Reps] at r; subst r; cases h; exact ⟨[], rfl, rfl⟩
  | .bl c :: xs, vs, b, h, r => by
    simp only [Reps] at r
    obtain ⟨v, t, rfl, h1, h2⟩ := r
    simp only [allB] at h
    cases e : allB xs with
    | none => rw [e] at h; cases h
    | some d =>
      rw [e] at h
      cases h
      obtain ⟨bs, rfl, rfl⟩ := allB_inv e h2
      obtain rfl := rep_bl h1
      exact ⟨c :: bs, rfl, rfl⟩
  | .non :: _, _, _, h, _ => by simp [allB] at h
  | .int _ :: _, _, _, h, _ => by simp [allB] at h
  | .str _ :: _, _, _, h, _ => by simp [allB] at h
  | .lst _ :: _, _, _, h, _ => by simp [allB] at h
  | .tup _ :: _, _, _, h, _ => by simp [allB] at h
theorem pd_all {p : Pos} (T : Bt X.mg) (ha : PD X m1 a f) (hc : X.calm = true := by rfl) (hg : X.env.kindOf "all" = some .globalImplicit := by kernel_rfl) (hs : nst a = true := by rfl) : PD X m (.Call (.Name "all" p) [a] [] pos) (eF1 fAll f) :=
  pd_B1 (call_allD hc) T.all boot_all (fun d y H' v Q e r k => by
    unfold fAll at e
    split at e
    · split at e
      · rename_i b hb
        cases e
        simp only [Rep] at r
        obtain ⟨p, vs, rfl, s1, t1⟩ := r
        obtain ⟨bs, rfl, rfl⟩ := allB_inv hb t1
        exact ⟨⟨p, bs, rfl, s1, k _ (by simp [Rep])⟩, rfl⟩
      · cases e
    · cases e) ha hg (by decide) (by decide) hs
def tyN : Ty → String
  | .int => "int" | .bool => "bool" | .str => "str" | .list => "list" | .tuple => "tuple"
theorem kit_int {K : PySem.W.Frag} (t : Ty) : PySem.W.kitOne K (.type "int") (.type (tyN t)) = some (match t with | .int => true | _ => false) := by cases t <;> with_unfolding_all rfl
theorem kit_bool {K : PySem.W.Frag} (t : Ty) : PySem.W.kitOne K (.type "bool") (.type (tyN t)) = some (match t with | .int => true | .bool => true | _ => false) := by cases t <;> with_unfolding_all rfl
theorem kit_str {K : PySem.W.Frag} (t : Ty) : PySem.W.kitOne K (.type "str") (.type (tyN t)) = some (match t with | .str => true | _ => false) := by cases t <;> with_unfolding_all rfl
theorem kit_none {K : PySem.W.Frag} (t : Ty) : PySem.W.kitOne K (.type "NoneType") (.type (tyN t)) = some false := by cases t <;> with_unfolding_all rfl
theorem kit_list {K : PySem.W.Frag} (t : Ty) : PySem.W.kitOne K (.type "list") (.type (tyN t)) = some (match t with | .list => true | _ => false) := by cases t <;> with_unfolding_all rfl
theorem kit_tuple {K : PySem.W.Frag} (t : Ty) : PySem.W.kitOne K (.type "tuple") (.type (tyN t)) = some (match t with | .tuple => true | _ => false) := by cases t <;> with_unfolding_all rfl
end
end PV
set_option linter.all false
set_option Elab.async false
set_option maxRecDepth 100000
set_option maxHeartbeats 4000000
namespace PV
open PySem PySem.Spec PyProof.Rows
open L2 (V Hp HO Vals SqL SqT Same upd Cx PE PT PW PA PS PSs TE TT TA TS Inv RelV upd_same upd_ne ne_of_none)
section
variable {X : Cx} {m m1 m2 m3 : Md} {a b c e : Expr} {es : List Expr} {f g h : Ex} {fs : List Ex} {t u : Tx} {pos : Pos}
theorem call_isD (t : Ty) : L2.CallR X (.builtin "isinstance") (fun xs H Q => ∃ (d : D) (v : V), xs = [v, .ty (tyN t)] ∧ Rep X.K H d v ∧ Q (.bl (isTy t d)) H) := by
  intro pins s σ H xs us Q I r h
  obtain ⟨d, v, rfl, hd, q⟩ := h
  obtain ⟨u, w, rfl, ru, rw'⟩ := r.two
  obtain rfl : w = Value.type (tyN t) := rw'
  have fin : ∀ {k : Bool}, k = isTy t d → ∀ tk, L2.EP X pins σ Q (.bool k) { s with toks := tk } := fun {k} e tk => ⟨.bl k, H, I.tok tk, rfl, by rw [e]; exact q⟩
  cases d with
  | non =>
    simp only [Rep] at hd; subst hd; cases ru
    exact PySem.W.kia_one PySem.W.kitx_none I.kIn True.intro (kit_none t) (fun z => nomatch z) (fin (by cases t <;> rfl))
  | bl b =>
    simp only [Rep] at hd; subst hd; cases ru
    exact PySem.W.kia_one PySem.W.kitx_bool I.kIn True.intro (kit_bool t) (fun z => nomatch z) (fin (by cases t <;> rfl))
  | int i =>
    simp only [Rep] at hd; subst hd; obtain ⟨tk, rfl⟩ := ru
    exact PySem.W.kia_one PySem.W.kitx_int I.kIn True.intro (kit_int t) (fun z => nomatch z) (fin (by cases t <;> rfl))
  | str i =>
    simp only [Rep] at hd; subst hd; obtain ⟨tk, rfl⟩ := ru
    exact PySem.W.kia_one PySem.W.kitx_str I.kIn True.intro (kit_str t) (fun z => nomatch z) (fin (by cases t <;> rfl))
  | lst ds =>
    simp only [Rep] at hd
    obtain ⟨p, vs, rfl, hs, _⟩ := hd
    cases ru
    obtain ⟨its, _, pl, _⟩ := I.list hs
    obtain ⟨o, n, h1, h2, _⟩ := pl
    exact PySem.W.kia_one PySem.W.kitx_list I.kIn ⟨o, h1, h2⟩ (kit_list t) (fun z => nomatch z) (fin (by cases t <;> rfl))
  | tup ds =>
    simp only [Rep] at hd
    obtain ⟨p, vs, rfl, hs, _⟩ := hd
    cases ru
    obtain ⟨its, _, pl, _⟩ := I.tuple hs
    obtain ⟨o, h1, h2, _⟩ := pl
    exact PySem.W.kia_one PySem.W.kitx_tuple I.kIn ⟨o, h1, h2⟩ (kit_tuple t) (fun z => nomatch z) (fin (by cases t <;> rfl))
theorem pd_isT (t : Ty) {p p2 : Pos} {x : Str} (T : Bt X.mg) (hx : X.mg x = none) (hb : bootBuiltins x = some (.type (tyN t))) (ha : PD X m1 a f) (hg : X.env.kindOf "isinstance" = some .globalImplicit := by kernel_rfl) (hg2 : X.env.kindOf x = some .globalImplicit := by kernel_rfl)
    (hn : x ≠ "__name__" := by decide) (hd : (x == ("__debug__" : Str)) = false := by kernel_rfl)
    (hs : nst a = true := by rfl) : PD X m (.Call (.Name "isinstance" p) [a, .Name x p2] [] pos) (eF1 (fIs t) f) :=
  PD.mk <| PE.of (L2.pe_callB (call_isD t) hg T.isinstance boot_isinstance (L2.pa_cons ha.r.h (L2.pa_cons (L2.pe_bltn (v := .ty (tyN t)) hg2 hx hb rfl hn hd) L2.pa_nil (star_one rfl)) (star_cons hs)) (by decide) (by decide) (star_cons hs) rfl) fun σ H Q ⟨BF, BH, F, env, L, d, S, e, q⟩ => by
    unfold eF1 at e
    split at e
    · rename_i y h1
      cases e
      exact ⟨BF, BH, F, env, L, y, S, h1, fun v F' H' z r1 => ⟨y, v, rfl, r1, q _ F' H' z (by simp [Rep])⟩⟩
    · cases e
theorem pd_is_int {p p2 : Pos} (T : Bt X.mg) (ha : PD X m1 a f) (hg : X.env.kindOf "isinstance" = some .globalImplicit := by kernel_rfl) (hg2 : X.env.kindOf "int" = some .globalImplicit := by kernel_rfl) (hs : nst a = true := by rfl) : PD X m (.Call (.Name "isinstance" p) [a, .Name "int" p2] [] pos) (eF1 (fIs .int) f) :=
  pd_isT .int T T.int (by decide +kernel) ha hg hg2 (by decide) (by decide) hs
theorem pd_is_bool {p p2 : Pos} (T : Bt X.mg) (ha : PD X m1 a f) (hg : X.env.kindOf "isinstance" = some .globalImplicit := by kernel_rfl) (hg2 : X.env.kindOf "bool" = some .globalImplicit := by kernel_rfl) (hs : nst a = true := by rfl) : PD X m (.Call (.Name "isinstance" p) [a, .Name "bool" p2] [] pos) (eF1 (fIs .bool) f) :=
  pd_isT .bool T T.bool (by decide +kernel) ha hg hg2 (by decide) (by decide) hs
theorem pd_is_str {p p2 : Pos} (T : Bt X.mg) (ha : PD X m1 a f) (hg : X.env.kindOf "isinstance" = some .globalImplicit := by kernel_rfl) (hg2 : X.env.kindOf "str" = some .globalImplicit := by kernel_rfl) (hs : nst a = true := by rfl) : PD X m (.Call (.Name "isinstance" p) [a, .Name "str" p2] [] pos) (eF1 (fIs .str) f) :=
  pd_isT .str T T.str (by decide +kernel) ha hg hg2 (by decide) (by decide) hs
theorem pd_is_list {p p2 : Pos} (T : Bt X.mg) (ha : PD X m1 a f) (hg : X.env.kindOf "isinstance" = some .globalImplicit := by kernel_rfl) (hg2 : X.env.kindOf "list" = some .globalImplicit := by kernel_rfl) (hs : nst a = true := by rfl) : PD X m (.Call (.Name "isinstance" p) [a, .Name "list" p2] [] pos) (eF1 (fIs .list) f) :=
  pd_isT .list T T.list (by decide +kernel) ha hg hg2 (by decide) (by decide) hs
theorem po_list {p : Pos} (T : Bt X.mg) (ha : PD X m a f) (hg : X.env.kindOf "list" = some .globalImplicit := by kernel_rfl) (hs : nst a = true := by rfl) : PDo X m (.Call (.Name "list" p) [a] [] pos) (eF1 fList f) :=
  PE.of (L2.pe_callTy L2.call_list_of hg T.list (by decide +kernel) (L2.pa_cons ha.h L2.pa_nil (star_one hs)) (by decide) (by decide) (star_cons hs) rfl) fun σ H Q ⟨BF, BH, F, env, L, ds, S, e, q⟩ => by
    unfold eF1 at e
    split at e
    · rename_i y h1
      refine ⟨BF, BH, F, env, L, y, S, h1, fun v F' H' z r1 => ?_⟩
      have hm := hpM_r (BH := BH) z.fh m
      unfold fList at e
      split at e
      · cases e
        simp only [Rep] at r1
        obtain ⟨p, vs, rfl, s1, t1⟩ := r1
        refine ⟨p, vs, rfl, .inl (hm.seq s1), fun l hl => ?_⟩
        obtain ⟨y, h0, h2, s⟩ := own_new (m := m) S z hl (HO.lst vs)
        exact q l vs F' _ y h0 upd_same h2 (Reps.mono s _ _ t1)
      · cases e
        simp only [Rep] at r1
        obtain ⟨p, vs, rfl, s1, t1⟩ := r1
        refine ⟨p, vs, rfl, .inr (seqT hm s1), fun l hl => ?_⟩
        obtain ⟨y, h0, h2, s⟩ := own_new (m := m) S z hl (HO.lst vs)
        exact q l vs F' _ y h0 upd_same h2 (Reps.mono s _ _ t1)
      · cases e
    · cases e
theorem fList_inv {env : Env} {d : D} (h : eF1 fList f env = some d) : ∃ ds, d = .lst ds := by
  unfold eF1 at h
  split at h
  · unfold fList at h
    split at h
    · cases h; exact ⟨_, rfl⟩
    · cases h; exact ⟨_, rfl⟩
    · cases h
  · cases h
theorem pd_list {p : Pos} (T : Bt X.mg) (ha : PD X m a f) (hg : X.env.kindOf "list" = some .globalImplicit := by kernel_rfl) (hs : nst a = true := by rfl) : PD X m (.Call (.Name "list" p) [a] [] pos) (eF1 fList f) :=
  (po_list T ha hg hs).d fun env d h => fList_inv h
theorem idxD_inv {x : D} : ∀ {ys : List D} {j : Nat}, idxD x ys = some j → j < ys.length ∧ (∀ h : j < ys.length, eqD ys[j] x = true) ∧ ∀ i (h : i < ys.length), i < j → eqD ys[i] x = false
  | [], j, h => by simp [idxD] at h
  | y :: ys, j, h => by
    simp only [idxD] at h
    split at h
    · rename_i hy
      cases h
      exact ⟨by simp, fun _ => hy, fun i _ hi => by omega⟩
    · rename_i hy
      cases e : idxD x ys with
      | none => rw [e] at h; cases h
      | some k =>
        rw [e] at h
        cases h
        obtain ⟨h1, h2, h3⟩ := idxD_inv e
        refine ⟨by simpa using h1, fun _ => by simpa using h2 h1, fun i hi hik => ?_⟩
        cases i with
        | zero => simpa using hy
        | succ i => simpa using h3 i (by simpa using hi) (by omega)
theorem mt_indexD (hu : X.A.units + 64 < cLine) : L2.MtR X "list.index" (fun x xs H Q => ∃ (dx : D) (y : V) (ys : List D) (j : Nat), xs = [y] ∧ Rep X.K H (.lst ys) x ∧ Rep X.K H dx y ∧ D.deps ys ≤ 8 ∧ idxD dx ys = some j ∧ Q (.int j) H) := by
  intro pins s σ H x xs v us Q I rx rv h
  obtain ⟨dx, y, ys, j, rfl, h1, h2, hd, hj, q⟩ := h
  obtain ⟨u, rfl, ru⟩ := rv.one
  have hx := rep_hr I _ _ _ h2 ru
  have hz : ys.length ≤ sizeLine := by
    simp only [Rep] at h1
    obtain ⟨p, vs, rfl, hs, t⟩ := h1
    obtain ⟨_, _, _, z⟩ := I.list hs
    rw [t.length]; exact z
  have hy := rep_hr I _ _ _ h1 rx
  simp only [Hr] at hy
  obtain ⟨p, its, rfl, hl, hr⟩ := hy
  have hin : X.A.in1.units + D.deps ys < cLine := by show X.A.units + 1 + _ < _; omega
  have hlen := hr.length
  obtain ⟨j1, j2, j3⟩ := idxD_inv hj
  have js : (j : Int) < 2 ^ 63 - 1 := by rw [sizeLine_eq] at hz; omega
  obtain ⟨⟨cls, dd, data, sl⟩, ho, hc, n, hdt⟩ := id hl
  simp only at hc hdt
  subst hc hdt
  refine call_meets PySem.F.slot_list_index ⟨_, ho, rfl⟩ PySem.F.entry_list_index (PySem.F.args_list_index_2 _ _)
    (SeqAt.list_indexAt p its.toArray n dd sl u (eqH s dx) j (by simp; omega) js ?_ ?_) ⟨ho, fun y hy => mem_eqH hx hin hr y (by simpa using hy), ?_⟩
  all_goals first
    | exact ⟨.int j, H, I.tok _, ⟨_, rfl⟩, q⟩
    | skip
  · have e := hr.get j1 (by omega)
    have := eqH_of (x := dx) e
    simp only [List.getElem_toArray]
    rw [this]
    exact j2 j1
  · intro i hi hij
    have i1 : i < ys.length := by rw [hlen]; simpa using hi
    have e := hr.get i1 (by omega)
    have := eqH_of (x := dx) e
    simp only [List.getElem_toArray]
    rw [this]
    exact j3 i i1 hij
end
end PV
set_option linter.all false
set_option Elab.async false
set_option maxRecDepth 100000
set_option maxHeartbeats 4000000
namespace PV
open PySem PySem.Spec PyProof.Rows
open L2 (V Hp HO Vals SqL SqT Same upd Cx PE PT PW PA PS PSs TE TT TA TS Inv RelV upd_same upd_ne ne_of_none)
def putL (L : Nat → List Addr) (i : Nat) (l : List Addr) : Nat → List Addr := fun j => if j = i then l else L j
theorem putL_same {L : Nat → List Addr} {i : Nat} {l : List Addr} : putL L i l i = l := by unfold putL; rw [if_pos rfl]
theorem putL_ne {L : Nat → List Addr} {i j : Nat} {l : List Addr} (h : j ≠ i) : putL L i l j = L j := by unfold putL; rw [if_neg h]
section
variable {K : PySem.W.Frag} {BF BH F H : Hp} {σ : L2.St} {env : Env} {L : Nat → List Addr}
theorem SOk.toExt (S : SOk K BF BH F H σ env L) : Ext BF BH F H := ⟨S.s0, S.f0, S.fd, S.fh⟩
theorem SOk.set (S : SOk K BF BH F H σ env L) (i : Nat) {s : Sl} {v : V} {l : List Addr} (hs : SlOk K BH F H s (some v) l) (ho : ∀ a ∈ l, F a = none ∧ BH a = none ∧ H a ≠ none) (hd : ∀ a ∈ l, ∀ j, j ≠ i → a ∉ L j) :
    SOk K BF BH F H (σ.set i (some v)) (env.set i s) (putL L i l) where
  s0 := S.s0
  f0 := S.f0
  fh := S.fh
  fd := S.fd
  ow := fun j a h => by
    by_cases hj : j = i
    · subst hj; rw [putL_same] at h; exact ho a h
    · rw [putL_ne hj] at h; exact S.ow j a h
  dj := fun j k a h1 h2 => by
    by_cases hj : j = i
    · subst hj
      rw [putL_same] at h1
      by_cases hk : k = j
      · exact hk.symm
      · rw [putL_ne hk] at h2; exact absurd h2 (hd a h1 k hk)
    · rw [putL_ne hj] at h1
      by_cases hk : k = i
      · subst hk; rw [putL_same] at h2; exact absurd h1 (hd a h2 j hj)
      · rw [putL_ne hk] at h2; exact S.dj j k a h1 h2
  len := by rw [List.length_set, List.length_set]; exact S.len
  sl := fun j s' h => by
    by_cases hj : i = j
    · subst hj
      have hlt : i < env.length := by have := (List.getElem?_eq_some_iff.mp h).1; rwa [List.length_set] at this
      rw [List.getElem?_set_self hlt] at h
      cases h
      exact ⟨some v, List.getElem?_set_self (by rw [S.len]; exact hlt), by rw [putL_same]; exact hs⟩
    · rw [List.getElem?_set_ne hj] at h
      obtain ⟨ov, h1, h2⟩ := S.sl j s' h
      exact ⟨ov, by rw [List.getElem?_set_ne hj]; exact h1, by rw [putL_ne (Ne.symm hj)]; exact h2⟩
theorem SOk.setSh (S : SOk K BF BH F H σ env L) (i : Nat) {d : D} {v : V} (r : Rep K F d v) : SOk K BF BH F H (σ.set i (some v)) (env.set i (.sh d)) (putL L i []) :=
  S.set i ⟨v, rfl, r⟩ (fun a h => by cases h) (fun a h => by cases h)
def frzH (F H : Hp) (l : List Addr) : Hp := fun b => if b ∈ l then H b else F b
theorem frz_in {F H : Hp} {l : List Addr} {b : Addr} (h : b ∈ l) : frzH F H l b = H b := by unfold frzH; rw [if_pos h]
theorem frz_out {F H : Hp} {l : List Addr} {b : Addr} (h : b ∉ l) : frzH F H l b = F b := by unfold frzH; rw [if_neg h]
theorem SOk.frz (S : SOk K BF BH F H σ env L) (i : Nat) {s s' : Sl} (he : env[i]? = some s) (hs : ∀ ov, SlOk K BH F H s ov (L i) → Same F (frzH F H (L i)) → SlOk K BH (frzH F H (L i)) H s' ov []) :
    SOk K BF BH (frzH F H (L i)) H σ (env.set i s') (putL L i []) := by
  have ff : Same F (frzH F H (L i)) := fun b o h => by
    by_cases hb : b ∈ L i
    · rw [(S.ow i b hb).1] at h; cases h
    · rw [frz_out hb]; exact h
  refine ⟨S.s0, S.f0.trans ff, fun b o h => ?_, fun b o h => ?_, fun j a h => ?_, fun j k a h1 h2 => ?_, by rw [List.length_set]; exact S.len, fun j t h => ?_⟩
  · by_cases hb : b ∈ L i
    · rw [frz_in hb] at h; exact h
    · rw [frz_out hb] at h; exact S.fh _ _ h
  · by_cases hb : b ∈ L i
    · exact .inr (S.ow i b hb).2.1
    · rw [frz_out hb] at h; exact S.fd _ _ h
  · by_cases hj : j = i
    · subst hj; rw [putL_same] at h; cases h
    · rw [putL_ne hj] at h
      obtain ⟨h1, h2, h3⟩ := S.ow j a h
      exact ⟨by rw [frz_out fun z => hj (S.dj j i a h z)]; exact h1, h2, h3⟩
  · by_cases hj : j = i
    · subst hj; rw [putL_same] at h1; cases h1
    · by_cases hk : k = i
      · subst hk; rw [putL_same] at h2; cases h2
      · rw [putL_ne hj] at h1; rw [putL_ne hk] at h2; exact S.dj j k a h1 h2
  · by_cases hj : i = j
    · subst hj
      have hlt : i < env.length := (List.getElem?_eq_some_iff.mp he).1
      rw [List.getElem?_set_self hlt] at h
      cases h
      obtain ⟨ov, h1, h2⟩ := S.sl i s he
      exact ⟨ov, h1, by rw [putL_same]; exact hs ov h2 ff⟩
    · rw [List.getElem?_set_ne hj] at h
      obtain ⟨ov, h1, h2⟩ := S.sl j t h
      exact ⟨ov, h1, by rw [putL_ne (Ne.symm hj)]; exact h2.ext ff fun a _ o z => z⟩
theorem SOk.frzSame (S : SOk K BF BH F H σ env L) (i : Nat) : Same F (frzH F H (L i)) := fun b o h => by
  by_cases hb : b ∈ L i
  · rw [(S.ow i b hb).1] at h; cases h
  · rw [frz_out hb]; exact h
theorem SOk.own (S : SOk K BF BH F H σ env L) {i : Nat} {a : Addr} (ha : a ∈ L i) (o : HO) {s' : Sl} (hs : ∀ s ov, env[i]? = some s → σ[i]? = some ov → SlOk K BH F H s ov (L i) → SlOk K BH F (upd H a o) s' ov (L i)) :
    SOk K BF BH F (upd H a o) σ (env.set i s') L := by
  obtain ⟨fa, ba, ha'⟩ := S.ow i a ha
  refine ⟨fun b u h => ?_, S.f0, fun b u h => ?_, S.fd, fun j c h => ?_, S.dj, by rw [List.length_set]; exact S.len, fun j t h => ?_⟩
  · rw [upd_ne (ne_of_none h ba)]; exact S.s0 _ _ h
  · rw [upd_ne (ne_of_none h fa)]; exact S.fh _ _ h
  · obtain ⟨h1, h2, h3⟩ := S.ow j c h
    refine ⟨h1, h2, ?_⟩
    by_cases hc : c = a
    · subst hc; rw [upd_same]; simp
    · rw [upd_ne hc]; exact h3
  · by_cases hj : i = j
    · subst hj
      have hlt : i < env.length := by have := (List.getElem?_eq_some_iff.mp h).1; rwa [List.length_set] at this
      rw [List.getElem?_set_self hlt] at h
      cases h
      obtain ⟨ov, h1, h2⟩ := S.sl i env[i] (by simp [hlt])
      exact ⟨ov, h1, hs _ _ (by simp [hlt]) h1 h2⟩
    · rw [List.getElem?_set_ne hj] at h
      obtain ⟨ov, h1, h2⟩ := S.sl j t h
      refine ⟨ov, h1, h2.ext (.refl _) fun c hc u z => ?_⟩
      have hca : c ≠ a := fun e => by subst e; exact hj (S.dj i j c ha hc)
      rw [upd_ne hca]
      exact z
end
abbrev RetP := Hp → Hp → Hp → D → V → Prop
def rk (K : PySem.W.Frag) (m : Md) : RetP := fun BH F' H' d v => Rep K (hpM BH F' H' m) d v
def rT (K : PySem.W.Frag) : RetP := fun BH F' H' d v => ∃ a as rs, d = .lst (rs.map .lst) ∧ v = .ref a ∧ H' a = some (.lst (as.map .ref)) ∧ RowsOk K F' H' rs as ∧ (a :: as).Nodup ∧ ∀ b ∈ a :: as, BH b = none ∧ F' b = none
def After (D0 : L2.Ends) (m : RetP) (BH F' H' : Hp) (σ' : L2.St) : Out → Prop
  | .nx => D0.nx σ' H'
  | .bk => D0.bk σ' H'
  | .ct => D0.ct σ' H'
  | .rt d => ∀ v, m BH F' H' d v → D0.rt v H'
def tS (K : PySem.W.Frag) (m : RetP) (g : St) : TS := fun D0 σ H => ∃ BF BH F env L o env', SOk K BF BH F H σ env L ∧ g env = some (o, env') ∧
  ∀ F' H' σ' L', SOk K BF BH F' H' σ' env' L' → Same F F' → After D0 m BH F' H' σ' o
structure PSd (X : Cx) (m : RetP) (st : List Stmt) (g : St) : Prop where
  h : PSs X st (tS X.K m g)
structure PS1 (X : Cx) (m : RetP) (st : Stmt) (g : St) : Prop where
  h : PS X st (tS X.K m g)
section
variable {X : Cx} {m : RetP} {m1 m2 : Md} {st : Stmt} {rest : List Stmt} {g g2 : St} {e a b : Expr} {f fa fb : Ex} {t : Tx} {pos pos' : Pos}
theorem ps_nil : PSd X m [] sSkip := PSd.mk <| PSs.of L2.pss_nil fun D0 σ H ⟨BF, BH, F, env, L, o, env', S, e, k⟩ => by
  cases e; exact k F H σ L S (.refl _)
theorem pss_last (h : PS1 X m st g) : PSd X m [st] g := ⟨L2.pss_one h.h⟩
theorem pss_more (h1 : PS1 X m st g) (h2 : PSd X m rest g2) : PSd X m (st :: rest) (sSeq g g2) := PSd.mk <| PSs.of (L2.pss_cons h1.h h2.h) fun D0 σ H ⟨BF, BH, F, env, L, o, env', S, e, k⟩ => by
  unfold sSeq at e
  split at e
  · rename_i env1 h1
    exact ⟨BF, BH, F, env, L, .nx, env1, S, h1, fun F' H' σ' L' S' s' => ⟨BF, BH, F', env1, L', o, env', S', e, fun F2 H2 σ2 L2 S2 s2 => k F2 H2 σ2 L2 S2 (s'.trans s2)⟩⟩
  · rename_i r hne
    cases hr : g env with
    | none => rw [hr] at e; cases e
    | some p =>
      obtain ⟨o1, e1⟩ := p
      rw [hr] at e
      cases e
      refine ⟨BF, BH, F, env, L, o, env', S, hr, fun F' H' σ' L' S' s' => ?_⟩
      have kk := k F' H' σ' L' S' s'
      cases o with
      | nx => exact absurd hr (hne _)
      | bk => exact kk
      | ct => exact kk
      | rt d => exact kk
theorem pss_ghost (i : Nat) {sts : List Stmt} (h2 : PSd X m sts g2) : PSd X m sts (sSeq (sFrz i) g2) := PSd.mk <| PSs.of h2.h fun D0 σ H ⟨BF, BH, F, env, L, o, env', S, e, k⟩ => by
  unfold sSeq sFrz at e
  cases he : env[i]? with
  | none => rw [he] at e; cases e
  | some s =>
    rw [he] at e
    cases s with
    | un => cases e
    | dc _ => cases e
    | jk _ => cases e
    | jl _ => cases e
    | nw ds =>
      have S' := S.frz i (s' := .fr (.lst ds)) he fun ov h ff => by
        obtain ⟨p, vs, rfl, hl, h3, r⟩ := h
        refine ⟨_, rfl, ?_⟩
        simp only [RepN]
        refine ⟨p, vs, rfl, ?_, RepsN.mono (cut_mono ff) _ _ r⟩
        rw [cut_get ((S.ow i p (by rw [hl]; simp)).2.1), frz_in (by rw [hl]; simp)]; exact h3
      exact ⟨BF, BH, _, _, _, o, env', S', e, fun F2 H2 σ2 L2 S2 s2 => k F2 H2 σ2 L2 S2 ((S.frzSame i).trans s2)⟩
    | sh d => exact ⟨BF, BH, F, env, L, o, env', S, e, k⟩
    | fr d => exact ⟨BF, BH, F, env, L, o, env', S, e, k⟩
    | ow ds =>
      have S' := S.frz i (s' := .sh (.lst ds)) he fun ov h ff => by
        obtain ⟨p, vs, rfl, hl, h3, r⟩ := h
        refine ⟨_, rfl, ?_⟩
        simp only [Rep]
        exact ⟨p, vs, rfl, .inl (.inl (by rw [frz_in (by rw [hl]; simp)]; exact h3)), Reps.mono ff _ _ r⟩
      exact ⟨BF, BH, _, _, _, o, env', S', e, fun F2 H2 σ2 L2 S2 s2 => k F2 H2 σ2 L2 S2 ((S.frzSame i).trans s2)⟩
    | tab rs =>
      have S' := S.frz i (s' := .sh (.lst (rs.map .lst))) he fun ov h ff => by
        obtain ⟨p, as, rfl, hl, nd, h3, r⟩ := h
        refine ⟨_, rfl, ?_⟩
        simp only [Rep]
        refine ⟨p, _, rfl, .inl (.inl (by rw [frz_in (by rw [hl]; simp)]; exact h3)), ?_⟩
        have r' : RowsOk X.K (frzH F H (L i)) (frzH F H (L i)) rs as := r.mono ff fun b hb o z => by rw [frz_in (by rw [hl]; exact List.mem_cons_of_mem _ hb)]; exact z
        exact r'.reps (.refl _)
      exact ⟨BF, BH, _, _, _, o, env', S', e, fun F2 H2 σ2 L2 S2 s2 => k F2 H2 σ2 L2 S2 ((S.frzSame i).trans s2)⟩
theorem ps_nev : PS1 X m st sNever := PS1.mk <| PS.of L2.ps_never fun D0 σ H ⟨BF, BH, F, env, L, o, env', S, e, k⟩ => by cases e
theorem ps_do (ha : PD X m1 e f) (hs : swapsWith e none pos.line X.env = pure false := by rfl) : PS1 X m (.Expr e pos) (sDo f) := PS1.mk <| PS.of (L2.ps_expr ha.h hs) fun D0 σ H ⟨BF, BH, F, env, L, o, env', S, e, k⟩ => by
  unfold sDo at e
  split at e
  · rename_i d h1
    cases e
    exact ⟨BF, BH, F, env, L, d, S, h1, fun v F' H' z r => k F' H' σ L (S.ext z) z.ff⟩
  · cases e
theorem ps_rete (ha : PD X m1 e f) : PS1 X (rk X.K m1) (.Return (some e) pos) (sRet f) := PS1.mk <| PS.of (L2.ps_ret ha.h) fun D0 σ H ⟨BF, BH, F, env, L, o, env', S, e, k⟩ => by
  unfold sRet at e
  split at e
  · rename_i d h1
    cases e
    exact ⟨BF, BH, F, env, L, d, S, h1, fun v F' H' z r => k F' H' σ L (S.ext z) z.ff v r⟩
  · cases e
theorem ps_iff {A B : List Stmt} (hc : PTd X e t) (ha : PSd X m A g) (hb : PSd X m B g2) : PS1 X m (.If e A B pos) (sIf t g g2) := PS1.mk <| PS.of (L2.ps_if hc ha.h hb.h) fun D0 σ H ⟨BF, BH, F, env, L, o, env', S, e, k⟩ => by
  unfold sIf at e
  split at e
  · rename_i h1
    exact ⟨BF, BH, F, env, L, true, S, h1, fun F' H' z => L2.iteT ⟨BF, BH, F', env, L, o, env', S.ext z, e, fun F2 H2 σ2 L2 S2 s2 => k F2 H2 σ2 L2 S2 (z.ff.trans s2)⟩⟩
  · rename_i h1
    exact ⟨BF, BH, F, env, L, false, S, h1, fun F' H' z => L2.iteF ⟨BF, BH, F', env, L, o, env', S.ext z, e, fun F2 H2 σ2 L2 S2 s2 => k F2 H2 σ2 L2 S2 (z.ff.trans s2)⟩⟩
  · cases e
theorem ps_sets (nd : X.N.Nodup) (i : Nat) {x : Str} (ha : PD X .k e f) (hi : X.N[i]? = some x := by kernel_rfl) (hx : locB X.env.scope x = true := by kernel_rfl) (hs : swapsWith e (some (.Name x pos')) pos.line X.env = pure false := by rfl)
    (hf : fnB X x = true := by kernel_rfl) : PS1 X m (.Assign [.Name x pos'] e pos) (sSet i f) :=
  PS1.mk <| PS.of (L2.ps_set nd hi (locB_ok hx) ha.h hs (fnB_ok hf)) fun D0 σ H ⟨BF, BH, F, env, L, o, env', S, e, k⟩ => by
    unfold sSet at e
    split at e
    · rename_i d h1
      cases e
      exact ⟨BF, BH, F, env, L, d, S, h1, fun v F' H' z r => k F' H' _ _ ((S.ext z).setSh i r) z.ff⟩
    · cases e
theorem own_set {K : PySem.W.Frag} {BF BH F F' H H' : Hp} {σ : L2.St} {env : Env} {L : Nat → List Addr} (S : SOk K BF BH F H σ env L) (z : Ext F H F' H') (i : Nat) {p : Addr} {vs : List V} {ds : List D} (h0 : H p = none) (h1 : H' p = some (.lst vs)) (h2 : F' p = none) (r : Reps K F' ds vs) :
    SOk K BF BH F' H' (σ.set i (some (.ref p))) (env.set i (.ow ds)) (putL L i [p]) :=
  (S.ext z).set i ⟨p, vs, rfl, rfl, h1, r⟩ (fun a h => by
    rw [List.mem_singleton] at h; subst h
    exact ⟨h2, S.s0.free h0, by rw [h1]; simp⟩) (fun a h j hj hm => by
    rw [List.mem_singleton] at h; subst h
    exact (S.ow j a hm).2.2 h0)
theorem ps_own (nd : X.N.Nodup) (i : Nat) {x : Str} (ha : PDo X .k e f) (hi : X.N[i]? = some x := by kernel_rfl) (hx : locB X.env.scope x = true := by kernel_rfl) (hs : swapsWith e (some (.Name x pos')) pos.line X.env = pure false := by rfl)
    (hf : fnB X x = true := by kernel_rfl) : PS1 X m (.Assign [.Name x pos'] e pos) (sOwn i f) :=
  PS1.mk <| PS.of (L2.ps_set nd hi (locB_ok hx) ha hs (fnB_ok hf)) fun D0 σ H ⟨BF, BH, F, env, L, o, env', S, e, k⟩ => by
    unfold sOwn at e
    split at e
    · rename_i ds h1
      cases e
      exact ⟨BF, BH, F, env, L, ds, S, h1, fun p vs F' H' z h0 h2 h3 r => k F' H' _ _ (own_set S z i h0 h2 h3 r) z.ff⟩
    · cases e
theorem tyV_ow {K : PySem.W.Frag} {H : Hp} {p : Addr} {vs : List V} (h : H p = some (.lst vs)) : L2.tyV K "list" (.ref p) H := .inl ⟨rfl, vs, .inl (.inl h)⟩
theorem sl_ow {K : PySem.W.Frag} {BF BH F H : Hp} {σ : L2.St} {env : Env} {L : Nat → List Addr} (S : SOk K BF BH F H σ env L) {i : Nat} {ds : List D} (h : env[i]? = some (.ow ds)) : ∃ p vs, σ[i]? = some (some (.ref p)) ∧ L i = [p] ∧ H p = some (.lst vs) ∧ Reps K F ds vs := by
  obtain ⟨ov, h1, h2⟩ := S.sl i _ h
  obtain ⟨p, vs, rfl, h3, h4, h5⟩ := h2
  exact ⟨p, vs, h1, h3, h4, h5⟩
theorem ow_upd {K : PySem.W.Frag} {BF BH F H : Hp} {σ : L2.St} {env : Env} {L : Nat → List Addr} (S : SOk K BF BH F H σ env L) {i : Nat} {ds ds' : List D} {p : Addr} {vs' : List V} (he : env[i]? = some (.ow ds)) (hl : L i = [p]) (hσ : σ[i]? = some (some (.ref p))) (r : Reps K F ds' vs') :
    SOk K BF BH F (upd H p (.lst vs')) σ (env.set i (.ow ds')) L :=
  S.own (i := i) (a := p) (by rw [hl]; simp) _ fun s ov h1 h2 h3 => by
    rw [hσ] at h2; cases h2
    exact ⟨p, vs', rfl, hl, upd_same, r⟩
theorem ps_app (i : Nat) {x : Str} {p1 p2 p3 p4 : Pos} (ha : PD X .k e f) (hN : X.N[i]? = some x := by kernel_rfl) (hv : visB X.env.scope x = true := by kernel_rfl) (hd : (x == ("__debug__" : Str)) = false := by kernel_rfl)
    (hcd : (x == ("__classdict__" : Str)) = false := by kernel_rfl) (hst : nst e = true := by rfl)
    (hbase : attributeBase (.Name x p1) "append" X.env (eval (.Name x p1) X.env) = eval (.Name x p1) X.env := by rfl)
    (hline : (p2.endLine == p3.line) = true := by rfl)
    (hsw : swapsWith (.Call (.Attribute (.Name x p1) "append" p2) [e] [] p3) none p4.line X.env = pure false := by rfl) :
    PS1 X m (.Expr (.Call (.Attribute (.Name x p1) "append" p2) [e] [] p3) p4) (sApp i f) :=
  PS1.mk <| PS.of (L2.ps_expr (L2.pe_bm PySem.F.plainAttrs_list PySem.F.slot_list_append PySem.F.type_list_append L2.mt_append (L2.pe_var hN (visB_ok hv) hd hcd) (L2.pa_cons ha.h L2.pa_nil (star_one hst)) hbase (by rw [star_few (nsts_one hst)]; rfl) hline (star_cons hst) rfl) hsw) fun D0 σ H ⟨BF, BH, F, env, L, o, env', S, e, k⟩ => by
    unfold sApp at e
    split at e
    · rename_i ds d he h1
      split at e
      · rename_i hlen
        cases e
        obtain ⟨p, vs, hσ, hl, hp, r⟩ := sl_ow S he
        refine ⟨_, hσ, tyV_ow hp, BF, BH, F, env, L, d, S, h1, fun v F' H' z rv => ?_⟩
        have S' := S.ext z
        have r' : Reps X.K F' (ds ++ [d]) (vs ++ [v]) := (Reps.mono z.ff _ _ r).append (Reps.cons rv Reps.nil)
        refine ⟨p, vs, v, rfl, rfl, z.hh _ _ hp, by rw [← r.length]; exact Nat.lt_of_lt_of_le hlen lim_le, ?_⟩
        exact k F' _ σ L (ow_upd S' he hl hσ r') z.ff
      · cases e
    · cases e
theorem ins_eq (its : List Value) (k : Nat) (u : Value) (h : k ≤ its.length) : (its.toArray.extract 0 k).push u ++ its.toArray.extract k = (its.insertIdx k u).toArray := by
  have e : its.insertIdx k u = its.take k ++ u :: its.drop k := by
    induction its generalizing k with
    | nil => simp at h; subst h; simp
    | cons a t ih =>
      cases k with
      | zero => simp
      | succ k => simp at h; simp [ih k h]
  rw [e]
  simp
  rw [List.take_of_length_le (by rw [List.length_drop]; exact Nat.le_refl _)]
theorem mt_insertD : L2.MtM X "list.insert" (fun x vs H Q => ∃ (l : Addr) (xs : List V) (k : Int) (y : V), x = .ref l ∧ vs = [.int k, y] ∧ H l = some (.lst xs) ∧ 0 ≤ k ∧ k ≤ xs.length ∧ xs.length < lim ∧ Q .non (upd H l (.lst (xs.insertIdx k.toNat y)))) := by
  intro pins s σ H x vs v us Q I rx rv h
  obtain ⟨l, xs, k, y, rfl, rfl, hH, hk0, hk, hz, q⟩ := h
  cases rx
  obtain ⟨u, w, rfl, ru, rw'⟩ := rv.two
  obtain ⟨t, rfl⟩ := ru
  obtain ⟨z, its, n, r, hl, e⟩ := I.lstM hH
  have hlim : lim = 100000 := rfl
  have hz2 : its.toArray.size ≤ sizeLine := by rw [List.size_toArray, sizeLine_eq]; omega
  have hfit : Builtin.List.listFitsIndex k = true := by
    unfold Builtin.List.listFitsIndex
    rw [Bool.and_eq_true]
    exact ⟨decide_eq_true (Int.le_trans (by decide) hk0), decide_eq_true (Int.lt_of_lt_of_le (show k < 9223372036854775808 by omega) (by decide))⟩
  have hfit' : ¬ (!Builtin.List.listFitsIndex k) = true := by rw [hfit]; decide
  refine call_meets PySem.F.slot_list_insert ⟨_, e, rfl⟩ PySem.F.entry_list_insert (PySem.F.args_list_insert_3 _ _ _)
    (AutoSeq1.list_insert_list_int_val_1 l its.toArray n k t w hfit' hz2) ⟨e, ?_⟩
  refine ⟨.non, _, I.lset (its' := its.insertIdx k.toNat w) hH e ?_ ?_ ?_, rfl, q⟩
  · have hn : ¬ (k < 0) := by omega
    have hm : min k.toNat its.toArray.size = k.toNat := by rw [List.size_toArray]; omega
    have hif : (if k < 0 then (k + ((its.toArray.size : Nat) : Int)).toNat else min k.toNat its.toArray.size) = k.toNat := by rw [if_neg hn, hm]
    dsimp only
    rw [hif]
    exact ins_eq its k.toNat w (by omega)
  · clear e hz hz2 hfit hfit' hk hk0 q hH
    have go : ∀ (k : Nat) (xs : List V) (its : List Value), Vals xs its → Vals (xs.insertIdx k y) (its.insertIdx k w) := by
      intro k
      induction k with
      | zero => intro xs its r; simp only [List.insertIdx_zero]; exact .cons rw' r
      | succ k ih =>
        intro xs its r
        cases r with
        | nil => simp only [List.insertIdx_succ_nil]; exact .nil
        | cons r1 r2 => simp only [List.insertIdx_succ_cons]; exact .cons r1 (ih _ _ r2)
    exact go k.toNat xs its r
  · have : (xs.insertIdx k.toNat y).length ≤ xs.length + 1 := List.length_insertIdx_le_succ
    rw [sizeLine_eq]; omega
theorem ps_ins (i : Nat) {x : Str} {p1 p2 p3 p4 : Pos} (hq : PD X m1 a fa) (ha : PD X .k e f) (hN : X.N[i]? = some x := by kernel_rfl) (hv : visB X.env.scope x = true := by kernel_rfl) (hd : (x == ("__debug__" : Str)) = false := by kernel_rfl)
    (hcd : (x == ("__classdict__" : Str)) = false := by kernel_rfl) (hst : nst a = true := by rfl) (hst2 : nst e = true := by rfl)
    (hbase : attributeBase (.Name x p1) "insert" X.env (eval (.Name x p1) X.env) = eval (.Name x p1) X.env := by rfl)
    (hline : (p2.endLine == p3.line) = true := by rfl)
    (hsw : swapsWith (.Call (.Attribute (.Name x p1) "insert" p2) [a, e] [] p3) none p4.line X.env = pure false := by rfl) :
    PS1 X m (.Expr (.Call (.Attribute (.Name x p1) "insert" p2) [a, e] [] p3) p4) (sIns i fa f) :=
  PS1.mk <| PS.of (L2.ps_expr (L2.pe_bm PySem.F.plainAttrs_list PySem.F.slot_list_insert PySem.F.type_list_insert mt_insertD (L2.pe_var hN (visB_ok hv) hd hcd) (L2.pa_cons hq.h (L2.pa_cons ha.h L2.pa_nil (star_one hst2)) (star_cons hst)) hbase (by rw [star_few (nsts_two hst hst2)]; rfl) hline (star_cons hst) (star_any (nsts_one hst2))) hsw) fun D0 σ H ⟨BF, BH, F, env, L, o, env', S, e, k⟩ => by
    unfold sIns at e
    split at e
    · rename_i ds j d he h1 h2
      split at e
      · rename_i hlen
        cases e
        obtain ⟨p, vs, hσ, hl, hp, r⟩ := sl_ow S he
        refine ⟨_, hσ, tyV_ow hp, BF, BH, F, env, L, _, S, h1, fun v F1 H1 z1 r1 => ⟨BF, BH, F1, env, L, d, S.ext z1, h2, fun w F' H' z2 rv => ?_⟩⟩
        have z := z1.trans z2
        have S' := S.ext z
        obtain rfl := rep_int r1
        have r' : Reps X.K F' (ds.insertIdx j.toNat d) (vs.insertIdx j.toNat w) := (Reps.mono z.ff _ _ r).insertIdx rv j.toNat
        refine ⟨p, vs, j, w, rfl, rfl, z.hh _ _ hp, hlen.1, by rw [← r.length]; exact hlen.2.1, by rw [← r.length]; exact hlen.2.2, ?_⟩
        exact k F' _ σ L (ow_upd S' he hl hσ r') z.ff
      · cases e
    · cases e
end
end PV
set_option linter.all false
set_option Elab.async false
set_option maxRecDepth 100000
set_option maxHeartbeats 4000000
namespace PV
open PySem PySem.Spec PyProof.Rows
open L2 (V Hp HO Vals SqL SqT Same upd Cx PE PT PW PA PS PSs TE TT TA TS Inv RelV upd_same upd_ne ne_of_none)
section
variable {X : Cx} {m : RetP} {m1 m2 m3 : Md} {st : Stmt} {rest : List Stmt} {g g2 b : St} {e a c : Expr} {f fa fb fc : Ex} {t : Tx} {pos pos' p1 p2 p3 : Pos}
theorem RowsOk.set {K : PySem.W.Frag} {F H : Hp} : ∀ {rs : List (List D)} {as : List Addr} {j : Nat} {r : List D} {a : Addr} {vs' : List V}, as.Nodup → RowsOk K F H rs as → as[j]? = some a → Reps K F r vs' → RowsOk K F (upd H a (.lst vs')) (rs.set j r) as
  | [], as, j, r, a, vs', _, h, e, _ => by have z : as = [] := h; subst z; simp at e
  | r0 :: rs, as, 0, r, a, vs', nd, h, e, h' => by
    obtain ⟨b, t, vs, rfl, h1, h2, h3⟩ := h
    have e' : b = a := by simpa using e
    subst e'
    obtain ⟨n1, n2⟩ := List.nodup_cons.mp nd
    exact ⟨b, t, vs', rfl, upd_same, h', h3.mono (.refl _) fun c hc o z => by rw [upd_ne (fun q => n1 (by rw [← q]; exact hc))]; exact z⟩
  | r0 :: rs, as, j + 1, r, a, vs', nd, h, e, h' => by
    obtain ⟨b, t, vs, rfl, h1, h2, h3⟩ := h
    obtain ⟨n1, n2⟩ := List.nodup_cons.mp nd
    have e' : t[j]? = some a := by simpa using e
    exact ⟨b, t, vs, rfl, by rw [upd_ne (fun q => n1 (by rw [q]; exact List.mem_of_getElem? e'))]; exact h1, h2, RowsOk.set n2 h3 e' h'⟩
theorem ps_put2 (i : Nat) {x : Str} (hq : PD X m1 a fa) (hc : PD X m2 c fc) (ha : PD X .k e f) (hN : X.N[i]? = some x := by kernel_rfl) (hv : visB X.env.scope x = true := by kernel_rfl) (hd : (x == ("__debug__" : Str)) = false := by kernel_rfl)
    (hcd : (x == ("__classdict__" : Str)) = false := by kernel_rfl) (hix : L2.PlainIx a := by exact fun _ _ => rfl)
    (has : ∀ v, assign (.Subscript (.Subscript (.Name x p1) a p2) c p3) X.env v = (do
      let ov ← holding [v] (eval (.Subscript (.Name x p1) a p2) X.env)
      let iv ← holding [v, ov] (eval c X.env)
      standAt p3
      holding [v, ov, iv] (setItem ov iv v)
      release [v, ov, iv] []) := by intro _; rfl)
    (hs : swapsWithSole [.Subscript (.Subscript (.Name x p1) a p2) c p3] e pos.line X.env = pure false := by rfl) (hw : swappedStores [.Subscript (.Subscript (.Name x p1) a p2) c p3] e X.env = pure none := by rfl)
    (h1 : (assignEach [.Subscript (.Subscript (.Name x p1) a p2) c p3] X.env).map (·.2) = [assign (.Subscript (.Subscript (.Name x p1) a p2) c p3) X.env] := by rfl) :
    PS1 X m (.Assign [.Subscript (.Subscript (.Name x p1) a p2) c p3] e pos) (sPut2 i fa fc f) :=
  PS1.mk <| PS.of (L2.ps_asg ha.h (L2.pg_sub (L2.pe_ix L2.ix_list (L2.pe_var hN (visB_ok hv) hd hcd) hq.h hix) hc.h L2.set_list has) hs hw h1) fun D0 σ H ⟨BF, BH, F, env, L, o, env', S, e, k⟩ => by
    unfold sPut2 at e
    split at e
    · rename_i rs d kk ll he h2 h3 h4
      split at e
      · rename_i j hj
        split at e
        · rename_i r hr
          split at e
          · rename_i mm hm
            cases e
            obtain ⟨ov, hσ, hso⟩ := S.sl i _ he
            obtain ⟨p, as, rfl, hl, nd, hp, hrows⟩ := hso
            refine ⟨BF, BH, F, env, L, d, S, h2, fun v F1 H1 z1 r1 => ⟨_, hσ, BF, BH, F1, env, L, _, S.ext z1, h3, fun w F2 H2 z2 r2 => ?_⟩⟩
            have z := z1.trans z2
            have S2 := S.ext z
            obtain ⟨ra, vs, g1, g2, g3⟩ := hrows.get hr
            have hla : as.length = rs.length := hrows.length.symm
            have hat : L2.atI (as.map V.ref) kk = some (.ref ra) := by
              unfold L2.atI
              rw [List.length_map, hla]
              show ((ixN rs.length kk).bind fun j => (as.map V.ref)[j]?) = _
              rw [hj]
              show (as.map V.ref)[j]? = _
              rw [List.getElem?_map, g1]; rfl
            refine ⟨p, as.map V.ref, kk, .ref ra, rfl, rep_int r2, .inl (.inl (z.hh _ _ hp)), hat, BF, BH, F2, env, L, _, S2, h4, fun w2 F3 H3 z3 r3 => ?_⟩
            have z' := z.trans z3
            have S3 := S.ext z'
            have r1' := Rep.mono (z2.trans z3).ff _ _ r1
            have g3' := Reps.mono z'.ff _ _ g3
            refine ⟨ra, vs, ll, mm, rfl, rep_int r3, z'.hh _ _ g2, by rw [← g3.length]; exact hm, ?_⟩
            have hra : ra ∈ as := List.mem_of_getElem? g1
            obtain ⟨n1, n2⟩ := List.nodup_cons.mp nd
            refine k F3 _ σ L (S3.own (i := i) (a := ra) (by rw [hl]; exact List.mem_cons_of_mem _ hra) _ fun s ov e1 e2 e3 => ?_) z'.ff
            rw [hσ] at e2; cases e2
            refine ⟨p, as, rfl, hl, nd, ?_, ?_⟩
            · rw [upd_ne (fun q => n1 (by rw [q]; exact hra))]; exact z'.hh _ _ hp
            · have hrows' : RowsOk X.K F3 H3 rs as := hrows.mono z'.ff fun b _ o q => z'.hh _ _ q
              exact hrows'.set n2 g1 (g3'.set r1' mm)
          · cases e
        · cases e
      · cases e
    · cases e
structure ItOk (K : PySem.W.Frag) (J : L2.It) (F : Hp) (ds : List D) : Prop where
  stop : ∀ H, Same F H → J.stop ds.length H
  go : ∀ i H, Same F H → i < ds.length → J.go i H
  yld : ∀ i H x H' F0, Same F F0 → Same F0 H → i < ds.length → J.yld i H x H' → ∃ d F2, ds[i]? = some d ∧ Ext F0 H F2 H' ∧ Rep K F2 d x
def tIt (K : PySem.W.Frag) (lx : Lx) : L2.TI := fun σ H R => ∃ BF BH F env L ds, SOk K BF BH F H σ env L ∧ lx env = some ds ∧ ∀ J F' H', Ext F H F' H' → ItOk K J F' ds → R J H'
def PId (X : Cx) (tg iter : Expr) (lx : Lx) : Prop := L2.PI X tg iter (tIt X.K lx)
theorem PI.of {tg iter : Expr} {w w' : L2.TI} (h : L2.PI X tg iter w') (i : ∀ σ H R, w σ H R → w' σ H R) : L2.PI X tg iter w := fun pins s σ H R I q => h pins s σ H R I (i σ H R q)
def iSeq (K : PySem.W.Frag) (tl : TE) : L2.TI := fun σ H R => tl σ H fun x H1 => ∃ p, x = .ref p ∧ (((∃ xs, SqL K H1 p xs) ∧ R (L2.Itl K p) H1) ∨ ((∃ xs, SqT K H1 p xs) ∧ R (L2.Itt K p) H1))
theorem pi_seq {tg l : Expr} {tl : TE} (hl : PE X l tl) : L2.PI X tg l (iSeq X.K tl) := by
  intro pins s σ H R I h
  refine L2.thn (hl pins s σ H _ I h) fun v s1 ⟨x, H1, I1, r1, q1⟩ => ?_
  obtain ⟨p, e, q1⟩ := q1
  subst e
  cases r1
  rcases q1 with ⟨⟨xs, hq⟩, q⟩ | ⟨⟨xs, hq⟩, q⟩
  · obtain ⟨its, rv, pl, hz⟩ := I1.list hq
    refine wpAny_pyIter_list pl.isList ?_
    refine ⟨s1.heap.objs.size, [s1.heap.objs.size], _, _, H1, rfl, I1.kept (t' := s1.toks) fun b o e => Heap.get?_push_of_some _ e, L2.turn_list p _, ⟨_, Heap.get?_push_size _ rfl, rfl, rfl⟩, fun b hb => ?_, q⟩
    have e : b = s1.heap.objs.size := by simpa using hb
    subst e
    exact I1.fpOk (Nat.le_refl _) (I1.hok.fresh (Nat.le_refl _))
  · obtain ⟨its, rv, pl, hz⟩ := I1.tuple hq
    refine wpAny_pyIter_tuple (show s1.heap.IsTuple p its.toArray from pl) ?_
    refine ⟨s1.heap.objs.size, [s1.heap.objs.size], _, _, H1, rfl, I1.kept (t' := s1.toks) fun b o e => Heap.get?_push_of_some _ e, L2.turn_tuple p _, ⟨_, Heap.get?_push_size _ rfl, rfl, rfl⟩, fun b hb => ?_, q⟩
    have e : b = s1.heap.objs.size := by simpa using hb
    subst e
    exact I1.fpOk (Nat.le_refl _) (I1.hok.fresh (Nat.le_refl _))
theorem pi_of {tg : Expr} (ha : PD X .k a f) : PId X tg a (iOf f) := PI.of (pi_seq ha.h) fun σ H R ⟨BF, BH, F, env, L, ds, S, e, q⟩ => by
  unfold iOf at e
  split at e
  · rename_i xs h1
    cases e
    refine ⟨BF, BH, F, env, L, _, S, h1, fun v F' H' z r => ?_⟩
    simp only [Rep] at r
    obtain ⟨p, vs, rfl, hs, t⟩ := r
    refine ⟨p, rfl, .inl ⟨⟨vs, z.fh.seq hs⟩, q _ F' H' z ⟨fun H2 s2 => ⟨vs, s2.seq hs, by rw [t.length]; exact Nat.le_refl _⟩, fun i H2 s2 hi => ?_, fun i H2 x H3 F0 s1 s2 hi hy => ?_⟩⟩⟩
    · exact ⟨vs, vs[i]'(by rw [← t.length]; exact hi), s2.seq hs, by simp [← t.length, hi]⟩
    · obtain ⟨rfl, hy⟩ := hy
      obtain ⟨d, k1, k2⟩ := t.getV (hy vs ((s1.trans s2).seq hs))
      exact ⟨d, F0, k1, .refl s2, Rep.mono s1 _ _ k2⟩
  · rename_i xs h1
    cases e
    refine ⟨BF, BH, F, env, L, _, S, h1, fun v F' H' z r => ?_⟩
    simp only [Rep] at r
    obtain ⟨p, vs, rfl, hs, t⟩ := r
    refine ⟨p, rfl, .inr ⟨⟨vs, seqT z.fh hs⟩, q _ F' H' z ⟨fun H2 s2 => ⟨vs, seqT s2 hs, by rw [t.length]; exact Nat.le_refl _⟩, fun i H2 s2 hi => ?_, fun i H2 x H3 F0 s1 s2 hi hy => ?_⟩⟩⟩
    · exact ⟨vs, vs[i]'(by rw [← t.length]; exact hi), seqT s2 hs, by simp [← t.length, hi]⟩
    · obtain ⟨rfl, hy⟩ := hy
      obtain ⟨d, k1, k2⟩ := t.getV (hy vs (seqT (s1.trans s2) hs))
      exact ⟨d, F0, k1, .refl s2, Rep.mono s1 _ _ k2⟩
  · cases e
theorem it_range {K : PySem.W.Frag} {F : Hp} {lo : Int} {n : Nat} : ItOk K (L2.Itr lo n) F (rangeD lo n) where
  stop := fun H _ => by show n ≤ (rangeD lo n).length; rw [rangeD_length]; exact Nat.le_refl _
  go := fun i H _ h => by show i < n; rw [rangeD_length] at h; exact h
  yld := fun i H x H' F0 _ s2 hi hy => by
    obtain ⟨rfl, rfl⟩ := hy
    rw [rangeD_length] at hi
    exact ⟨_, F0, rangeD_get hi, .refl s2, by simp [Rep]⟩
theorem pi_rng {tg : Expr} (T : Bt X.mg) (ha : PD X m1 a f) (hg : X.env.kindOf "range" = some .globalImplicit := by kernel_rfl) (hs : nst a = true := by rfl) : PId X tg (.Call (.Name "range" p1) [a] [] pos) (iRng f) :=
  PI.of (L2.pi_range1 hg T.range (L2.pa_cons ha.h L2.pa_nil (star_one hs)) (star_one hs)) fun σ H R ⟨BF, BH, F, env, L, ds, S, e, q⟩ => by
    unfold iRng at e
    split at e
    · rename_i j h1
      split at e
      · rename_i hj
        cases e
        refine ⟨BF, BH, F, env, L, _, S, h1, fun v F' H' z r => ?_⟩
        obtain rfl := rep_int r
        have hl : (lim : Int) = 100000 := rfl
        exact ⟨j, rfl, by omega, by omega, q _ F' H' z it_range⟩
      · cases e
    · cases e
def tTg (K : PySem.W.Frag) (g : Tg) : L2.TG := fun v σ H Q => ∃ BF BH F env L d env1, SOk K BF BH F H σ env L ∧ Rep K F d v ∧ g d env = some env1 ∧ ∀ F' H' σ' L', SOk K BF BH F' H' σ' env1 L' → Same F F' → Q σ' H'
def PGd (X : Cx) (tg : Expr) (g : Tg) : Prop := L2.PG X tg (tTg X.K g)
theorem pg_n (nd : X.N.Nodup) (i : Nat) {x : Str} (hi : X.N[i]? = some x := by kernel_rfl) (hx : locB X.env.scope x = true := by kernel_rfl) (hf : fnB X x = true := by kernel_rfl) : PGd X (.Name x pos) (gN i) :=
  fun pins s σ H v u Q I r ⟨BF, BH, F, env, L, d, env1, S, rd, e, k⟩ => L2.pg_name nd hi (locB_ok hx) (fnB_ok hf) pins s σ H v u Q I r (by
    cases e
    exact k F H _ _ (S.setSh i rd) (.refl _))
theorem ps_fore {tg iter : Expr} {lx : Lx} {tg' : Tg} {body : List Stmt} (hi : PId X tg iter lx) (hg : PGd X tg tg') (hb : PSd X m body b) (hp : PassesOwn (model X.prog X.w) X.A X.env X.xe := by exact PassesOwn.never) (hc : X.calm = true := by rfl)
    (hs : ∀ x, foldedSetIterable iter X.env x = pure x := by intro _; rfl) : PS1 X m (.For tg iter body [] pos) (sFor tg' lx b) := PS1.mk <| PS.of (L2.ps_for hp hc hi hg hb.h hs) fun D0 σ H ⟨BF, BH, F, env, L, o, env', S, e, k⟩ => by
  unfold sFor at e
  split at e
  · rename_i ds h1
    refine ⟨BF, BH, F, env, L, ds, S, h1, fun J F1 H1 z1 J1 => ?_⟩
    refine ⟨fun i mm σ H => mm = ds.length - i ∧ i ≤ ds.length ∧ ∃ F env L, SOk X.K BF BH F H σ env L ∧ Same F1 F ∧ forL tg' b (ds.drop i) env = some (o, env'), ⟨ds.length, by simp, Nat.zero_le _, F1, env, L, S.ext z1, .refl _, e⟩, ?_⟩
    rintro i mm σ H ⟨rfl, hi, F, env, L, S, s1, e⟩
    by_cases hlt : i < ds.length
    · refine .inr ⟨J1.go i H (s1.trans S.fh) hlt, fun σ' H' => ∃ F env L, SOk X.K BF BH F H' σ' env L ∧ Same F1 F ∧ forL tg' b (ds.drop (i + 1)) env = some (o, env'), fun σ' H' ⟨F, env, L, q1, q2, q3⟩ => ⟨ds.length - (i + 1), by omega, rfl, hlt, F, env, L, q1, q2, q3⟩, fun x H' hy => ?_⟩
      obtain ⟨d, F2, hd, z2, r2⟩ := J1.yld i H x H' F s1 S.fh hlt hy
      rw [List.drop_eq_getElem_cons hlt] at e
      have hd' : ds[i] = d := by rw [List.getElem?_eq_getElem hlt] at hd; exact Option.some.inj hd
      rw [hd'] at e
      simp only [forL] at e
      split at e
      · rename_i env0 hg0
        refine ⟨BF, BH, F2, env, L, d, env0, S.ext z2, r2, hg0, fun F3 H3 σ3 L3 S3 s3 => ?_⟩
        have s13 : Same F1 F3 := (s1.trans z2.ff).trans s3
        split at e
        · rename_i e1 hb1
          exact ⟨BF, BH, F3, env0, L3, .nx, e1, S3, hb1, fun F4 H4 σ4 L4 S4 s4 => ⟨F4, e1, L4, S4, s13.trans s4, e⟩⟩
        · rename_i e1 hb1
          exact ⟨BF, BH, F3, env0, L3, .ct, e1, S3, hb1, fun F4 H4 σ4 L4 S4 s4 => ⟨F4, e1, L4, S4, s13.trans s4, e⟩⟩
        · rename_i e1 hb1
          cases e
          exact ⟨BF, BH, F3, env0, L3, .bk, env', S3, hb1, fun F4 H4 σ4 L4 S4 s4 => k F4 H4 σ4 L4 S4 ((z1.ff.trans s13).trans s4)⟩
        · rename_i r e1 hb1
          cases e
          exact ⟨BF, BH, F3, env0, L3, .rt r, env', S3, hb1, fun F4 H4 σ4 L4 S4 s4 => k F4 H4 σ4 L4 S4 ((z1.ff.trans s13).trans s4)⟩
        · cases e
      · cases e
    · have ei : i = ds.length := by omega
      subst ei
      rw [List.drop_length] at e
      cases e
      exact .inl ⟨J1.stop H (s1.trans S.fh), k F H σ L S (z1.ff.trans s1)⟩
  · cases e
end
end PV
set_option linter.all false
set_option Elab.async false
set_option maxRecDepth 100000
set_option maxHeartbeats 4000000
namespace PV
open PySem PySem.Spec PyProof.Rows
open L2 (V Hp HO Vals SqL SqT Same upd Cx PE PT PW PA PS PSs TE TT TA TS Inv RelV upd_same upd_ne ne_of_none)
section
variable {X : Cx} {m : RetP} {m1 m2 m3 : Md} {st : Stmt} {rest : List Stmt} {g g2 b : St} {e a c : Expr} {es : List Expr} {f fa fb fc : Ex} {fs : List Ex} {t : Tx} {pos pos' p p1 p2 p3 : Pos}
def spR (K : PySem.W.Frag) (m : RetP) (φ : List D → Option D) : L2.Sp := fun vs H Q _ => ∃ F ds d, Same F H ∧ Reps K F ds vs ∧ φ ds = some d ∧ ∀ v F' H', Ext F H F' H' → m H F' H' d v → Q v H'
structure Cal (P : Program) (w : World) (K : PySem.W.Frag) (mg : Str → Option Value) (base : Heap) (k : Nat) (x : Str) (m : RetP) (φ : List D → Option D) : Prop where
  ex : ∃ (fa : Addr) (fd : FuncData) (ps : List Str), mg x = some (.ref fa) ∧ PySem.W.keepIn K (.ref fa) = true ∧ L2.FnOk P w K mg base L2.CX0 k fa fd ps (spR K m φ) ∧ L2.Binds K fd ps []
theorem Cal.mono {P : Program} {w : World} {K : PySem.W.Frag} {mg : Str → Option Value} {base : Heap} {j k : Nat} {x : Str} {m : RetP} {φ : List D → Option D} (h : Cal P w K mg base j x m φ) (hk : j ≤ k) : Cal P w K mg base k x m φ := by
  obtain ⟨fa, fd, ps, h1, h2, h3, h4⟩ := h.ex
  exact ⟨⟨fa, fd, ps, h1, h2, h3.mono hk, h4⟩⟩
theorem hpM_call {BH H F2 H2 : Hp} (s : Same BH H) : ∀ m : Md, Same (hpM H F2 H2 m) (hpM BH F2 H2 m)
  | .r => .refl _
  | .k => .refl _
  | .f => fun b o h => by
    show cut F2 BH b = some o
    have h' : cut F2 H b = some o := h
    unfold cut at h' ⊢
    split at h'
    · rename_i hn
      rw [s.free hn]
      exact h'
    · cases h'
theorem pd_callR {k : Nat} {x : Str} {φ : List D → Option D} (G : Cal X.prog X.w X.K X.mg X.base k x m φ) (hr : L2.Room k X.A) (ha : PAd X .k (e :: es) fs) (hg : L2.Gl X x) (hdb : (x == ("__debug__" : Str)) = false)
    (he : starEach (e :: es) X.env = (false, eval e X.env) :: starEach es X.env) (hpl : (backTo pos (starEach es X.env)).any (·.1) = false) :
    PE X (.Call (.Name x p) (e :: es) [] pos) (fun σ H Q => ∃ BF BH F env L d, SOk X.K BF BH F H σ env L ∧ eCall φ fs env = some d ∧ ∀ v F' H' H0, Same BH H0 → Same H H0 → Ext F H F' H' → m H0 F' H' d v → Q v H') := by
  obtain ⟨fa, fd, ps, h1, h2, h3, h4⟩ := G.ex
  exact PE.of (L2.pe_call h3 hr hg h1 h2 h4 .nil L2.pass0 ha.h hdb he hpl) fun σ H Q ⟨BF, BH, F, env, L, d, S, e, q⟩ => by
    unfold eCall at e
    split at e
    · rename_i ds h5
      refine ⟨BF, BH, F, env, L, ds, S, h5, fun vs F' H' z r => ?_⟩
      show spR X.K m φ (vs ++ []) H' Q L2.E0
      rw [List.append_nil]
      exact ⟨F', ds, d, z.fh, r, e, fun v F2 H2 z2 r2 => q v F2 H2 H' (S.s0.trans z.hh) z.hh (z.trans z2) r2⟩
    · cases e
theorem pd_call {k : Nat} {x : Str} {φ : List D → Option D} (G : Cal X.prog X.w X.K X.mg X.base k x (rk X.K m1) φ) (hr : L2.Room k X.A) (ha : PAd X .k (e :: es) fs) (hg : X.env.kindOf x = some .globalImplicit := by kernel_rfl) (hdb : (x == ("__debug__" : Str)) = false := by kernel_rfl)
    (hn : nst e = true := by rfl) (hns : nsts es = true := by rfl) : PD X m1 (.Call (.Name x p) (e :: es) [] pos) (eCall φ fs) :=
  PD.mk <| PE.of (pd_callR G hr ha hg hdb (star_cons hn) (star_any hns)) fun σ H Q ⟨BF, BH, F, env, L, d, S, e, q⟩ =>
    ⟨BF, BH, F, env, L, d, S, e, fun v F' H' H0 s0 s1 z r => q v F' H' z (Rep.mono (hpM_call s0 m1) _ _ r)⟩
theorem pd_call0 {k : Nat} {x : Str} {φ : List D → Option D} (G : Cal X.prog X.w X.K X.mg X.base k x (rk X.K m1) φ) (hr : L2.Room k X.A) (hg : X.env.kindOf x = some .globalImplicit := by kernel_rfl) (hdb : (x == ("__debug__" : Str)) = false := by kernel_rfl) : PD X m1 (.Call (.Name x p) [] [] pos) (eCall φ []) := by
  obtain ⟨fa, fd, ps, h1, h2, h3, h4⟩ := G.ex
  exact PD.mk <| PE.of (L2.pe_call0 h3 hr hg h1 h2 h4 .nil L2.pass0 hdb) fun σ H Q ⟨BF, BH, F, env, L, d, S, e, q⟩ => by
    have e' : φ [] = some d := e
    exact ⟨F, [], d, S.fh, Reps.nil, e', fun v F2 H2 z2 r2 => q v F2 H2 z2 (Rep.mono (hpM_call S.s0 m1) _ _ r2)⟩
def tT (K : PySem.W.Frag) (f : Ex) : TE := fun σ H Q => ∃ BF BH F env L d, SOk K BF BH F H σ env L ∧ f env = some d ∧ ∀ v F' H', Ext F H F' H' → rT K H F' H' d v → Q v H'
def PDt (X : Cx) (e : Expr) (f : Ex) : Prop := PE X e (tT X.K f)
theorem rT_mono {K : PySem.W.Frag} {A B F' H' : Hp} {d : D} {v : V} (s : Same A B) (h : rT K B F' H' d v) : rT K A F' H' d v := by
  obtain ⟨a, as, rs, h1, h2, h3, h4, h5, h6⟩ := h
  exact ⟨a, as, rs, h1, h2, h3, h4, h5, fun b hb => ⟨s.free (h6 b hb).1, (h6 b hb).2⟩⟩
theorem pt_callT {k : Nat} {x : Str} {φ : List D → Option D} (G : Cal X.prog X.w X.K X.mg X.base k x (rT X.K) φ) (hr : L2.Room k X.A) (ha : PAd X .k (e :: es) fs) (hg : X.env.kindOf x = some .globalImplicit := by kernel_rfl) (hdb : (x == ("__debug__" : Str)) = false := by kernel_rfl)
    (hn : nst e = true := by rfl) (hns : nsts es = true := by rfl) : PDt X (.Call (.Name x p) (e :: es) [] pos) (eCall φ fs) :=
  PE.of (pd_callR G hr ha hg hdb (star_cons hn) (star_any hns)) fun σ H Q ⟨BF, BH, F, env, L, d, S, e, q⟩ =>
    ⟨BF, BH, F, env, L, d, S, e, fun v F' H' H0 s0 s1 z r => q v F' H' z (rT_mono s1 r)⟩
theorem PDt.k (h : PDt X e f) : PD X .k e f := PD.mk <| PE.of h fun σ H Q ⟨BF, BH, F, env, L, d, S, e, q⟩ => by
  refine ⟨BF, BH, F, env, L, d, S, e, fun v F' H' z r => ?_⟩
  obtain ⟨a, as, rs, rfl, rfl, h3, h4, h5, h6⟩ := r
  have ff : Same F' (frzH F' H' (a :: as)) := fun b o hb => by
    by_cases hm : b ∈ a :: as
    · rw [(h6 b hm).2] at hb; cases hb
    · rw [frz_out hm]; exact hb
  have z' : Ext F H (frzH F' H' (a :: as)) H' := ⟨z.hh, z.ff.trans ff, fun b o hb => by
    by_cases hm : b ∈ a :: as
    · exact .inr (h6 b hm).1
    · rw [frz_out hm] at hb; exact z.dm b o hb, fun b o hb => by
    by_cases hm : b ∈ a :: as
    · rw [frz_in hm] at hb; exact hb
    · rw [frz_out hm] at hb; exact z.fh b o hb⟩
  refine q _ _ H' z' ?_
  simp only [Rep, hpM]
  refine ⟨a, _, rfl, .inl (.inl (by rw [frz_in List.mem_cons_self]; exact h3)), ?_⟩
  have r' : RowsOk X.K (frzH F' H' (a :: as)) (frzH F' H' (a :: as)) rs as := h4.mono ff fun b hb o z => by rw [frz_in (List.mem_cons_of_mem _ hb)]; exact z
  exact r'.reps (.refl _)
theorem rows_lst : ∀ rs : List (List D), rows? (rs.map .lst) = some rs
  | [] => rfl
  | r :: rs => by simp only [List.map_cons, rows?, rows_lst rs]
theorem tab_set {K : PySem.W.Frag} {BF BH F F' H H' : Hp} {σ : L2.St} {env : Env} {L : Nat → List Addr} (S : SOk K BF BH F H σ env L) (z : Ext F H F' H') (i : Nat) {a : Addr} {as : List Addr} {rs : List (List D)} (h3 : H' a = some (.lst (as.map .ref))) (h4 : RowsOk K F' H' rs as) (h5 : (a :: as).Nodup)
    (h6 : ∀ b ∈ a :: as, H b = none ∧ F' b = none) : SOk K BF BH F' H' (σ.set i (some (.ref a))) (env.set i (.tab rs)) (putL L i (a :: as)) := by
  have rowsIn : ∀ {rs : List (List D)} {as : List Addr}, RowsOk K F' H' rs as → ∀ b ∈ as, H' b ≠ none := by
    intro rs
    induction rs with
    | nil => intro as h b hb; have e : as = [] := h; subst e; cases hb
    | cons r rs ih =>
      intro as h b hb
      obtain ⟨c, t, vs, rfl, h1, _, h3⟩ := h
      rcases List.mem_cons.mp hb with rfl | hb
      · rw [h1]; simp
      · exact ih h3 b hb
  refine (S.ext z).set i ⟨a, as, rfl, rfl, h5, h3, h4⟩ (fun b hb => ⟨(h6 b hb).2, S.s0.free (h6 b hb).1, ?_⟩) (fun b hb j hj hm => (S.ow j b hm).2.2 (h6 b hb).1)
  rcases List.mem_cons.mp hb with rfl | hb
  · rw [h3]; simp
  · exact rowsIn h4 b hb
theorem ps_tab (nd : X.N.Nodup) (i : Nat) {x : Str} (ha : PDt X e f) (hi : X.N[i]? = some x := by kernel_rfl) (hx : locB X.env.scope x = true := by kernel_rfl) (hs : swapsWith e (some (.Name x pos')) pos.line X.env = pure false := by rfl)
    (hf : fnB X x = true := by kernel_rfl) : PS1 X m (.Assign [.Name x pos'] e pos) (sTab i f) :=
  PS1.mk <| PS.of (L2.ps_set nd hi (locB_ok hx) ha hs (fnB_ok hf)) fun D0 σ H ⟨BF, BH, F, env, L, o, env', S, e, k⟩ => by
    unfold sTab at e
    split at e
    · rename_i ds h1
      split at e
      · rename_i rs hrs
        cases e
        refine ⟨BF, BH, F, env, L, _, S, h1, fun v F' H' z r => ?_⟩
        obtain ⟨a, as, rs', hd, rfl, h3, h4, h5, h6⟩ := r
        injection hd with hd
        rw [hd, rows_lst] at hrs
        cases hrs
        exact k F' H' _ _ (tab_set S z i h3 h4 h5 h6) z.ff
      · cases e
    · cases e
theorem ps_retT (i : Nat) {x : Str} (hN : X.N[i]? = some x := by kernel_rfl) (hv : visB X.env.scope x = true := by kernel_rfl) (hd : (x == ("__debug__" : Str)) = false := by kernel_rfl)
    (hcd : (x == ("__classdict__" : Str)) = false := by kernel_rfl) : PS1 X (rT X.K) (.Return (some (.Name x p1)) pos) (sRetT i) :=
  PS1.mk <| PS.of (L2.ps_ret (L2.pe_var hN (visB_ok hv) hd hcd)) fun D0 σ H ⟨BF, BH, F, env, L, o, env', S, e, k⟩ => by
    unfold sRetT at e
    split at e
    · rename_i rs he
      cases e
      obtain ⟨ov, h1, h2⟩ := S.sl i _ he
      obtain ⟨a, as, rfl, hl, nd, h3, h4⟩ := h2
      exact ⟨_, h1, k F H σ L S (.refl _) _ ⟨a, as, rs, rfl, rfl, h3, h4, nd, fun b hb => ⟨(S.ow i b (by rw [hl]; exact hb)).2.1, (S.ow i b (by rw [hl]; exact hb)).1⟩⟩⟩
    · cases e
theorem ps_retTe (ha : PDt X e f) : PS1 X (rT X.K) (.Return (some e) pos) (sRet f) := PS1.mk <| PS.of (L2.ps_ret ha) fun D0 σ H ⟨BF, BH, F, env, L, o, env', S, e, k⟩ => by
  unfold sRet at e
  split at e
  · rename_i d h1
    cases e
    exact ⟨BF, BH, F, env, L, d, S, h1, fun v F' H' z r => k F' H' σ L (S.ext z) z.ff v (rT_mono S.s0 r)⟩
  · cases e
theorem enter_len {n : Nat} {ds : List D} (h : ds.length ≤ n) : (enter n ds).length = n := by
  unfold enter
  rw [List.length_append, List.length_map, List.length_replicate]
  omega
theorem sok_start {K : PySem.W.Frag} {F H : Hp} {N : List Str} {ds : List D} {vs : List V} (fh : Same F H) (r : Reps K F ds vs) (hl : ds.length ≤ N.length) : SOk K F H F H (L2.start N vs) (enter N.length ds) (fun _ => []) where
  s0 := .refl _
  f0 := .refl _
  fh := fh
  fd := fun a o h => .inl h
  ow := fun i a h => by cases h
  dj := fun i j a h => by cases h
  len := by
    rw [enter_len hl]
    unfold L2.start
    rw [List.length_append, List.length_map, List.length_replicate]
    have := r.length
    omega
  sl := fun i s h => by
    unfold enter at h
    unfold L2.start
    by_cases hi : i < ds.length
    · rw [List.getElem?_append_left (by rw [List.length_map]; exact hi), List.getElem?_map, List.getElem?_eq_getElem hi] at h
      cases h
      obtain ⟨v, h1, h2⟩ := r.get (i := i) (d := ds[i]) (by simp [hi])
      refine ⟨some v, ?_, v, rfl, h2⟩
      rw [List.getElem?_append_left (by rw [List.length_map, ← r.length]; exact hi), List.getElem?_map, h1]; rfl
    · rw [List.getElem?_append_right (by rw [List.length_map]; omega), List.length_map, List.getElem?_replicate] at h
      split at h
      · rename_i hlt
        cases h
        refine ⟨none, ?_, trivial⟩
        rw [List.getElem?_append_right (by rw [List.length_map, ← r.length]; omega), List.length_map, List.getElem?_replicate, if_pos (by rw [← r.length]; exact hlt)]
      · cases h
theorem run_inv {p n : Nat} {g : St} {ds : List D} {d : D} (h : run p n g ds = some d) : ds.length = p ∧ ((∃ env', g (enter n ds) = some (.rt d, env')) ∨ (d = .non ∧ ∃ env', g (enter n ds) = some (.nx, env'))) := by
  unfold run at h
  split at h
  · rename_i hl
    split at h
    · rename_i d' e1 hg; cases h; exact ⟨hl, .inl ⟨e1, hg⟩⟩
    · rename_i e1 hg; cases h; exact ⟨hl, .inr ⟨rfl, e1, hg⟩⟩
    · cases h
  · cases h
theorem fn_ok {P : Program} {w : World} {K : PySem.W.Frag} {mg : Str → Option Value} {base : Heap} {x qual : Str} {st : Stmt} {f : Addr} {fd : FuncData} {N ps : List Str} {k : Nat} {m : RetP} {g : St} (F : L2.Fun K x qual st f fd) (S : L2.FnScope N ps (L2.defScope st))
    (hm : (∀ BH F' H', m BH F' H' .non .non) ∨ ∀ env env', g env ≠ some (.nx, env')) (hb : ∀ (cdv : Value) (A : Around) (outer : List PySem.Env) (s : Shared) (H : Hp) (E : L2.XK), L2.Room k (A.deeper (envOfC qual (L2.defScope st) s.heap.objs.size f cdv)) →
      PSd (L2.cxOf L2.CX0 P w K mg base N qual (L2.defScope st) f cdv A outer s H E).nox m (L2.defBody st) g) : L2.FnOk P w K mg base L2.CX0 (k + 1) f fd ps (spR K m (run ps.length N.length g)) := by
  have hpl : ps.length ≤ N.length := by have := congrArg List.length S.pre; rw [List.length_take] at this; omega
  refine F.ok S (fun vs H Q E h => ?_) (fun cdv A outer s H vs Q E hr h => ?_)
  · obtain ⟨F0, ds, d, h1, h2, h3, h4⟩ := h
    rw [← h2.length]
    exact (run_inv h3).1
  · obtain ⟨F0, ds, d, h1, h2, h3, h4⟩ := h
    obtain ⟨hl, h3⟩ := run_inv h3
    refine ⟨_, (hb cdv A outer s H E hr).h, ?_⟩
    have S0 := sok_start (N := N) h1 h2 (by omega)
    rcases h3 with ⟨env', hg⟩ | ⟨rfl, env', hg⟩
    · exact ⟨F0, H, F0, _, _, .rt d, env', S0, hg, fun F' H' σ' L' S' s' v r => h4 v F' H' S'.toExt r⟩
    · rcases hm with hm | hm
      · exact ⟨F0, H, F0, _, _, .nx, env', S0, hg, fun F' H' σ' L' S' s' => h4 .non F' H' S'.toExt (hm _ _ _)⟩
      · exact absurd hg (hm _ _)
theorem rk_non {K : PySem.W.Frag} (m1 : Md) : ∀ BH F' H', rk K m1 BH F' H' .non .non := fun _ _ _ => by simp [rk, Rep]
end
end PV
set_option linter.all false
set_option Elab.async false
set_option maxRecDepth 100000
set_option maxHeartbeats 4000000
namespace PV
open PySem PySem.Spec PyProof.Rows
open L2 (V Hp HO Vals SqL SqT Same upd Cx PE PT PW PA PS PSs TE TT TA TS Inv RelV upd_same upd_ne ne_of_none Un)
def relabS (sc osc : Scope) : Scope :=
  { sc with names := sc.names.map fun (n, k) => if (k == .free && osc.kind == .function && osc.names.lookup n == some .cell) then (n, .cell) else (n, k) }
def blk (X : Cx) (osc sc : Scope) (cs : List (Str × Addr)) (C : Addr) (s0 : Shared) (H0 : Hp) (fp : List Addr) (pins : List (Addr × Obj)) : Cx :=
  { X with
    env := { scope := relabS sc osc, locals := C, globals := X.env.globals, cells := cs, qual := X.env.qual, func := none, code := X.env.code, frame := X.env.frame, builtins := X.env.builtins }
    s₀ := s0, H₀ := H0, outer := X.stack, stack := X.stack, ex := fp, fn := fun y => decide (sc.names.lookup y = some .cell), pn := X.pn ++ pins }
structure CompOk (N : List Str) (osc sc : Scope) (x : Str) : Prop where
  kind : sc.kind = .function
  loc : ∀ y ∈ sc.names, y.2 = .local → sc.names.lookup y.1 = some .local
  free : ∀ y ∈ sc.names, y.2 = .free → osc.names.lookup y.1 = some .cell ∨ osc.names.lookup y.1 = some .free
  var : sc.names.lookup x = some .local ∨ sc.names.lookup x = some .cell
  own : ∀ y ∈ sc.names, (y.2 = .local ∨ y.2 = .cell) → y.1 = x ∨ y.1 ∉ N
  cell : ∀ y ∈ sc.names, y.2 = .cell → y.1 = x
  once : (sc.names.filter fun y => y.2 == .cell).length ≤ 1
def compB (N : List Str) (osc sc : Scope) (x : Str) : Bool :=
  (sc.kind == .function) && (sc.names.all fun y => !(y.2 == .local) || sc.names.lookup y.1 == some .local) && (sc.names.all fun y => !(y.2 == .free) || (osc.names.lookup y.1 == some .cell || osc.names.lookup y.1 == some .free)) &&
  (sc.names.lookup x == some .local || sc.names.lookup x == some .cell) && (sc.names.all fun y => !(y.2 == .local || y.2 == .cell) || (y.1 == x || !N.contains y.1)) && (sc.names.all fun y => !(y.2 == .cell) || y.1 == x) && decide ((sc.names.filter fun y => y.2 == .cell).length ≤ 1)
theorem compB_ok {N : List Str} {osc sc : Scope} {x : Str} (h : compB N osc sc x = true) : CompOk N osc sc x := by
  unfold compB at h
  simp only [Bool.and_eq_true, List.all_eq_true, Bool.or_eq_true, Bool.not_eq_true', decide_eq_true_eq] at h
  obtain ⟨⟨⟨⟨⟨⟨h1, h2⟩, h3⟩, h4⟩, h5⟩, h6⟩, h7⟩ := h
  refine ⟨by simpa using h1, fun y hy e => ?_, fun y hy e => ?_, ?_, fun y hy e => ?_, fun y hy e => ?_, h7⟩
  · rcases h2 y hy with z | z
    · rw [e] at z; simp at z
    · simpa using z
  · rcases h3 y hy with z | z
    · rw [e] at z; simp at z
    · rcases z with z | z
      · exact .inl (by simpa using z)
      · exact .inr (by simpa using z)
  · rcases h4 with z | z
    · exact .inl (by simpa using z)
    · exact .inr (by simpa using z)
  · rcases h5 y hy with z | z
    · rcases e with e | e <;> (rw [e] at z; simp at z)
    · rcases z with z | z
      · exact .inl (by simpa using z)
      · exact .inr (by simpa using z)
  · rcases h6 y hy with z | z
    · rw [e] at z; simp at z
    · simpa using z
theorem closure_ex {env : PySem.Env} {sc : Scope} (h : ∀ y ∈ sc.names, y.2 = .free → ∃ c, env.cells.lookup y.1 = some c) :
    ∃ cl, closureFor sc env = pure cl ∧ (∀ n c, cl.lookup n = some c → env.cells.lookup n = some c) ∧ (∀ y ∈ sc.names, y.2 = .free → ∃ c, cl.lookup y.1 = some c) ∧ (∀ n c, cl.lookup n = some c → (n, NameKind.free) ∈ sc.names) := by
  have go : ∀ (names : List (Str × NameKind)) (acc : List (Str × Addr)), (∀ y ∈ names, y.2 = .free → ∃ c, env.cells.lookup y.1 = some c) → (∀ n c, acc.lookup n = some c → env.cells.lookup n = some c) →
      ∃ cl, (forIn names acc (fun (p : Str × NameKind) (cs : List (Str × Addr)) => (match p with | (name, kind) => if (kind == .free) = true then (do let a ← cellOf env name; pure (ForInStep.yield ((name, a) :: cs))) else pure (ForInStep.yield cs) : Sem (ForInStep (List (Str × Addr))))) : Sem (List (Str × Addr))) = pure cl ∧
        (∀ n c, cl.lookup n = some c → env.cells.lookup n = some c) ∧ (∀ n c, acc.lookup n = some c → ∃ c', cl.lookup n = some c') ∧ (∀ y ∈ names, y.2 = .free → ∃ c, cl.lookup y.1 = some c) ∧ (∀ n c, cl.lookup n = some c → acc.lookup n = some c ∨ (n, NameKind.free) ∈ names) := by
    intro names
    induction names with
    | nil => intro acc _ ha; exact ⟨acc, rfl, ha, fun n c e => ⟨c, e⟩, (fun y hy => nomatch hy), fun n c e => .inl e⟩
    | cons p r ih =>
      obtain ⟨n, k⟩ := p
      intro acc hf ha
      have hr : ∀ y ∈ r, y.2 = .free → ∃ c, env.cells.lookup y.1 = some c := fun y hy => hf y (List.mem_cons_of_mem _ hy)
      rw [List.forIn_cons]
      by_cases hk : k = .free
      · obtain ⟨c, hc⟩ := hf (n, k) List.mem_cons_self hk
        have ha' : ∀ n' c', ((n, c) :: acc).lookup n' = some c' → env.cells.lookup n' = some c' := fun n' c' e => by
          rw [List.lookup_cons] at e
          cases hb : n' == n with
          | true => rw [hb] at e; cases e; rw [beq_iff_eq.mp hb]; exact hc
          | false => rw [hb] at e; exact ha n' c' e
        obtain ⟨cl, e1, e2, e3, e4, e5⟩ := ih ((n, c) :: acc) hr ha'
        have step : (if (k == NameKind.free) = true then (do let a ← cellOf env n; pure (ForInStep.yield ((n, a) :: acc))) else pure (ForInStep.yield acc) : Sem (ForInStep (List (Str × Addr)))) = pure (ForInStep.yield ((n, c) :: acc)) := by
          rw [if_pos (by simp [hk])]
          unfold cellOf
          rw [show env.cells.lookup n = some c from hc]
          rfl
        refine ⟨cl, ?_, e2, fun n' c' e => ?_, fun y hy hy2 => ?_, fun n' c' e => ?_⟩
        · dsimp only
          rw [step]
          exact e1
        · by_cases hb : n' == n
          · exact e3 n' c (by rw [List.lookup_cons, hb])
          · exact e3 n' c' (by rw [List.lookup_cons]; simp only [Bool.not_eq_true] at hb; rw [hb]; exact e)
        · rcases List.mem_cons.mp hy with rfl | hy
          · exact e3 n c (by rw [List.lookup_cons]; simp)
          · exact e4 y hy hy2
        · rcases e5 n' c' e with z | z
          · rw [List.lookup_cons] at z
            cases hb : n' == n with
            | true => rw [beq_iff_eq.mp hb, ← hk]; exact .inr List.mem_cons_self
            | false => rw [hb] at z; exact .inl z
          · exact .inr (List.mem_cons_of_mem _ z)
      · obtain ⟨cl, e1, e2, e3, e4, e5⟩ := ih acc hr ha
        have step : (if (k == NameKind.free) = true then (do let a ← cellOf env n; pure (ForInStep.yield ((n, a) :: acc))) else pure (ForInStep.yield acc) : Sem (ForInStep (List (Str × Addr)))) = pure (ForInStep.yield acc) := by
          rw [if_neg (by simpa using hk)]
        refine ⟨cl, ?_, e2, e3, fun y hy hy2 => ?_, fun n' c' e => ?_⟩
        · dsimp only
          rw [step]
          exact e1
        · rcases List.mem_cons.mp hy with rfl | hy
          · exact absurd hy2 hk
          · exact e4 y hy hy2
        · rcases e5 n' c' e with z | z
          · exact .inl z
          · exact .inr (List.mem_cons_of_mem _ z)
  obtain ⟨cl, e1, e2, _, e4, e5⟩ := go sc.names [] h (fun n c e => by simp at e)
  refine ⟨cl, ?_, e2, e4, fun n c e => (e5 n c e).elim (fun z => by simp at z) id⟩
  unfold closureFor
  exact (congrArg (fun (t : Sem (List (Str × Addr))) => t >>= fun cs => pure cs) e1)
theorem cells_none : ∀ (names : List (Str × NameKind)) (n : Nat) (acc : List (Str × Addr)) (h : Heap), (∀ y ∈ names, y.2 ≠ .cell) → cellsFrom n names acc = acc ∧ pushCells h names = h
  | [], _, _, _, _ => ⟨rfl, rfl⟩
  | (x, k) :: r, n, acc, h, hc => by
    have hk : (k == NameKind.cell) = false := by simpa using hc (x, k) List.mem_cons_self
    unfold cellsFrom pushCells
    rw [if_neg (by rw [hk]; simp), if_neg (by rw [hk]; simp)]
    exact cells_none r n acc h fun y hy => hc y (List.mem_cons_of_mem _ hy)
theorem cells_one : ∀ (names : List (Str × NameKind)) (n : Nat) (acc : List (Str × Addr)) (h : Heap) (x : Str), (∀ y ∈ names, y.2 = .cell → y.1 = x) → (names.filter fun y => y.2 == .cell).length = 1 →
    cellsFrom n names acc = (x, n) :: acc ∧ pushCells h names = h.push { cls := .type "cell", data := .cell none }
  | [], _, _, _, _, _, hl => by simp at hl
  | (y, k) :: r, n, acc, h, x, hx, hl => by
    by_cases hk : k = .cell
    · subst hk
      have hr : ∀ y ∈ r, y.2 ≠ .cell := fun z hz e => by
        rw [List.filter_cons_of_pos (by simp)] at hl
        have hlen : (r.filter fun y => y.2 == .cell).length = 0 := by simpa using hl
        have hmem : z ∈ r.filter fun y => y.2 == .cell := List.mem_filter.mpr ⟨hz, by simp [e]⟩
        rw [List.length_eq_zero_iff.mp hlen] at hmem
        cases hmem
      have hyx : y = x := hx (y, .cell) List.mem_cons_self rfl
      subst hyx
      unfold cellsFrom pushCells
      rw [if_pos (by simp), if_pos (by simp)]
      exact ⟨(cells_none r _ _ h hr).1, (cells_none r n acc _ hr).2⟩
    · have hk' : (k == NameKind.cell) = false := by simpa using hk
      unfold cellsFrom pushCells
      rw [if_neg (by rw [hk']; simp), if_neg (by rw [hk']; simp)]
      exact cells_one r n acc h x (fun z hz => hx z (List.mem_cons_of_mem _ hz)) (by rw [List.filter_cons_of_neg (by rw [hk']; simp)] at hl; exact hl)
theorem newEnv_comp {M : Model} {A : Around} {E : Value → Shared → Prop} {s : Shared} {sc : Scope} {g : Addr} {cl : List (Str × Addr)} {q : Str} {outer : PySem.Env} {Q : PySem.Env → Shared → Prop}
    (h : Q { scope := sc, locals := s.heap.objs.size, globals := g, cells := cellsFrom (s.heap.objs.size + 1) sc.names cl, qual := q, func := none, code := outer.code, frame := outer.frame, builtins := outer.builtins }
      { s with heap := pushCells (s.heap.push { cls := .type "dict", data := .dict #[] }) sc.names }) : wpAny M A (newFunctionEnv sc g cl [] q none .none (some outer)) Q E s := by
  simp only [newFunctionEnv, Option.isSome_some, if_true]
  refine wpAny_bind (wpAny_alloc ?_)
  refine wpAny_bind (wpAny_layCells _ (fun name kind cells => by cases hkc : kind == NameKind.cell <;> simp [hkc]) _ _ _ _ ?_)
  rw [show ({ s with heap := s.heap.push { cls := .type "dict", data := .dict #[] } } : Shared).heap.objs.size = s.heap.objs.size + 1 from Heap.size_push ..]
  exact wpAny_bind (wpAny_pure (wpAny_pure h))
end PV
set_option linter.all false
set_option Elab.async false
set_option maxRecDepth 100000
set_option maxHeartbeats 4000000
namespace PV
open PySem PySem.Spec PyProof.Rows
open L2 (V Hp HO Vals SqL SqT Same upd Cx PE PT PW PA PS PSs TE TT TA TS Inv RelV upd_same upd_ne ne_of_none Un)
def rkd (osc : Scope) (n : Str) (k : NameKind) : NameKind := if (k == NameKind.free && osc.kind == .function && osc.names.lookup n == some .cell) = true then NameKind.cell else k
theorem lookup_snd (f : Str → NameKind → NameKind) : ∀ (names : List (Str × NameKind)) (y : Str), (names.map fun p => (p.1, f p.1 p.2)).lookup y = (names.lookup y).map (f y)
  | [], y => rfl
  | (n, k) :: r, y => by
    rw [List.map_cons, List.lookup_cons, List.lookup_cons]
    cases hy : y == n with
    | true =>
      have e : y = n := beq_iff_eq.mp hy
      subst e
      rfl
    | false => exact lookup_snd f r y
theorem lookup_relab {osc : Scope} (names : List (Str × NameKind)) (y : Str) : (names.map fun (n, k) => if (k == NameKind.free && osc.kind == .function && osc.names.lookup n == some .cell) then (n, NameKind.cell) else (n, k)).lookup y =
    (names.lookup y).map (rkd osc y) := by
  rw [← lookup_snd (rkd osc)]
  congr 1
  refine List.map_congr_left fun p _ => ?_
  obtain ⟨n, k⟩ := p
  unfold rkd
  dsimp only
  split <;> rfl
theorem relab_kind {sc osc : Scope} {y : Str} {k : NameKind} (h : (relabS sc osc).names.lookup y = some k) : ∃ k0, sc.names.lookup y = some k0 ∧ (k = k0 ∨ (k0 = .free ∧ k = .cell)) := by
  have h' := h
  unfold relabS at h'
  dsimp only at h'
  rw [lookup_relab] at h'
  cases e : sc.names.lookup y with
  | none => rw [e] at h'; cases h'
  | some k0 =>
    rw [e] at h'
    refine ⟨k0, rfl, ?_⟩
    have h2 : rkd osc y k0 = k := Option.some.inj h'
    unfold rkd at h2
    split at h2
    · rename_i hc
      simp only [Bool.and_eq_true, beq_iff_eq] at hc
      exact .inr ⟨hc.1.1, h2.symm⟩
    · exact .inl h2.symm
theorem relab_local {sc osc : Scope} {y : Str} (h : sc.names.lookup y = some .local) : (relabS sc osc).names.lookup y = some .local := by
  unfold relabS; dsimp only; rw [lookup_relab, h]; rfl
theorem relab_cell {sc osc : Scope} {y : Str} (h : sc.names.lookup y = some .cell) : (relabS sc osc).names.lookup y = some .cell := by
  unfold relabS; dsimp only; rw [lookup_relab, h]; rfl
theorem relab_free {sc osc : Scope} {y : Str} (h : sc.names.lookup y = some .free) : (relabS sc osc).names.lookup y = some .cell ∨ (relabS sc osc).names.lookup y = some .free := by
  unfold relabS; dsimp only; rw [lookup_relab, h]
  show some (rkd osc y .free) = some _ ∨ some (rkd osc y .free) = some _
  unfold rkd
  split
  · exact .inl rfl
  · exact .inr rfl
section
variable {X : Cx} {osc sc : Scope} {x : Str} {i : Nat} {pins : List (Addr × Obj)} {σ : L2.St} {H : Hp} {s : Shared} {cl : List (Str × Addr)} {fp : List Addr}
theorem cells_fact (CO : CompOk X.N osc sc x) (h0 : Heap) (n : Nat) :
    (∀ y ∈ sc.names, y.2 ≠ .cell) ∧ cellsFrom n sc.names cl = cl ∧ pushCells h0 sc.names = h0 ∨
    (x, NameKind.cell) ∈ sc.names ∧ cellsFrom n sc.names cl = (x, n) :: cl ∧ pushCells h0 sc.names = h0.push { cls := .type "cell", data := .cell none } := by
  by_cases h : ∀ y ∈ sc.names, y.2 ≠ .cell
  · exact .inl ⟨h, cells_none sc.names n cl h0 h⟩
  · have h' : ∃ y ∈ sc.names, y.2 = .cell := by
      refine Classical.byContradiction fun z => h fun y hy e => z ⟨y, hy, e⟩
    obtain ⟨⟨y, k⟩, hy, e⟩ := h'
    have e' : k = .cell := e
    subst e'
    have hyx : y = x := CO.cell (y, .cell) hy rfl
    subst hyx
    have hl : (sc.names.filter fun y => y.2 == .cell).length = 1 := by
      have h1 := CO.once
      have hm : (y, NameKind.cell) ∈ sc.names.filter fun y => y.2 == .cell := List.mem_filter.mpr ⟨hy, by simp⟩
      have h2 := List.length_pos_of_mem hm
      omega
    exact .inr ⟨hy, cells_one sc.names n cl h0 y CO.cell hl⟩
theorem blk_inv (I : Inv X pins σ H s) (CO : CompOk X.N osc sc x) (hosc : X.env.scope = osc) (nd : X.N.Nodup) (hi : X.N[i]? = some x)
    (c1 : ∀ n c, cl.lookup n = some c → X.env.cells.lookup n = some c) (c2 : ∀ y ∈ sc.names, y.2 = .free → ∃ c, cl.lookup y.1 = some c) (c3 : ∀ n c, cl.lookup n = some c → (n, NameKind.free) ∈ sc.names)
    (hf : ∀ b ∈ fp, L2.FpOk X pins H b) (hl : ∀ b ∈ fp, b < s.heap.objs.size) :
    Inv (blk X osc sc (cellsFrom (s.heap.objs.size + 1) sc.names cl) s.heap.objs.size s H fp pins) [] (σ.set i none) H { s with heap := pushCells (s.heap.push { cls := .type "dict", data := .dict #[] }) sc.names } := by
  have keep : ∀ b o, s.heap.get? b = some o → (pushCells (s.heap.push { cls := .type "dict", data := .dict #[] }) sc.names).get? b = some o := fun b o e => pushCells_keeps _ _ b o (Heap.get?_push_of_some _ e)
  have hsz : (s.heap.push { cls := .type "dict", data := .dict #[] }).objs.size = s.heap.objs.size + 1 := Heap.size_push ..
  have hns : (pushCells (s.heap.push { cls := .type "dict", data := .dict #[] }) sc.names).Ns s.heap.objs.size (fun _ => none) := (Heap.Ns.new s.heap (.type "dict")).keeps (pushCells_keeps _ _)
  have F1 : ∀ y c, (cellsFrom (s.heap.objs.size + 1) sc.names cl).lookup y = some c → (X.env.cells.lookup y = some c ∧ c < s.heap.objs.size) ∨ (y = x ∧ c = s.heap.objs.size + 1 ∧ (pushCells (s.heap.push { cls := .type "dict", data := .dict #[] }) sc.names).IsCell c none) := fun y c e => by
    have old : cl.lookup y = some c → X.env.cells.lookup y = some c ∧ c < s.heap.objs.size := fun z => by
      have z1 := c1 y c z
      obtain ⟨v, q⟩ := I.cell y c z1
      exact ⟨z1, q.lt⟩
    rcases cells_fact (cl := cl) CO (s.heap.push { cls := .type "dict", data := .dict #[] }) (s.heap.objs.size + 1) with ⟨_, e1, _⟩ | ⟨_, e1, e2⟩
    · rw [e1] at e; exact .inl (old e)
    · rw [e1, List.lookup_cons] at e
      cases hy : y == x with
      | true =>
        rw [hy] at e
        cases e
        refine .inr ⟨beq_iff_eq.mp hy, rfl, ?_⟩
        rw [e2]
        exact ⟨_, by rw [← hsz]; exact Heap.get?_push_size _ rfl, rfl⟩
      | false => rw [hy] at e; exact .inl (old e)
  have F2 : ∀ y c, y ≠ x → cl.lookup y = some c → (cellsFrom (s.heap.objs.size + 1) sc.names cl).lookup y = some c := fun y c hy e => by
    rcases cells_fact (cl := cl) CO (s.heap.push { cls := .type "dict", data := .dict #[] }) (s.heap.objs.size + 1) with ⟨_, e1, _⟩ | ⟨_, e1, _⟩
    · rw [e1]; exact e
    · rw [e1, List.lookup_cons, beq_false_of_ne hy]; exact e
  have fresh : ∀ a, s.heap.objs.size ≤ a → H a = none := fun a ha => I.hok.fresh ha
  refine ⟨⟨I.ok.mod, CO.kind, I.ok.glob, I.ok.blt, Nat.le_refl _, fun y z c h1 h2 => ?_, fun y hy => ?_, fun y c hy e => ?_, I.ok.hd, I.ok.frames, .inl rfl, fun b hb => ⟨?_, fun y c e z => ?_⟩, I.bs, Nat.le_trans I.ok.bsz I.sz, fun b o e hb => ?_, fun b hb z => ?_, I.stack, I.stkFree⟩,
    rfl, I.bare, Un.kept keep, ⟨_, hns, fun j y v h1 h2 h3 => ?_⟩, fun y c e => ?_, fresh _ (Nat.le_refl _), fun y c e => ?_, fun p hp => ?_, I.hok.kept keep, by rw [List.length_set]; exact I.len⟩
  · -- inj
    rcases F1 y c h1 with ⟨a1, a2⟩ | ⟨a1, a2, _⟩
    · rcases F1 z c h2 with ⟨b1, b2⟩ | ⟨b1, b2, _⟩
      · exact I.ok.inj y z c a1 b1
      · rw [b2] at a2; exact absurd a2 (Nat.not_lt.mpr (Nat.le_succ _))
    · rcases F1 z c h2 with ⟨b1, b2⟩ | ⟨b1, b2, _⟩
      · rw [a2] at b2; exact absurd b2 (Nat.not_lt.mpr (Nat.le_succ _))
      · rw [a1, b1]
  · -- has
    have hy' : (relabS sc osc).names.lookup y = some .cell ∨ (relabS sc osc).names.lookup y = some .free := hy
    have hk : sc.names.lookup y = some .cell ∨ sc.names.lookup y = some .free := by
      rcases hy' with z | z
      · obtain ⟨k0, e0, e1⟩ := relab_kind z
        rcases e1 with e1 | ⟨e1, _⟩
        · rw [← e1] at e0; exact .inl e0
        · rw [e1] at e0; exact .inr e0
      · obtain ⟨k0, e0, e1⟩ := relab_kind z
        rcases e1 with e1 | ⟨_, e1⟩
        · rw [← e1] at e0; exact .inr e0
        · cases e1
    rcases hk with z | z
    · have hm := PySem.mem_of_lookup z
      have hyx : y = x := CO.cell (y, .cell) hm rfl
      subst hyx
      rcases cells_fact (cl := cl) CO (s.heap.push { cls := .type "dict", data := .dict #[] }) (s.heap.objs.size + 1) with ⟨n1, _, _⟩ | ⟨_, e1, _⟩
      · exact absurd rfl (n1 _ hm)
      · exact ⟨s.heap.objs.size + 1, by show (cellsFrom _ _ _).lookup y = _; rw [e1, List.lookup_cons]; simp⟩
    · obtain ⟨c, hc⟩ := c2 (y, .free) (PySem.mem_of_lookup z) rfl
      have hc' : cl.lookup y = some c := hc
      rcases cells_fact (cl := cl) CO (s.heap.push { cls := .type "dict", data := .dict #[] }) (s.heap.objs.size + 1) with ⟨_, e1, _⟩ | ⟨_, e1, _⟩
      · exact ⟨c, by show (cellsFrom _ _ _).lookup y = _; rw [e1]; exact hc'⟩
      · cases hy : y == x with
        | true => exact ⟨_, by show (cellsFrom _ _ _).lookup y = _; rw [e1, List.lookup_cons, hy]⟩
        | false => exact ⟨c, by show (cellsFrom _ _ _).lookup y = _; rw [e1, List.lookup_cons, hy]; exact hc'⟩
  · -- cab
    have hy' : sc.names.lookup y = some .cell := of_decide_eq_true hy
    have hm := PySem.mem_of_lookup hy'
    have hyx : y = x := CO.cell (y, .cell) hm rfl
    subst hyx
    have e' : (cellsFrom (s.heap.objs.size + 1) sc.names cl).lookup y = some c := e
    rcases cells_fact (cl := cl) CO (s.heap.push { cls := .type "dict", data := .dict #[] }) (s.heap.objs.size + 1) with ⟨n1, _, _⟩ | ⟨_, e1, _⟩
    · exact absurd rfl (n1 _ hm)
    · rw [e1, List.lookup_cons] at e'
      simp at e'
      show s.heap.objs.size ≤ c
      rw [← e']
      exact Nat.le_succ _
  · exact Nat.ne_of_lt (hl b hb)
  · rcases F1 y c e with ⟨a1, a2⟩ | ⟨_, a2, _⟩
    · obtain ⟨_, _, _, _, f5, _⟩ := hf b hb
      exact f5 y c a1 z
    · have h3 := hl b hb
      rw [← z, a2] at h3
      exact absurd h3 (Nat.not_lt.mpr (Nat.le_succ _))
  · obtain ⟨_, _, _, f4, _⟩ := hf b hb
    rcases f4 with z | z
    · exact I.ok.noex b o e z
    · exact absurd (Nat.lt_of_lt_of_le (Heap.lt_size e) I.ok.bsz) (Nat.not_lt.mpr z)
  · obtain ⟨_, f2, f3, _⟩ := hf b hb
    rcases List.mem_cons.mp (I.stkSub b z) with q | q
    · exact f2 q
    · exact f3 q
  · -- loc
    have hji : j ≠ i := fun e => by
      subst e
      by_cases hlt : j < σ.length
      · rw [List.getElem?_set_self hlt] at h2; cases h2
      · rw [List.getElem?_eq_none (by rw [List.length_set]; omega)] at h2; cases h2
    rw [List.getElem?_set_ne (Ne.symm hji)] at h2
    have hyx : y ≠ x := fun e => hji (L2.nodup_ix nd (by rw [← e]; exact h1) hi)
    have hmemN : y ∈ X.N := List.mem_of_getElem? h1
    have hk : sc.names.lookup y = some .free := by
      have h3' : (relabS sc osc).names.lookup y = some .local ∨ (relabS sc osc).names.lookup y = some .cell ∨ (relabS sc osc).names.lookup y = some .free := h3
      have own : ∀ k, sc.names.lookup y = some k → (k = .local ∨ k = .cell) → False := fun k e hk => by
        rcases CO.own (y, k) (PySem.mem_of_lookup e) hk with z | z
        · exact hyx z
        · exact z hmemN
      rcases h3' with z | z | z
      · obtain ⟨k0, e0, e1⟩ := relab_kind z
        rcases e1 with e1 | ⟨_, e1⟩
        · exact (own k0 e0 (.inl e1.symm)).elim
        · cases e1
      · obtain ⟨k0, e0, e1⟩ := relab_kind z
        rcases e1 with e1 | ⟨e1, _⟩
        · exact (own k0 e0 (.inr e1.symm)).elim
        · rw [e1] at e0; exact e0
      · obtain ⟨k0, e0, e1⟩ := relab_kind z
        rcases e1 with e1 | ⟨_, e1⟩
        · rw [← e1] at e0; exact e0
        · cases e1
    have hm := PySem.mem_of_lookup hk
    have ho := CO.free (y, .free) hm rfl
    obtain ⟨m, hn, hloc⟩ := I.loc
    obtain ⟨u, ru, lk⟩ := hloc j y v h1 h2 (by rw [hosc]; rcases ho with z | z; exact .inr (.inl z); exact .inr (.inr z))
    refine ⟨u, ru, .inr ⟨relab_free hk, ?_⟩⟩
    rcases lk with ⟨k1, _⟩ | ⟨_, c, hc, hcell⟩
    · have k1' : X.env.scope.names.lookup y = some .local := k1
      rw [hosc] at k1'
      rcases ho with z | z <;> (rw [k1'] at z; cases z)
    · obtain ⟨c', hc'⟩ := c2 (y, .free) hm rfl
      have e1 := c1 y c' hc'
      rw [hc] at e1; cases e1
      exact ⟨c, F2 y c hyx hc', hcell.keeps keep⟩
  · rcases F1 y c e with ⟨a1, _⟩ | ⟨_, _, a3⟩
    · obtain ⟨v, q⟩ := I.cell y c a1
      exact ⟨v, q.keeps keep⟩
    · exact ⟨none, a3⟩
  · rcases F1 y c e with ⟨a1, _⟩ | ⟨_, a2, _⟩
    · exact I.freeC y c a1
    · exact fresh c (by rw [a2]; exact Nat.le_succ _)
  · have hp' : p ∈ X.pn ++ pins := by
      have : p ∈ (X.pn ++ pins) ++ [] := hp
      simpa using this
    obtain ⟨q1, q2, q3, q4, q5⟩ := I.pin p hp'
    refine ⟨keep _ _ q1, q2, Nat.ne_of_lt (Heap.lt_size q1), fun z => ?_, q5⟩
    rcases List.mem_cons.mp (I.stkSub _ z) with w | w
    · exact q3 w
    · exact q4 w
theorem blk_back {cs : List (Str × Addr)} {C : Addr} {pinsB : List (Addr × Obj)} {σb : L2.St} {Hb : Hp} {s1 : Shared} (I : Inv X pins σ H s) (hf : ∀ b ∈ fp, L2.FpOk X pins H b) (Ib : Inv (blk X osc sc cs C s H fp pins) pinsB σb Hb s1) : Inv X pins σ Hb s1 :=
  I.call' (ch := fp) Ib.os Ib.base Ib.hok Ib.bare fun b hb => by
    obtain ⟨_, f2, _, f4, f5, f6⟩ := hf b hb
    exact ⟨f4, f2, f5, f6⟩
end
section
variable {prog : Program} {w : World} {A : Around} {R : Result → Shared → Prop} {s : Shared}
theorem compLoop_any {elt target iter : Expr} {ifs : List Expr} {scope : Scope} {pos : Pos} {it acc : Value} {env : PySem.Env} (I : Nat → Shared → Prop)
    (turn : ∀ n s, I n s → wpAny (model prog w) A (pyNext it) (fun r s₁ => match r with
      | none => R (.ok .next) s₁
      | some v => wpAny (model prog w) A (letOwnedTupleGo target it v) (fun _ s₁' => wpAny (model prog w) A (assign target env v) (fun _ s₂ =>
          wpAny (model prog w) A (forIn ifs true fun c r => if r = true then do let ok ← isTrue c env (eval c env); pure (ForInStep.yield ok) else pure (ForInStep.yield r)) (fun ok s₃ =>
            if ok = true then wpAny (model prog w) A (eval elt env) (fun x s₄ =>
              wpAny (model prog w) A (call (.builtin "list.append") [acc, x]) (fun _ s₅ => ∃ m, m < n ∧ I m s₅) (fun _ _ => False) s₄) (fun _ _ => False) s₃
            else ∃ m, m < n ∧ I m s₃) (fun _ _ => False) s₂) (fun _ _ => False) s₁') (fun _ _ => False) s₁) (fun _ _ => False) s)
    (n : Nat) (h : I n s) :
    codeAny (model prog w) A (.compLoop (.ListComp elt [⟨target, iter, ifs, 0⟩] scope pos) 0 it acc env) R s := by
  refine codeAny_loop rfl I (fun n s hI => ?_) n h
  show wpAny _ A ((compTurn (.ListComp elt [⟨target, iter, ifs, 0⟩] scope pos) 0 it acc env).onRaise (fun x => do noteFrame x env; theTreesLotGoes x)) _ _ s
  refine wpAny_noted ?_
  rw [compTurn_list]
  refine wpAny_bind (wpAny_standAt (wpAny_bind (wpAny_mono (turn n s hI) (fun r s₁ h₁ => ?_) fun _ _ h' => h'.elim)))
  cases r with
  | none => exact wpAny_pure h₁
  | some v =>
    refine wpAny_bind (wpAny_mono h₁ (fun _ s₁' h₁' => ?_) fun _ _ h' => h'.elim)
    refine wpAny_bind (wpAny_mono h₁' (fun _ s₂ h₂ => wpAny_bind (wpAny_mono h₂ (fun ok s₃ h₃ => ?_) fun _ _ h' => h'.elim)) fun _ _ h' => h'.elim)
    cases ok with
    | false => exact wpAny_pure ⟨rfl, h₃⟩
    | true =>
      exact wpAny_bind (wpAny_bind (wpAny_mono h₃ (fun x s₄ h₄ => wpAny_bind (wpAny_mono h₄ (fun _ s₅ h₅ => wpAny_pure (wpAny_pure ⟨rfl, h₅⟩)) fun _ _ h' => h'.elim)) fun _ _ h' => h'.elim))
end
end PV
set_option linter.all false
set_option Elab.async false
set_option maxRecDepth 100000
set_option maxHeartbeats 4000000
namespace PV
open PySem PySem.Spec PyProof.Rows
open L2 (V Hp HO Vals SqL SqT Same upd Cx PE PT PW PA PS PSs TE TT TA TS Inv RelV upd_same upd_ne ne_of_none Un)
def TestsOk (X : Cx) (ifs : List Expr) (tc : TT) : Prop := ∀ (pins : List (Addr × Obj)) (s : Shared) (σ : L2.St) (H : Hp) (Q : Bool → Hp → Prop), Inv X pins σ H s → tc σ H Q →
  wpAny (model X.prog X.w) X.A (forIn ifs true fun c r => if r = true then do let ok ← isTrue c X.env (eval c X.env); pure (ForInStep.yield ok) else pure (ForInStep.yield r)) (L2.TP X pins σ Q) X.xe s
theorem tests_nil {X : Cx} : TestsOk X [] (fun _ H Q => Q true H) := fun pins s σ H Q I h => wpAny_tests_nil ⟨H, I, h⟩
theorem tests_one {X : Cx} {c : Expr} {tc : TT} (h : PT X c tc) : TestsOk X [c] tc := fun pins s σ H Q I q => wpAny_tests_one (h pins s σ H Q I q)
def compTurns (J : L2.It) (i : Nat) (tc : TT) (te : TE) (σ : L2.St) (p : Addr) (Q : L2.VK) (H1 : Hp) : Prop :=
  ∃ W : Nat → Nat → Hp → List V → Prop, (∃ m, W 0 m (upd H1 p (.lst [])) []) ∧ ∀ k m H2 acc, W k m H2 acc → H2 p = some (.lst acc) ∧ acc.length < sizeLine ∧
    ((J.stop k H2 ∧ Q (.ref p) H2) ∨ (J.go k H2 ∧ ∀ v H3, J.yld k H2 v H3 → tc (σ.set i (some v)) H3 fun b H4 => if b = true then te (σ.set i (some v)) H4 fun w H5 => H5 p = some (.lst acc) ∧ ∃ m', m' < m ∧ W (k + 1) m' (upd H5 p (.lst (acc ++ [w]))) (acc ++ [w])
      else ∃ m', m' < m ∧ W (k + 1) m' H4 acc))
def tComp (wi : L2.TI) (i : Nat) (tc : TT) (te : TE) : TE := fun σ H Q => wi σ H fun J H1 => ∀ p, H1 p = none → compTurns J i tc te σ p Q H1
section
variable {X : Cx} {sc : Scope} {x : Str} {i : Nat} {px pos : Pos} {iter elt : Expr} {ifs : List Expr} {wi : L2.TI} {tc : TT} {te : TE}
theorem comp_block (nox : ∀ e s, X.xe e s → False) (hc : X.calm = true) (nd : X.N.Nodup) (CO : CompOk X.N X.env.scope sc x) (hi : X.N[i]? = some x)
    (hT : ∀ cs C s0 H0 fp pn, TestsOk (blk X X.env.scope sc cs C s0 H0 fp pn) ifs tc) (hE : ∀ cs C s0 H0 fp pn, PE (blk X X.env.scope sc cs C s0 H0 fp pn) elt te)
    {pins : List (Addr × Obj)} {σ : L2.St} {H : Hp} {s : Shared} {E : Value → Shared → Prop} {Q : L2.VK} {it : Addr} {fp : List Addr} {tn : Nat → Heap → Prop} {J : L2.It} {cl : List (Str × Addr)} {RR : Value → Addr → Result → Shared → Prop}
    (I : Inv X pins σ H s) (T : L2.Turn X.prog X.w X.K (.Name x px) J fp it tn) (st : tn 0 s.heap) (hf : ∀ b ∈ fp, L2.FpOk X pins H b) (hq : ∀ p, H p = none → compTurns J i tc te σ p Q H)
    (c1 : ∀ n c, cl.lookup n = some c → X.env.cells.lookup n = some c) (c2 : ∀ y ∈ sc.names, y.2 = .free → ∃ c, cl.lookup y.1 = some c) (c3 : ∀ n c, cl.lookup n = some c → (n, NameKind.free) ∈ sc.names)
    (hRR : ∀ (p C : Addr) (Hb : Hp) (m : Str → Option Value) (s1 : Shared), Inv X pins σ Hb s1 → Q (.ref p) Hb → s1.heap.Ns C m → Hb C = none → C ≠ X.env.locals → X.s₀.heap.objs.size ≤ C → (∀ y c, X.env.cells.lookup y = some c → c ≠ C) → (∀ q ∈ X.pn ++ pins, q.1 ≠ C) → C ∉ X.fs → RR (.ref p) C (.ok .next) s1) :
    wpAny (model X.prog X.w) X.A (newList []) (fun acc s₃ => wpAny (model X.prog X.w) X.A (newFunctionEnv sc X.env.globals cl [] X.env.qual none .none (some X.env)) (fun cenv s₄ =>
      codeAny (model X.prog X.w) X.A (.compStart (.ListComp elt [⟨.Name x px, iter, ifs, 0⟩] sc pos) 0 (.ref it) acc { cenv with scope := relabel sc X.env }) (RR acc cenv.locals) s₄) E s₃) E s := by
  refine wpAny_newObj_type (newEnv_comp ?_)
  have hp : H s.heap.objs.size = none := I.fresh
  have I3 : Inv X pins σ (upd H s.heap.objs.size (.lst [])) { s with heap := s.heap.push { cls := .type "list", data := .seq ([] : List Value).toArray } } := I.lnew (t' := s.toks) (its := []) (ys := []) .nil (Nat.zero_le _)
  obtain ⟨W, ⟨m0, w0⟩, turn⟩ := hq _ hp
  generalize hs3 : ({ s with heap := s.heap.push { cls := .type "list", data := .seq ([] : List Value).toArray } } : Shared) = s3 at I3
  generalize hH3 : upd H s.heap.objs.size (.lst []) = H3 at I3 w0
  have hlt : ∀ b ∈ fp, b < s.heap.objs.size := fun b hb => by obtain ⟨o, e, _⟩ := T.obj 0 s.heap st b hb; exact Heap.lt_size e
  have hk3 : ∀ b o, s.heap.get? b = some o → s3.heap.get? b = some o := fun b o e => by rw [← hs3]; exact Heap.get?_push_of_some _ e
  have hf3 : ∀ b ∈ fp, L2.FpOk X pins H3 b := fun b hb => by
    obtain ⟨f1, f2⟩ := hf b hb
    refine ⟨?_, f2⟩
    rw [← hH3, upd_ne (Nat.ne_of_lt (hlt b hb))]
    exact f1
  have st3 : tn 0 s3.heap := T.keep 0 _ _ st fun b hb o e => hk3 b o e
  have hl3 : ∀ b ∈ fp, b < s3.heap.objs.size := fun b hb => by obtain ⟨o, e, _⟩ := T.obj 0 s3.heap st3 b hb; exact Heap.lt_size e
  have Ib := blk_inv (i := i) (fp := fp) I3 CO rfl nd hi c1 c2 c3 hf3 hl3
  let Xb := blk X X.env.scope sc (cellsFrom (s3.heap.objs.size + 1) sc.names cl) s3.heap.objs.size s3 H3 fp pins
  have hTb : TestsOk Xb ifs tc := hT _ _ _ _ _ _
  have hEb : PE Xb elt te := hE _ _ _ _ _ _
  have stk : ∀ b, b ∈ L2.frs X.stack → b < s3.heap.objs.size := fun b hb => by
    refine Nat.lt_of_not_le fun hle => ?_
    rcases List.mem_cons.mp (I3.stkSub b hb) with z | z
    · rw [z] at hle; exact absurd I3.lt (Nat.not_lt.mpr hle)
    · exact I3.nofs hle z
  have st4 : tn 0 (pushCells (s3.heap.push { cls := .type "dict", data := .dict #[] }) sc.names) := T.keep 0 _ _ st3 fun b hb o e => pushCells_keeps _ _ b o (Heap.get?_push_of_some _ e)
  have xf : ∀ {α : Type} {t : Sem α} {Q : α → Shared → Prop} {s : Shared}, wpAny (model X.prog X.w) X.A t Q X.xe s → wpAny (model X.prog X.w) X.A t Q (fun _ _ => False) s := fun h => wpAny_mono h (fun _ _ q => q) fun e s q => nox e s q
  have pgx : L2.PG Xb (.Name x px) (L2.gName i) := by
    refine L2.pg_name nd hi ?_ ?_
    · rcases CO.var with z | z
      · exact .inl (relab_local z)
      · exact .inr (relab_cell z)
    · rcases CO.var with z | z
      · exact .inr (relab_local z)
      · exact .inl (decide_eq_true z)
  have loop : ∀ s4 : Shared, s4 = { s3 with heap := pushCells (s3.heap.push { cls := .type "dict", data := .dict #[] }) sc.names } →
      codeAny (model X.prog X.w) X.A (.compLoop (.ListComp elt [⟨.Name x px, iter, ifs, 0⟩] sc pos) 0 (.ref it) (.ref s.heap.objs.size) Xb.env) (RR (.ref s.heap.objs.size) s3.heap.objs.size) s4 := by
    rintro s4 rfl
    have stat : ∀ {Hc : Hp}, (∀ b ∈ fp, Hc b = none) → ∀ b ∈ fp, L2.FpOk Xb [] Hc b := fun {Hc} hn b hb => by
      obtain ⟨_, f2, f3, f4, f5, f6⟩ := hf3 b hb
      refine ⟨hn b hb, Nat.ne_of_lt (hl3 b hb), fun z => ?_, .inl hb, Ib.ok.exf b hb |>.2, fun q hq' => ?_⟩
      · rcases List.mem_cons.mp (I3.stkSub b z) with w | w
        · exact f2 w
        · exact f3 w
      · have hq2 : q ∈ (X.pn ++ pins) ++ [] := hq'
        exact f6 q (by simpa using hq2)
    refine compLoop_any (fun n s' => ∃ k ov Hc acc, Inv Xb [] (σ.set i ov) Hc s' ∧ tn k s'.heap ∧ (∀ b ∈ fp, Hc b = none) ∧ W k n Hc acc) ?_ m0 ⟨0, none, H3, [], Ib, st4, fun b hb => (hf3 b hb).1, w0⟩
    rintro n s5 ⟨k, ov, Hc, acc, I5, st5, fr5, w5⟩
    obtain ⟨hacc, hlen, hcase⟩ := turn k n Hc acc w5
    rcases hcase with ⟨stop, qn⟩ | ⟨go, step⟩
    · refine xf (L2.thn (T.done Xb rfl rfl rfl hc k [] s5 (σ.set i ov) Hc X.xe I5 (stat fr5) st5 stop) fun r s6 ⟨hr, I6⟩ => ?_)
      subst hr
      obtain ⟨mm, hn6, _⟩ := I6.loc
      refine hRR _ _ Hc mm s6 (blk_back (osc := X.env.scope) (sc := sc) I3 hf3 I6) qn hn6 I6.free (Ne.symm (Nat.ne_of_lt I3.lt)) I3.sz (fun y c e z => ?_) (fun q hq' z => ?_) fun z => ?_
      · obtain ⟨v, q⟩ := I3.cell y c e
        exact absurd q.lt (by rw [z]; exact Nat.lt_irrefl _)
      · exact absurd (Heap.lt_size (I3.pin q hq').1) (by rw [z]; exact Nat.lt_irrefl _)
      · exact I3.nofs (Nat.le_refl _) z
    · refine xf (L2.thn (T.item Xb rfl rfl rfl hc k [] s5 (σ.set i ov) Hc X.xe I5 (stat fr5) st5 go) fun r s6 ⟨u, hr, h6⟩ => ?_)
      subst hr
      refine xf (L2.thn h6 fun _ s7 ⟨v, H7, I7, r7, y7, st7, fr7⟩ => ?_)
      have I7' := I7.pinned (stat fr7) (T.obj _ _ st7)
      have hv := step v H7 y7
      refine xf (L2.thn (pgx _ s7 (σ.set i ov) H7 v u (fun σ' H' => σ' = σ.set i (some v) ∧ H' = H7) I7' r7 ⟨by rw [List.set_set], rfl⟩) fun _ s8 ⟨σ8, H8, I8, e8, e8'⟩ => ?_)
      subst e8 e8'
      refine xf (L2.thn (hTb _ s8 _ H8 _ I8 hv) fun ok s9 ⟨H9, I9, q9⟩ => ?_)
      have again : ∀ {σ10 : L2.St} {H10 : Hp} {acc' : List V} {s10 : Shared}, Inv Xb ([] ++ L2.pinsAt fp s7.heap) σ10 H10 s10 → σ10 = σ.set i (some v) → (∃ m', m' < n ∧ W (k + 1) m' H10 acc') →
          ∃ m, m < n ∧ ∃ k ov Hc acc, Inv Xb [] (σ.set i ov) Hc s10 ∧ tn k s10.heap ∧ (∀ b ∈ fp, Hc b = none) ∧ W k m Hc acc := fun {σ10 H10 acc' s10} I10 e10 ⟨m', hm, w10⟩ => by
        subst e10
        refine ⟨m', hm, k + 1, some v, H10, acc', I10.unpinned, T.keep _ _ _ st7 fun b hb o e => (I10.pin (b, o) (List.mem_append_right _ (List.mem_append_right _ (L2.mem_pinsAt hb e)))).1, fun b hb => ?_, w10⟩
        obtain ⟨o, e, d⟩ := T.obj _ _ st7 b hb
        exact (I10.pin (b, o) (List.mem_append_right _ (List.mem_append_right _ (L2.mem_pinsAt hb e)))).2.1
      cases ok with
      | false =>
        show ∃ m, m < n ∧ _
        rw [if_neg Bool.false_ne_true] at q9
        exact again I9 rfl q9
      | true =>
        rw [if_pos rfl] at q9
        show wpAny _ _ _ _ _ _
        refine xf (L2.thn (hEb _ s9 _ H9 _ I9 q9) fun ww s10 ⟨x10, H10, I10, r10, q10, m', hm, w10⟩ => ?_)
        refine xf (L2.thn (L2.mt_append (X := Xb) _ s10 _ H10 (.ref s.heap.objs.size) [x10] (.ref s.heap.objs.size) [ww] (fun _ H' => H' = upd H10 s.heap.objs.size (.lst (acc ++ [x10]))) I10 rfl (.cons r10 .nil) ⟨_, acc, x10, rfl, rfl, q10, hlen, rfl⟩) fun _ s11 ⟨_, H11, I11, _, e11⟩ => ?_)
        subst e11
        exact again I11 rfl ⟨m', hm, w10⟩
  subst hs3
  have l := loop _ rfl
  exact codeAny_compStart_list l (T.self _ 0 _ _ _ st4 l)
theorem clos_of {pins : List (Addr × Obj)} {σ : L2.St} {H : Hp} {s : Shared} (I : Inv X pins σ H s) (CO : CompOk X.N X.env.scope sc x) : ∀ y ∈ sc.names, y.2 = .free → ∃ c, X.env.cells.lookup y.1 = some c := fun y hy e =>
  I.ok.has y.1 (CO.free y hy e)
theorem pe_comp (nox : ∀ e s, X.xe e s → False) (hc : X.calm = true) (nd : X.N.Nodup) (CO : CompOk X.N X.env.scope sc x) (hi : X.N[i]? = some x) (hI : L2.PI X (.Name x px) iter wi)
    (hT : ∀ cs C s0 H0 fp pn, TestsOk (blk X X.env.scope sc cs C s0 H0 fp pn) ifs tc) (hE : ∀ cs C s0 H0 fp pn, PE (blk X X.env.scope sc cs C s0 H0 fp pn) elt te)
    (hs : ∀ x, foldedSetIterable iter X.env x = pure x) : PE X (.ListComp elt [⟨.Name x px, iter, ifs, 0⟩] sc pos) (tComp wi i tc te) := by
  intro pins s σ H Q I h
  obtain ⟨cl, hcl, c1, c2, c3⟩ := closure_ex (clos_of I CO)
  rw [eval_ListComp]
  refine wpAny_comprehension_free (use := none) rfl hs hcl CO.kind CO.loc (L2.thn (hI pins s σ H _ I h) fun v s1 h1 => L2.thn h1 fun itv s2 h2 => ?_)
  obtain ⟨it, fp, tn, J, H2, rfl, I2, T, st, hf, hq⟩ := h2
  refine comp_block (RR := fun acc C => compPost (model X.prog X.w) X.A X.xe none (L2.EP X pins σ Q) acc C) nox hc nd CO hi hT hE I2 T st hf hq c1 c2 c3 ?_
  intro p C Hb m s1' I' q hns hC hL hsz hcell hpin hfs
  refine ⟨m, hns, fun h' hs' => ?_⟩
  have I'' := I'.turned (h' := h') (t' := s1'.toks) (it := C) (fun b o hb e => hs'.extBut b o hb e) hC hL (.inr hsz) hcell hpin
  exact ⟨.ref p, Hb, I'', rfl, q⟩
theorem ps_setComp {j : Nat} {y : Str} {py spos : Pos} (nox : ∀ e s, X.xe e s → False) (hc : X.calm = true) (nd : X.N.Nodup) (CO : CompOk X.N X.env.scope sc x) (hi : X.N[i]? = some x) (hI : L2.PI X (.Name x px) iter wi)
    (hT : ∀ cs C s0 H0 fp pn, TestsOk (blk X X.env.scope sc cs C s0 H0 fp pn) ifs tc) (hE : ∀ cs C s0 H0 fp pn, PE (blk X X.env.scope sc cs C s0 H0 fp pn) elt te)
    (hs : ∀ x, foldedSetIterable iter X.env x = pure x) (hj : X.N[j]? = some y) (hy : L2.Loc X.env.scope y) (hfn : X.fn y = true ∨ X.env.scope.names.lookup y = some .local)
    (hsw : swapsWith (.ListComp elt [⟨.Name x px, iter, ifs, 0⟩] sc pos) (some (.Name y py)) spos.line X.env = pure true) :
    PS X (.Assign [.Name y py] (.ListComp elt [⟨.Name x px, iter, ifs, 0⟩] sc pos) spos) (L2.tAsg (tComp wi i tc te) (L2.gName j)) := by
  intro pins s σ H D0 I h
  obtain ⟨cl, hcl, c1, c2, c3⟩ := closure_ex (clos_of I CO)
  rw [exec_Assign_Name_used _ _ _ _ hsw]
  refine wpAny_bind (wpAny_standAt (wpAny_bind ?_))
  show wpAny _ X.A (do let _ ← comprehension (.ListComp elt [⟨.Name x px, iter, ifs, 0⟩] sc pos) sc X.env _ (newList []) false (eval iter X.env) (some (assign (.Name y py) X.env))) _ _ s
  refine wpAny_bind (wpAny_mono (wpAny_comprehension_free (use := some (assign (.Name y py) X.env)) (Q := fun _ s' => L2.SP X pins D0 .next s') rfl hs hcl CO.kind CO.loc
    (L2.thn (hI pins s σ H _ I h) fun v s1 h1 => L2.thn h1 fun itv s2 h2 => ?_)) (fun _ s' hq => wpAny_pure (wpAny_pure hq)) fun _ _ e => e)
  obtain ⟨it, fp, tn, J, H2, rfl, I2, T, st, hf, hq⟩ := h2
  refine comp_block (RR := fun acc C => compPost (model X.prog X.w) X.A X.xe (some (assign (.Name y py) X.env)) (fun _ s' => L2.SP X pins D0 .next s') acc C) nox hc nd CO hi hT hE I2 T st hf hq c1 c2 c3 ?_
  intro p C Hb m s1' I' q hns hC hL hsz hcell hpin hfs
  show wpAny _ X.A (assign (.Name y py) X.env (.ref p)) _ _ _
  obtain ⟨oC, es, ep, hoC, hdC, rest⟩ := id hns
  have Ip : Inv X (pins ++ [(C, oC)]) σ Hb s1' := I'.pins_of fun q hq' => (List.mem_append.mp hq').elim (fun z => I'.pin q (List.mem_append_right _ z)) fun z => by
    have e : q = (C, oC) := by simpa using z
    subst e
    exact ⟨hoC, hC, hL, hfs, fun v e => by rw [hdC] at e; cases e⟩
  refine wpAny_assign_Name (L2.store_ok Ip nd hj hy (v := .ref p) rfl (fun s2' I2' => ?_) hfn)
  have hC2 := (I2'.pin (C, oC) (List.mem_append_right _ (List.mem_append_right _ (by simp)))).1
  refine ⟨m, ⟨oC, es, ep, hC2, hdC, rest⟩, fun h' hs' => ?_⟩
  have I3' : Inv X pins (σ.set j (some (.ref p))) Hb s2' := I2'.unpinned
  have I4' := I3'.turned (h' := h') (t' := s2'.toks) (it := C) (fun b o hb e => hs'.extBut b o hb e) hC hL (.inr hsz) hcell hpin
  exact ⟨_, Hb, I4', q⟩
end
end PV
set_option linter.all false
set_option Elab.async false
set_option maxRecDepth 100000
set_option maxHeartbeats 4000000
namespace PV
open PySem PySem.Spec PyProof.Rows
open L2 (V Hp HO Vals SqL SqT Same upd Cx PE PT PW PA PS PSs TE TT TA TS Inv RelV upd_same upd_ne ne_of_none Un)
section
variable {X : Cx} {sc : Scope} {x : Str} {i : Nat} {px pos : Pos} {iter elt c : Expr} {lx : Lx} {t : Tx} {f : Ex} {m : Md} {r : RetP}
theorem Ext.upd_own {F H F2 H2 F5 H5 : Hp} (e : Ext F H F2 H2) (e5 : Ext F2 H2 F5 H5) {p : Addr} (hp : H p = none) (f2 : F2 p = none) (h2 : H2 p ≠ none) (o : HO) : Ext F H F5 (upd H5 p o) ∧ F5 p = none := by
  have f5 : F5 p = none := by
    cases z : F5 p with
    | none => rfl
    | some u =>
      rcases e5.dm p u z with y | y
      · rw [f2] at y; cases y
      · exact absurd y h2
  have e' := e.trans e5
  refine ⟨⟨fun b u h => by rw [upd_ne (ne_of_none h hp)]; exact e'.hh b u h, e'.ff, e'.dm, fun b u h => by rw [upd_ne (ne_of_none h f5)]; exact e'.fh b u h⟩, f5⟩
theorem hpM_upd {BH F H : Hp} {p : Addr} {o : HO} (hm : m ≠ .r) : Same (hpM BH F H m) (hpM BH F (upd H p o) m) := by
  cases m with
  | r => exact absurd rfl hm
  | k => exact .refl _
  | f => exact .refl _
theorem comp_turns {K : PySem.W.Frag} {tc : TT} (htc : ∀ σ H Q, tTst K t σ H Q → tc σ H Q) (hm : m ≠ .r) {BF BH F F1 H H1 : Hp} {σ : L2.St} {env : Env} {L : Nat → List Addr} {ds xs : List D} {J : L2.It} {p : Addr} {Q : L2.VK} (S : SOk K BF BH F H σ env L) (z1 : Ext F H F1 H1) (J1 : ItOk K J F1 ds)
    (hl : ds.length ≤ lim) (hx : compL i t f env ds = some xs) (hp : H1 p = none) (q : ∀ vs F' H', Ext F H F' H' → H p = none → H' p = some (.lst vs) → F' p = none → Reps K (hpM BH F' H' m) xs vs → Q (.ref p) H') :
    compTurns J i tc (tD K m f) σ p Q H1 := by
  have hp0 : H p = none := z1.hh.free hp
  have hpF : F1 p = none := z1.fh.free hp
  refine ⟨fun k mm H2 acc => mm = ds.length - k ∧ k ≤ ds.length ∧ H2 p = some (.lst acc) ∧ ∃ F2 ys zs, Ext F H F2 H2 ∧ Same F1 F2 ∧ F2 p = none ∧ ys.length ≤ k ∧ Reps K (hpM BH F2 H2 m) ys acc ∧ compL i t f env (ds.drop k) = some zs ∧ xs = ys ++ zs,
    ⟨ds.length, by simp, Nat.zero_le _, upd_same, F1, [], xs, z1.trans (Ext.own z1.fh hp), .refl _, hpF, Nat.zero_le _, Reps.nil, hx, rfl⟩, ?_⟩
  rintro k mm H2 acc ⟨rfl, hk, hacc, F2, ys, zs, z2, s12, f2, hy, ra, hz, hxs⟩
  have hal : acc.length ≤ lim := by rw [← ra.length]; omega
  refine ⟨hacc, Nat.lt_of_le_of_lt hal lim_lt, ?_⟩
  by_cases hlt : k < ds.length
  · refine .inr ⟨J1.go k H2 (s12.trans z2.fh) hlt, fun v H3 hy3 => ?_⟩
    obtain ⟨d, F3, hd, z3, r3⟩ := J1.yld k H2 v H3 F2 s12 z2.fh hlt hy3
    have hd' : ds[k] = d := by rw [List.getElem?_eq_getElem hlt] at hd; exact Option.some.inj hd
    rw [List.drop_eq_getElem_cons hlt, hd'] at hz
    simp only [compL] at hz
    have z13 := z2.trans z3
    have S3 := (S.ext z13).setSh i r3
    have h2p : H2 p ≠ none := by rw [hacc]; simp
    split at hz
    · rename_i ht
      refine htc _ _ _ ⟨BF, BH, F3, _, _, true, S3, ht, fun F4 H4 z4 => L2.iteT ?_⟩
      split at hz
      · rename_i e1 zs' he hz'
        cases hz
        refine ⟨BF, BH, F4, _, _, e1, S3.ext z4, he, fun w F5 H5 z5 r5 => ?_⟩
        have z25 := (z3.trans z4).trans z5
        obtain ⟨zz, f5⟩ := z2.upd_own z25 hp0 f2 h2p (.lst (acc ++ [w]))
        refine ⟨z25.hh _ _ hacc, ds.length - (k + 1), by omega, rfl, hlt, upd_same, F5, ys ++ [e1], zs', zz, s12.trans z25.ff, f5, by rw [List.length_append, List.length_singleton]; omega, ?_, hz', by rw [hxs, List.append_assoc]; rfl⟩
        exact Reps.mono (hpM_upd hm) _ _ ((Reps.mono (hpM_ext z25 m) _ _ ra).append (Reps.cons r5 Reps.nil))
      · cases hz
    · rename_i ht
      refine htc _ _ _ ⟨BF, BH, F3, _, _, false, S3, ht, fun F4 H4 z4 => L2.iteF ?_⟩
      have z24 := z3.trans z4
      have f4 : F4 p = none := by
        cases q4 : F4 p with
        | none => rfl
        | some u =>
          rcases z24.dm p u q4 with y | y
          · rw [f2] at y; cases y
          · exact absurd y h2p
      exact ⟨ds.length - (k + 1), by omega, rfl, hlt, z24.hh _ _ hacc, F4, ys, zs, z2.trans z24, s12.trans z24.ff, f4, by omega, Reps.mono (hpM_ext z24 m) _ _ ra, hz, hxs⟩
    · cases hz
  · have ek : k = ds.length := by omega
    subst ek
    rw [List.drop_length] at hz
    have hz0 : zs = [] := by simp only [compL] at hz; exact (Option.some.inj hz).symm
    subst hz0
    rw [List.append_nil] at hxs
    subst hxs
    exact .inl ⟨J1.stop H2 (s12.trans z2.fh), q acc F2 H2 z2 hp0 hacc f2 ra⟩
theorem eComp_inv {env : Env} {d : D} (h : eComp i lx t f env = some d) : ∃ ds xs, lx env = some ds ∧ ds.length ≤ lim ∧ compL i t f env ds = some xs ∧ d = .lst xs := by
  unfold eComp at h
  split at h
  · rename_i ds h1
    split at h
    · rename_i hl
      split at h
      · rename_i xs h2
        cases h
        exact ⟨ds, xs, h1, hl, h2, rfl⟩
      · cases h
    · cases h
  · cases h
theorem comp_tO {tc : TT} (htc : ∀ σ H Q, tTst X.K t σ H Q → tc σ H Q) (hm : m ≠ .r) (σ : L2.St) (H : Hp) (Q : L2.VK) (h : tO X.K m (eComp i lx t f) σ H Q) : tComp (tIt X.K lx) i tc (tD X.K m f) σ H Q := by
  obtain ⟨BF, BH, F, env, L, ds0, S, e, q⟩ := h
  obtain ⟨ds, xs, h1, hl, h2, e2⟩ := eComp_inv e
  cases e2
  exact ⟨BF, BH, F, env, L, ds, S, h1, fun J F1 H1 z1 J1 p hp => comp_turns htc hm S z1 J1 hl h2 hp fun vs F' H' z a b c d => q p vs F' H' z a b c d⟩
theorem tc_nil {K : PySem.W.Frag} : ∀ σ H Q, tTst K tTrue σ H Q → (fun (_ : L2.St) (H : Hp) (Q : Bool → Hp → Prop) => Q true H) σ H Q := fun σ H Q ⟨BF, BH, F, env, L, b, S, e, q⟩ => by
  cases e; exact q F H (.refl S.fh)
variable (nox : ∀ e s, X.xe e s → False) (nd : X.N.Nodup)
include nox nd
theorem po_comp (i : Nat) (hI : PId X (.Name x px) iter lx) (hE : ∀ cs C s0 H0 fp pn, PD (blk X X.env.scope sc cs C s0 H0 fp pn) m elt f) (hm : m ≠ .r := by exact fun h => nomatch h) (hc : X.calm = true := by rfl) (hco : compB X.N X.env.scope sc x = true := by kernel_rfl) (hi : X.N[i]? = some x := by kernel_rfl)
    (hs : ∀ x, foldedSetIterable iter X.env x = pure x := by intro _; rfl) : PDo X m (.ListComp elt [⟨.Name x px, iter, [], 0⟩] sc pos) (eComp i lx tTrue f) :=
  PE.of (pe_comp (te := tD X.K m f) nox hc nd (compB_ok hco) hi hI (fun _ _ _ _ _ _ => tests_nil) (fun cs C s0 H0 fp pn => (hE cs C s0 H0 fp pn).h) hs) fun σ H Q h => comp_tO tc_nil hm σ H Q h
theorem po_comp1 (i : Nat) (hI : PId X (.Name x px) iter lx) (hT : ∀ cs C s0 H0 fp pn, PTd (blk X X.env.scope sc cs C s0 H0 fp pn) c t) (hE : ∀ cs C s0 H0 fp pn, PD (blk X X.env.scope sc cs C s0 H0 fp pn) m elt f) (hm : m ≠ .r := by exact fun h => nomatch h) (hc : X.calm = true := by rfl)
    (hco : compB X.N X.env.scope sc x = true := by kernel_rfl) (hi : X.N[i]? = some x := by kernel_rfl) (hs : ∀ x, foldedSetIterable iter X.env x = pure x := by intro _; rfl) : PDo X m (.ListComp elt [⟨.Name x px, iter, [c], 0⟩] sc pos) (eComp i lx t f) :=
  PE.of (pe_comp (tc := tTst X.K t) (te := tD X.K m f) nox hc nd (compB_ok hco) hi hI (fun cs C s0 H0 fp pn => tests_one (hT cs C s0 H0 fp pn)) (fun cs C s0 H0 fp pn => (hE cs C s0 H0 fp pn).h) hs) fun σ H Q h => comp_tO (fun _ _ _ q => q) hm σ H Q h
theorem pd_comp (i : Nat) (hI : PId X (.Name x px) iter lx) (hE : ∀ cs C s0 H0 fp pn, PD (blk X X.env.scope sc cs C s0 H0 fp pn) m elt f) (hm : m ≠ .r := by exact fun h => nomatch h) (hc : X.calm = true := by rfl) (hco : compB X.N X.env.scope sc x = true := by kernel_rfl) (hi : X.N[i]? = some x := by kernel_rfl)
    (hs : ∀ x, foldedSetIterable iter X.env x = pure x := by intro _; rfl) : PD X m (.ListComp elt [⟨.Name x px, iter, [], 0⟩] sc pos) (eComp i lx tTrue f) :=
  (po_comp nox nd i hI hE hm hc hco hi hs).d fun env d h => by obtain ⟨_, xs, _, _, _, e⟩ := eComp_inv h; exact ⟨xs, e⟩
theorem pd_comp1 (i : Nat) (hI : PId X (.Name x px) iter lx) (hT : ∀ cs C s0 H0 fp pn, PTd (blk X X.env.scope sc cs C s0 H0 fp pn) c t) (hE : ∀ cs C s0 H0 fp pn, PD (blk X X.env.scope sc cs C s0 H0 fp pn) m elt f) (hm : m ≠ .r := by exact fun h => nomatch h) (hc : X.calm = true := by rfl)
    (hco : compB X.N X.env.scope sc x = true := by kernel_rfl) (hi : X.N[i]? = some x := by kernel_rfl) (hs : ∀ x, foldedSetIterable iter X.env x = pure x := by intro _; rfl) : PD X m (.ListComp elt [⟨.Name x px, iter, [c], 0⟩] sc pos) (eComp i lx t f) :=
  (po_comp1 nox nd i hI hT hE hm hc hco hi hs).d fun env d h => by obtain ⟨_, xs, _, _, _, e⟩ := eComp_inv h; exact ⟨xs, e⟩
omit nox nd
theorem asg_set {te : TE} {j : Nat} (D0 : L2.Ends) (σ : L2.St) (H : Hp) (h : tS X.K r (sSet j f) D0 σ H) (hf : ∀ env d, f env = some d → ∃ ds, d = .lst ds) (hte : ∀ Q, tO X.K .k f σ H Q → te σ H Q) : L2.tAsg te (L2.gName j) D0 σ H := by
  obtain ⟨BF, BH, F, env, L, o, env', S, e, k⟩ := h
  unfold sSet at e
  split at e
  · rename_i d h1
    cases e
    obtain ⟨ds, rfl⟩ := hf env d h1
    refine hte _ ⟨BF, BH, F, env, L, ds, S, h1, fun p vs F' H' z h0 h2 h3 rr => ?_⟩
    have z' := z.frz h0 h2 h3
    have rp : Rep X.K (upd F' p (.lst vs)) (.lst ds) (.ref p) := by
      simp only [Rep]
      exact ⟨p, vs, rfl, .inl (.inl upd_same), Reps.mono (fun b u e => by rw [upd_ne (ne_of_none e h3)]; exact e) _ _ rr⟩
    exact k _ H' _ _ ((S.ext z').setSh j rp) z'.ff
  · cases e
include nox nd
theorem ps_setsC (j i : Nat) {y : Str} {py spos : Pos} (hI : PId X (.Name x px) iter lx) (hE : ∀ cs C s0 H0 fp pn, PD (blk X X.env.scope sc cs C s0 H0 fp pn) .k elt f) (hc : X.calm = true := by rfl) (hco : compB X.N X.env.scope sc x = true := by kernel_rfl) (hi : X.N[i]? = some x := by kernel_rfl)
    (hs : ∀ x, foldedSetIterable iter X.env x = pure x := by intro _; rfl) (hj : X.N[j]? = some y := by kernel_rfl) (hy : locB X.env.scope y = true := by kernel_rfl) (hfn : fnB X y = true := by kernel_rfl)
    (hsw : swapsWith (.ListComp elt [⟨.Name x px, iter, [], 0⟩] sc pos) (some (.Name y py)) spos.line X.env = pure true := by rfl) : PS1 X r (.Assign [.Name y py] (.ListComp elt [⟨.Name x px, iter, [], 0⟩] sc pos) spos) (sSet j (eComp i lx tTrue f)) :=
  PS1.mk <| PS.of (ps_setComp (te := tD X.K .k f) nox hc nd (compB_ok hco) hi hI (fun _ _ _ _ _ _ => tests_nil) (fun cs C s0 H0 fp pn => (hE cs C s0 H0 fp pn).h) hs hj (locB_ok hy) (fnB_ok hfn) hsw) fun D0 σ H h => asg_set D0 σ H h (fun env d h => by obtain ⟨_, xs, _, _, _, e⟩ := eComp_inv h; exact ⟨xs, e⟩) fun Q q => comp_tO (m := .k) tc_nil (fun h => nomatch h) σ H Q q
omit nox nd
theorem rows_inv {K : PySem.W.Frag} {F H : Hp} : ∀ {rs : List (List D)} {as : List Addr}, RowsOk K F H rs as → ∀ b ∈ as, H b ≠ none
  | [], as, h, b, hb => by have e : as = [] := h; subst e; cases hb
  | r :: rs, as, h, b, hb => by
    obtain ⟨c, t, vs, rfl, h1, _, h3⟩ := h
    rcases List.mem_cons.mp hb with rfl | hb
    · rw [h1]; simp
    · exact rows_inv h3 b hb
theorem rows_snoc {K : PySem.W.Frag} {F H : Hp} {a : Addr} {vs : List V} {r : List D} (h1 : H a = some (.lst vs)) (h2 : Reps K F r vs) : ∀ {rs : List (List D)} {as : List Addr}, RowsOk K F H rs as → RowsOk K F H (rs ++ [r]) (as ++ [a])
  | [], as, h => by have e : as = [] := h; subst e; exact ⟨a, [], vs, rfl, h1, h2, rfl⟩
  | r0 :: rs, as, h => by obtain ⟨b, t, ws, rfl, k1, k2, k3⟩ := h; exact ⟨b, t ++ [a], ws, rfl, k1, k2, rows_snoc h1 h2 k3⟩
theorem comp_turnsT {K : PySem.W.Frag} {BF BH F F1 H H1 : Hp} {σ : L2.St} {env : Env} {L : Nat → List Addr} {ds xs : List D} {J : L2.It} {p : Addr} {Q : L2.VK} (S : SOk K BF BH F H σ env L) (z1 : Ext F H F1 H1) (J1 : ItOk K J F1 ds)
    (hl : ds.length ≤ lim) (hx : compL i tTrue f env ds = some xs) (hf : ∀ env d, f env = some d → ∃ ds, d = .lst ds) (hp : H1 p = none) (q : ∀ v F' H', Ext F H F' H' → rT K H F' H' (.lst xs) v → Q v H') :
    compTurns J i (fun _ H Q => Q true H) (tO K .k f) σ p Q H1 := by
  have hp0 : H p = none := z1.hh.free hp
  have hpF : F1 p = none := z1.fh.free hp
  refine ⟨fun k mm H2 acc => mm = ds.length - k ∧ k ≤ ds.length ∧ H2 p = some (.lst acc) ∧ ∃ F2 ys zs as, Ext F H F2 H2 ∧ Same F1 F2 ∧ (∀ b ∈ p :: as, H b = none ∧ F2 b = none) ∧ (p :: as).Nodup ∧ ys.length ≤ k ∧ acc = as.map .ref ∧ RowsOk K F2 H2 ys as ∧ compL i tTrue f env (ds.drop k) = some zs ∧ xs = ys.map .lst ++ zs,
    ⟨ds.length, by simp, Nat.zero_le _, upd_same, F1, [], xs, [], z1.trans (Ext.own z1.fh hp), .refl _, fun b hb => by
      rw [List.mem_singleton] at hb; subst hb; exact ⟨hp0, hpF⟩, by simp, Nat.zero_le _, rfl, rfl, hx, rfl⟩, ?_⟩
  rintro k mm H2 acc ⟨rfl, hk, hacc, F2, ys, zs, as, z2, s12, hown, nd, hy, rfl, hrows, hz, hxs⟩
  have hal : (as.map V.ref).length ≤ lim := by rw [List.length_map, ← hrows.length]; omega
  refine ⟨hacc, Nat.lt_of_le_of_lt hal lim_lt, ?_⟩
  by_cases hlt : k < ds.length
  · refine .inr ⟨J1.go k H2 (s12.trans z2.fh) hlt, fun v H3 hy3 => L2.iteT ?_⟩
    obtain ⟨d, F3, hd, z3, r3⟩ := J1.yld k H2 v H3 F2 s12 z2.fh hlt hy3
    have hd' : ds[k] = d := by rw [List.getElem?_eq_getElem hlt] at hd; exact Option.some.inj hd
    rw [List.drop_eq_getElem_cons hlt, hd'] at hz
    simp only [compL, tTrue] at hz
    have z13 := z2.trans z3
    have S3 := (S.ext z13).setSh i r3
    split at hz
    · rename_i e1 zs' he hz'
      cases hz
      obtain ⟨row, rfl⟩ := hf _ _ he
      refine ⟨BF, BH, F3, _, _, row, S3, he, fun a vs F5 H5 z5 ha0 ha1 ha2 rr => ?_⟩
      have z25 := z3.trans z5
      have h2p : H2 p ≠ none := by rw [hacc]; simp
      have ha2' : H2 a = none := z3.hh.free ha0
      have hpa : p ≠ a := fun e => by subst e; exact h2p ha2'
      have haas : a ∉ as := fun z => rows_inv hrows a z ha2'
      obtain ⟨zz, f5⟩ := z2.upd_own z25 hp0 (hown p List.mem_cons_self).2 h2p (.lst (as.map V.ref ++ [V.ref a]))
      have hpas : p ∉ as := (List.nodup_cons.mp nd).1
      have hrows5 : RowsOk K F5 (upd H5 p (.lst (as.map V.ref ++ [V.ref a]))) ys as := hrows.mono z25.ff fun b hb o e => by
        rw [upd_ne (fun q => hpas (by rw [← q]; exact hb))]; exact z25.hh _ _ e
      refine ⟨z25.hh _ _ hacc, ds.length - (k + 1), by omega, rfl, hlt, upd_same, F5, ys ++ [row], zs', as ++ [a], zz, s12.trans z25.ff, fun b hb => ?_, ?_, by rw [List.length_append, List.length_singleton]; omega, by rw [List.map_append]; rfl, ?_, hz', by rw [hxs, List.map_append, List.append_assoc]; rfl⟩
      · have own5 : ∀ b, b ∈ p :: as → F5 b = none := fun b hb => by
          cases q5 : F5 b with
          | none => rfl
          | some u =>
            rcases z25.dm b u q5 with y | y
            · rw [(hown b hb).2] at y; cases y
            · rcases List.mem_cons.mp hb with e | e
              · rw [e] at y; exact absurd y h2p
              · exact absurd y (rows_inv hrows b e)
        rcases List.mem_cons.mp hb with e | e
        · rw [e]; exact ⟨hp0, f5⟩
        · rcases List.mem_append.mp e with e | e
          · exact ⟨(hown b (List.mem_cons_of_mem _ e)).1, own5 b (List.mem_cons_of_mem _ e)⟩
          · rw [List.mem_singleton] at e; subst e; exact ⟨z2.hh.free ha2', ha2⟩
      · obtain ⟨n1, n2⟩ := List.nodup_cons.mp nd
        refine List.nodup_cons.mpr ⟨fun z => ?_, ?_⟩
        · rcases List.mem_append.mp z with e | e
          · exact n1 e
          · rw [List.mem_singleton] at e; exact hpa e
        · rw [List.nodup_append]
          exact ⟨n2, by simp, fun b hb c hc e => by rw [List.mem_singleton] at hc; subst hc; subst e; exact haas hb⟩
      · exact rows_snoc (by rw [upd_ne (Ne.symm hpa)]; exact ha1) rr hrows5
    · cases hz
  · have ek : k = ds.length := by omega
    subst ek
    rw [List.drop_length] at hz
    have hz0 : zs = [] := by simp only [compL] at hz; exact (Option.some.inj hz).symm
    subst hz0
    rw [List.append_nil] at hxs
    subst hxs
    exact .inl ⟨J1.stop H2 (s12.trans z2.fh), q _ F2 H2 z2 ⟨p, as, ys, rfl, rfl, hacc, hrows, nd, hown⟩⟩
include nox nd
theorem ps_tabC (j i : Nat) {y : Str} {py spos : Pos} (hI : PId X (.Name x px) iter lx) (hE : ∀ cs C s0 H0 fp pn, PDo (blk X X.env.scope sc cs C s0 H0 fp pn) .k elt f) (hf : ∀ env d, f env = some d → ∃ ds, d = .lst ds) (hc : X.calm = true := by rfl) (hco : compB X.N X.env.scope sc x = true := by kernel_rfl) (hi : X.N[i]? = some x := by kernel_rfl)
    (hs : ∀ x, foldedSetIterable iter X.env x = pure x := by intro _; rfl) (hj : X.N[j]? = some y := by kernel_rfl) (hy : locB X.env.scope y = true := by kernel_rfl) (hfn : fnB X y = true := by kernel_rfl)
    (hsw : swapsWith (.ListComp elt [⟨.Name x px, iter, [], 0⟩] sc pos) (some (.Name y py)) spos.line X.env = pure true := by rfl) : PS1 X r (.Assign [.Name y py] (.ListComp elt [⟨.Name x px, iter, [], 0⟩] sc pos) spos) (sTab j (eComp i lx tTrue f)) :=
  PS1.mk <| PS.of (ps_setComp (te := tO X.K .k f) nox hc nd (compB_ok hco) hi hI (fun _ _ _ _ _ _ => tests_nil) hE hs hj (locB_ok hy) (fnB_ok hfn) hsw) fun D0 σ H ⟨BF, BH, F, env, L, o, env', S, e, k⟩ => by
    unfold sTab at e
    split at e
    · rename_i xs h1
      split at e
      · rename_i rs hrs
        cases e
        obtain ⟨ds, xs', h2, hl, h3, e2⟩ := eComp_inv h1
        cases e2
        refine ⟨BF, BH, F, env, L, ds, S, h2, fun J F1 H1 z1 J1 p hp => comp_turnsT S z1 J1 hl h3 hf hp fun v F' H' z rr => ?_⟩
        obtain ⟨a, as, rs', hd, rfl, h4, h5, h6, h7⟩ := rr
        injection hd with hd
        rw [hd, rows_lst] at hrs
        cases hrs
        exact k F' H' _ _ (tab_set S z j h4 h5 h6 h7) z.ff
      · cases e
    · cases e
end
end PV
set_option linter.all false
set_option Elab.async false
set_option maxRecDepth 100000
set_option maxHeartbeats 4000000
namespace PV
open PySem PySem.Spec PyProof.Rows
open L2 (V Hp HO Vals SqL SqT Same upd Cx PE PT PW PA PS PSs TE TT TA TS Inv RelV upd_same upd_ne ne_of_none Un)
section
variable {X : Cx} {m m1 m2 : Md} {a b : Expr} {f g : Ex} {pos p p2 : Pos}
theorem pd_index (hu : X.A.units + 64 < cLine) {p3 : Pos} (ha : PD X m1 a f) (hb : PD X m2 b g) (hst : nst b = true := by rfl)
    (hbase : attributeBase a "index" X.env (eval a X.env) = eval a X.env := by rfl) (hline : (p2.endLine == p3.line) = true := by rfl) :
    PD X m (.Call (.Attribute a "index" p2) [b] [] p3) (eF2 fIndex f g) :=
  PD.mk <| PE.of (L2.pe_bm PySem.F.plainAttrs_list PySem.F.slot_list_index PySem.F.type_list_index (mt_indexD hu) ha.r.h (L2.pa_cons hb.r.h L2.pa_nil (star_one hst)) hbase (by rw [star_few (nsts_one hst)]; rfl) hline (star_cons hst) rfl) fun σ H Q ⟨BF, BH, F, env, L, d, S, e, q⟩ => by
    unfold eF2 at e
    split at e
    · rename_i x y h1 h2
      unfold fIndex at e
      split at e
      · rename_i ys
        split at e
        · rename_i hd
          split at e
          · rename_i j hj
            cases e
            refine ⟨BF, BH, F, env, L, _, S, h1, fun v F1 H1 z1 r1 => ⟨?_, BF, BH, F1, env, L, y, S.ext z1, h2, fun w F2 H2 z2 r2 => ⟨y, w, ys, j, rfl, Rep.mono z2.hh _ _ r1, r2, hd, hj, q _ F2 H2 (z1.trans z2) (by simp [Rep])⟩⟩⟩
            have r1' := r1
            simp only [Rep, hpM] at r1'
            obtain ⟨p, vs, rfl, hs, _⟩ := r1'
            exact .inl ⟨rfl, vs, hs⟩
          · cases e
        · cases e
      · cases e
    · cases e
end
end PV
set_option linter.all false
set_option Elab.async false
set_option maxRecDepth 100000
set_option maxHeartbeats 4000000
namespace PV
open PySem
def Ris (xs : Array Nat) : Prop := ∀ i j (hi : i < xs.size) (hj : j < xs.size), i < j → xs[i] < xs[j]
theorem below_go {xs : Array Nat} {j : Nat} (hr : Ris xs) : ∀ (fuel lo hi : Nat), hi ≤ xs.size → hi - lo < 2 ^ fuel → lo ≤ hi →
    (∀ i (h : i < xs.size), i < lo → xs[i] < j) → (∀ i (h : i < xs.size), hi ≤ i → j ≤ xs[i]) →
    SetTable.below.go xs j fuel lo hi ≤ xs.size ∧ (∀ i (h : i < xs.size), i < SetTable.below.go xs j fuel lo hi → xs[i] < j) ∧ (∀ i (h : i < xs.size), SetTable.below.go xs j fuel lo hi ≤ i → j ≤ xs[i]) := by
  intro fuel
  induction fuel with
  | zero =>
    intro lo hi h1 h2 h3 a b
    have : hi = lo := by simp at h2; omega
    subst this
    unfold SetTable.below.go
    exact ⟨h1, a, b⟩
  | succ fuel ih =>
    intro lo hi h1 h2 h3 a b
    unfold SetTable.below.go
    by_cases hlt : lo < hi
    · rw [if_pos hlt]
      have hm : (lo + hi) / 2 < xs.size := by omega
      have e : xs.getD ((lo + hi) / 2) j = xs[(lo + hi) / 2] := by simp [Array.getD, hm]
      dsimp only
      rw [e]
      have hp : 2 ^ (fuel + 1) = 2 ^ fuel * 2 := Nat.pow_succ ..
      by_cases hc : xs[(lo + hi) / 2] < j
      · rw [if_pos hc]
        refine ih _ hi h1 (by omega) (by omega) (fun i h hi' => ?_) b
        rcases Nat.lt_or_ge i ((lo + hi) / 2) with h5 | h5
        · exact Nat.lt_trans (hr i _ h hm h5) hc
        · have : i = (lo + hi) / 2 := by omega
          subst this; exact hc
      · rw [if_neg hc]
        refine ih lo _ (by omega) (by omega) (by omega) a (fun i h hi' => ?_)
        rcases Nat.lt_or_ge ((lo + hi) / 2) i with h5 | h5
        · have := hr _ i hm h h5; omega
        · have : i = (lo + hi) / 2 := by omega
          subst this; omega
    · rw [if_neg hlt]
      have : lo = hi := by omega
      subst this
      exact ⟨h1, a, b⟩
theorem below_ok {xs : Array Nat} (hr : Ris xs) (j : Nat) : SetTable.below xs j ≤ xs.size ∧ (∀ i (h : i < xs.size), i < SetTable.below xs j → xs[i] < j) ∧ (∀ i (h : i < xs.size), SetTable.below xs j ≤ i → j ≤ xs[i]) := by
  unfold SetTable.below
  refine below_go hr xs.size 0 xs.size (Nat.le_refl _) ?_ (Nat.zero_le _) (fun i h h' => by omega) (fun i h h' => by omega)
  have := Nat.lt_two_pow_self (n := xs.size)
  omega
theorem below_next {xs : Array Nat} (hr : Ris xs) {k : Nat} (hk : k < xs.size) : SetTable.below xs (xs[k] + 1) = k + 1 := by
  obtain ⟨h1, h2, h3⟩ := below_ok hr (xs[k] + 1)
  generalize SetTable.below xs (xs[k] + 1) = p at h1 h2 h3
  rcases Nat.lt_trichotomy p (k + 1) with h | h | h
  · have := h3 k hk (by omega); omega
  · exact h
  · have h4 := h2 (k + 1) (by omega) h
    have := hr k (k + 1) hk (by omega) (by omega)
    omega
theorem below_zero {xs : Array Nat} (hr : Ris xs) : SetTable.below xs 0 = 0 := by
  obtain ⟨h1, h2, h3⟩ := below_ok hr 0
  generalize SetTable.below xs 0 = p at h1 h2 h3
  rcases Nat.eq_zero_or_pos p with h | h
  · exact h
  · have := h2 0 (by omega) h; omega
structure TabOk (led : Bool) (t : SetTable) : Prop where
  led : t.led = led
  ris : t.plain = true → Ris t.place
end PV
set_option linter.all false
set_option Elab.async false
set_option maxRecDepth 100000
set_option maxHeartbeats 4000000
namespace PV
open PySem PyProof.Rows
def valI : Value → Int
  | .int i _ => i
  | _ => 0
def isI : Value → Prop
  | .int _ _ => True
  | _ => False
theorem ints_iff {vs : List Value} {ns : List Int} : IntsAre vs ns ↔ (∀ v ∈ vs, isI v) ∧ ns = vs.map valI := by
  constructor
  · intro h
    induction h with
    | nil => simp
    | cons n t _ ih => exact ⟨fun v hv => (List.mem_cons.mp hv).elim (fun e => e ▸ trivial) (ih.1 v), by simp [valI, ih.2]⟩
  · rintro ⟨h, rfl⟩
    induction vs with
    | nil => exact .nil
    | cons v vs ih =>
      have h1 := h v List.mem_cons_self
      cases v with
      | int i t => exact .cons i t (ih fun v hv => h v (List.mem_cons_of_mem _ hv))
      | _ => exact h1.elim
theorem ints_mem {vs : List Value} {ns : List Int} (h : IntsAre vs ns) {k : Int} : k ∈ ns ↔ ∃ v ∈ vs, Value.isInt k v = true := by
  rw [ints_iff] at h
  rw [h.2, List.mem_map]
  constructor
  · rintro ⟨v, hv, e⟩
    have := h.1 v hv
    cases v with
    | int i t => exact ⟨_, hv, by simp [valI] at e; simp [Value.isInt, e]⟩
    | _ => exact this.elim
  · rintro ⟨v, hv, e⟩
    obtain ⟨t, rfl⟩ := Value.isInt_shape e
    exact ⟨_, hv, rfl⟩
section
variable {prog : Program} {w : World} {A : Around} {E : Value → Shared → Prop} {s : Shared}
structure SetO (prog : Program) (w : World) (led : Bool) (ks : List Int) (o : Obj) (es : Array (Int × Value)) (ep : Nat) (t : SetTable) : Prop where
  ex : o.ExactSet
  dat : o.data = .set es ep t
  el : ElemsOf (intKind prog w) es.toList
  ks : ∃ js, IntsAre (es.toList.map (·.2)) js ∧ js.Perm ks
  few : es.size < scanBound
  fit : t.fits es.size = true
  ok : TabOk led t
def SetX (prog : Program) (w : World) (h : Heap) (a : Addr) (led : Bool) (ks : List Int) : Prop := ∃ o es ep t, h.get? a = some o ∧ SetO prog w led ks o es ep t
theorem SetO.len {led : Bool} {ks : List Int} {o : Obj} {es : Array (Int × Value)} {ep : Nat} {t : SetTable} (h : SetO prog w led ks o es ep t) : es.size = ks.length := by
  obtain ⟨js, h1, h2⟩ := h.ks
  have := (ints_iff.mp h1).2
  rw [← h2.length_eq, this]; simp
theorem SetO.mem {led : Bool} {ks : List Int} {o : Obj} {es : Array (Int × Value)} {ep : Nat} {t : SetTable} (h : SetO prog w led ks o es ep t) {k : Int} : k ∈ ks ↔ ∃ e ∈ es.toList, (intKind prog w).is k e.2 = true := by
  obtain ⟨js, h1, h2⟩ := h.ks
  rw [← h2.mem_iff, ints_mem h1]
  constructor
  · rintro ⟨v, hv, e⟩
    obtain ⟨p, hp, rfl⟩ := List.mem_map.mp hv
    exact ⟨p, hp, e⟩
  · rintro ⟨p, hp, e⟩
    exact ⟨p.2, List.mem_map.mpr ⟨p, hp, rfl⟩, e⟩
end
end PV
set_option linter.all false
set_option Elab.async false
set_option maxRecDepth 100000
set_option maxHeartbeats 4000000
namespace PV
open PySem PyProof.Rows
def byT (w : World) : Bool := w.params.followText "set-order"
inductive Wk (w : World) (h : Heap) (a : Addr) (es : Array (Int × Value)) (ep : Nat) (t : SetTable) : List Value → (Nat → Value) → List Addr → Prop
  | text (hb : byT w = true) : Wk w h a es ep t ((pickOrder (w.params.setOrder a ep) es).toList.map (·.2)) (fun _ => rawInt 0) []
  | plain (hb : byT w = false) (hd : (!t.plain && decide (es.size > 1)) = false) (hl : t.led = true) (hr : Ris t.place) : Wk w h a es ep t (es.toList.map (·.2)) (fun i => rawInt (((if i = 0 then 0 else t.place.getD (i - 1) 0 + 1) : Nat) : Int)) []
  | drawn (hb : byT w = false) (p : Addr) (c : Nat) (pl : List Nat) (hp : pl.Perm (List.range es.size)) (o : Obj) (ho : h.get? p = some o) (hd : o.data = .seq (pl.map fun (j : Nat) => rawInt j).toArray c) :
      Wk w h a es ep t (pl.map fun j => (es.getD j (0, .none)).2) (fun _ => .ref p) [p]
theorem Wk.mono {w : World} {h h' : Heap} {a : Addr} {es : Array (Int × Value)} {ep : Nat} {t : SetTable} {ord : List Value} {fst : Nat → Value} {ps : List Addr} (k : Wk w h a es ep t ord fst ps) (hk : ∀ b ∈ ps, ∀ o, h.get? b = some o → h'.get? b = some o) : Wk w h' a es ep t ord fst ps := by
  cases k with
  | text hb => exact .text hb
  | plain hb hd hl hr => exact .plain hb hd hl hr
  | drawn hb p c pl hp o ho hd => exact .drawn hb p c pl hp o (hk p (by simp) o ho) hd
def SIt (h : Heap) (I a : Addr) (f : Value) (i n ep : Nat) : Prop := ∃ o, h.get? I = some o ∧ o.cls = .type "set_iterator" ∧ o.data = .fields #[f, rawInt (i : Nat), .ref a, rawInt (n : Nat), rawInt (ep : Nat)]
theorem SIt.ty {s : Shared} {I a : Addr} {f : Value} {i n ep : Nat} (h : SIt s.heap I a f i n ep) : s.TypeIs (.ref I) "set_iterator" := let ⟨o, ho, hc, _⟩ := h; ⟨o, ho, hc⟩
section
variable {prog : Program} {w : World} {A : Around} {E : Value → Shared → Prop} {s : Shared}
theorem Wk.next {a : Addr} {es : Array (Int × Value)} {ep : Nat} {t : SetTable} {ord : List Value} {o : Obj} {i : Nat} {zi : Nat}
    (ho : s.heap.get? a = some o) (hd : o.data = .set es ep t) (hf : t.fits es.size = true) {Q : Option (Value × Nat) → Shared → Prop} (fst : Nat → Value) (k : Wk w s.heap a es ep t ord fst []) (hz : fst i = rawInt (zi : Nat)) (hi : i ≤ es.size)
    (h : ∀ zn : Nat, (i < es.size → rawInt zn = fst (i + 1)) → Q (ord[i]?.map fun v => (v, zn)) s) : wpAny (model prog w) A (setNext a zi i ep) Q E s := by
  have hfit : t.place.size = es.size := by simp only [SetTable.fits, Bool.and_eq_true, beq_iff_eq] at hf; exact hf.1
  unfold setNext
  refine wpAny_bind (wpAny_setState_of ho hd hf ?_)
  dsimp only
  cases k with
  | text hb =>
    refine wpAny_bind (m := setsByText) (wpAny_bind (wpAny_askSetting (wpAny_pure ?_)))
    rw [if_pos (show (model prog w).w.params.followText "set-order" = true from hb)]
    rw [if_neg (by simp)]
    unfold setWalk
    refine wpAny_bind (wpAny_bind (wpAny_setState_of ho hd hf ?_))
    dsimp only
    refine wpAny_bind (m := setsByText) (wpAny_bind (wpAny_askSetting (wpAny_pure ?_)))
    rw [if_pos (show (model prog w).w.params.followText "set-order" = true from hb)]
    refine wpAny_bind (wpAny_askSetting (wpAny_pure (wpAny_pure ?_)))
    have := h zi fun _ => hz.symm
    rw [List.getElem?_map] at this
    show Q (Option.map (fun e => (e.snd, zi)) (pickOrder (w.params.setOrder a ep) es)[i]?) s
    simpa [Option.map_map, Function.comp_def] using this
  | plain hb hdr hl hr =>
    refine wpAny_bind (m := setsByText) (wpAny_bind (wpAny_askSetting (wpAny_pure ?_)))
    rw [if_neg (show ¬ (model prog w).w.params.followText "set-order" = true from by rw [show (model prog w).w.params.followText "set-order" = false from hb]; simp)]
    show wpAny _ _ (if (!t.plain && decide (es.size > 1)) = true then _ else _) _ _ _
    rw [if_neg (by rw [hdr]; simp)]
    refine wpAny_bind (m := _) (show wpAny _ _ (if (!t.led && !es.isEmpty) = true then _ else _) _ _ _ from ?_)
    rw [if_neg (by rw [hl]; simp)]
    refine wpAny_pure ?_
    have hz' : zi = if i = 0 then 0 else t.place.getD (i - 1) 0 + 1 := by
      have : ((if i = 0 then 0 else t.place.getD (i - 1) 0 + 1 : Nat) : Int) = zi := by simpa [rawInt] using hz
      omega
    have hbl : SetTable.below t.place zi = i := by
      rw [hz']
      by_cases h0 : i = 0
      · subst h0; simpa using below_zero hr
      · have hlt : i - 1 < t.place.size := by omega
        rw [if_neg h0, show t.place.getD (i - 1) 0 = t.place[i - 1] by simp [Array.getD, hlt], below_next hr hlt]
        omega
    rw [hbl]
    rcases Nat.lt_or_ge i es.size with hlt | hge
    · have hlt' : i < t.place.size := by omega
      rw [Array.getElem?_eq_getElem hlt, Array.getElem?_eq_getElem hlt']
      have := h (t.place[i] + 1) fun _ => by simp [rawInt, Array.getD, hlt']
      rw [List.getElem?_map, List.getElem?_eq_getElem (by simpa using hlt)] at this
      exact wpAny_pure (by simpa using this)
    · rw [Array.getElem?_eq_none hge]
      have := h 0 fun hh => by omega
      rw [List.getElem?_eq_none (by simpa using hge)] at this
      exact wpAny_pure (by simpa using this)
end
end PV
set_option linter.all false
set_option Elab.async false
set_option maxRecDepth 100000
set_option maxHeartbeats 4000000
namespace PV
open PySem PyProof.Rows
section
variable {prog : Program} {w : World} {A : Around} {E : Value → Shared → Prop} {s : Shared}
end
end PV
set_option linter.all false
set_option Elab.async false
set_option maxRecDepth 100000
set_option maxHeartbeats 4000000
namespace PV
open PySem PyProof.Rows
section
variable {prog : Program} {w : World} {A : Around} {E : Value → Shared → Prop} {s : Shared}
end
end PV
set_option linter.all false
set_option Elab.async false
set_option maxRecDepth 100000
set_option maxHeartbeats 4000000
namespace PV
open PySem PyProof.Rows
section
variable {prog : Program} {w : World} {A : Around} {E : Value → Shared → Prop} {s : Shared}
end
end PV
set_option linter.all false
set_option Elab.async false
set_option maxRecDepth 100000
set_option maxHeartbeats 4000000
namespace PV
open PySem PyProof.Rows PySem.Spec
section
variable {prog : Program} {w : World} {A : Around} {E : Value → Shared → Prop} {s : Shared}
theorem SetX.keep {h h' : Heap} {a : Addr} {led : Bool} {ks : List Int} (x : SetX prog w h a led ks) (hk : ∀ o, h.get? a = some o → h'.get? a = some o) : SetX prog w h' a led ks := by
  obtain ⟨o, es, ep, t, ho, S⟩ := x
  exact ⟨o, es, ep, t, hk o ho, S⟩
end
end PV
set_option linter.all false
set_option Elab.async false
set_option maxRecDepth 100000
set_option maxHeartbeats 4000000
namespace PV
open PySem PySem.Spec PyProof.Rows
open L2 (V Hp HO Vals SqL SqT Same upd Cx PE PT PW PA PS PSs TE TT TA TS Inv RelV upd_same upd_ne ne_of_none Un)
theorem cut_anti {F A B : Hp} (s : Same A B) : Same (cut F B) (cut F A) := fun b o h => by
  unfold cut at h ⊢
  split at h
  · rename_i hn; rw [s.free hn]; exact h
  · cases h
theorem scals_N {K : PySem.W.Frag} {H H' : Hp} : ∀ {ds : List D} {vs : List V}, ds.all scalD = true → Reps K H ds vs → RepsN H' ds vs
  | [], vs, _, h => by simp only [Reps, RepsN] at h ⊢; exact h
  | d :: ds, vs, hs, h => by
    simp only [Reps, RepsN] at h ⊢
    rw [List.all_cons, Bool.and_eq_true] at hs
    obtain ⟨v, r, rfl, h2, h3⟩ := h
    refine ⟨v, r, rfl, ?_, scals_N hs.2 h3⟩
    have h1 := hs.1
    cases d <;> simp_all [Rep, RepN, scalD]
def tN (K : PySem.W.Frag) (f : Ex) : TE := fun σ H Q => ∃ BF BH F env L d, SOk K BF BH F H σ env L ∧ f env = some d ∧ ∀ v F' H', Ext F H F' H' → RepN (cut F' BH) d v → Q v H'
def tW (K : PySem.W.Frag) (f : Ex) : TE := fun σ H Q => ∃ BF BH F env L d, SOk K BF BH F H σ env L ∧ f env = some d ∧ ∀ v F' H', Ext F H F' H' → RepN (cut F' H) d v → Q v H'
structure PDn (X : Cx) (e : Expr) (f : Ex) : Prop where
  h : PE X e (tN X.K f)
structure PDw (X : Cx) (e : Expr) (f : Ex) : Prop where
  h : PE X e (tW X.K f)
def rN : RetP := fun BH F' H' d v => RepN (cut F' BH) d v
theorem rN_non : ∀ BH F' H', rN BH F' H' .non .non := fun _ _ _ => by simp [rN, RepN]
section
variable {X : Cx} {m m1 m2 : Md} {r : RetP} {a b e : Expr} {es : List Expr} {f g : Ex} {fs : List Ex} {pos pos' p p2 : Pos}
theorem PDw.n (h : PDw X e f) : PDn X e f := ⟨PE.of h.h fun σ H Q ⟨BF, BH, F, env, L, d, S, e, q⟩ => ⟨BF, BH, F, env, L, d, S, e, fun v F' H' z r => q v F' H' z (RepN.mono (cut_anti S.s0) _ _ r)⟩⟩
theorem PDn.d (h : PDn X e f) : PD X .k e f := PD.mk <| PE.of h.h fun σ H Q ⟨BF, BH, F, env, L, d, S, e, q⟩ => ⟨BF, BH, F, env, L, d, S, e, fun v F' H' z r => q v F' H' z (RepN.rep _ _ (RepN.mono cut_sub _ _ r))⟩
theorem PDo.w (h : PDo X m e f) (hf : ∀ env d, f env = some d → ∃ ds, d = .lst ds ∧ ds.all scalD = true) : PDw X e f := ⟨PE.of h fun σ H Q ⟨BF, BH, F, env, L, d, S, e, q⟩ => by
  obtain ⟨ds, rfl, hs⟩ := hf env d e
  refine ⟨BF, BH, F, env, L, ds, S, e, fun a vs F' H' z h0 h1 h2 r => ?_⟩
  have y : Ext F H (upd F' a (.lst vs)) H' := z.frz h0 h1 h2
  refine q _ _ H' y ?_
  simp only [RepN]
  exact ⟨a, vs, rfl, by rw [cut_get h0]; exact upd_same, scals_N hs r⟩⟩
theorem ps_retn (ha : PDn X e f) : PS1 X rN (.Return (some e) pos) (sRet f) := PS1.mk <| PS.of (L2.ps_ret ha.h) fun D0 σ H ⟨BF, BH, F, env, L, o, env', S, e, k⟩ => by
  unfold sRet at e
  split at e
  · rename_i d h1
    cases e
    exact ⟨BF, BH, F, env, L, d, S, h1, fun v F' H' z r => k F' H' σ L (S.ext z) z.ff v r⟩
  · cases e
theorem pw_call {k : Nat} {x : Str} {φ : List D → Option D} (G : Cal X.prog X.w X.K X.mg X.base k x rN φ) (hr : L2.Room k X.A) (ha : PAd X .k (e :: es) fs) (hg : X.env.kindOf x = some .globalImplicit := by kernel_rfl) (hdb : (x == ("__debug__" : Str)) = false := by kernel_rfl)
    (hn : nst e = true := by rfl) (hns : nsts es = true := by rfl) : PDw X (.Call (.Name x p) (e :: es) [] pos) (eCall φ fs) :=
  ⟨PE.of (pd_callR G hr ha hg hdb (star_cons hn) (star_any hns)) fun σ H Q ⟨BF, BH, F, env, L, d, S, e, q⟩ =>
    ⟨BF, BH, F, env, L, d, S, e, fun v F' H' H0 s0 s1 z r => q v F' H' z (RepN.mono (cut_anti s1) _ _ r)⟩⟩
theorem pd_callS {k : Nat} {x : Str} {φ : List D → Option D} (G : Cal X.prog X.w X.K X.mg X.base k x (rk X.K .k) φ) (hr : L2.Room k X.A) (ha : PAd X .r (e :: es) fs) (hg : X.env.kindOf x = some .globalImplicit := by kernel_rfl) (hdb : (x == ("__debug__" : Str)) = false := by kernel_rfl)
    (hn : nst e = true := by rfl) (hns : nsts es = true := by rfl) : PD X m (.Call (.Name x p) (e :: es) [] pos) (eSc (eCall φ fs)) := by
  obtain ⟨fa, fd, ps, h1, h2, h3, h4⟩ := G.ex
  exact PD.mk <| PE.of (L2.pe_call h3 hr hg h1 h2 h4 .nil L2.pass0 ha.h hdb (star_cons hn) (star_any hns)) fun σ H Q ⟨BF, BH, F, env, L, d, S, e, q⟩ => by
    unfold eSc at e
    cases hc : eCall φ fs env with
    | none => rw [hc] at e; cases e
    | some d' =>
      rw [hc] at e
      by_cases hsc : scalD d' = true
      · simp only [hsc, if_true] at e
        cases e
        unfold eCall at hc
        cases h5 : evs fs env with
        | none => rw [h5] at hc; cases hc
        | some ds =>
          rw [h5] at hc
          refine ⟨BF, BH, F, env, L, ds, S, h5, fun vs F' H' z r => ?_⟩
          show spR X.K (rk X.K .k) φ (vs ++ []) H' Q L2.E0
          rw [List.append_nil]
          exact ⟨H', ds, d, .refl _, r, hc, fun v F2 H2 z2 r2 => q v F' H2 ⟨z.hh.trans z2.hh, z.ff, z.dm, z.fh.trans z2.hh⟩ (Rep.scal hsc r2)⟩
      · simp only [hsc] at e
        cases e
theorem vals_ints : ∀ {ns : List Int} {us : List Value}, Vals (ns.map V.int) us → IntsAre us ns
  | [], _, h => by cases h; exact .nil
  | n :: ns, _, h => by
    cases h with
    | cons h1 h2 => obtain ⟨t, rfl⟩ := h1; exact .cons n t (vals_ints h2)
end
end PV
set_option linter.all false
set_option Elab.async false
set_option maxRecDepth 100000
set_option maxHeartbeats 4000000
namespace PV
open PySem PySem.W PyProof.Rows
section
variable {n : Nat} {key : Nat → List Int}
structure Val (n : Nat) (p : Array Nat) : Prop where
  sz : p.size = n
  pm : p.toList.Perm (List.range n)
theorem Val.lt (h : Val n p) {i : Nat} (hi : i < n) : p.getD i 0 < n := by
  have hs : i < p.size := by rw [h.sz]; exact hi
  rw [show p.getD i 0 = p[i] by simp [Array.getD, hs]]
  have := h.pm.mem_iff.mp (Array.getElem_mem_toList hs)
  simpa using this
end
section
variable {n : Nat} {key : Nat → List Int} {cmp : Nat → Nat → (Bool → Shared → Prop) → Shared → Prop} {P : Shared → Prop}
variable (hc : ∀ i j, i < n → j < n → ∀ (C : Bool → Shared → Prop) s, P s → (∀ s', P s' → C (ltL (key i) (key j)) s') → cmp i j C s)
include hc
end
end PV
set_option linter.all false
set_option Elab.async false
set_option maxRecDepth 100000
set_option maxHeartbeats 4000000
namespace PV
open PySem PySem.W PyProof.Rows PySem.MeetsSeq PySem.MeetsSeq3
section
variable {prog : Program} {w : World} {A : Around} {E : Value → Shared → Prop} {s : Shared}
def RowAt (h : Heap) (a : Addr) (ns : List Int) : Prop := ∃ vs, h.IsList a vs ∧ IntsAre vs.toList ns
theorem RowAt.keep {h h' : Heap} {a : Addr} {ns : List Int} (x : RowAt h a ns) (k : ∀ o, h.get? a = some o → h'.get? a = some o) : RowAt h' a ns := by
  obtain ⟨vs, ⟨o, ho, r⟩, hi⟩ := x
  exact ⟨vs, ⟨o, k o ho, r⟩, hi⟩
end
end PV
set_option linter.all false
set_option Elab.async false
set_option maxRecDepth 100000
set_option maxHeartbeats 4000000
namespace PV
open PySem PySem.W PyProof.Rows
section
variable {prog : Program} {w : World} {A : Around} {E : Value → Shared → Prop} {s : Shared}
def RowsAt (h : Heap) (vs : List Value) (rs : List (List Int)) : Prop := vs.length = rs.length ∧ ∀ i, i < vs.length → ∃ b, vs.getD i .none = .ref b ∧ RowAt h b (rs.getD i [])
theorem RowsAt.keep {h h' : Heap} {vs : List Value} {rs : List (List Int)} (x : RowsAt h vs rs) (k : ∀ b r, RowAt h b r → ∀ o, h.get? b = some o → h'.get? b = some o) : RowsAt h' vs rs :=
  ⟨x.1, fun i hi => let ⟨b, e, r⟩ := x.2 i hi; ⟨b, e, r.keep (k b _ r)⟩⟩
end
end PV
set_option linter.all false
set_option Elab.async false
set_option maxRecDepth 100000
set_option maxHeartbeats 4000000
namespace PV
open PySem PySem.Spec PyProof.Rows
open L2 (V Hp HO Vals SqL SqT Same upd Cx PE PT PW PA PS PSs TE TT TA TS Inv RelV upd_same upd_ne ne_of_none Un)
def tNL (K : PySem.W.Frag) (f : Ex) : TE := fun σ H Q => ∃ BF BH F env L ds, SOk K BF BH F H σ env L ∧ f env = some (.lst ds) ∧
  ∀ a vs F' H', Ext F H F' H' → H a = none → H' a = some (.lst vs) → F' a = none → RepsN (cut F' BH) ds vs → Q (.ref a) H'
structure PDl (X : Cx) (e : Expr) (f : Ex) : Prop where
  h : PE X e (tNL X.K f)
theorem eFl_inv {f : Ex} {env : Env} {d : D} (h : eFl f env = some d) : ∃ ds, f env = some (.lst ds) ∧ d = .lst ds ∧ ds.all scalD = true := by
  unfold eFl at h
  split at h
  · rename_i ds e
    split at h
    · rename_i hs; cases h; exact ⟨ds, e, rfl, hs⟩
    · cases h
  · cases h
section
variable {X : Cx} {m m1 m2 : Md} {r : RetP} {a b e : Expr} {es : List Expr} {f g : Ex} {fs : List Ex} {t : Tx} {pos pos' p p2 : Pos}
theorem PDo.fl (h : PDo X m e f) : PDw X e (eFl f) := ⟨PE.of h fun σ H Q ⟨BF, BH, F, env, L, d, S, e, q⟩ => by
  obtain ⟨ds, e1, rfl, hs⟩ := eFl_inv e
  refine ⟨BF, BH, F, env, L, ds, S, e1, fun a vs F' H' z h0 h1 h2 r => ?_⟩
  have y : Ext F H (upd F' a (.lst vs)) H' := z.frz h0 h1 h2
  refine q _ _ H' y ?_
  simp only [RepN]
  exact ⟨a, vs, rfl, by rw [cut_get h0]; exact upd_same, scals_N hs r⟩⟩
theorem PDl.n (h : PDl X e f) (hf : ∀ env d, f env = some d → ∃ ds, d = .lst ds) : PDn X e f := ⟨PE.of h.h fun σ H Q ⟨BF, BH, F, env, L, d, S, e, q⟩ => by
  obtain ⟨ds, rfl⟩ := hf env d e
  refine ⟨BF, BH, F, env, L, ds, S, e, fun a vs F' H' z h0 h1 h2 r => ?_⟩
  have y : Ext F H (upd F' a (.lst vs)) H' := z.frz h0 h1 h2
  refine q _ _ H' y ?_
  simp only [RepN]
  refine ⟨a, vs, rfl, by rw [cut_get (S.s0.free h0)]; exact upd_same, RepsN.mono (cut_mono fun b o hb => ?_) _ _ r⟩
  have hne : b ≠ a := fun e => by rw [e, h2] at hb; cases hb
  rw [upd_ne hne]; exact hb⟩
theorem RepsN.len {H : Hp} : ∀ {ds : List D} {vs : List V}, RepsN H ds vs → ds.length = vs.length
  | [], vs, h => by simp only [RepsN] at h; subst h; rfl
  | d :: ds, vs, h => by
    simp only [RepsN] at h
    obtain ⟨v, r, rfl, h2, h3⟩ := h
    simp [h3.len]
end
end PV
set_option linter.all false
set_option Elab.async false
set_option maxRecDepth 100000
set_option maxHeartbeats 4000000
namespace PV
open PySem PySem.Spec PyProof.Rows
open L2 (V Hp HO Vals SqL SqT Same upd Cx PE PT PW PA PS PSs TE TT TA TS Inv RelV upd_same upd_ne ne_of_none Un)
section
variable {X : Cx} {m m1 m2 : Md} {r : RetP} {a b e : Expr} {es : List Expr} {f g : Ex} {fs : List Ex} {t : Tx} {pos pos' p p2 : Pos}
end
end PV
set_option linter.all false
set_option Elab.async false
namespace PV
open PySem (Str)
def fCat : D → D → Option D
  | .str a, .str b => if a.length + b.length ≤ lim then some (.str (a ++ b)) else none
  | _, _ => none
def eCat (a b : Ex) : Ex := eF2 fCat a b
def strs? : List D → Option (List Str)
  | [] => some []
  | .str x :: xs => match strs? xs with
    | some r => some (x :: r)
    | none => none
  | _ :: _ => none
def fJoin (sep : Str) : D → Option D
  | .lst xs => match strs? xs with
    | some l => if PySem.JoinOk sep l = true then some (.str (PySem.Txt.join sep l)) else none
    | none => none
  | _ => none
def fSplit (c : Nat) : D → Option D
  | .str x => if x.length ≤ lim ∧ (PySem.Txt.split x ⟨#[c]⟩).length ≤ lim then some (.lst ((PySem.Txt.split x ⟨#[c]⟩).map .str)) else none
  | _ => none
def fStr : D → Option D
  | .int i => if i.natAbs.log2 < 1920 then some (.str (toString i)) else none
  | _ => none
def fInt : D → Option D
  | .int i => some (.int i)
  | .bl k => some (.int (if k then 1 else 0))
  | _ => none
def sTApp (i : Nat) (a : Ex) (k : Int) : St := fun env => match env[i]?, a env with
  | some (.tab rs), some (.int n) => match ixN rs.length n with
    | some j => match rs[j]? with
      | some r => if r.length < lim then some (.nx, env.set i (.tab (rs.set j (r ++ [.int k])))) else none
      | none => none
    | none => none
  | _, _ => none
def sTNew (i : Nat) : St := fun env => match env[i]? with
  | some (.tab rs) => if rs.length < lim then some (.nx, env.set i (.jl (rs.length + 1))) else none
  | _ => none
end PV
set_option linter.all false
set_option Elab.async false
set_option maxRecDepth 100000
set_option maxHeartbeats 4000000
namespace PV
open PySem PySem.Spec PyProof.Rows
open L2 (V Hp HO Vals SqL SqT Same upd Cx PE PT PW PA PS PSs TE TT TA TS Inv RelV upd_same upd_ne ne_of_none Un)
theorem strs_of : ∀ {xs : List D} {l : List Str}, strs? xs = some l → xs = l.map D.str
  | [], l, h => by simp only [strs?] at h; cases h; rfl
  | .str x :: xs, l, h => by
    simp only [strs?] at h
    split at h
    · rename_i r hr; cases h; rw [strs_of hr]; rfl
    · cases h
  | .non :: _, _, h => by simp [strs?] at h
  | .bl _ :: _, _, h => by simp [strs?] at h
  | .int _ :: _, _, h => by simp [strs?] at h
  | .lst _ :: _, _, h => by simp [strs?] at h
  | .tup _ :: _, _, h => by simp [strs?] at h
theorem rep_str {K : PySem.W.Frag} {H : Hp} {x : Str} {v : V} (h : Rep K H (.str x) v) : v = .str x := by simp only [Rep] at h; exact h
theorem reps_strs {K : PySem.W.Frag} {H : Hp} : ∀ {l : List Str} {vs : List V}, Reps K H (l.map D.str) vs → vs = l.map V.str
  | [], vs, h => by simp only [List.map_nil, Reps] at h; exact h
  | x :: l, vs, h => by
    simp only [List.map_cons, Reps] at h
    obtain ⟨v, r, rfl, h2, h3⟩ := h
    rw [rep_str h2, reps_strs h3]; rfl
theorem Reps.strs {K : PySem.W.Frag} {H : Hp} : ∀ (l : List Str), Reps K H (l.map D.str) (l.map V.str)
  | [] => Reps.nil
  | x :: l => Reps.cons (by simp [Rep]) (Reps.strs l)
theorem vals_strs : ∀ {l : List Str} {us : List Value}, Vals (l.map V.str) us → ∃ q : List (Str × Tok), us = strValues q ∧ q.map (·.1) = l
  | [], _, .nil => ⟨[], rfl, rfl⟩
  | x :: l, _, .cons h r => by
    obtain ⟨t, rfl⟩ := h
    obtain ⟨q, rfl, rfl⟩ := vals_strs r
    exact ⟨(x, t) :: q, rfl, rfl⟩
theorem strs_vals : ∀ (q : List (Str × Tok)), Vals ((q.map (·.1)).map V.str) (strValues q)
  | [] => .nil
  | (x, t) :: q => .cons ⟨t, rfl⟩ (strs_vals q)
section
variable {X : Cx} {m m1 m2 : Md} {r : RetP} {a b e : Expr} {f g : Ex} {pos p p2 : Pos}
def rJoin (K : PySem.W.Frag) : V → List V → Hp → L2.VK → Prop := fun x vs H Q => ∃ (sep : Str) (l : Addr) (ss : List Str), x = .str sep ∧ vs = [.ref l] ∧ SqL K H l (ss.map V.str) ∧ JoinOk sep ss = true ∧ Q (.str (Txt.join sep ss)) H
theorem mt_join : L2.MtR X "str.join" (rJoin X.K) := by
  intro pins s σ H x vs v us Q I rx rv h
  obtain ⟨sep, l, ss, rfl, rfl, hS, hok, q⟩ := h
  obtain ⟨t, rfl⟩ := rx
  obtain ⟨u, rfl, ru⟩ := rv.one
  cases ru
  obtain ⟨its, r, pl, z⟩ := I.list hS
  obtain ⟨q', rfl, e⟩ := vals_strs r
  exact SC.join pl.isList e hok fun t' k => ⟨.str _, H, I.tok k, ⟨t', rfl⟩, q⟩
def rSplit : V → List V → Hp → L2.VK → Prop := fun x vs H Q => ∃ (a : Str) (c : Nat), x = .str a ∧ vs = [.str ⟨#[c]⟩] ∧ a.length ≤ lim ∧ (Txt.split a ⟨#[c]⟩).length ≤ lim ∧ ∀ q, H q = none → Q (.ref q) (upd H q (.lst ((Txt.split a ⟨#[c]⟩).map V.str)))
theorem mt_split : L2.MtR X "str.split" rSplit := by
  intro pins s σ H x vs v us Q I rx rv h
  obtain ⟨a, c, rfl, rfl, ha, hn, q⟩ := h
  obtain ⟨t, rfl⟩ := rx
  obtain ⟨u0, rfl, ru⟩ := rv.one
  obtain ⟨u, rfl⟩ := ru
  have hsl := sizeLine_eq
  have hlm : lim = 100000 := rfl
  have hy : ((⟨#[c]⟩ : Str).length == 0) = false := rfl
  have fin : ∀ (l : List (Str × Tok)) (k : Nat), l.map (·.1) = Txt.split a ⟨#[c]⟩ → L2.EP X pins σ Q (.ref s.heap.objs.size) { s with heap := s.heap.push { cls := .type "list", data := .seq (strValues l).toArray }, toks := k } := fun l k e => by
    have I2 := I.laid (a := s.heap.objs.size) (o := .lst ((Txt.split a ⟨#[c]⟩).map V.str)) (h' := s.heap.push { cls := .type "list", data := .seq (strValues l).toArray }) (t' := k) (fun b u e => Heap.get?_push_of_some _ e) (Nat.le_refl _) ⟨by rw [List.length_map]; omega, strValues l, _, e ▸ strs_vals l, Heap.get?_push_size _ rfl⟩
    exact ⟨.ref _, _, I2, rfl, q _ (I.hok.fresh (Nat.le_refl _))⟩
  unfold Txt.split at fin hn
  cases h1 : (decide (a.length < (⟨#[c]⟩ : Str).length) || decide (Builtin.Str.strKind a < Builtin.Str.strKind ⟨#[c]⟩)) with
  | true =>
    rw [h1] at fin
    exact call_meets F.slot_str_split (typeIs_str _ _ _) F.entry_str_split (F.args_str_split_2 _ _) (meets_str_split_cannot_occur a _ t u h1) (fin [(a, t)] s.toks rfl)
  | false =>
    rw [h1] at fin hn
    simp only [Bool.false_eq_true, if_false] at fin hn
    cases hf : (Builtin.Str.occurrences a ⟨#[c]⟩ 0 a.length (a.length + 1)).isEmpty with
    | true =>
      rw [hf] at fin
      exact call_meets F.slot_str_split (typeIs_str _ _ _) F.entry_str_split (F.args_str_split_2 _ _) (meets_str_split_not_found a _ t u h1 hy hf) (fin [(a, t)] s.toks rfl)
    | false =>
      rw [hf] at fin hn
      simp only [Bool.false_eq_true, if_false] at fin hn
      refine call_meets F.slot_str_split (typeIs_str _ _ _) F.entry_str_split (F.args_str_split_2 _ _) (meets_str_split_sep a _ t u h1 hy hf (by omega) (by omega)) ?_
      show wants _ _ _ { s with toks := _, heap := s.heap.push { cls := .type "list", data := .seq (strsFrom s.toks _).toArray } }
      rw [strsFrom_eq]
      exact fin _ _ (numbered_texts _ _)
theorem pd_join {sep : Str} {j} {p1 p3 p4 : Pos} (ha : PD X m1 a f) (hst : nst a = true := by rfl)
    (hbase : attributeBase (.Constant (.str sep) j p1) "join" X.env (eval (.Constant (.str sep) j p1) X.env) = eval (.Constant (.str sep) j p1) X.env := by rfl)
    (hline : (p3.endLine == p4.line) = true := by rfl) : PD X m (.Call (.Attribute (.Constant (.str sep) j p1) "join" p3) [a] [] p4) (eF1 (fJoin sep) f) :=
  PD.mk <| PE.of (L2.pe_bm F.plainAttrs_str F.slot_str_join F.type_str_join mt_join L2.pe_str (L2.pa_cons ha.r.h L2.pa_nil (star_one hst)) hbase (by rw [star_few (nsts_one hst)]; rfl) hline (star_cons hst) rfl) fun σ H Q ⟨BF, BH, F, env, L, d, S, e, q⟩ => by
    unfold eF1 at e
    split at e
    · rename_i x hx
      refine ⟨rfl, BF, BH, F, env, L, x, S, hx, fun v F' H' z rx => ?_⟩
      unfold fJoin at e
      split at e
      · split at e
        · rename_i xs l hl
          split at e
          · rename_i hok
            cases e
            have ex := strs_of hl
            subst ex
            simp only [Rep] at rx
            obtain ⟨p, vs, rfl, hS, hr⟩ := rx
            have ev := reps_strs hr
            subst ev
            exact ⟨sep, p, l, rfl, rfl, hS, hok, q _ F' H' z (by simp [Rep])⟩
          · cases e
        · cases e
      · cases e
    · cases e
theorem po_split {c : Nat} {j} {p1 p3 p4 : Pos} {sep : Str} (hsep : sep = ⟨#[c]⟩) (ha : PD X m1 a f)
    (hbase : attributeBase a "split" X.env (eval a X.env) = eval a X.env := by rfl)
    (hline : (p3.endLine == p4.line) = true := by rfl) : PDo X m (.Call (.Attribute a "split" p3) [.Constant (.str sep) j p1] [] p4) (eF1 (fSplit c) f) :=
  PE.of (L2.pe_bm F.plainAttrs_str F.slot_str_split F.type_str_split mt_split ha.r.h (L2.pa_cons L2.pe_str L2.pa_nil (star_one rfl)) hbase (by rw [star_few (nsts_one rfl)]; rfl) hline (star_cons rfl) rfl) fun σ H Q ⟨BF, BH, F, env, L, ds, S, e, q⟩ => by
    unfold eF1 at e
    split at e
    · rename_i x hx
      refine ⟨BF, BH, F, env, L, x, S, hx, fun v F' H' z rx => ?_⟩
      unfold fSplit at e
      split at e
      · split at e
        · rename_i a0 hc
          cases e
          have ev := rep_str rx
          subst ev
          refine ⟨rfl, a0, c, rfl, by rw [hsep], hc.1, hc.2, fun p hp => ?_⟩
          obtain ⟨y2, h0, h2, s⟩ := own_new (m := m) S z hp (HO.lst ((Txt.split a0 ⟨#[c]⟩).map V.str))
          exact q p _ F' _ y2 h0 upd_same h2 (Reps.strs _)
        · cases e
      · cases e
    · cases e
theorem fSplit_inv {c : Nat} {env : Env} {d : D} (h : eF1 (fSplit c) f env = some d) : ∃ ds, d = .lst ds := by
  unfold eF1 at h
  split at h
  · unfold fSplit at h
    split at h
    · split at h
      · cases h; exact ⟨_, rfl⟩
      · cases h
    · cases h
  · cases h
theorem pd_split {c : Nat} {j} {p1 p3 p4 : Pos} {sep : Str} (hsep : sep = ⟨#[c]⟩) (ha : PD X m1 a f)
    (hbase : attributeBase a "split" X.env (eval a X.env) = eval a X.env := by rfl)
    (hline : (p3.endLine == p4.line) = true := by rfl) : PD X m (.Call (.Attribute a "split" p3) [.Constant (.str sep) j p1] [] p4) (eF1 (fSplit c) f) := (po_split hsep ha hbase hline).d fun env d h => fSplit_inv h
theorem pd_T1 {x : Str} {id : String} {p : Pos} {r : List V → Hp → L2.VK → Prop} {φ : D → Option D} (hc : L2.CallR X (.type id) r) (hm : X.mg x = none) (hv : bootBuiltins x = some (.type id))
    (hφ : ∀ d y H' v (Q : V → Hp → Prop), φ d = some y → Rep X.K H' d v → (∀ w, Rep X.K H' y w → Q w H') → r [v] H' Q ∧ scalD y = true)
    (ha : PD X m1 a f) (hg : X.env.kindOf x = some .globalImplicit := by kernel_rfl) (hn : x ≠ "__name__" := by decide) (hdb : (x == ("__debug__" : Str)) = false := by kernel_rfl) (hs : nst a = true := by rfl) : PD X m (.Call (.Name x p) [a] [] pos) (eF1 φ f) :=
  PD.mk <| PE.of (L2.pe_callTy hc hg hm hv (L2.pa_cons ha.r.h L2.pa_nil (star_one hs)) hn hdb (star_cons hs) rfl) fun σ H Q ⟨BF, BH, F, env, L, d, S, e, q⟩ => by
    unfold eF1 at e
    split at e
    · rename_i y h1
      refine ⟨BF, BH, F, env, L, y, S, h1, fun v F' H' z r1 => ?_⟩
      have sc := (hφ y d H' v (fun _ _ => True) e r1 (fun _ _ => trivial)).2
      exact (hφ y d H' v Q e r1 fun w rw => q w F' H' z (rw.scal sc)).1
    · cases e
theorem pd_str1 {p : Pos} (T : Bt X.mg) (ha : PD X m1 a f) (hg : X.env.kindOf "str" = some .globalImplicit := by kernel_rfl) (hs : nst a = true := by rfl) : PD X m (.Call (.Name "str" p) [a] [] pos) (eF1 fStr f) :=
  pd_T1 L2.call_str_int T.str (by decide +kernel) (fun d y H' v Q e r k => by
    unfold fStr at e
    split at e
    · split at e
      · rename_i i hi
        cases e
        exact ⟨⟨i, by rw [rep_int r], hi, k _ (by simp [Rep])⟩, rfl⟩
      · cases e
    · cases e) ha hg (by decide) (by decide) hs
theorem pd_int1 {p : Pos} (T : Bt X.mg) (ha : PD X m1 a f) (hg : X.env.kindOf "int" = some .globalImplicit := by kernel_rfl) (hs : nst a = true := by rfl) : PD X m (.Call (.Name "int" p) [a] [] pos) (eF1 fInt f) :=
  pd_T1 L2.call_int1 T.int (by decide +kernel) (fun d y H' v Q e r k => by
    unfold fInt at e
    split at e
    · cases e
      exact ⟨.inl ⟨_, by rw [rep_int r], k _ (by simp [Rep])⟩, rfl⟩
    · cases e
      exact ⟨.inr ⟨_, by rw [rep_bl r], k _ (by simp [Rep])⟩, rfl⟩
    · cases e) ha hg (by decide) (by decide) hs
theorem pd_cat (ha : PD X m1 a f) (hb : PD X m2 b g) : PD X m (.BinOp a .Add b pos) (eCat f g) := PD.mk <| PE.of (L2.pe_op L2.op_add_str ha.h hb.h) fun σ H Q ⟨BF, BH, F, env, L, d, S, e, q⟩ => by
  unfold eCat eF2 at e
  split at e
  · rename_i x y h1 h2
    unfold fCat at e
    split at e
    · split at e
      · rename_i a0 b0 hc
        cases e
        exact ⟨BF, BH, F, env, L, _, S, h1, fun v F1 H1 x1 r1 => ⟨BF, BH, F1, env, L, _, S.ext x1, h2, fun w F2 H2 x2 r2 => ⟨a0, b0, rep_str r1, rep_str r2, Nat.le_trans hc lim_le, q _ F2 H2 (x1.trans x2) (by simp [Rep])⟩⟩⟩
      · cases e
    · cases e
  · cases e
end
end PV
set_option linter.all false
set_option Elab.async false
set_option maxRecDepth 100000
set_option maxHeartbeats 4000000
namespace PV
open PySem PySem.Spec PyProof.Rows
open L2 (V Hp HO Vals SqL SqT Same upd Cx PE PT PW PA PS PSs TE TT TA TS Inv RelV upd_same upd_ne ne_of_none Un)
section
variable {X : Cx} {m m1 m2 : Md} {r : RetP} {a b e : Expr} {f g fa : Ex} {pos p p2 : Pos}
theorem ps_tryn {body : List Stmt} {g : St} {h0 : ExceptHandler} {hs : List ExceptHandler} (hb : PSd X r body g) (hx : ∀ e s, X.xe e s → False := by intro _ _ h; exact h) : PS1 X r (.Try body (h0 :: hs) [] [] pos) g :=
  PS1.mk fun pins s σ H D0 I q => wpAny_Try_except (wpAny_mono (hb.h pins s σ H D0 I q) (fun f s1 q1 => by
    cases f with
    | next => exact wpAny_execs_nil q1
    | brk => exact q1
    | cont => exact q1
    | ret v => exact q1) fun e s1 q1 => (hx e s1 q1).elim)
theorem PDw.o (h : PDw X e f) : PDo X m e (eFl f) := PE.of h.h fun σ H Q ⟨BF, BH, F, env, L, d, S, e, q⟩ => by
  obtain ⟨ds, h1, e2, hsc⟩ := eFl_inv e
  cases e2
  refine ⟨BF, BH, F, env, L, _, S, h1, fun v F' H' z r => ?_⟩
  simp only [RepN] at r
  obtain ⟨a, vs, rfl, ha', hr⟩ := r
  have h0 : H a = none := by
    unfold cut at ha'
    split at ha'
    · assumption
    · cases ha'
  have h1' : H' a = some (.lst vs) := z.fh _ _ (cut_sub _ _ ha')
  have fa : F a = none := S.fh.free h0
  let F2 : Hp := fun b => if b = a then none else F' b
  have sub : ∀ b o, F2 b = some o → F' b = some o := fun b o hb => by
    have hb' : (if b = a then none else F' b) = some o := hb
    split at hb'
    · cases hb'
    · exact hb'
  have z2 : Ext F H F2 H' := ⟨z.hh, fun b o hb => by
    have hne : b ≠ a := fun e => by rw [e, fa] at hb; cases hb
    show (if b = a then none else F' b) = some o
    rw [if_neg hne]; exact z.ff b o hb, fun b o hb => z.dm b o (sub b o hb), fun b o hb => z.fh b o (sub b o hb)⟩
  exact q a vs F2 H' z2 h0 h1' (if_pos rfl) (RepsN.reps _ _ (scals_N (K := X.K) hsc (RepsN.reps _ _ hr)))
theorem fl_inv {f : Ex} : ∀ env d, eFl f env = some d → ∃ ds, d = .lst ds := fun env d h => let ⟨ds, _, e, _⟩ := eFl_inv h; ⟨ds, e⟩
theorem ps_tapp (i : Nat) {x : Str} {k : Int} {j2} {p1 p2 p3 p4 p6 p7 : Pos} (hq : PD X m1 a fa) (hN : X.N[i]? = some x := by kernel_rfl) (hv : visB X.env.scope x = true := by kernel_rfl) (hd : (x == ("__debug__" : Str)) = false := by kernel_rfl)
    (hcd : (x == ("__classdict__" : Str)) = false := by kernel_rfl) (hix : L2.PlainIx a := by exact fun _ _ => rfl)
    (hbase : attributeBase (.Subscript (.Name x p1) a p6) "append" X.env (eval (.Subscript (.Name x p1) a p6) X.env) = eval (.Subscript (.Name x p1) a p6) X.env := by rfl)
    (hline : (p2.endLine == p3.line) = true := by rfl)
    (hsw : swapsWith (.Call (.Attribute (.Subscript (.Name x p1) a p6) "append" p2) [.Constant (.int k) j2 p7] [] p3) none p4.line X.env = pure false := by rfl) :
    PS1 X r (.Expr (.Call (.Attribute (.Subscript (.Name x p1) a p6) "append" p2) [.Constant (.int k) j2 p7] [] p3) p4) (sTApp i fa k) :=
  PS1.mk <| PS.of (L2.ps_expr (L2.pe_bm PySem.F.plainAttrs_list PySem.F.slot_list_append PySem.F.type_list_append L2.mt_append (L2.pe_ix L2.ix_list (L2.pe_var hN (visB_ok hv) hd hcd) hq.h hix) (L2.pa_cons L2.pe_int L2.pa_nil (star_one rfl)) hbase (by rw [star_few (nsts_one rfl)]; rfl) hline (star_cons rfl) rfl) hsw) fun D0 σ H ⟨BF, BH, F, env, L, o, env', S, e, kk⟩ => by
    unfold sTApp at e
    split at e
    · rename_i rs n he h3
      split at e
      · rename_i j hj
        split at e
        · rename_i r0 hr
          split at e
          · rename_i hlen
            cases e
            obtain ⟨ov, hσ, hso⟩ := S.sl i _ he
            obtain ⟨p, as, rfl, hl, nd, hp, hrows⟩ := hso
            refine ⟨_, hσ, BF, BH, F, env, L, _, S, h3, fun w F2 H2 z r2 => ?_⟩
            have S2 := S.ext z
            obtain ⟨ra, vs, g1, g2, g3⟩ := hrows.get hr
            have hla : as.length = rs.length := hrows.length.symm
            have hat : L2.atI (as.map V.ref) n = some (.ref ra) := by
              unfold L2.atI
              rw [List.length_map, hla]
              show ((ixN rs.length n).bind fun j => (as.map V.ref)[j]?) = _
              rw [hj]
              show (as.map V.ref)[j]? = _
              rw [List.getElem?_map, g1]; rfl
            have g2' := z.hh _ _ g2
            refine ⟨p, as.map V.ref, n, .ref ra, rfl, rep_int r2, .inl (.inl (z.hh _ _ hp)), hat, ?_⟩
            refine ⟨tyV_ow g2', ra, vs, .int k, rfl, rfl, g2', by rw [← g3.length]; exact Nat.lt_of_lt_of_le hlen lim_le, ?_⟩
            have hra : ra ∈ as := List.mem_of_getElem? g1
            obtain ⟨n1, n2⟩ := List.nodup_cons.mp nd
            refine kk F2 _ σ L (S2.own (i := i) (a := ra) (by rw [hl]; exact List.mem_cons_of_mem _ hra) _ fun s ov e1 e2 e3 => ?_) z.ff
            rw [hσ] at e2; cases e2
            refine ⟨p, as, rfl, hl, nd, ?_, ?_⟩
            · rw [upd_ne (fun q => n1 (by rw [q]; exact hra))]; exact z.hh _ _ hp
            · have hrows' : RowsOk X.K F2 H2 rs as := hrows.mono z.ff fun b _ o q => z.hh _ _ q
              have app : ∀ {ds : List D} {ws : List V}, Reps X.K F2 ds ws → Reps X.K F2 (ds ++ [.int k]) (ws ++ [.int k]) := by
                intro ds
                induction ds with
                | nil => intro ws h; simp only [Reps] at h; subst h; exact Reps.cons (by simp [Rep]) Reps.nil
                | cons d ds ih =>
                  intro ws h
                  simp only [Reps] at h
                  obtain ⟨v', t, rfl, h2, h3⟩ := h
                  exact Reps.cons h2 (ih h3)
              exact hrows'.set n2 g1 (app (Reps.mono z.ff _ _ g3))
          · cases e
        · cases e
      · cases e
    · cases e
theorem ps_tnew (i : Nat) {x : Str} {p1 p2 p3 p4 p5 : Pos} (hN : X.N[i]? = some x := by kernel_rfl) (hv : visB X.env.scope x = true := by kernel_rfl) (hd : (x == ("__debug__" : Str)) = false := by kernel_rfl)
    (hcd : (x == ("__classdict__" : Str)) = false := by kernel_rfl)
    (hbase : attributeBase (.Name x p1) "append" X.env (eval (.Name x p1) X.env) = eval (.Name x p1) X.env := by rfl)
    (hline : (p2.endLine == p3.line) = true := by rfl)
    (hsw : swapsWith (.Call (.Attribute (.Name x p1) "append" p2) [.List [] p5] [] p3) none p4.line X.env = pure false := by rfl) :
    PS1 X r (.Expr (.Call (.Attribute (.Name x p1) "append" p2) [.List [] p5] [] p3) p4) (sTNew i) :=
  PS1.mk <| PS.of (L2.ps_expr (L2.pe_bm PySem.F.plainAttrs_list PySem.F.slot_list_append PySem.F.type_list_append L2.mt_append (L2.pe_var hN (visB_ok hv) hd hcd) (L2.pa_cons (L2.pe_lst L2.pa_nil) L2.pa_nil (star_one rfl)) hbase (by rw [star_few (nsts_one rfl)]; rfl) hline (star_cons rfl) rfl) hsw) fun D0 σ H ⟨BF, BH, F, env, L, o, env', S, e, kk⟩ => by
    unfold sTNew at e
    split at e
    · rename_i rs he
      split at e
      · rename_i hc
        cases e
        obtain ⟨ov, hσ, hso⟩ := S.sl i _ he
        obtain ⟨p, as, rfl, hl, nd, hp, hrows⟩ := hso
        have hla : as.length = rs.length := hrows.length.symm
        refine ⟨_, hσ, tyV_ow hp, by rw [sizeLine_eq]; simp, fun q hq => ?_⟩
        have z := Ext.own (o := HO.lst []) S.fh hq
        have S1 := S.ext z
        have hpq : upd H q (.lst []) p = some (.lst (as.map .ref)) := z.hh _ _ hp
        refine ⟨p, _, .ref q, rfl, rfl, hpq, by rw [List.length_map, hla]; exact Nat.lt_of_lt_of_le hc lim_le, ?_⟩
        have hm : p ∈ L i := by rw [hl]; exact List.mem_cons_self
        have S' := S1.own (i := i) (a := p) hm (HO.lst (as.map V.ref ++ [.ref q])) (s' := .jl (rs.length + 1)) fun s ov h1 h2 h3 => by
          rw [hσ] at h2; cases h2
          exact ⟨p, _, rfl, hm, upd_same, by rw [List.length_append, List.length_map, List.length_singleton]; omega⟩
        exact kk F _ σ L S' z.ff
      · cases e
    · cases e
end
end PV
set_option linter.all false
set_option Elab.async false
namespace PV
open PySem PySem.Spec PyProof.Rows
open L2 (V Hp HO Same Cx)
theorem reps_ints {K : PySem.W.Frag} {H : Hp} : ∀ ns : List Int, Reps K H (ns.map D.int) (ns.map V.int)
  | [] => Reps.nil
  | n :: r => by
    rw [List.map_cons, List.map_cons]
    exact Reps.cons (by simp [Rep]) (reps_ints r)
theorem law_start {K : PySem.W.Frag} {H : Hp} {a : Addr} {ns : List Int} {φ : List D → Option D} {z} (h : φ [rowD ns] = some (.bl true)) (hS : L2.SqL K H a (ns.map V.int)) :
    spR K (rk K .k) φ [.ref a] H (fun v _ => v = .bl true) z :=
  ⟨H, [rowD ns], .bl true, .refl H, Reps.cons (by unfold rowD; simp only [Rep]; exact ⟨a, _, rfl, hS, reps_ints ns⟩) Reps.nil, h, fun v F' H' _ r => by
    simp only [rk, Rep] at r
    exact r⟩
end PV
set_option linter.all false
set_option Elab.async false
namespace PV
open PySem (Str)
def R_is_element : St := (sRet (eB (tAnd (t2I pGe (eVar 1) (eC (.int 0))) (t2I pLt (eVar 1) (eF1 fLen (eVar 0))))))
def φ_is_element : List D → Option D := run 2 2 R_is_element
def R_ask_table : St := (sSeq (sSet 1 (eF1 fLen (eVar 0))) (sSeq (sIf (tOr (t2I pLt (eVar 1) (eC (.int 1))) (t2I pGt (eVar 1) (eC (.int 12)))) (sNever) sSkip) (sFor (gN 2) (iOf (eVar 0)) (sSeq (sIf (tNe (eF1 fLen (eVar 2)) (eVar 1)) (sNever) sSkip) (sIf (tNot (tB (eF1 fAll (eComp 3 (iOf (eVar 2)) tTrue (eCall φ_is_element [(eVar 0), (eVar 3)]))))) (sNever) sSkip)))))
def φ_ask_table : List D → Option D := run 1 4 R_ask_table
def R_shown_row : St := (sRet (eF1 (fJoin " ") (eComp 1 (iOf (eVar 0)) tTrue (eF1 fStr (eVar 1)))))
def φ_shown_row : List D → Option D := run 1 2 R_shown_row
def R_shown : St := (sSeq (sDo (eCall φ_ask_table [(eVar 0)])) (sRet (eF1 (fJoin "/") (eComp 1 (iOf (eVar 0)) tTrue (eCall φ_shown_row [(eVar 1)])))))
def φ_shown : List D → Option D := run 1 2 R_shown
def R_read_number : St := (sSeq (sSet 1 (eComp 2 (iRng (eC (.int 12))) tTrue (eF1 fStr (eVar 2)))) (sSeq (sIf (tNi (eVar 0) (eVar 1)) (sNever) sSkip) (sRet (eF2 fIndex (eVar 1) (eVar 0)))))
def φ_read_number : List D → Option D := run 1 3 R_read_number
def R_read_row : St := (sRet (eFl (eComp 1 (iOf (eF1 (fSplit 32) (eVar 0))) tTrue (eCall φ_read_number [(eVar 1)]))))
def φ_read_row : List D → Option D := run 1 2 R_read_row
def R_read : St := (sSeq (sTab 1 (eComp 2 (iOf (eF1 (fSplit 47) (eVar 0))) tTrue (eFl (eCall φ_read_row [(eVar 2)])))) (sSeq ((sDo (eSc (eCall φ_ask_table [(eVarR 1)])))) (sRetT 1)))
def φ_read : List D → Option D := run 1 3 R_read
def R_law_cell_at : St := (sSeq (sIf (t2I pLt (eVar 1) (eF1 fLen (eVar 0))) (sRet (eIx (eVar 0) (eVar 1))) sSkip) (sRet (eC (.int 0))))
def φ_law_cell_at : List D → Option D := run 2 2 R_law_cell_at
def R_law_draw : St := (sSeq (sIf (tEq (e2I iMod (eVar 0) (eC (.int 2))) (eC (.int 0))) (sSeq (sSet 3 (e2I iDiv (eVar 0) (eC (.int 2)))) (sSeq (sFor (gN 4) (iRng (eVar 1)) (sSet 3 (e2I iDiv (eVar 3) (eVar 2)))) (sRet (e2I iMod (eVar 3) (eVar 2))))) sSkip) (sSeq (sSet 5 (e2I iMod (e2I iMul (eAdd (eAdd (e2I iMod (eVar 0) (eC (.int 2147483647))) (e2I iMul (eC (.int 977)) (eVar 1))) (eC (.int 1))) (eC (.int 48271))) (eC (.int 2147483647)))) (sSeq (sSet 5 (e2I iMod (e2I iMul (eVar 5) (eVar 5)) (eC (.int 2147483629)))) (sSeq (sSet 5 (e2I iMod (e2I iMul (eAdd (eVar 5) (e2I iMul (eC (.int 40692)) (eAdd (eVar 1) (eC (.int 3))))) (eC (.int 69621))) (eC (.int 2147483647)))) (sRet (e2I iMod (e2I iDiv (eVar 5) (eC (.int 8))) (eVar 2)))))))
def φ_law_draw : List D → Option D := run 3 6 R_law_draw
def R_law_whole : St := (sRet (eB (tAnd (tB (eF1 (fIs .int) (eVar 0))) (tNot (tB (eF1 (fIs .bool) (eVar 0)))))))
def φ_law_whole : List D → Option D := run 1 1 R_law_whole
def R_law_cycles : St := (sSeq (sSet 1 (eC (.int 1))) (sSeq (sFor (gN 2) (iOf (eVar 0)) (sSet 1 (e2I iMul (eVar 1) (eVar 2)))) (sSeq (sOwn 3 (eLst [])) (sSeq (sFor (gN 4) (iRng (eVar 1)) (sSeq (sOwn 5 (eLst [])) (sSeq (sFor (gN 6) (iRng (eVar 1)) (sSeq (sSet 7 (eC (.int 0))) (sSeq (sSet 8 (eC (.int 1))) (sSeq (sFor (gN 2) (iOf (eVar 0)) (sSeq (sSet 7 (eAdd (eVar 7) (e2I iMul (e2I iMod (eAdd (e2I iDiv (eVar 4) (eVar 8)) (e2I iDiv (eVar 6) (eVar 8))) (eVar 2)) (eVar 8)))) (sSet 8 (e2I iMul (eVar 8) (eVar 2))))) (sApp 5 (eVar 7)))))) (sSeq (sFrz 5) (sApp 3 (eVar 5)))))) (sSeq (sFrz 3) (sRet (eVar 3)))))))
def φ_law_cycles : List D → Option D := run 1 9 R_law_cycles
def R_law_twisted : St := (sSeq (sOwn 2 (eLst [])) (sSeq (sFor (gN 3) (iRng (e2I iMul (eC (.int 2)) (eVar 0))) (sSeq (sOwn 4 (eLst [])) (sSeq (sFor (gN 5) (iRng (e2I iMul (eC (.int 2)) (eVar 0))) (sSeq (sSet 6 (eIx (eLst [(e2I iMod (eVar 5) (eVar 0)), (e2I iSub (eC (.int 0)) (e2I iMod (eVar 5) (eVar 0)))]) (e2I iDiv (eVar 3) (eVar 0)))) (sSeq (sSet 7 (e2I iMul (e2I iDiv (eVar 3) (eVar 0)) (e2I iDiv (eVar 5) (eVar 0)))) (sSeq (sSet 8 (e2I iMod (eAdd (eAdd (e2I iMod (eVar 3) (eVar 0)) (eVar 6)) (e2I iMul (eVar 1) (eVar 7))) (eVar 0))) (sApp 4 (eAdd (eVar 8) (e2I iMul (eVar 0) (e2I iMod (eAdd (e2I iDiv (eVar 3) (eVar 0)) (e2I iDiv (eVar 5) (eVar 0))) (eC (.int 2)))))))))) (sSeq (sFrz 4) (sApp 2 (eVar 4)))))) (sSeq (sFrz 2) (sRet (eVar 2)))))
def φ_law_twisted : List D → Option D := run 2 9 R_law_twisted
def R_law_even : St := (sSeq (sSet 0 (eLst [(eLst [])])) (sSeq (sFor (gN 1) (iRng (eC (.int 4))) (sSeq (sSet 2 (eLst [])) (sSeq (sFor (gN 3) (iOf (eVar 0)) (sSet 2 (eAdd (eVar 2) (eComp 4 (iRng (eC (.int 4))) (tNi (eVar 4) (eVar 3)) (eAdd (eVar 3) (eLst [(eVar 4)])))))) (sSet 0 (eVar 2))))) (sSeq (sOwn 5 (eLst [])) (sSeq (sFor (gN 3) (iOf (eVar 0)) (sSeq (sSet 6 (eC (.int 0))) (sSeq (sFor (gN 7) (iRng (eC (.int 4))) (sSet 6 (eAdd (eVar 6) (eF1 fLen (eComp 1 (iRng (eVar 7)) (t2I pGt (eIx (eVar 3) (eVar 1)) (eIx (eVar 3) (eVar 7))) (eVar 1)))))) (sIf (tEq (e2I iMod (eVar 6) (eC (.int 2))) (eC (.int 0))) (sApp 5 (eVar 3)) sSkip)))) (sSeq (sOwn 8 (eLst [])) (sSeq (sFrz 5) (sSeq (sFor (gN 9) (iOf (eVar 5)) (sSeq (sFrz 5) (sApp 8 (eComp 10 (iOf (eVar 5)) tTrue (eF2 fIndex (eVarR 5) (eComp 4 (iOf (eVar 9)) tTrue (eIx (eVar 10) (eVar 4)))))))) (sSeq (sFrz 8) (sRet (eVar 8))))))))))
def φ_law_even : List D → Option D := run 0 11 R_law_even
def R_law_base : St := (sSeq (sSet 1 (eLst [(eLst [(eC (.int 1))]), (eLst [(eC (.int 2))]), (eLst [(eC (.int 3))]), (eLst [(eC (.int 4))]), (eLst [(eC (.int 2)), (eC (.int 2))]), (eLst [(eC (.int 5))]), (eLst [(eC (.int 6))]), (eLst [(eC (.int 7))]), (eLst [(eC (.int 8))])])) (sSeq (sSet 1 (eAdd (eVar 1) (eLst [(eLst [(eC (.int 2)), (eC (.int 4))]), (eLst [(eC (.int 2)), (eC (.int 2)), (eC (.int 2))]), (eLst [(eC (.int 9))]), (eLst [(eC (.int 3)), (eC (.int 3))]), (eLst [(eC (.int 10))]), (eLst [(eC (.int 11))]), (eLst [(eC (.int 12))]), (eLst [(eC (.int 2)), (eC (.int 6))])]))) (sSeq (sIf (t2I pLt (eVar 0) (eC (.int 17))) (sRet (eCall φ_law_cycles [(eIx (eVar 1) (eVar 0))])) sSkip) (sSeq (sIf (t2I pLt (eVar 0) (eC (.int 23))) (sSeq (sSet 2 (eIx (eLst [(eTup [(eC (.int 3)), (eC (.int 0))]), (eTup [(eC (.int 4)), (eC (.int 0))]), (eTup [(eC (.int 5)), (eC (.int 0))]), (eTup [(eC (.int 6)), (eC (.int 0))]), (eTup [(eC (.int 4)), (eC (.int 2))]), (eTup [(eC (.int 6)), (eC (.int 3))])]) (e2I iSub (eVar 0) (eC (.int 17))))) (sRet (eCall φ_law_twisted [(eIx (eVar 2) (eC (.int 0))), (eIx (eVar 2) (eC (.int 1)))]))) sSkip) (sRet (eCall φ_law_even []))))))
def φ_law_base : List D → Option D := run 1 3 R_law_base
def R_law_renamed : St := (sSeq (sOwn 2 (eLst [])) (sSeq (sFor (gN 3) (iRng (eF1 fLen (eVar 0))) (sIns 2 (e2I iMod (eCall φ_law_draw [(eVar 1), (eVar 3), (eC (.int 12))]) (eAdd (eVar 3) (eC (.int 1)))) (eVar 3))) (sSeq (sTab 4 (eComp 5 (iOf (eVar 0)) tTrue (eF1 fList (eVar 5)))) (sSeq (sFor (gN 6) (iRng (eF1 fLen (eVar 0))) (sFor (gN 7) (iRng (eF1 fLen (eVar 0))) (sPut2 4 (eIx (eVarR 2) (eVar 6)) (eIx (eVarR 2) (eVar 7)) (eSc (eIx (eVarR 2) (eIx (eIx (eVar 0) (eVar 6)) (eVar 7))))))) (sRetT 4)))))
def φ_law_renamed : List D → Option D := run 2 8 R_law_renamed
def R_law_folk_by : St := (sRet (eCall φ_law_renamed [(eCall φ_law_base [(e2I iMod (eCall φ_law_cell_at [(eVar 0), (eVar 1)]) (eC (.int 24)))]), (eCall φ_law_cell_at [(eVar 0), (eAdd (eVar 1) (eC (.int 1)))])]))
def φ_law_folk_by : List D → Option D := run 2 2 R_law_folk_by
def R_law_lists : St := (sSeq (sIf (tNot (tB (eF1 (fIs .list) (eVar 0)))) (sRet (eC (.bl false))) sSkip) (sSeq (sFor (gN 1) (iOf (eVar 0)) (sIf (tOr (tNot (tB (eF1 (fIs .list) (eVar 1)))) (tNot (tB (eF1 fAll (eComp 2 (iOf (eVar 1)) tTrue (eCall φ_law_whole [(eVar 2)])))))) (sRet (eC (.bl false))) sSkip)) (sRet (eC (.bl true)))))
def φ_law_lists : List D → Option D := run 1 3 R_law_lists
def R_law_copy : St := (sRet (eComp 1 (iOf (eVar 0)) tTrue (eF1 fList (eVar 1))))
def φ_law_copy : List D → Option D := run 1 2 R_law_copy
def R_law : St := (sSeq (sSet 1 (eCall φ_law_folk_by [(eVar 0), (eC (.int 0))])) (sSeq (sIf (tEq (e2I iMod (eCall φ_law_cell_at [(eVar 0), (eC (.int 2))]) (eC (.int 2))) (eC (.int 1))) (sSeq (sSet 2 (eAdd (eC (.int 1)) (e2I iMod (e2I iDiv (eCall φ_law_cell_at [(eVar 0), (eC (.int 2))]) (eC (.int 2))) (eC (.int 12))))) (sSeq (sSet 3 (eCall φ_law_cell_at [(eVar 0), (eC (.int 1))])) (sSet 1 (eComp 5 (iRng (eVar 2)) tTrue (eComp 4 (iRng (eVar 2)) tTrue (eCall φ_law_draw [(eVar 3), (eAdd (e2I iMul (eVar 5) (eVar 2)) (eVar 4)), (eVar 2)])))))) sSkip) (sSeq (sSet 6 (eC (.str ""))) (sSeq (sFor (gN 5) (iRng (eF1 fLen (eVar 1))) (sSeq (sIf (t2I pGt (eVar 5) (eC (.int 0))) (sSet 6 (eCat (eVar 6) (eC (.str "/")))) sSkip) (sFor (gN 4) (iRng (eF1 fLen (eVar 1))) (sSet 6 (eCat (eCat (eVar 6) (eIx (eLst [(eC (.str " ")), (eC (.str ""))]) (eF1 fInt (eB (tEq (eVar 4) (eC (.int 0))))))) (eF1 fStr (eIx (eIx (eVar 1) (eVar 5)) (eVar 4)))))))) (sSeq (sSet 7 (eCall φ_law_copy [(eVar 1)])) (sSeq (sSet 8 (eCall φ_shown [(eVar 7)])) (sSeq (sIf (tOr (tNot (tB (eF1 (fIs .str) (eVar 8)))) (tOr (tNe (eVar 8) (eVar 6)) (tNe (eVar 7) (eVar 1)))) (sRet (eC (.bl false))) sSkip) (sSeq (sFor (gN 9) (iRng (eC (.int 2))) (sSeq (sTab 10 (eCall φ_read [(eVar 6)])) (sSeq (sIf (tOr (tNot (tB (eSc (eCall φ_law_lists [(eVarR 10)])))) (tNe (eF1 fLen (eVarR 10)) (eF1 fLen (eVar 1)))) (sRet (eC (.bl false))) sSkip) (sSeq (sFor (gN 5) (iRng (eF1 fLen (eVar 1))) (sSeq (sIf (tNe (eIx (eVarR 10) (eVar 5)) (eIx (eVar 1) (eVar 5))) (sRet (eC (.bl false))) sSkip) (sTApp 10 (eVar 5) 0))) (sTNew 10))))) (sRet (eC (.bl true)))))))))))
def φ_law : List D → Option D := run 1 11 R_law
end PV
set_option linter.all false
set_option Elab.async false
set_option maxHeartbeats 2000000
namespace PV
open PySem (Str)
def restAt (T : List (List Int)) (n : Nat) (e : Int) : Bool := (List.range n).all fun a => tg T e a == a && tg T a e == a
def intOf : D → Int
  | .int i => i
  | _ => 0
def restOf (T : List (List Int)) (n : Nat) : Option D := (rangeD 0 n).findSome? fun d => if restAt T n (intOf d) then some d else none
end PV
namespace PV
open PySem (Str)
theorem eF1_len {T : List (List Int)} {n : Nat} (hT : Tab T n) {env : Env} {e : Ex} (h : e env = some (tabD T)) : eF1 fLen e env = some (.int n) := by rw [eF1_of h, fLen_tab, hT.len]
theorem Tab.le {T : List (List Int)} {n : Nat} (h : Tab T n) : n ≤ 1000 := by have := h.top; omega
end PV
namespace PV
open PySem (Str)
theorem is_element_eq {T : List (List Int)} {n : Nat} (hT : Tab T n) (x : Int) : φ_is_element [tabD T, .int x] = some (.bl (decide (0 ≤ x) && decide (x < n))) := by
  refine run_rt rfl (sRet_of ?_)
  have h1 : t2I pGe (eVar 1) (eC (.int 0)) (enter 2 [tabD T, .int x]) = some (decide (0 ≤ x)) := rfl
  have h2 : t2I pLt (eVar 1) (eF1 fLen (eVar 0)) (enter 2 [tabD T, .int x]) = some (decide (x < n)) := by
    simp only [t2I, eF1_len hT (show eVar 0 (enter 2 [tabD T, .int x]) = some (tabD T) from rfl)]
    rfl
  simp only [eB, tAnd, h1, h2]
  cases decide (0 ≤ x) <;> simp
theorem iOf_lst {e : Ex} {env : Env} {xs : List D} (h : e env = some (.lst xs)) : iOf e env = some xs := by simp [iOf, h]
theorem iOf_tab {T : List (List Int)} {e : Ex} {env : Env} (h : e env = some (tabD T)) : iOf e env = some (T.map rowD) := iOf_lst h
theorem iOf_row {r : List Int} {e : Ex} {env : Env} (h : e env = some (rowD r)) : iOf e env = some (r.map .int) := iOf_lst h
theorem ask_table_eq {T : List (List Int)} {n : Nat} (hT : Tab T n) : φ_ask_table [tabD T] = some .non := by
  have e : sSet 1 (eF1 fLen (eVar 0)) (enter 4 [tabD T]) = some (.nx, [Sl.sh (tabD T), Sl.sh (.int n), Sl.un, Sl.un]) := by
    rw [sSet_of (eF1_len hT rfl)]; rfl
  have t1 : tOr (t2I pLt (eVar 1) (eC (.int 1))) (t2I pGt (eVar 1) (eC (.int 12))) [Sl.sh (tabD T), Sl.sh (.int n), Sl.un, Sl.un] = some false := by
    have h1 : t2I pLt (eVar 1) (eC (.int 1)) [Sl.sh (tabD T), Sl.sh (.int n), Sl.un, Sl.un] = some (decide ((n : Int) < 1)) := rfl
    have h2 : t2I pGt (eVar 1) (eC (.int 12)) [Sl.sh (tabD T), Sl.sh (.int n), Sl.un, Sl.un] = some (decide (12 < (n : Int))) := rfl
    have p1 := hT.pos
    have p2 := hT.top
    rw [decide_eq_false (by omega)] at h1 h2
    simp only [tOr, h1, h2]
  have key := forL_run (g := gN 2) (ds := T.map rowD) (b := sSeq (sIf (tNe (eF1 fLen (eVar 2)) (eVar 1)) (sNever) sSkip) (sIf (tNot (tB (eF1 fAll (eComp 3 (iOf (eVar 2)) tTrue (eCall φ_is_element [(eVar 0), (eVar 3)]))))) (sNever) sSkip))
    (fun _ env => Agr [2] env [Sl.sh (tabD T), Sl.sh (.int n), Sl.un, Sl.un]) (fun k d env hd hA => by
      rw [List.getElem?_map] at hd
      cases hr : T[k]? with
      | none => rw [hr] at hd; cases hd
      | some r =>
        rw [hr] at hd
        have hd' : rowD r = d := by simpa using hd
        subst hd'
        have hm : r ∈ T := List.mem_of_getElem? hr
        have A1 : Agr [2] (env.set 2 (.sh (rowD r))) [Sl.sh (tabD T), Sl.sh (.int n), Sl.un, Sl.un] := hA.set (by simp) _
        have v2 : eVar 2 (env.set 2 (.sh (rowD r))) = some (rowD r) := eVar_set (by rw [hA.len]; simp)
        have v1 : eVar 1 (env.set 2 (.sh (rowD r))) = some (.int n) := by rw [A1.var (by decide)]; rfl
        have v0 : eVar 0 (env.set 2 (.sh (rowD r))) = some (tabD T) := by rw [A1.var (by decide)]; rfl
        have t2 : tNe (eF1 fLen (eVar 2)) (eVar 1) (env.set 2 (.sh (rowD r))) = some false := by
          rw [tNe_int (i := r.length) (j := n) ((eF1_of v2).trans (fLen_row r)) v1, hT.row r hm]
          simp
        have hlen : (r.map D.int).length ≤ lim := by rw [List.length_map, hT.row r hm, lim_eq]; have := hT.top; omega
        have hc := compL_map (i := 3) (e := eCall φ_is_element [(eVar 0), (eVar 3)]) (env := env.set 2 (.sh (rowD r))) (fun d => .bl (decide (0 ≤ intOf d) && decide (intOf d < n))) (r.map .int) (fun d hd => by
          obtain ⟨x, hx, rfl⟩ := List.mem_map.mp hd
          refine (eCall2 (x := tabD T) (y := .int x) ?_ ?_).trans (is_element_eq hT x)
          · rw [eVar_set_ne (by decide)]; exact v0
          · exact eVar_set (by rw [A1.len]; simp))
        have t3 : tNot (tB (eF1 fAll (eComp 3 (iOf (eVar 2)) tTrue (eCall φ_is_element [(eVar 0), (eVar 3)])))) (env.set 2 (.sh (rowD r))) = some false := by
          have ha : (r.map D.int).all (fun d => decide (0 ≤ intOf d) && decide (intOf d < (n : Int))) = true := by
            rw [List.all_eq_true]
            intro d hd
            obtain ⟨x, hx, rfl⟩ := List.mem_map.mp hd
            have := hT.ent r hm x hx
            simp [intOf, this.1, this.2]
          simp only [tNot, tB, eF1, eComp, iOf_row v2, hlen, if_true, hc, fAll, allB_map, ha]
          rfl
        refine ⟨_, _, rfl, (sSeq_nx ((sIf_ff t2).trans sSkip_of)).trans ((sIf_ff t3).trans sSkip_of), A1⟩) [Sl.sh (tabD T), Sl.sh (.int n), Sl.un, Sl.un] (Agr.refl _ _)
  obtain ⟨e1, x, _⟩ := key
  rw [← sFor_of (it := iOf (eVar 0)) (iOf_tab (T := T) rfl)] at x
  exact run_nx rfl ((sSeq_nx e).trans ((sSeq_nx ((sIf_ff t1).trans sSkip_of)).trans x))
theorem law_copy_eq {T : List (List Int)} (hl : T.length ≤ 1000) : φ_law_copy [tabD T] = some (tabD T) := by
  have hlen : (T.map rowD).length ≤ lim := by rw [List.length_map, lim_eq]; omega
  refine run_rt rfl (sRet_of (d := tabD T) ?_)
  have hc := compL_map (i := 1) (e := eF1 fList (eVar 1)) (env := enter 2 [tabD T]) (fun d => d) (T.map rowD) (fun d hd => by
    obtain ⟨r, hr, rfl⟩ := List.mem_map.mp hd
    rfl)
  simp only [eComp, iOf_tab (T := T) (show eVar 0 (enter 2 [tabD T]) = some (tabD T) from rfl), hlen, if_true, hc, List.map_id']
  rfl
theorem law_whole_int (x : Int) : φ_law_whole [.int x] = some (.bl true) := rfl
end PV
namespace PV
open PySem (Str)
def cellV (ns : List Int) (k : Nat) : Int := ns.getD k 0
theorem law_cell_at_eq (ns : List Int) (k : Nat) : φ_law_cell_at [rowD ns, .int k] = some (.int (cellV ns k)) := by
  have t1 : t2I pLt (eVar 1) (eF1 fLen (eVar 0)) (enter 2 [rowD ns, .int k]) = some (decide ((k : Int) < ns.length)) := by
    have h : eF1 fLen (eVar 0) (enter 2 [rowD ns, .int k]) = some (.int ns.length) := (eF1_of (x := rowD ns) rfl).trans (fLen_row ns)
    simp only [t2I, h]; rfl
  by_cases hk : (k : Int) < ns.length
  · rw [decide_eq_true hk] at t1
    refine run_rt rfl (sSeq_rt ((sIf_tt t1).trans (sRet_of ?_)))
    show fIx (rowD ns) (.int k) = _
    rw [fIx_row (by omega) hk]
    simp [cellV]
  · rw [decide_eq_false hk] at t1
    have e : cellV ns k = 0 := by unfold cellV; rw [List.getD_eq_getElem?_getD, List.getElem?_eq_none (by omega)]; rfl
    rw [e]
    exact run_rt rfl ((sSeq_nx ((sIf_ff t1).trans sSkip_of)).trans (sRet_of rfl))
theorem e2I_of {f : Int → Int → Option D} {a b : Ex} {env : Env} {i j : Int} (h1 : a env = some (.int i)) (h2 : b env = some (.int j)) : e2I f a b env = f i j := by simp [e2I, h1, h2]
theorem iMod_of {i j : Int} (h : 0 < j) : iMod i j = some (.int (i % j)) := by unfold iMod; rw [if_pos h]
theorem iDiv_of {i j : Int} (h : 0 < j) (h2 : j < 1073741824) : iDiv i j = some (.int (i / j)) := by unfold iDiv; rw [if_pos ⟨h, h2⟩]
theorem iMul_l {i j : Int} (h : -18446744073709551616 < i) (h2 : i < 18446744073709551616) : iMul i j = some (.int (i * j)) := by unfold iMul; rw [if_pos (.inl ⟨h, h2⟩)]
theorem iMul_r {i j : Int} (h : -18446744073709551616 < j) (h2 : j < 18446744073709551616) : iMul i j = some (.int (i * j)) := by unfold iMul; rw [if_pos (.inr ⟨h, h2⟩)]
theorem eAdd_int {a b : Ex} {env : Env} {i j : Int} (h1 : a env = some (.int i)) (h2 : b env = some (.int j)) : eAdd a b env = some (.int (i + j)) := by simp [eAdd, eF2, h1, h2, fAdd]
theorem law_draw_ex (c : Int) (k : Nat) (bound : Int) (hk : k ≤ 1000) (hb : 0 < bound) (hb2 : bound ≤ 12) : ∃ r : Int, φ_law_draw [.int c, .int k, .int bound] = some (.int r) ∧ 0 ≤ r ∧ r < bound := by
  have t1 : tEq (e2I iMod (eVar 0) (eC (.int 2))) (eC (.int 0)) (enter 6 [.int c, .int k, .int bound]) = some (c % 2 == 0) :=
    tEq_int ((e2I_of (i := c) (j := 2) rfl rfl).trans (iMod_of (by decide))) rfl
  by_cases h2 : (c % 2 == 0) = true
  · rw [h2] at t1
    have s1 : sSet 3 (e2I iDiv (eVar 0) (eC (.int 2))) (enter 6 [.int c, .int k, .int bound]) = some (.nx, [.sh (.int c), .sh (.int k), .sh (.int bound), .sh (.int (c / 2)), .un, .un]) := by
      rw [sSet_of ((e2I_of (i := c) (j := 2) rfl rfl).trans (iDiv_of (by decide) (by decide)))]; rfl
    have key := forL_run (g := gN 4) (ds := rangeD 0 k) (b := sSet 3 (e2I iDiv (eVar 3) (eVar 2))) (fun _ env => Agr [3, 4] env [.sh (.int c), .sh (.int k), .sh (.int bound), .sh (.int (c / 2)), .un, .un] ∧ ∃ l : Int, eVar 3 env = some (.int l))
      (fun j d env hd ⟨hA, l, hl⟩ => by
        have A1 : Agr [3, 4] (env.set 4 (.sh d)) [.sh (.int c), .sh (.int k), .sh (.int bound), .sh (.int (c / 2)), .un, .un] := hA.set (by simp) _
        have v3 : eVar 3 (env.set 4 (.sh d)) = some (.int l) := by rw [eVar_set_ne (by decide)]; exact hl
        have v2 : eVar 2 (env.set 4 (.sh d)) = some (.int bound) := by rw [A1.var (by decide)]; rfl
        refine ⟨_, _, rfl, sSet_of ((e2I_of v3 v2).trans (iDiv_of hb (by omega))), A1.set (by simp) _, _, eVar_set (by rw [A1.len]; simp)⟩)
      [.sh (.int c), .sh (.int k), .sh (.int bound), .sh (.int (c / 2)), .un, .un] ⟨Agr.refl _ _, _, rfl⟩
    obtain ⟨e1, x, hA, l, hl⟩ := key
    rw [← sFor_of (it := iRng (eVar 1)) (iRng_of rfl hk)] at x
    have v2 : eVar 2 e1 = some (.int bound) := by rw [hA.var (by decide)]; rfl
    refine ⟨l % bound, run_rt rfl (sSeq_rt ((sIf_tt t1).trans ((sSeq_nx s1).trans ((sSeq_nx x).trans (sRet_of ((e2I_of hl v2).trans (iMod_of hb))))))), Int.emod_nonneg _ (by omega), Int.emod_lt_of_pos _ hb⟩
  · rw [Bool.not_eq_true] at h2
    rw [h2] at t1
    let q1 : Int := (c % 2147483647 + 977 * k + 1) * 48271 % 2147483647
    have m0 := Int.emod_nonneg c (show (2147483647 : Int) ≠ 0 by decide)
    have m0' := Int.emod_lt_of_pos c (show (0 : Int) < 2147483647 by decide)
    have n1 : 0 ≤ q1 := Int.emod_nonneg _ (by decide)
    have n1' : q1 < 2147483647 := Int.emod_lt_of_pos _ (by decide)
    let q2 : Int := q1 * q1 % 2147483629
    have n2 : 0 ≤ q2 := Int.emod_nonneg _ (by decide)
    have n2' : q2 < 2147483629 := Int.emod_lt_of_pos _ (by decide)
    let q3 : Int := (q2 + 40692 * (k + 3)) * 69621 % 2147483647
    have n3 : 0 ≤ q3 := Int.emod_nonneg _ (by decide)
    have s1 : sSet 5 (e2I iMod (e2I iMul (eAdd (eAdd (e2I iMod (eVar 0) (eC (.int 2147483647))) (e2I iMul (eC (.int 977)) (eVar 1))) (eC (.int 1))) (eC (.int 48271))) (eC (.int 2147483647))) (enter 6 [.int c, .int k, .int bound]) =
        some (.nx, [.sh (.int c), .sh (.int k), .sh (.int bound), .un, .un, .sh (.int q1)]) := by
      rw [sSet_of ((e2I_of ((e2I_of (eAdd_int (eAdd_int ((e2I_of (i := c) (j := 2147483647) rfl rfl).trans (iMod_of (by decide))) ((e2I_of (i := 977) (j := k) rfl rfl).trans (iMul_l (by decide) (by decide)))) rfl) rfl).trans (iMul_r (j := 48271) (by decide) (by decide))) rfl).trans (iMod_of (by decide)))]
      rfl
    have s2 : sSet 5 (e2I iMod (e2I iMul (eVar 5) (eVar 5)) (eC (.int 2147483629))) [.sh (.int c), .sh (.int k), .sh (.int bound), .un, .un, .sh (.int q1)] =
        some (.nx, [.sh (.int c), .sh (.int k), .sh (.int bound), .un, .un, .sh (.int q2)]) := by
      rw [sSet_of ((e2I_of ((e2I_of (i := q1) (j := q1) rfl rfl).trans (iMul_l (by omega) (by omega))) rfl).trans (iMod_of (by decide)))]
      rfl
    have s3 : sSet 5 (e2I iMod (e2I iMul (eAdd (eVar 5) (e2I iMul (eC (.int 40692)) (eAdd (eVar 1) (eC (.int 3))))) (eC (.int 69621))) (eC (.int 2147483647))) [.sh (.int c), .sh (.int k), .sh (.int bound), .un, .un, .sh (.int q2)] =
        some (.nx, [.sh (.int c), .sh (.int k), .sh (.int bound), .un, .un, .sh (.int q3)]) := by
      rw [sSet_of ((e2I_of ((e2I_of (eAdd_int (i := q2) rfl ((e2I_of (i := 40692) rfl (eAdd_int (i := k) (j := 3) rfl rfl)).trans (iMul_l (by decide) (by decide)))) rfl).trans (iMul_r (j := 69621) (by decide) (by decide))) rfl).trans (iMod_of (by decide)))]
      rfl
    refine ⟨q3 / 8 % bound, run_rt rfl ((sSeq_nx ((sIf_ff t1).trans sSkip_of)).trans ((sSeq_nx s1).trans ((sSeq_nx s2).trans ((sSeq_nx s3).trans (sRet_of ((e2I_of ((e2I_of (i := q3) (j := 8) rfl rfl).trans (iDiv_of (by decide) (by decide))) rfl).trans (iMod_of hb))))))),
      Int.emod_nonneg _ (by omega), Int.emod_lt_of_pos _ hb⟩
end PV
namespace PV
open PySem (Str)
structure Prm (nm : List Int) (n : Nat) : Prop where
  len : nm.length = n
  nd : nm.Nodup
  bd : ∀ x ∈ nm, 0 ≤ x ∧ x < n
def at1 (nm : List Int) (k : Int) : Int := nm.getD k.toNat 0
theorem at1_mem {nm : List Int} {k : Int} (h0 : 0 ≤ k) (h1 : k < nm.length) : at1 nm k ∈ nm := by
  have hk : k.toNat < nm.length := by omega
  unfold at1
  rw [List.getD_eq_getElem?_getD, List.getElem?_eq_getElem hk]
  exact List.getElem_mem hk
theorem Prm.at {nm : List Int} {n : Nat} (h : Prm nm n) {k : Int} (h0 : 0 ≤ k) (h1 : k < n) : 0 ≤ at1 nm k ∧ at1 nm k < n := h.bd _ (at1_mem h0 (by rw [h.len]; exact h1))
theorem Prm.inj {nm : List Int} {n : Nat} (h : Prm nm n) {a b : Int} (a0 : 0 ≤ a) (a1 : a < n) (b0 : 0 ≤ b) (b1 : b < n) (e : at1 nm a = at1 nm b) : a = b := by
  have hl := h.len
  have ha : a.toNat < nm.length := by omega
  have hb : b.toNat < nm.length := by omega
  unfold at1 at e
  rw [List.getD_eq_getElem?_getD, List.getD_eq_getElem?_getD, List.getElem?_eq_getElem ha, List.getElem?_eq_getElem hb] at e
  have := (List.getElem_inj h.nd).mp (show nm[a.toNat] = nm[b.toNat] from e)
  omega
theorem mem_insertIdx' {α : Type} {x y : α} : ∀ {nm : List α} {j : Nat}, y ∈ nm.insertIdx j x → y = x ∨ y ∈ nm
  | nm, 0, h => by rw [List.insertIdx_zero] at h; exact List.mem_cons.mp h
  | [], j + 1, h => by simp at h
  | z :: nm, j + 1, h => by
    rw [List.insertIdx_succ_cons] at h
    rcases List.mem_cons.mp h with e | e
    · exact .inr (by rw [e]; exact List.mem_cons_self)
    · rcases mem_insertIdx' e with e | e
      · exact .inl e
      · exact .inr (List.mem_cons_of_mem _ e)
theorem map_insertIdx' {α β : Type} (f : α → β) (x : α) : ∀ (nm : List α) (j : Nat), (nm.insertIdx j x).map f = (nm.map f).insertIdx j (f x)
  | nm, 0 => by simp
  | [], j + 1 => by simp
  | z :: nm, j + 1 => by simp only [List.insertIdx_succ_cons, List.map_cons, map_insertIdx' f x nm j]
theorem nodup_insertIdx {x : Int} : ∀ {nm : List Int} {j : Nat}, nm.Nodup → x ∉ nm → (nm.insertIdx j x).Nodup
  | nm, 0, h, hx => by rw [List.insertIdx_zero]; exact List.nodup_cons.mpr ⟨hx, h⟩
  | [], j + 1, h, hx => by simp
  | y :: nm, j + 1, h, hx => by
    rw [List.insertIdx_succ_cons]
    obtain ⟨h1, h2⟩ := List.nodup_cons.mp h
    refine List.nodup_cons.mpr ⟨fun hm => ?_, nodup_insertIdx h2 fun z => hx (List.mem_cons_of_mem _ z)⟩
    rcases mem_insertIdx' hm with e | e
    · exact hx (by rw [← e]; exact List.mem_cons_self)
    · exact h1 e
def rowsI (T : List (List Int)) : List (List D) := T.map fun r => r.map .int
theorem rows_tabD : ∀ T : List (List Int), rows? (T.map rowD) = some (rowsI T)
  | [] => rfl
  | r :: T => by simp only [List.map_cons, rowD, rows?]; rw [rows_tabD T]; rfl
theorem rowsI_tabD (T : List (List Int)) : D.lst ((rowsI T).map .lst) = tabD T := by simp only [rowsI, tabD, List.map_map]; rfl
def tset (T : List (List Int)) (i j v : Int) : List (List Int) := T.set i.toNat ((T.getD i.toNat []).set j.toNat v)
theorem Tab.tset {T : List (List Int)} {n : Nat} (h : Tab T n) {i j v : Int} (i0 : 0 ≤ i) (i1 : i < n) (v0 : 0 ≤ v) (v1 : v < n) : Tab (tset T i j v) n := by
  have hr := h.rowlen i0 i1
  have hm : (T.getD i.toNat []) ∈ T := by
    have hk : i.toNat < T.length := by have := h.len; omega
    rw [List.getD_eq_getElem?_getD, List.getElem?_eq_getElem hk]; exact List.getElem_mem hk
  refine ⟨by unfold PV.tset; rw [List.length_set]; exact h.len, fun r hr' => ?_, fun r hr' x hx => ?_, h.pos, h.top⟩
  · rcases List.mem_or_eq_of_mem_set hr' with z | z
    · exact h.row r z
    · rw [z, List.length_set]; exact hr
  · rcases List.mem_or_eq_of_mem_set hr' with z | z
    · exact h.ent r z x hx
    · rw [z] at hx
      rcases List.mem_or_eq_of_mem_set hx with y | y
      · exact h.ent _ hm x y
      · rw [y]; exact ⟨v0, v1⟩
theorem tg_tset {T : List (List Int)} {n : Nat} (h : Tab T n) {i j v a b : Int} (i0 : 0 ≤ i) (i1 : i < n) (j0 : 0 ≤ j) (j1 : j < n) (a0 : 0 ≤ a) (a1 : a < n) (b0 : 0 ≤ b) (b1 : b < n) :
    tg (tset T i j v) a b = if a = i ∧ b = j then v else tg T a b := by
  have hl := h.len
  have hr := h.rowlen i0 i1
  unfold tg PV.tset
  simp only [List.getD_eq_getElem?_getD]
  by_cases hai : a = i
  · subst hai
    rw [List.getElem?_set_self (by omega), Option.getD_some]
    by_cases hbj : b = j
    · subst hbj
      rw [List.getElem?_set_self (by simpa [List.getD_eq_getElem?_getD] using (show b.toNat < (T.getD a.toNat []).length by omega))]
      simp
    · rw [List.getElem?_set_ne (by omega)]
      simp [hbj]
  · rw [List.getElem?_set_ne (by omega)]
    simp [hai]
theorem eVarR_set_ne {env : Env} {i j : Nat} {s : Sl} (h : i ≠ j) : eVarR j (env.set i s) = eVarR j env := by unfold eVarR; rw [List.getElem?_set_ne h]
theorem law_renamed_ex {B : List (List Int)} {n : Nat} (hB : Tab B n) (c : Int) : ∃ (T : List (List Int)) (nm : List Int), φ_law_renamed [tabD B, .int c] = some (tabD T) ∧ Tab T n ∧ Prm nm n ∧
    ∀ a b : Int, 0 ≤ a → a < n → 0 ≤ b → b < n → tg T (at1 nm a) (at1 nm b) = at1 nm (tg B a b) := by
  have hn := hB.top
  let env0 : Env := [.sh (tabD B), .sh (.int c), .ow [], .un, .un, .un, .un, .un]
  have s1 : sOwn 2 (eLst []) (enter 8 [tabD B, .int c]) = some (.nx, env0) := rfl
  have key := forL_run (g := gN 3) (ds := rangeD 0 n) (b := sIns 2 (e2I iMod (eCall φ_law_draw [(eVar 1), (eVar 3), (eC (.int 12))]) (eAdd (eVar 3) (eC (.int 1)))) (eVar 3))
    (fun k env => Agr [2, 3] env env0 ∧ ∃ nm : List Int, env[2]? = some (.ow (nm.map .int)) ∧ Prm nm k) (fun k d env hd ⟨hA, nm, hv, hp⟩ => by
      have hk : k < n := by have := (List.getElem?_eq_some_iff.mp hd).1; rwa [rangeD_length] at this
      rw [rangeD_get hk] at hd
      obtain rfl : D.int k = d := by simpa using hd
      have A1 : Agr [2, 3] (env.set 3 (.sh (.int k))) env0 := hA.set (by simp) _
      have v3 : eVar 3 (env.set 3 (.sh (.int k))) = some (.int k) := eVar_set (by rw [hA.len]; simp [env0])
      have v1 : eVar 1 (env.set 3 (.sh (.int k))) = some (.int c) := by rw [A1.var (by decide)]; rfl
      obtain ⟨r, hr, r0, r1⟩ := law_draw_ex c k 12 (by omega) (by decide) (by decide)
      have ea : e2I iMod (eCall φ_law_draw [(eVar 1), (eVar 3), (eC (.int 12))]) (eAdd (eVar 3) (eC (.int 1))) (env.set 3 (.sh (.int k))) = some (.int (r % ((k : Int) + 1))) :=
        (e2I_of ((eCall3 v1 v3 rfl).trans hr) (eAdd_int v3 rfl)).trans (iMod_of (by omega))
      have p0 := Int.emod_nonneg r (show ((k : Int) + 1) ≠ 0 by omega)
      have p1 := Int.emod_lt_of_pos r (show (0 : Int) < (k : Int) + 1 by omega)
      have hl := hp.len
      have w2 : (env.set 3 (.sh (.int k)))[2]? = some (.ow (nm.map .int)) := by rw [List.getElem?_set_ne (by decide)]; exact hv
      have hs : sIns 2 (e2I iMod (eCall φ_law_draw [(eVar 1), (eVar 3), (eC (.int 12))]) (eAdd (eVar 3) (eC (.int 1)))) (eVar 3) (env.set 3 (.sh (.int k))) =
          some (.nx, (env.set 3 (.sh (.int k))).set 2 (.ow ((nm.map .int).insertIdx (r % ((k : Int) + 1)).toNat (.int k)))) := by
        simp only [sIns, w2, ea, v3]
        rw [if_pos ⟨p0, by rw [List.length_map]; omega, by rw [List.length_map, lim_eq]; omega⟩]
      refine ⟨_, _, rfl, hs, A1.set (by simp) _, nm.insertIdx (r % ((k : Int) + 1)).toNat k, ?_, ⟨?_, ?_, fun x hx => ?_⟩⟩
      · rw [set_get (by rw [List.length_set, hA.len]; simp [env0]), map_insertIdx']
      · rw [List.length_insertIdx, if_pos (by omega)]; omega
      · exact nodup_insertIdx hp.nd fun z => by have := hp.bd _ z; omega
      · rcases mem_insertIdx' hx with e | e
        · subst e; omega
        · have := hp.bd x e; omega) env0 ⟨Agr.refl _ _, [], rfl, ⟨rfl, List.nodup_nil, fun x hx => by cases hx⟩⟩
  obtain ⟨e1, x1, A1, nm, v2, hp⟩ := key
  rw [rangeD_length] at hp
  rw [← sFor_of (it := iRng (eF1 fLen (eVar 0))) (iRng_of (eF1_len hB rfl) hB.le)] at x1
  have l1 : e1.length = 8 := A1.len
  have w0 : eVar 0 e1 = some (tabD B) := by rw [A1.var (by decide)]; rfl
  have s2 : sTab 4 (eComp 5 (iOf (eVar 0)) tTrue (eF1 fList (eVar 5))) e1 = some (.nx, e1.set 4 (.tab (rowsI B))) := by
    have hlen : (B.map rowD).length ≤ lim := by rw [List.length_map, hB.len, lim_eq]; omega
    have hc := compL_map (i := 5) (e := eF1 fList (eVar 5)) (env := e1) (fun d => d) (B.map rowD) (fun d hd => by
      obtain ⟨r, hr, rfl⟩ := List.mem_map.mp hd
      rw [eF1_of (eVar_set (by rw [l1]; decide))]; rfl)
    rw [List.map_id'] at hc
    simp only [sTab, eComp, iOf_tab w0, hlen, if_true, hc, rows_tabD]
  let e2 := e1.set 4 (.tab (rowsI B))
  have l2 : e2.length = 8 := by show (e1.set 4 _).length = 8; rw [List.length_set]; exact l1
  have z0 : eVar 0 e2 = some (tabD B) := by show eVar 0 (e1.set 4 _) = _; rw [eVar_set_ne (by decide)]; exact w0
  have z2 : eVarR 2 e2 = some (rowD nm) := by show eVarR 2 (e1.set 4 _) = _; rw [eVarR_set_ne (by decide)]; unfold eVarR; rw [v2]; rfl
  have z4 : e2[4]? = some (.tab (rowsI B)) := set_get (by rw [l1]; decide)
  have irow : ∀ {env : Env} {e1 e2 : Ex} {k : Int}, e1 env = some (rowD nm) → e2 env = some (.int k) → 0 ≤ k → k < n → eIx e1 e2 env = some (.int (at1 nm k)) := fun {env e1 e2 k} h1 h2 k0 k1 => by
    simp only [eIx, eF2, h1, h2]
    rw [fIx_row k0 (by rw [hp.len]; exact k1)]; rfl
  have turn : ∀ (a b : Nat) (env : Env) (T : List (List Int)), a < n → b < n → Agr [4, 6, 7] env e2 → eVar 6 env = some (.int a) → eVar 7 env = some (.int b) → env[4]? = some (.tab (rowsI T)) → Tab T n →
      sPut2 4 (eIx (eVarR 2) (eVar 6)) (eIx (eVarR 2) (eVar 7)) (eSc (eIx (eVarR 2) (eIx (eIx (eVar 0) (eVar 6)) (eVar 7)))) env = some (.nx, env.set 4 (.tab (rowsI (tset T (at1 nm a) (at1 nm b) (at1 nm (tg B a b)))))) := by
    intro a b env T ha hb hA k6 k7 k4 hT
    have k0 : eVar 0 env = some (tabD B) := by rw [hA.var (by decide)]; exact z0
    have k2 : eVarR 2 env = some (rowD nm) := by rw [hA.varR (by decide)]; exact z2
    have ea := irow k2 k6 (by omega) (by omega)
    have eb := irow k2 k7 (by omega) (by omega)
    have ex := ix2 hB k0 k6 k7 (by omega) (by omega) (by omega) (by omega)
    have bb := hB.bound (a := a) (b := b) (by omega) (by omega) (by omega) (by omega)
    have ev := irow k2 ex bb.1 bb.2
    have pa := hp.at (k := a) (by omega) (by omega)
    have pb := hp.at (k := b) (by omega) (by omega)
    have es : eSc (eIx (eVarR 2) (eIx (eIx (eVar 0) (eVar 6)) (eVar 7))) env = some (.int (at1 nm (tg B a b))) := by simp only [eSc, ev, scalD]; rfl
    have hl := hT.len
    have i1 : ixN (rowsI T).length (at1 nm a) = some (at1 nm a).toNat := by unfold ixN; rw [if_pos pa.1, if_pos (by rw [rowsI, List.length_map]; omega)]
    have g1 : (rowsI T)[(at1 nm a).toNat]? = some ((T.getD (at1 nm a).toNat []).map .int) := by
      have hk : (at1 nm a).toNat < T.length := by omega
      rw [rowsI, List.getElem?_map, List.getElem?_eq_getElem hk, List.getD_eq_getElem?_getD, List.getElem?_eq_getElem hk]; rfl
    have rl := hT.rowlen pa.1 pa.2
    have i2 : ixN ((T.getD (at1 nm a).toNat []).map D.int).length (at1 nm b) = some (at1 nm b).toNat := by unfold ixN; rw [if_pos pb.1, if_pos (by rw [List.length_map, rl]; omega)]
    simp only [sPut2, k4, es, ea, eb, i1, g1, i2]
    congr 3
    simp only [rowsI, PV.tset, List.map_set]
  have key2 := forL_run (g := gN 6) (ds := rangeD 0 n) (b := sFor (gN 7) (iRng (eF1 fLen (eVar 0))) (sPut2 4 (eIx (eVarR 2) (eVar 6)) (eIx (eVarR 2) (eVar 7)) (eSc (eIx (eVarR 2) (eIx (eIx (eVar 0) (eVar 6)) (eVar 7))))))
    (fun k env => Agr [4, 6, 7] env e2 ∧ ∃ T, env[4]? = some (.tab (rowsI T)) ∧ Tab T n ∧ ∀ a b : Int, 0 ≤ a → a < k → 0 ≤ b → b < n → tg T (at1 nm a) (at1 nm b) = at1 nm (tg B a b)) (fun k d env hd ⟨hA, T, hv, hT, hI⟩ => by
      have hk : k < n := by have := (List.getElem?_eq_some_iff.mp hd).1; rwa [rangeD_length] at this
      rw [rangeD_get hk] at hd
      obtain rfl : D.int k = d := by simpa using hd
      have A2 : Agr [4, 6, 7] (env.set 6 (.sh (.int k))) e2 := hA.set (by simp) _
      have u6 : eVar 6 (env.set 6 (.sh (.int k))) = some (.int k) := eVar_set (by rw [hA.len, l2]; decide)
      have u0 : eVar 0 (env.set 6 (.sh (.int k))) = some (tabD B) := by rw [A2.var (by decide)]; exact z0
      have inner := forL_run (g := gN 7) (ds := rangeD 0 n) (b := sPut2 4 (eIx (eVarR 2) (eVar 6)) (eIx (eVarR 2) (eVar 7)) (eSc (eIx (eVarR 2) (eIx (eIx (eVar 0) (eVar 6)) (eVar 7)))))
        (fun j env => Agr [4, 6, 7] env e2 ∧ eVar 6 env = some (.int k) ∧ ∃ T, env[4]? = some (.tab (rowsI T)) ∧ Tab T n ∧ (∀ a b : Int, 0 ≤ a → a < k → 0 ≤ b → b < n → tg T (at1 nm a) (at1 nm b) = at1 nm (tg B a b)) ∧
          ∀ b : Int, 0 ≤ b → b < j → tg T (at1 nm k) (at1 nm b) = at1 nm (tg B k b)) (fun j d env hd ⟨hA, h6, T, hv, hT, hI, hJ⟩ => by
          have hj : j < n := by have := (List.getElem?_eq_some_iff.mp hd).1; rwa [rangeD_length] at this
          rw [rangeD_get hj] at hd
          obtain rfl : D.int j = d := by simpa using hd
          have A3 : Agr [4, 6, 7] (env.set 7 (.sh (.int j))) e2 := hA.set (by simp) _
          have t7 : eVar 7 (env.set 7 (.sh (.int j))) = some (.int j) := eVar_set (by rw [hA.len, l2]; decide)
          have t6 : eVar 6 (env.set 7 (.sh (.int j))) = some (.int k) := by rw [eVar_set_ne (by decide)]; exact h6
          have t4 : (env.set 7 (.sh (.int j)))[4]? = some (.tab (rowsI T)) := by rw [List.getElem?_set_ne (by decide)]; exact hv
          have pk := hp.at (k := k) (by omega) (by omega)
          have pj := hp.at (k := j) (by omega) (by omega)
          have bb := hB.bound (a := k) (b := j) (by omega) (by omega) (by omega) (by omega)
          have pv := hp.at bb.1 bb.2
          refine ⟨_, _, rfl, turn k j _ T hk hj A3 t6 t7 t4 hT, A3.set (by simp) _, by rw [eVar_set_ne (by decide)]; exact t6, _, set_get (by rw [A3.len, l2]; decide), hT.tset pk.1 pk.2 pv.1 pv.2, fun a b a0 a1 b0 b1 => ?_, fun b b0 b1 => ?_⟩
          · have qa := hp.at (k := a) a0 (by omega)
            have qb := hp.at (k := b) b0 b1
            rw [tg_tset hT pk.1 pk.2 pj.1 pj.2 qa.1 qa.2 qb.1 qb.2, if_neg]
            · exact hI a b a0 a1 b0 b1
            · rintro ⟨e, _⟩
              have := hp.inj a0 (by omega) (by omega) (by omega) e
              omega
          · have qb := hp.at (k := b) b0 (by omega)
            rw [tg_tset hT pk.1 pk.2 pj.1 pj.2 pk.1 pk.2 qb.1 qb.2]
            by_cases e : b = j
            · subst e; simp
            · rw [if_neg]
              · exact hJ b b0 (by omega)
              · rintro ⟨_, e2⟩
                exact e (hp.inj b0 (by omega) (by omega) (by omega) e2)) (env.set 6 (.sh (.int k))) ⟨A2, u6, T, by rw [List.getElem?_set_ne (by decide)]; exact hv, hT, hI, fun b b0 b1 => by omega⟩
      obtain ⟨e3, x3, hA3, h6, T3, hv3, hT3, hI3, hJ3⟩ := inner
      rw [rangeD_length] at hJ3
      refine ⟨_, e3, rfl, (sFor_of (iRng_of (eF1_len hB u0) hB.le)).trans x3, hA3, T3, hv3, hT3, fun a b a0 a1 b0 b1 => ?_⟩
      by_cases e : a = k
      · subst e; exact hJ3 b b0 b1
      · exact hI3 a b a0 (by omega) b0 b1) e2 ⟨Agr.refl _ _, B, z4, hB, fun a b a0 a1 _ _ => by omega⟩
  obtain ⟨e3, x3, A3, T, hv, hT, hI⟩ := key2
  rw [rangeD_length] at hI
  rw [← sFor_of (it := iRng (eF1 fLen (eVar 0))) (iRng_of (eF1_len hB z0) hB.le)] at x3
  have s3 : sRetT 4 e3 = some (.rt (tabD T), e3) := by simp only [sRetT, hv, rowsI_tabD]
  exact ⟨T, nm, run_rt rfl ((sSeq_nx s1).trans ((sSeq_nx x1).trans ((sSeq_nx s2).trans ((sSeq_nx x3).trans s3)))), hT, hp, hI⟩
end PV
set_option maxRecDepth 100000
namespace PV
open PySem (Str)
theorem ints_eq : ∀ {ds : List D} {xs : List Int}, ints? ds = some xs → ds = xs.map .int
  | [], xs, h => by simp [ints?] at h; subst h; rfl
  | .int i :: ds, xs, h => by
    simp only [ints?] at h
    cases e : ints? ds with
    | none => rw [e] at h; cases h
    | some r => rw [e] at h; cases h; rw [ints_eq e]; rfl
  | .non :: _, _, h => by simp [ints?] at h
  | .bl _ :: _, _, h => by simp [ints?] at h
  | .str _ :: _, _, h => by simp [ints?] at h
  | .lst _ :: _, _, h => by simp [ints?] at h
  | .tup _ :: _, _, h => by simp [ints?] at h
def tabs? : List D → Option (List (List Int))
  | [] => some []
  | .lst ds :: r => match ints? ds, tabs? r with
    | some xs, some T => some (xs :: T)
    | _, _ => none
  | _ :: _ => none
theorem tabs_eq : ∀ {ds : List D} {T : List (List Int)}, tabs? ds = some T → ds = T.map rowD
  | [], T, h => by simp [tabs?] at h; subst h; rfl
  | .lst ds :: r, T, h => by
    simp only [tabs?] at h
    split at h
    · rename_i xs T' e1 e2
      cases h
      rw [ints_eq e1, tabs_eq e2]; rfl
    · cases h
  | .non :: _, _, h => by simp [tabs?] at h
  | .bl _ :: _, _, h => by simp [tabs?] at h
  | .int _ :: _, _, h => by simp [tabs?] at h
  | .str _ :: _, _, h => by simp [tabs?] at h
  | .tup _ :: _, _, h => by simp [tabs?] at h
def tab? : D → Option (List (List Int))
  | .lst ds => tabs? ds
  | _ => none
theorem tab_eq {d : D} {T : List (List Int)} (h : tab? d = some T) : d = tabD T := by
  cases d with
  | lst ds => rw [tabs_eq (show tabs? ds = some T from h)]; rfl
  | _ => cases h
def tabB (T : List (List Int)) : Bool := decide (1 ≤ T.length) && decide (T.length ≤ 12) && T.all fun r => r.length == T.length && r.all fun x => decide (0 ≤ x) && decide (x < T.length)
theorem tabB_ok {T : List (List Int)} (h : tabB T = true) : Tab T T.length := by
  simp only [tabB, Bool.and_eq_true, decide_eq_true_eq, List.all_eq_true, beq_iff_eq] at h
  exact ⟨rfl, fun r hr => (h.2 r hr).1, fun r hr x hx => (h.2 r hr).2 x hx, h.1.1, h.1.2⟩
def baseT (k : Nat) : List (List Int) := ((φ_law_base [.int k]).bind tab?).getD []
def baseB (k : Nat) : Bool := match φ_law_base [.int k] with
  | some d => match tab? d with
    | some T => tabB T
    | none => false
  | none => false
theorem base_all : (List.range 24).all baseB = true := by decide +kernel
theorem base_ok {k : Nat} (h : k < 24) : φ_law_base [.int k] = some (tabD (baseT k)) ∧ Tab (baseT k) (baseT k).length := by
  have hb : baseB k = true := List.all_eq_true.mp base_all k (List.mem_range.mpr h)
  unfold baseB at hb
  unfold baseT
  cases e : φ_law_base [.int k] with
  | none => rw [e] at hb; cases hb
  | some d =>
    rw [e] at hb
    dsimp only at hb
    cases e2 : tab? d with
    | none => rw [e2] at hb; cases hb
    | some T =>
      rw [e2] at hb
      rw [Option.bind_some, e2, Option.getD_some, tab_eq e2]
      exact ⟨rfl, tabB_ok hb⟩
end PV
namespace PV
open PySem (Str)
theorem mod_nat (i : Int) {n : Nat} (h : 0 < n) : ∃ k : Nat, k < n ∧ i % (n : Int) = k := by
  have h0 := Int.emod_nonneg i (show (n : Int) ≠ 0 by omega)
  have h1 := Int.emod_lt_of_pos i (show (0 : Int) < n by omega)
  exact ⟨(i % n).toNat, by omega, by omega⟩
theorem law_folk_by_ex (ns : List Int) (f : Nat) : ∃ (k n : Nat) (T : List (List Int)) (nm : List Int), k < 24 ∧ φ_law_folk_by [rowD ns, .int f] = some (tabD T) ∧ Tab (baseT k) n ∧ Tab T n ∧ Prm nm n ∧
    ∀ a b : Int, 0 ≤ a → a < n → 0 ≤ b → b < n → tg T (at1 nm a) (at1 nm b) = at1 nm (tg (baseT k) a b) := by
  obtain ⟨k, hk, ek⟩ := mod_nat (cellV ns f) (show 0 < 24 by decide)
  obtain ⟨eb, tb⟩ := base_ok hk
  obtain ⟨T, nm, e, hT, hp, hI⟩ := law_renamed_ex tb (cellV ns (f + 1))
  refine ⟨k, _, T, nm, hk, run_rt rfl (sRet_of ((eCall2 ((eCall1 ((e2I_of ((eCall2 rfl rfl).trans (law_cell_at_eq ns f)) rfl).trans (iMod_of (by decide)))).trans ?_) ((eCall2 rfl (eAdd_int (i := f) (j := 1) rfl rfl)).trans (law_cell_at_eq ns (f + 1)))).trans e)), tb, hT, hp, hI⟩
  have : (cellV ns f % 24) = k := ek
  rw [this]
  exact eb
end PV
namespace PV
open PySem (Str)
structure Grp (T : List (List Int)) (n : Nat) (s : Nat) : Prop where
  tab : Tab T n
  lt : s < n
  asc : ∀ a b c : Int, 0 ≤ a → a < n → 0 ≤ b → b < n → 0 ≤ c → c < n → tg T (tg T a b) c = tg T a (tg T b c)
  idl : ∀ a : Int, 0 ≤ a → a < n → tg T s a = a
  idr : ∀ a : Int, 0 ≤ a → a < n → tg T a s = a
  inv : ∀ a : Int, 0 ≤ a → a < n → ∃ b : Int, 0 ≤ b ∧ b < n ∧ tg T a b = s ∧ tg T b a = s
theorem int_nat {a : Int} {n : Nat} (h0 : 0 ≤ a) (h1 : a < n) : ∃ k : Nat, k < n ∧ a = k := ⟨a.toNat, by omega, by omega⟩
theorem findSome_first {n : Nat} {p : Nat → Bool} {k : Nat} (hk : k < n) (hp : p k = true) (hu : ∀ j, j < k → p j = false) {q : D → Option D} (hq : ∀ j : Nat, q (.int j) = if p j then some (.int j) else none) : (rangeD 0 n).findSome? q = some (.int k) := by
  cases e : (rangeD 0 n).findSome? q with
  | none =>
    have := List.findSome?_eq_none_iff.mp e (.int k) (List.mem_of_getElem? (by rw [rangeD_get hk]; simp))
    rw [hq, if_pos hp] at this
    cases this
  | some r =>
    obtain ⟨l1, d, l2, h1, h2, h3⟩ := List.findSome?_eq_some_iff.mp e
    have hd : d ∈ rangeD 0 n := by rw [h1]; simp
    obtain ⟨j, hj, rfl⟩ := mem_rangeD hd
    rw [hq] at h2
    split at h2
    · rename_i hpj
      cases h2
      rcases Nat.lt_trichotomy j k with hlt | rfl | hgt
      · rw [hu j hlt] at hpj; cases hpj
      · rfl
      · exfalso
        have hl : l1.length = j := by
          have hg : (rangeD 0 n)[l1.length]? = some (.int j) := by rw [h1]; simp
          have hlt : l1.length < n := by
            have := congrArg List.length h1
            rw [rangeD_length] at this
            simp at this
            omega
          rw [rangeD_get hlt] at hg
          injection hg with hg
          injection hg with hg
          omega
        have hm : (D.int k) ∈ l1 := by
          have hg : (rangeD 0 n)[k]? = some (.int k) := by rw [rangeD_get hk]; simp
          rw [h1, List.getElem?_append_left (by omega)] at hg
          exact List.mem_of_getElem? hg
        have := h3 _ hm
        rw [hq, if_pos hp] at this
        cases this
    · cases h2
end PV
set_option linter.all false
set_option Elab.async false
set_option maxHeartbeats 2000000
namespace PV
open PySem (Str)
def pw (T : List (List Int)) (s e : Int) : Nat → Int
  | 0 => s
  | k + 1 => tg T (pw T s e k) e
def El (n : Nat) (a : Int) : Prop := 0 ≤ a ∧ a < n
theorem El.nat {n : Nat} {a : Int} (h : El n a) : ∃ k : Nat, k < n ∧ a = k := int_nat h.1 h.2
theorem El.of {n k : Nat} (h : k < n) : El n (k : Int) := ⟨by omega, by omega⟩
theorem Grp.bd {T : List (List Int)} {n s : Nat} (G : Grp T n s) {a b : Int} (ha : El n a) (hb : El n b) : El n (tg T a b) := G.tab.bound ha.1 ha.2 hb.1 hb.2
theorem Grp.as {T : List (List Int)} {n s : Nat} (G : Grp T n s) {a b c : Int} (ha : El n a) (hb : El n b) (hc : El n c) : tg T (tg T a b) c = tg T a (tg T b c) := G.asc a b c ha.1 ha.2 hb.1 hb.2 hc.1 hc.2
theorem Grp.l {T : List (List Int)} {n s : Nat} (G : Grp T n s) {a : Int} (ha : El n a) : tg T s a = a := G.idl a ha.1 ha.2
theorem Grp.r {T : List (List Int)} {n s : Nat} (G : Grp T n s) {a : Int} (ha : El n a) : tg T a s = a := G.idr a ha.1 ha.2
theorem Grp.i {T : List (List Int)} {n s : Nat} (G : Grp T n s) {a : Int} (ha : El n a) : ∃ b, El n b ∧ tg T a b = s ∧ tg T b a = s := by
  obtain ⟨b, b0, b1, h1, h2⟩ := G.inv a ha.1 ha.2; exact ⟨b, ⟨b0, b1⟩, h1, h2⟩
theorem Grp.s {T : List (List Int)} {n s : Nat} (G : Grp T n s) : El n (s : Int) := El.of G.lt
theorem Grp.cl {T : List (List Int)} {n s : Nat} (G : Grp T n s) {a x y : Int} (ha : El n a) (hx : El n x) (hy : El n y) (h : tg T a x = tg T a y) : x = y := by
  obtain ⟨b, hb, h1, h2⟩ := G.i ha
  rw [← G.l hx, ← G.l hy, ← h2, G.as hb ha hx, G.as hb ha hy, h]
theorem Grp.cr {T : List (List Int)} {n s : Nat} (G : Grp T n s) {a x y : Int} (ha : El n a) (hx : El n x) (hy : El n y) (h : tg T x a = tg T y a) : x = y := by
  obtain ⟨b, hb, h1, h2⟩ := G.i ha
  rw [← G.r hx, ← G.r hy, ← h1, ← G.as hx ha hb, ← G.as hy ha hb, h]
theorem Grp.pw {T : List (List Int)} {n s : Nat} (G : Grp T n s) {e : Int} (he : El n e) : ∀ k, El n (pw T s e k)
  | 0 => G.s
  | k + 1 => G.bd (G.pw he k) he
theorem Grp.pwa {T : List (List Int)} {n s : Nat} (G : Grp T n s) {e : Int} (he : El n e) (i : Nat) : ∀ k, tg T (PV.pw T s e i) (PV.pw T s e k) = PV.pw T s e (i + k)
  | 0 => G.r (G.pw he i)
  | k + 1 => by
    show tg T (PV.pw T s e i) (tg T (PV.pw T s e k) e) = tg T (PV.pw T s e (i + k)) e
    rw [← G.as (G.pw he i) (G.pw he k) he, G.pwa he i k]
structure Od (T : List (List Int)) (s e : Int) (m : Nat) : Prop where
  pos : 1 ≤ m
  is : pw T s e m = s
  low : ∀ j, 1 ≤ j → j < m → pw T s e j ≠ s
theorem Grp.hole {T : List (List Int)} {n s : Nat} (G : Grp T n s) {e : Int} (he : El n e) : ∃ i j, i < j ∧ j ≤ n ∧ PV.pw T s e i = PV.pw T s e j := by
  apply Classical.byContradiction
  intro hno
  have hnd : ((List.range (n + 1)).map (PV.pw T s e)).Nodup := by
    rw [List.Nodup, List.pairwise_map]
    refine List.Pairwise.imp_of_mem (R := (· < ·)) (fun {a b} ha hb hab heq => hno ⟨a, b, hab, ?_, heq⟩) List.pairwise_lt_range
    have := List.mem_range.mp hb
    omega
  have hsub : ((List.range (n + 1)).map (PV.pw T s e)) ⊆ upto n := fun y hy => by
    obtain ⟨k, _, rfl⟩ := List.mem_map.mp hy
    exact mem_upto.mpr (G.pw he k)
  have := hnd.length_le_of_subset hsub
  rw [upto_len] at this
  simp at this
  omega
theorem od_least {T : List (List Int)} {s e : Int} : ∀ m, 1 ≤ m → pw T s e m = s → ∃ k, k ≤ m ∧ Od T s e k := by
  intro m
  induction m using Nat.strongRecOn with
  | ind m ih =>
    intro h1 h2
    by_cases hx : ∃ j, 1 ≤ j ∧ j < m ∧ pw T s e j = s
    · obtain ⟨j, j1, j2, j3⟩ := hx
      obtain ⟨k, k1, k2⟩ := ih j j2 j1 j3
      exact ⟨k, by omega, k2⟩
    · exact ⟨m, Nat.le_refl _, h1, h2, fun j j1 j2 j3 => hx ⟨j, j1, j2, j3⟩⟩
theorem Grp.od {T : List (List Int)} {n s : Nat} (G : Grp T n s) {e : Int} (he : El n e) : ∃ m, m ≤ n ∧ Od T s e m := by
  obtain ⟨i, j, hij, hj, h⟩ := G.hole he
  have h' := G.pwa he i (j - i)
  rw [show i + (j - i) = j by omega, ← h] at h'
  have := G.cl (G.pw he i) (G.pw he (j - i)) G.s (by rw [h', G.r (G.pw he i)])
  obtain ⟨k, k1, k2⟩ := od_least (j - i) (by omega) this
  exact ⟨k, by omega, k2⟩
end PV
set_option linter.all false
set_option Elab.async false
set_option maxHeartbeats 2000000
namespace PV
open PySem (Str)
theorem restAt_iff {T : List (List Int)} {n : Nat} {e : Int} : restAt T n e = true ↔ ∀ a : Nat, a < n → tg T e a = a ∧ tg T a e = a := by
  simp [restAt, List.all_eq_true]
theorem Grp.rest {T : List (List Int)} {n s : Nat} (G : Grp T n s) : restOf T n = some (.int s) := by
  have hs := G.lt
  refine findSome_first (p := fun j => restAt T n j) hs ?_ (fun j hj => ?_) fun j => rfl
  · exact restAt_iff.mpr fun a ha => ⟨G.idl a (by omega) (by omega), G.idr a (by omega) (by omega)⟩
  · cases e : restAt T n j with
    | false => rfl
    | true =>
      have h1 := (restAt_iff.mp e s hs).1
      have h2 := G.idr j (by omega) (by omega)
      omega
end PV
set_option linter.all false
set_option Elab.async false
set_option maxHeartbeats 2000000
namespace PV
open PySem (Str)
def kdB (T : List (List Int)) (n : Nat) (x y : Int) : Bool := (upto n).any fun a => decide (tg T a x = tg T y a)
theorem kdB_iff {T : List (List Int)} {n : Nat} {x y : Int} : kdB T n x y = true ↔ ∃ a, El n a ∧ tg T a x = tg T y a := by
  simp only [kdB, List.any_eq_true, decide_eq_true_eq]
  exact ⟨fun ⟨a, h1, h2⟩ => ⟨a, mem_upto.mp h1, h2⟩, fun ⟨a, h1, h2⟩ => ⟨a, mem_upto.mpr h1, h2⟩⟩
def kindL (T : List (List Int)) (n : Nat) (x : Int) : List Int := (upto n).filter fun y => kdB T n x y
theorem upto_up (n : Nat) : (upto n).Pairwise (· < ·) := by
  unfold upto
  exact List.Pairwise.map _ (fun a b (h : a < b) => by simp only [Int.ofNat_eq_natCast]; omega) List.pairwise_lt_range
theorem mem_kindL {T : List (List Int)} {n : Nat} {x y : Int} : y ∈ kindL T n x ↔ El n y ∧ ∃ a, El n a ∧ tg T a x = tg T y a := by
  rw [kindL, List.mem_filter, mem_upto, kdB_iff]; rfl
theorem kindL_up (T : List (List Int)) (n : Nat) (x : Int) : (kindL T n x).Pairwise (· < ·) := (upto_up n).filter _
theorem Grp.kd_refl {T : List (List Int)} {n s : Nat} (G : Grp T n s) {x : Int} (hx : El n x) : x ∈ kindL T n x := mem_kindL.mpr ⟨hx, s, G.s, by rw [G.l hx, G.r hx]⟩
theorem Grp.kd_symm {T : List (List Int)} {n s : Nat} (G : Grp T n s) {x y : Int} (hx : El n x) (h : y ∈ kindL T n x) : x ∈ kindL T n y := by
  obtain ⟨hy, a, ha, e⟩ := mem_kindL.mp h
  obtain ⟨b, hb, h1, h2⟩ := G.i ha
  refine mem_kindL.mpr ⟨hx, b, hb, ?_⟩
  have : tg T (tg T b y) a = tg T (tg T x b) a := by
    rw [G.as hb hy ha, ← e, ← G.as hb ha hx, h2, G.l hx, G.as hx hb ha, h2, G.r hx]
  exact G.cr ha (G.bd hb hy) (G.bd hx hb) this
theorem Grp.kd_trans {T : List (List Int)} {n s : Nat} (G : Grp T n s) {x y z : Int} (hx : El n x) (h : y ∈ kindL T n x) (k : z ∈ kindL T n y) : z ∈ kindL T n x := by
  obtain ⟨hy, a, ha, e⟩ := mem_kindL.mp h
  obtain ⟨hz, b, hb, e2⟩ := mem_kindL.mp k
  exact mem_kindL.mpr ⟨hz, tg T b a, G.bd hb ha, by rw [G.as hb ha hx, e, ← G.as hb hy ha, e2, G.as hz hb ha]⟩
theorem Grp.kd_eq {T : List (List Int)} {n s : Nat} (G : Grp T n s) {x y : Int} (hx : El n x) (h : y ∈ kindL T n x) : kindL T n y = kindL T n x := by
  have hy := (mem_kindL.mp h).1
  exact rise_ext (kindL_up T n y) (kindL_up T n x) fun z => ⟨fun hz => G.kd_trans hx h hz, fun hz => G.kd_trans hy (G.kd_symm hx h) hz⟩
def ldB (T : List (List Int)) (n : Nat) (x : Int) : Bool := decide ((kindL T n x).getD 0 0 = x)
theorem Grp.kd_pos {T : List (List Int)} {n s : Nat} (G : Grp T n s) {x : Int} (hx : El n x) : 0 < (kindL T n x).length := List.length_pos_of_mem (G.kd_refl hx)
theorem head_le {r : List Int} (h : r.Pairwise (· < ·)) {y : Int} (hy : y ∈ r) : r.getD 0 0 ≤ y := by
  cases r with
  | nil => simp at hy
  | cons a r =>
    rcases List.mem_cons.mp hy with rfl | hy
    · simp
    · have := (List.pairwise_cons.mp h).1 y hy
      simp; omega
theorem head_mem {r : List Int} (h : 0 < r.length) : r.getD 0 0 ∈ r := by
  cases r with
  | nil => simp at h
  | cons a r => simp
theorem Grp.ld_iff {T : List (List Int)} {n s : Nat} (G : Grp T n s) {x : Int} (hx : El n x) : ldB T n x = true ↔ ∀ y ∈ kindL T n x, x ≤ y := by
  unfold ldB
  rw [decide_eq_true_eq]
  constructor
  · intro h y hy
    rw [← h]; exact head_le (kindL_up T n x) hy
  · intro h
    have h1 := h _ (head_mem (G.kd_pos hx))
    have h2 := head_le (kindL_up T n x) (G.kd_refl hx)
    omega
def kindsL (T : List (List Int)) (n m : Nat) : List (List Int) := ((upto m).filter fun x => ldB T n x).map (kindL T n)
theorem Grp.met {T : List (List Int)} {n s : Nat} (G : Grp T n s) {m : Nat} (hm : m < n) : kindL T n m ∈ kindsL T n m ↔ ldB T n m = false := by
  have hme := El.of hm
  unfold kindsL
  rw [List.mem_map]
  constructor
  · rintro ⟨x, hx, e⟩
    rw [List.mem_filter, mem_upto] at hx
    have hxe : El n x := ⟨hx.1.1, by omega⟩
    have hk : x ∈ kindL T n m := by rw [← e]; exact G.kd_refl hxe
    cases hl : ldB T n m with
    | false => rfl
    | true => have := (G.ld_iff hme).mp hl x hk; omega
  · intro h
    have h0 := head_mem (G.kd_pos hme)
    have h1 := head_le (kindL_up T n m) (G.kd_refl hme)
    have hne : (kindL T n m).getD 0 0 ≠ m := by simpa [ldB] using h
    obtain ⟨x, ex⟩ : ∃ x, x = (kindL T n m).getD 0 0 := ⟨_, rfl⟩
    rw [← ex] at h0 h1 hne
    have hxe := (mem_kindL.mp h0).1
    have ek := G.kd_eq hme h0
    refine ⟨x, ?_, ek⟩
    rw [List.mem_filter, mem_upto]
    refine ⟨⟨hxe.1, by omega⟩, (G.ld_iff hxe).mpr fun y hy => ?_⟩
    rw [ek] at hy
    have h2 := head_le (kindL_up T n m) hy
    omega
theorem Prm.map {nm : List Int} {n : Nat} (h : Prm nm n) : (upto n).map (at1 nm) = nm := by
  apply List.ext_getElem
  · rw [List.length_map, upto_len, h.len]
  · intro i h1 h2
    simp [upto, at1, List.getD, h2]
theorem law_lists_tab {R : List (List Int)} (hl : R.length ≤ 1000) (hr : ∀ r ∈ R, r.length ≤ 1000) : φ_law_lists [tabD R] = some (.bl true) := by
  refine run_of rfl (wp_seq (wp_no (tv_not (tv_B (ev_of rfl ⟨_, rfl, rfl⟩))) ?_))
  refine wp_seq (wp_forTab (r := R) (fun _ e => ∃ x y, e = [.sh (tabD R), x, y]) (iOf_T rfl) ⟨_, _, rfl⟩ (fun k e r hk he => ?_) (fun e he => ?_))
  · obtain ⟨_, _, rfl⟩ := he
    have hrl := hr r (List.mem_of_getElem? hk)
    refine wp_no (tv_or (tv_not (tv_B (ev_of rfl ⟨_, rfl, fun h => (by cases h), fun _ => tv_not (tv_B (tv_allR (r := r) (fun _ => true) (iOf_R rfl) (by rw [lim_eq]; omega) (fun x hx => ev_of ((eCall1 rfl).trans (law_whole_int x)) rfl) ?_))⟩)))) ⟨_, _, rfl⟩
    rw [List.all_eq_true.mpr (fun _ _ => rfl)]; simp
  · obtain ⟨_, _, rfl⟩ := he
    exact wp_ret (ev_of rfl rfl)
end PV
set_option linter.all false
set_option Elab.async false
set_option maxHeartbeats 2000000
namespace PV
open PySem (Str)
theorem compL_two {α : Type} {i : Nat} {e : Ex} {env : Env} (A B : α → D) : ∀ l : List α, (∀ x ∈ l, e (env.set i (.sh (A x))) = some (B x)) → compL i tTrue e env (l.map A) = some (l.map B)
  | [], _ => rfl
  | x :: l, h => by
    simp only [List.map_cons, compL, tTrue, h x (by simp), compL_two A B l fun y hy => h y (by simp [hy])]
theorem eComp_two {α : Type} {i : Nat} {it : Lx} {e : Ex} {env : Env} (l : List α) (A B : α → D) (hit : it env = some (l.map A)) (hl : l.length ≤ lim) (he : ∀ x ∈ l, e (env.set i (.sh (A x))) = some (B x)) : eComp i it tTrue e env = some (.lst (l.map B)) := by
  simp only [eComp, hit, List.length_map, if_pos hl, compL_two A B l he]
theorem strs_map : ∀ l : List Str, strs? (l.map .str) = some l
  | [] => rfl
  | x :: l => by simp only [List.map_cons, strs?, strs_map l]
theorem join_eq (sep : Str) (l : List Str) : PySem.Txt.join sep l = Str.join sep l := PySem.StrLaws.glued_eq_join sep l
theorem join_snoc (sep x : Str) : ∀ l : List Str, l ≠ [] → Str.join sep (l ++ [x]) = Str.join sep l ++ sep ++ x
  | [], h => absurd rfl h
  | [y], _ => rfl
  | y :: z :: l, _ => by
    show y ++ sep ++ Str.join sep ((z :: l) ++ [x]) = (y ++ sep ++ Str.join sep (z :: l)) ++ sep ++ x
    rw [join_snoc sep x (z :: l) (by simp)]
    simp only [Str.append_assoc]
theorem cut_eq {c : Nat} : ∀ {X Y R1 R2 : List Nat}, c ∉ X → c ∉ Y → (R1 = [] ∨ ∃ t, R1 = c :: t) → (R2 = [] ∨ ∃ t, R2 = c :: t) → X ++ R1 = Y ++ R2 → X = Y ∧ R1 = R2
  | [], [], _, _, _, _, _, _, h => ⟨rfl, h⟩
  | [], y :: Y, R1, R2, _, hy, h1, _, h => by
    rcases h1 with rfl | ⟨t, rfl⟩
    · simp at h
    · simp at h; exact absurd (by rw [h.1]; simp) hy
  | x :: X, [], R1, R2, hx, _, _, h2, h => by
    rcases h2 with rfl | ⟨t, rfl⟩
    · simp at h
    · simp at h; exact absurd (by rw [h.1]; simp) hx
  | x :: X, y :: Y, R1, R2, hx, hy, h1, h2, h => by
    simp only [List.cons_append, List.cons.injEq] at h
    obtain ⟨e1, e2⟩ := cut_eq (fun hm => hx (List.mem_cons_of_mem _ hm)) (fun hm => hy (List.mem_cons_of_mem _ hm)) h1 h2 h.2
    exact ⟨by rw [h.1, e1], e2⟩
def tailL (c : Nat) : List Str → List Nat
  | [] => []
  | y :: r => c :: (Str.join ⟨#[c]⟩ (y :: r)).cps.toList
theorem join_cps (c : Nat) (x : Str) : ∀ r : List Str, (Str.join ⟨#[c]⟩ (x :: r)).cps.toList = x.cps.toList ++ tailL c r
  | [] => by show x.cps.toList = _; simp [tailL]
  | y :: r => by
    show (x ++ ⟨#[c]⟩ ++ Str.join ⟨#[c]⟩ (y :: r)).cps.toList = _
    simp [PySem.Str.cps_append, tailL]
theorem tailL_or (c : Nat) : ∀ r, tailL c r = [] ∨ ∃ t, tailL c r = c :: t
  | [] => .inl rfl
  | _ :: _ => .inr ⟨_, rfl⟩
theorem join_inj {c : Nat} : ∀ {l1 l2 : List Str}, l1 ≠ [] → l2 ≠ [] → (∀ p ∈ l1, c ∉ p.cps.toList) → (∀ p ∈ l2, c ∉ p.cps.toList) → Str.join ⟨#[c]⟩ l1 = Str.join ⟨#[c]⟩ l2 → l1 = l2
  | [], _, h, _, _, _, _ => absurd rfl h
  | _ :: _, [], _, h, _, _, _ => absurd rfl h
  | x :: r1, y :: r2, _, _, h1, h2, h => by
    have hc := congrArg (fun s : Str => s.cps.toList) h
    rw [join_cps, join_cps] at hc
    obtain ⟨e1, e2⟩ := cut_eq (h1 x (by simp)) (h2 y (by simp)) (tailL_or c r1) (tailL_or c r2) hc
    have exy : x = y := PySem.Str.ext' (Array.toList_inj.mp e1)
    subst exy
    match r1, r2, e2 with
    | [], [], _ => rfl
    | [], _ :: _, e2 => simp [tailL] at e2
    | _ :: _, [], e2 => simp [tailL] at e2
    | a :: r1, b :: r2, e2 =>
      simp only [tailL, List.cons.injEq, true_and] at e2
      have ej : Str.join ⟨#[c]⟩ (a :: r1) = Str.join ⟨#[c]⟩ (b :: r2) := PySem.Str.ext' (Array.toList_inj.mp e2)
      rw [join_inj (by simp) (by simp) (fun p hp => h1 p (by simp at hp ⊢; exact .inr hp)) (fun p hp => h2 p (by simp at hp ⊢; exact .inr hp)) ej]
theorem split_join {c : Nat} {l : List Str} (h0 : 0 < (Str.join ⟨#[c]⟩ l).length) (hl : l ≠ []) (hf : ∀ p ∈ l, c ∉ p.cps.toList) : PySem.Txt.split (Str.join ⟨#[c]⟩ l) ⟨#[c]⟩ = l := by
  have h1 := PySem.StrLaws.join_split (Str.join ⟨#[c]⟩ l) ⟨#[c]⟩
  refine join_inj (fun e => ?_) hl (PySem.StrLaws.split_free _ c) hf h1
  rw [e] at h1
  rw [← h1] at h0
  exact Nat.lt_irrefl 0 h0
theorem join_free {d : Nat} {sep : Str} (hs : d ∉ sep.cps.toList) : ∀ l : List Str, (∀ p ∈ l, d ∉ p.cps.toList) → d ∉ (Str.join sep l).cps.toList
  | [], _ => by show d ∉ (Str.empty).cps.toList; simp [PySem.Str.empty]
  | [x], h => h x (by simp)
  | x :: y :: r, h => by
    show d ∉ (x ++ sep ++ Str.join sep (y :: r)).cps.toList
    have ih := join_free hs (y :: r) fun p hp => h p (by simp at hp ⊢; exact .inr hp)
    have hx := h x (by simp)
    simp only [PySem.Str.cps_append, Array.toList_append, List.mem_append]
    rintro ((h | h) | h)
    · exact hx h
    · exact hs h
    · exact ih h
def dig (i : Int) : Str := toString i
theorem dig_all : ∀ x : Nat, x < 12 → ((dig x).length ≤ 2 ∧ 0 < (dig x).length ∧ 32 ∉ (dig x).cps.toList ∧ 47 ∉ (dig x).cps.toList) := by decide +kernel
theorem dig_ok {x : Int} (h : El 12 x) : (dig x).length ≤ 2 ∧ 0 < (dig x).length ∧ 32 ∉ (dig x).cps.toList ∧ 47 ∉ (dig x).cps.toList := by
  obtain ⟨k, hk, rfl⟩ := h.nat
  exact dig_all k hk
def rowT (r : List Int) : Str := Str.join ⟨#[32]⟩ (r.map dig)
def tabT (T : List (List Int)) : Str := Str.join ⟨#[47]⟩ (T.map rowT)
theorem len_join {sep : Str} {B : Nat} (hs : sep.length = 1) {l : List Str} (h : ∀ p ∈ l, p.length ≤ B) : (Str.join sep l).length ≤ l.length * B + l.length := by
  have h1 := PySem.StrLaws.join_length_le sep l
  have h2 := PySem.StrLaws.sumLen_le l h
  rw [hs] at h1
  omega
theorem joinOk_of {sep : Str} {B : Nat} (hs : sep.length = 1) {l : List Str} (h : ∀ p ∈ l, p.length ≤ B) (hl : l.length * B + l.length ≤ 100000) : PySem.JoinOk sep l = true := by
  unfold PySem.JoinOk
  rw [PySem.StrLaws.joinFits h (by rw [hs]; omega)]
  rfl
theorem join_pos {sep x : Str} {r : List Str} (hx : 0 < x.length) : 0 < (Str.join sep (x :: r)).length := by
  cases r with
  | nil => exact hx
  | cons y r =>
    show 0 < (x ++ sep ++ Str.join sep (y :: r)).length
    rw [PySem.Str.length_append, PySem.Str.length_append]
    omega
structure Rw (r : List Int) : Prop where
  el : ∀ x ∈ r, El 12 x
  pos : r ≠ []
  len : r.length ≤ 12
theorem Rw.bound {r : List Int} (h : Rw r) : (rowT r).length ≤ 36 := by
  have := len_join (sep := ⟨#[32]⟩) (B := 2) rfl (l := r.map dig) fun p hp => by
    obtain ⟨x, hx, rfl⟩ := List.mem_map.mp hp
    exact (dig_ok (h.el x hx)).1
  rw [List.length_map] at this
  have := h.len
  unfold rowT
  omega
theorem Rw.posT {r : List Int} (h : Rw r) : 0 < (rowT r).length := by
  cases r with
  | nil => exact absurd rfl h.pos
  | cons x r => exact join_pos (dig_ok (h.el x (by simp))).2.1
theorem Rw.free {r : List Int} (h : Rw r) : 47 ∉ (rowT r).cps.toList := join_free (by decide) _ fun p hp => by
  obtain ⟨x, hx, rfl⟩ := List.mem_map.mp hp
  exact (dig_ok (h.el x hx)).2.2.2
theorem Rw.split {r : List Int} (h : Rw r) : PySem.Txt.split (rowT r) ⟨#[32]⟩ = r.map dig := split_join h.posT (by simpa using h.pos) fun p hp => by
  obtain ⟨x, hx, rfl⟩ := List.mem_map.mp hp
  exact (dig_ok (h.el x hx)).2.2.1
theorem tab_rw {T : List (List Int)} {n : Nat} (hT : Tab T n) {r : List Int} (hr : r ∈ T) : Rw r := by
  have h1 := hT.row r hr
  have h2 := hT.pos
  have h3 := hT.top
  refine ⟨fun x hx => ?_, fun e => ?_, by omega⟩
  · have := hT.ent r hr x hx
    exact ⟨this.1, by omega⟩
  · rw [e] at h1; simp at h1; omega
theorem fJoin_of {sep : Str} {l : List Str} (h : PySem.JoinOk sep l = true) : fJoin sep (.lst (l.map .str)) = some (.str (Str.join sep l)) := by
  simp only [fJoin, strs_map, if_pos h, join_eq]
theorem fStr_of {x : Int} (h : El 12 x) : fStr (.int x) = some (.str (dig x)) := by
  have : x.natAbs.log2 < 1920 := by
    have h1 : x.natAbs < 12 := by have := h.1; have := h.2; omega
    have h2 : x.natAbs.log2 ≤ x.natAbs := Nat.log2_le_self _
    omega
  simp only [fStr, if_pos this]
  rfl
theorem eF1_at {φ : D → Option D} {e : Ex} {env : Env} {d d' : D} (h : e env = some d) (k : φ d = some d') : eF1 φ e env = some d' := by simp only [eF1, h, k]
theorem shown_row_eq {r : List Int} (h : Rw r) : φ_shown_row [rowD r] = some (.str (rowT r)) := by
  have hl := h.len
  have e1 : eComp 1 (iOf (eVar 0)) tTrue (eF1 fStr (eVar 1)) (enter 2 [rowD r]) = some (.lst ((r.map dig).map .str)) := by
    rw [List.map_map]
    exact eComp_two r D.int _ (iOf_R rfl) (by rw [lim_eq]; omega) fun x hx => eF1_at rfl (fStr_of (h.el x hx))
  refine run_of rfl (wp_ret (ev_of (eF1_at e1 (fJoin_of (joinOk_of (B := 2) rfl (fun p hp => ?_) (by rw [List.length_map]; omega)))) rfl))
  obtain ⟨x, hx, rfl⟩ := List.mem_map.mp hp
  exact (dig_ok (h.el x hx)).1
theorem shown_eq {T : List (List Int)} {n : Nat} (hT : Tab T n) : φ_shown [tabD T] = some (.str (tabT T)) := by
  have hl := hT.len
  have ht := hT.top
  refine run_of rfl (wp_seq (wp_do (ev_of ((eCall1 rfl).trans (ask_table_eq hT)) ?_)))
  have e1 : eComp 1 (iOf (eVar 0)) tTrue (eCall φ_shown_row [(eVar 1)]) (enter 2 [tabD T]) = some (.lst ((T.map rowT).map .str)) := by
    rw [List.map_map]
    exact eComp_two T rowD _ (iOf_T rfl) (by rw [lim_eq]; omega) fun r hr => (eCall1 rfl).trans (shown_row_eq (tab_rw hT hr))
  refine wp_ret (ev_of (eF1_at e1 (fJoin_of (joinOk_of (B := 36) rfl (fun p hp => ?_) (by rw [List.length_map]; omega)))) rfl)
  obtain ⟨r, hr, rfl⟩ := List.mem_map.mp hp
  exact (tab_rw hT hr).bound
theorem tabT_len {T : List (List Int)} {n : Nat} (hT : Tab T n) : (tabT T).length ≤ 500 := by
  have := len_join (sep := ⟨#[47]⟩) (B := 36) rfl (l := T.map rowT) fun p hp => by
    obtain ⟨r, hr, rfl⟩ := List.mem_map.mp hp
    exact (tab_rw hT hr).bound
  rw [List.length_map, hT.len] at this
  have := hT.top
  unfold tabT
  omega
theorem tabT_split {T : List (List Int)} {n : Nat} (hT : Tab T n) : PySem.Txt.split (tabT T) ⟨#[47]⟩ = T.map rowT := by
  have hne : T ≠ [] := fun e => by have h1 := hT.len; have h2 := hT.pos; rw [e] at h1; simp at h1; omega
  refine split_join ?_ (by simpa using hne) fun p hp => ?_
  · cases T with
    | nil => exact absurd rfl hne
    | cons r T => exact join_pos (tab_rw hT (by simp)).posT
  · obtain ⟨r, hr, rfl⟩ := List.mem_map.mp hp
    exact (tab_rw hT hr).free
theorem read_number_eq {x : Int} (h : El 12 x) : φ_read_number [.str (dig x)] = some (.int x) := by
  obtain ⟨k, hk, rfl⟩ := h.nat
  match k, hk with
  | 0, _ => rfl
  | 1, _ => rfl
  | 2, _ => rfl
  | 3, _ => rfl
  | 4, _ => rfl
  | 5, _ => rfl
  | 6, _ => rfl
  | 7, _ => rfl
  | 8, _ => rfl
  | 9, _ => rfl
  | 10, _ => rfl
  | 11, _ => rfl
  | n + 12, h => exact absurd h (by omega)
theorem read_row_eq {r : List Int} (h : Rw r) : φ_read_row [.str (rowT r)] = some (rowD r) := by
  have hl := h.len
  have hb := h.bound
  have e0 : eF1 (fSplit 32) (eVar 0) (enter 2 [.str (rowT r)]) = some (.lst (r.map fun x => D.str (dig x))) := by
    refine eF1_at rfl ?_
    simp only [fSplit, h.split]
    rw [if_pos (by rw [List.length_map, lim_eq]; omega), List.map_map]
    rfl
  have e1 : eComp 1 (iOf (eF1 (fSplit 32) (eVar 0))) tTrue (eCall φ_read_number [(eVar 1)]) (enter 2 [.str (rowT r)]) = some (rowD r) :=
    eComp_two r (fun x => D.str (dig x)) D.int (by simp only [iOf, e0]) (by rw [lim_eq]; omega) fun x hx => (eCall1 rfl).trans (read_number_eq (h.el x hx))
  exact run_of rfl (wp_ret (evR.ev (evR_fl (evR_of e1 rfl))))
theorem wp_tab {i : Nat} {e : Ex} {env : Env} {Q : Out → Env → Prop} {T : List (List Int)} (h : e env = some (tabD T)) (k : Q .nx (env.set i (.tab (rowsI T)))) : wp (sTab i e) env Q := by
  refine ⟨_, _, ?_, k⟩
  unfold sTab
  rw [h]
  simp only [tabD]
  rw [rows_tabD]
theorem wp_retT {i : Nat} {env : Env} {Q : Out → Env → Prop} {T : List (List Int)} (h : env[i]? = some (.tab (rowsI T))) (k : Q (.rt (tabD T)) env) : wp (sRetT i) env Q := by
  refine ⟨_, _, ?_, k⟩
  unfold sRetT
  rw [h]
  simp only [rowsI_tabD]
theorem read_eq {T : List (List Int)} {n : Nat} (hT : Tab T n) : φ_read [.str (tabT T)] = some (tabD T) := by
  have hl := hT.len
  have ht := hT.top
  have hb := tabT_len hT
  have e0 : eF1 (fSplit 47) (eVar 0) (enter 3 [.str (tabT T)]) = some (.lst (T.map fun x => D.str (rowT x))) := by
    refine eF1_at rfl ?_
    simp only [fSplit, tabT_split hT]
    rw [if_pos (by rw [List.length_map, lim_eq]; omega), List.map_map]
    rfl
  have e1 : eComp 2 (iOf (eF1 (fSplit 47) (eVar 0))) tTrue (eFl (eCall φ_read_row [(eVar 2)])) (enter 3 [.str (tabT T)]) = some (tabD T) :=
    eComp_two T (fun x => D.str (rowT x)) rowD (by simp only [iOf, e0]) (by rw [lim_eq]; omega) fun r hr => by
      obtain ⟨q, h1, h2⟩ := evR_fl (P := (· = r)) (evR_of ((eCall1 (φ := φ_read_row) (env := (enter 3 [D.str (tabT T)]).set 2 (.sh (.str (rowT r)))) (a := eVar 2) rfl).trans (read_row_eq (tab_rw hT hr))) rfl)
      rw [h2] at h1; exact h1
  refine run_of rfl (wp_seq (wp_tab e1 ?_))
  refine wp_seq (wp_do (ev_sc (ev_of ((eCall1 (x := tabD T) ?_).trans (ask_table_eq hT)) ⟨rfl, wp_retT rfl rfl⟩)))
  show some (D.lst ((rowsI T).map .lst)) = _
  rw [rowsI_tabD]
end PV
set_option linter.all false
set_option Elab.async false
set_option maxHeartbeats 2000000
namespace PV
open PySem (Str)
theorem eCat_of {a b : Ex} {env : Env} {x y : Str} (ha : a env = some (.str x)) (hb : b env = some (.str y)) (h : x.length + y.length ≤ 100000) : eCat a b env = some (.str (x ++ y)) := by
  simp only [eCat, eF2, ha, hb, fCat]
  rw [if_pos (by rw [lim_eq]; exact h)]
theorem wp_tapp {i k : Nat} {a : Ex} {z : Int} {env : Env} {Q : Out → Env → Prop} {S : List (List Int)} (hi : env[i]? = some (.tab (rowsI S))) (ha : a env = some (.int k)) (hk : k < S.length) (hl : (S.getD k []).length ≤ 1000)
    (h : Q .nx (env.set i (.tab (rowsI (S.set k (S.getD k [] ++ [z])))))) : wp (sTApp i a z) env Q := by
  have e1 : ixN (rowsI S).length (k : Int) = some k := by
    unfold ixN
    rw [if_pos (by omega), show (rowsI S).length = S.length by simp [rowsI], if_pos (by omega), Int.toNat_natCast]
  have e2 : (rowsI S)[k]? = some ((S.getD k []).map .int) := by simp [rowsI, List.getD, hk]
  have e3 : (rowsI S).set k ((S.getD k []).map D.int ++ [.int z]) = rowsI (S.set k (S.getD k [] ++ [z])) := by
    unfold rowsI
    rw [List.map_set, List.map_append]
    rfl
  refine ⟨_, _, ?_, h⟩
  unfold sTApp
  rw [hi, ha]
  dsimp only
  rw [e1]
  dsimp only
  rw [e2]
  dsimp only
  rw [if_pos (by rw [List.length_map, lim_eq]; omega), e3]
theorem wp_tnew {i : Nat} {env : Env} {Q : Out → Env → Prop} {S : List (List Int)} (hi : env[i]? = some (.tab (rowsI S))) (hl : S.length ≤ 1000) (h : Q .nx (env.set i (.jl (S.length + 1)))) : wp (sTNew i) env Q := by
  refine ⟨.nx, env.set i (.jl (S.length + 1)), ?_, h⟩
  unfold sTNew
  rw [hi]
  dsimp only
  rw [show (rowsI S).length = S.length by simp [rowsI], if_pos (by rw [lim_eq]; omega)]
theorem drawn_tab (c : Int) {m : Nat} (h0 : 1 ≤ m) (h1 : m ≤ 12) : ∃ T, Tab T m ∧ ∀ env : Env, eVar 2 env = some (.int m) → eVar 3 env = some (.int c) → 6 < env.length →
    eComp 5 (iRng (eVar 2)) tTrue (eComp 4 (iRng (eVar 2)) tTrue (eCall φ_law_draw [(eVar 3), (eAdd (e2I iMul (eVar 5) (eVar 2)) (eVar 4)), (eVar 2)])) env = some (tabD T) := by
  have dr : ∀ k : Nat, ∃ r : Int, k ≤ 1000 → φ_law_draw [.int c, .int k, .int m] = some (.int r) ∧ 0 ≤ r ∧ r < m := fun k => by
    by_cases hk : k ≤ 1000
    · obtain ⟨r, e⟩ := law_draw_ex c k m hk (by omega) (by omega)
      exact ⟨r, fun _ => e⟩
    · exact ⟨0, fun h => absurd h hk⟩
  obtain ⟨F, hF⟩ := Classical.axiomOfChoice dr
  have hk : ∀ a b : Int, El m a → El m b → (a.toNat * m + b.toNat) ≤ 1000 := fun a b ha hb => by
    obtain ⟨i, hi, rfl⟩ := ha.nat
    obtain ⟨j, hj, rfl⟩ := hb.nat
    simp only [Int.toNat_natCast]
    have : i * m ≤ 12 * 12 := Nat.mul_le_mul (by omega) h1
    omega
  refine ⟨(upto m).map fun a => (upto m).map fun b => F (a.toNat * m + b.toNat), ⟨by rw [List.length_map, upto_len], fun r hr => ?_, fun r hr x hx => ?_, h0, h1⟩, fun env e2 e3 hl => ?_⟩
  · obtain ⟨a, _, rfl⟩ := List.mem_map.mp hr
    rw [List.length_map, upto_len]
  · obtain ⟨a, ha, rfl⟩ := List.mem_map.mp hr
    obtain ⟨b, hb, rfl⟩ := List.mem_map.mp hx
    exact (hF _ (hk a b (mem_upto.mp ha) (mem_upto.mp hb))).2
  · have len : (upto m).length ≤ lim := by rw [upto_len, lim_eq]; omega
    unfold tabD
    rw [List.map_map]
    refine eComp_two (upto m) D.int _ (iRng_upto e2 (by omega)) len fun a ha => ?_
    have ha : El m a := mem_upto.mp ha
    have g2 : eVar 2 (env.set 5 (.sh (.int a))) = some (.int m) := by rw [← e2]; simp [eVar, List.getElem?_set_ne]
    have g3 : eVar 3 (env.set 5 (.sh (.int a))) = some (.int c) := by rw [← e3]; simp [eVar, List.getElem?_set_ne]
    show _ = some (rowD _)
    unfold rowD
    rw [List.map_map]
    refine eComp_two (upto m) D.int _ (iRng_upto g2 (by omega)) len fun b hb => ?_
    have hb : El m b := mem_upto.mp hb
    have f2 : eVar 2 ((env.set 5 (.sh (.int a))).set 4 (.sh (.int b))) = some (.int m) := by rw [← g2]; simp [eVar, List.getElem?_set_ne]
    have f3 : eVar 3 ((env.set 5 (.sh (.int a))).set 4 (.sh (.int b))) = some (.int c) := by rw [← g3]; simp [eVar, List.getElem?_set_ne]
    have f4 : eVar 4 ((env.set 5 (.sh (.int a))).set 4 (.sh (.int b))) = some (.int b) := by
      have : 4 < (env.set 5 (.sh (.int a))).length := by rw [List.length_set]; omega
      simp [eVar, List.getElem?_set_self this, Sl.shd]
    have f5 : eVar 5 ((env.set 5 (.sh (.int a))).set 4 (.sh (.int b))) = some (.int a) := by
      have : 5 < env.length := by omega
      simp [eVar, List.getElem?_set_ne, List.getElem?_set_self this, Sl.shd]
    have f6 : eAdd (e2I iMul (eVar 5) (eVar 2)) (eVar 4) ((env.set 5 (.sh (.int a))).set 4 (.sh (.int b))) = some (.int ((a.toNat * m + b.toNat : Nat) : Int)) := by
      refine (evI_addF (P := (· = ((a.toNat * m + b.toNat : Nat) : Int))) (evI_mul (evI_of f5 (evI_of f2 ⟨.inr ⟨by omega, by omega⟩, evI_of f4 ?_⟩)))).eq
      obtain ⟨i, hi, rfl⟩ := ha.nat
      obtain ⟨j, hj, rfl⟩ := hb.nat
      simp
    exact (eCall3 f3 f6 f2).trans (hF _ (hk a b ha hb)).1
theorem law13 (ns : List Int) : φ_law [rowD ns] = some (.bl true) := by
  obtain ⟨_, n0, T0, _, _, eT, _, hT0, _, _⟩ := law_folk_by_ex ns 0
  refine run_of rfl (wp_seq (wp_set (ev_of ((eCall2 rfl rfl).trans eT) ?_)))
  have first : wp (sIf (tEq (e2I iMod (eCall φ_law_cell_at [(eVar 0), (eC (.int 2))]) (eC (.int 2))) (eC (.int 1))) (sSeq (sSet 2 (eAdd (eC (.int 1)) (e2I iMod (e2I iDiv (eCall φ_law_cell_at [(eVar 0), (eC (.int 2))]) (eC (.int 2))) (eC (.int 12))))) (sSeq (sSet 3 (eCall φ_law_cell_at [(eVar 0), (eC (.int 1))])) (sSet 1 (eComp 5 (iRng (eVar 2)) tTrue (eComp 4 (iRng (eVar 2)) tTrue (eCall φ_law_draw [(eVar 3), (eAdd (e2I iMul (eVar 5) (eVar 2)) (eVar 4)), (eVar 2)])))))) sSkip)
      [.sh (rowD ns), .sh (tabD T0), .un, .un, .un, .un, .un, .un, .un, .un, .un] (fun o e => o = .nx ∧ ∃ T n z2 z3, Tab T n ∧ e = [.sh (rowD ns), .sh (tabD T), z2, z3, .un, .un, .un, .un, .un, .un, .un]) := by
    refine wp_if (tv_eqI (evI_mod (evI_of ((eCall2 rfl rfl).trans (law_cell_at_eq ns 2)) (evI_of rfl ⟨by decide, evI_of rfl ⟨fun _ => ?_, fun _ => wp_skip ⟨rfl, T0, n0, _, _, hT0, rfl⟩⟩⟩))))
    obtain ⟨q, hq, eq⟩ := mod_nat (cellV ns 2 / 2) (show 0 < 12 by decide)
    refine wp_seq (wp_set (evI.ev (evI_addF (evI_of rfl (evI_mod (evI_div (evI_of ((eCall2 rfl rfl).trans (law_cell_at_eq ns 2)) (evI_of rfl ⟨⟨by decide, by decide⟩, evI_of rfl ⟨by decide, ?_⟩⟩))))))))
    rw [show cellV ns 2 / 2 % 12 = (q : Int) from eq, show (1 : Int) + (q : Int) = ((q + 1 : Nat) : Int) by omega]
    refine wp_seq (wp_set (ev_of ((eCall2 rfl rfl).trans (law_cell_at_eq ns 1)) ?_))
    obtain ⟨T, hT, e⟩ := drawn_tab (cellV ns 1) (m := q + 1) (by omega) (by omega)
    exact wp_set (ev_of (e _ rfl rfl (by simp)) ⟨rfl, T, q + 1, _, _, hT, rfl⟩)
  refine wp_seq (first.mono fun o e h => ?_)
  obtain ⟨rfl, T, n, z2, z3, hT, rfl⟩ := h
  have hl := hT.len
  have hn := hT.top
  have hpos := hT.pos
  refine wp_seq (wp_set (ev_of rfl ?_))
  have rowAt : ∀ k, k < n → T.getD k [] ∈ T := fun k hk => by
    rw [List.getD_eq_getElem?_getD, List.getElem?_eq_getElem (by omega)]; exact List.getElem_mem _
  have takeT : ∀ k, k < n → T.take (k + 1) = T.take k ++ [T.getD k []] := fun k hk => by
    rw [List.take_add_one, List.getD_eq_getElem?_getD, List.getElem?_eq_getElem (by omega)]; rfl
  have lenJ : ∀ k, (Str.join ⟨#[47]⟩ ((T.take k).map rowT)).length ≤ 444 := fun k => by
    have := len_join (sep := ⟨#[47]⟩) (B := 36) rfl (l := (T.take k).map rowT) fun p hp => by
      obtain ⟨r, hr, rfl⟩ := List.mem_map.mp hp
      exact (tab_rw hT (List.mem_of_mem_take hr)).bound
    rw [List.length_map, List.length_take] at this
    have : min k T.length ≤ 12 := by omega
    omega
  refine wp_seq (wp_forR (n := n) (fun k e => ∃ z4 z5, e = [.sh (rowD ns), .sh (tabD T), z2, z3, z4, z5, .sh (.str (Str.join ⟨#[47]⟩ ((T.take k).map rowT))), .un, .un, .un, .un]) (iRng_of (eF1_len hT rfl) (by omega)) ⟨_, _, rfl⟩ (fun k e hk he => ?_) (fun e he => ?_))
  · obtain ⟨z4, z5, rfl⟩ := he
    have hrw := tab_rw hT (rowAt k hk)
    obtain ⟨r, er⟩ : ∃ r, r = T.getD k [] := ⟨_, rfl⟩
    rw [← er] at hrw
    have hrl : r.length = n := by rw [er]; exact hT.row _ (rowAt k hk)
    have inner : ∀ pre : Str, pre.length ≤ 1000 → pre ++ rowT r = Str.join ⟨#[47]⟩ ((T.take (k + 1)).map rowT) → ∀ Q, wp (sFor (gN 4) (iRng (eF1 fLen (eVar 1))) (sSet 6 (eCat (eCat (eVar 6) (eIx (eLst [(eC (.str " ")), (eC (.str ""))]) (eF1 fInt (eB (tEq (eVar 4) (eC (.int 0))))))) (eF1 fStr (eIx (eIx (eVar 1) (eVar 5)) (eVar 4))))))
        [.sh (rowD ns), .sh (tabD T), z2, z3, z4, .sh (.int k), .sh (.str pre), .un, .un, .un, .un] (lps (fun e => ∃ z4 z5, e = [.sh (rowD ns), .sh (tabD T), z2, z3, z4, z5, .sh (.str (Str.join ⟨#[47]⟩ ((T.take (k + 1)).map rowT))), .un, .un, .un, .un]) Q) := by
      intro pre hp hpr Q
      refine wp_forR (n := n) (fun b e => ∃ z4, e = [.sh (rowD ns), .sh (tabD T), z2, z3, z4, .sh (.int k), .sh (.str (pre ++ Str.join ⟨#[32]⟩ ((r.take b).map dig))), .un, .un, .un, .un]) (iRng_of (eF1_len hT rfl) (by omega)) ⟨_, by rw [List.take_zero]; show _ = [_, _, _, _, _, _, Sl.sh (.str (pre ++ Str.empty)), _, _, _, _]; rw [PySem.Str.append_empty]⟩ (fun b e hb he => ?_) (fun e he => ?_)
      · obtain ⟨_, rfl⟩ := he
        obtain ⟨x, ex⟩ : ∃ x, x = r.getD b 0 := ⟨_, rfl⟩
        have hxm : x ∈ r := by
          rw [ex, List.getD_eq_getElem?_getD, List.getElem?_eq_getElem (by omega)]; exact List.getElem_mem _
        have hx := hrw.el x hxm
        have tk : r.take (b + 1) = r.take b ++ [x] := by rw [List.take_add_one, ex, List.getD_eq_getElem?_getD, List.getElem?_eq_getElem (by omega)]; rfl
        have lj : (Str.join ⟨#[32]⟩ ((r.take b).map dig)).length ≤ 36 := by
          have := len_join (sep := ⟨#[32]⟩) (B := 2) rfl (l := (r.take b).map dig) fun p hp => by
            obtain ⟨y, hy, rfl⟩ := List.mem_map.mp hp
            exact (dig_ok (hrw.el y (List.mem_of_mem_take hy))).1
          rw [List.length_map, List.length_take] at this
          have : min b r.length ≤ 12 := by omega
          omega
        have hd := (dig_ok hx).1
        obtain ⟨env, henv⟩ : ∃ env : Env, env = [.sh (rowD ns), .sh (tabD T), z2, z3, .sh (.int b), .sh (.int k), .sh (.str (pre ++ Str.join ⟨#[32]⟩ ((r.take b).map dig))), .un, .un, .un, .un] := ⟨_, rfl⟩
        have eb : eB (tEq (eVar 4) (eC (.int 0))) env = some (.bl (decide ((b : Int) = 0))) := by
          rw [henv]; exact (ev_B (P := (· = .bl (decide ((b : Int) = 0)))) (tv_eqI (evI_of rfl (evI_of rfl rfl)))).eq
        have es : eF1 fStr (eIx (eIx (eVar 1) (eVar 5)) (eVar 4)) env = some (.str (dig x)) := by
          refine eF1_at (d := .int x) ?_ (fStr_of hx)
          rw [henv]
          refine (evI_ix2 (P := (· = x)) hT rfl (evI_of rfl (evI_of rfl ⟨⟨by omega, by omega⟩, ⟨by omega, by omega⟩, ?_⟩))).eq
          unfold tg
          rw [Int.toNat_natCast, Int.toNat_natCast, ex, er]
        have ed : eVar 6 env = some (.str (pre ++ Str.join ⟨#[32]⟩ ((r.take b).map dig))) := by rw [henv]; rfl
        have ll : (pre ++ Str.join ⟨#[32]⟩ ((r.take b).map dig)).length ≤ 1036 := by rw [PySem.Str.length_append]; omega
        by_cases h0 : b = 0
        · have ei : eIx (eLst [(eC (.str " ")), (eC (.str ""))]) (eF1 fInt (eB (tEq (eVar 4) (eC (.int 0))))) env = some (.str "") := by
            have : eF1 fInt (eB (tEq (eVar 4) (eC (.int 0)))) env = some (.int 1) := eF1_at eb (by subst h0; rfl)
            simp only [eIx, eF2, this]
            rfl
          have key := eCat_of (eCat_of ed ei (by show _ + 0 ≤ _; omega)) es (by rw [PySem.Str.length_append]; show _ + 0 + _ ≤ _; omega)
          rw [henv] at key
          refine wp_set (ev_of key ⟨Sl.sh (.int b), ?_⟩)
          subst h0
          rw [tk]
          show _ = [_, _, _, _, _, _, Sl.sh (.str (pre ++ dig x)), _, _, _, _]
          have : pre ++ Str.join ⟨#[32]⟩ ((r.take 0).map dig) ++ ("" : Str) ++ dig x = pre ++ dig x := by
            show pre ++ Str.empty ++ Str.empty ++ dig x = _
            rw [PySem.Str.append_empty, PySem.Str.append_empty]
          rw [this]
          rfl
        · have ei : eIx (eLst [(eC (.str " ")), (eC (.str ""))]) (eF1 fInt (eB (tEq (eVar 4) (eC (.int 0))))) env = some (.str " ") := by
            have : eF1 fInt (eB (tEq (eVar 4) (eC (.int 0)))) env = some (.int 0) := eF1_at eb (by rw [decide_eq_false (by omega)]; rfl)
            simp only [eIx, eF2, this]
            rfl
          have key := eCat_of (eCat_of ed ei (by show _ + 1 ≤ _; omega)) es (by rw [PySem.Str.length_append]; show _ + 1 + _ ≤ _; omega)
          rw [henv] at key
          refine wp_set (ev_of key ⟨Sl.sh (.int b), ?_⟩)
          have hne : (r.take b).map dig ≠ [] := fun e => by
            have := congrArg List.length e
            rw [List.length_map, List.length_take] at this
            rw [List.length_nil] at this
            omega
          have : pre ++ Str.join ⟨#[32]⟩ ((r.take b).map dig) ++ (" " : Str) ++ dig x = pre ++ Str.join ⟨#[32]⟩ ((r.take (b + 1)).map dig) := by
            rw [tk, List.map_append, show List.map dig [x] = [dig x] from rfl, join_snoc _ _ _ hne]
            simp only [PySem.Str.append_assoc]
            rfl
          rw [this]
          rfl
      · obtain ⟨z, rfl⟩ := he
        rw [show r.take n = r from List.take_of_length_le (by omega)]
        refine ⟨z, .sh (.int k), ?_⟩
        rw [← hpr]
        rfl
    have tke := takeT k hk
    by_cases h0 : k = 0
    · refine wp_seq (wp_no (tv_gt (evI_of rfl (evI_of rfl (by rw [decide_eq_false (by omega)])))) ?_)
      refine inner _ (by have := lenJ k; omega) ?_ _
      subst h0
      rw [tke]
      show Str.empty ++ rowT r = _
      rw [PySem.Str.empty_append, er]
      rfl
    · refine wp_seq (wp_if (tv_gt (evI_of rfl (evI_of rfl ⟨fun _ => ?_, fun h => absurd h (by rw [decide_eq_true (by omega)]; simp)⟩))))
      have key := eCat_of (a := eVar 6) (b := eC (.str "/")) (env := [.sh (rowD ns), .sh (tabD T), z2, z3, z4, .sh (.int k), .sh (.str (Str.join ⟨#[47]⟩ ((T.take k).map rowT))), .un, .un, .un, .un]) rfl rfl (by have := lenJ k; show _ + 1 ≤ _; omega)
      refine wp_set (ev_of key ?_)
      refine inner _ (by rw [PySem.Str.length_append]; have := lenJ k; show _ + 1 ≤ _; omega) ?_ _
      rw [tke, List.map_append, show List.map rowT [T.getD k []] = [rowT r] by rw [← er]; rfl, join_snoc]
      · rfl
      · intro e
        have := congrArg List.length e
        rw [List.length_map, List.length_take, List.length_nil] at this
        omega
  obtain ⟨z4, z5, rfl⟩ := he
  rw [show T.take n = T from List.take_of_length_le (by omega)]
  refine wp_seq (wp_set (ev_of ((eCall1 rfl).trans (law_copy_eq (by omega))) ?_))
  refine wp_seq (wp_set (ev_of ((eCall1 rfl).trans (shown_eq hT)) ?_))
  refine wp_seq (wp_no (tv_or (tv_not (tv_B (ev_of rfl ⟨_, rfl, fun h => (by cases h), fun _ => tv_or (tv_of (d := false) ?_ ⟨fun h => (by cases h), fun _ => tv_neT (evT_of rfl (evT_of rfl (by simp)))⟩)⟩)))) ?_)
  · show some (!eqD (.str (tabT T)) (.str (tabT T))) = some false
    rw [eqD_refl]; rfl
  refine wp_seq (wp_forR (n := 2) (fun _ e => ∃ z4 z5 z9 z10, e = [.sh (rowD ns), .sh (tabD T), z2, z3, z4, z5, .sh (.str (tabT T)), .sh (tabD T), .sh (.str (tabT T)), z9, z10]) (iRng_of (n := 2) rfl (by omega)) ⟨_, _, _, _, rfl⟩ (fun k e hk he => ?_) (fun e he => ?_))
  · obtain ⟨_, _, _, _, rfl⟩ := he
    refine wp_seq (wp_tab ((eCall1 rfl).trans (read_eq hT)) ?_)
    have hR : ∀ (S : List (List Int)) (z4 z5 z9 : Sl), eVarR 10 [.sh (rowD ns), .sh (tabD T), z2, z3, z4, z5, .sh (.str (tabT T)), .sh (tabD T), .sh (.str (tabT T)), z9, .tab (rowsI S)] = some (tabD S) := fun S _ _ _ => by
      show some (D.lst ((rowsI S).map .lst)) = _
      rw [rowsI_tabD]
    refine wp_seq (wp_no (tv_or (tv_not (tv_B (ev_sc (ev_of ((eCall1 (hR _ _ _ _)).trans (law_lists_tab (by omega) fun r hr => by have := hT.row r hr; omega)) ⟨rfl, _, rfl, fun h => (by cases h), fun _ => tv_neI (evI_lenT (evT_of (hR _ _ _ _) (evI_lenT (evT_of rfl (by simp)))))⟩))))) ?_)
    refine wp_seq (wp_forR (n := n) (fun k e => ∃ S z4 z5 z9, S.length = n ∧ (∀ j, k ≤ j → S.getD j [] = T.getD j []) ∧ e = [.sh (rowD ns), .sh (tabD T), z2, z3, z4, z5, .sh (.str (tabT T)), .sh (tabD T), .sh (.str (tabT T)), z9, .tab (rowsI S)]) (iRng_of (eF1_len hT rfl) (by omega)) ⟨T, _, _, _, hl, fun _ _ => rfl, rfl⟩ (fun j e hj he => ?_) (fun e he => ?_))
    · obtain ⟨S, _, _, _, hSl, hS, rfl⟩ := he
      refine wp_seq (wp_no (tv_neR (evR_ixT (evT_of (hR _ _ _ _) (evI_of rfl ⟨⟨by omega, by omega⟩, evR_ixT (evT_of rfl (evI_of rfl ⟨⟨by omega, by omega⟩, ?_⟩))⟩)))) ?_)
      · rw [Int.toNat_natCast, hS j (Nat.le_refl _)]; simp
      · have hrl := hT.row _ (rowAt j hj)
        refine wp_tapp (k := j) rfl rfl (by omega) (by rw [hS j (Nat.le_refl _)]; omega) ⟨_, _, _, _, ?_, fun i hi => ?_, rfl⟩
        · rw [List.length_set]; exact hSl
        · rw [← hS i (by omega)]
          simp only [List.getD_eq_getElem?_getD]
          rw [List.getElem?_set_ne (by omega)]
    · obtain ⟨S, _, _, _, hSl, hS, rfl⟩ := he
      exact wp_tnew rfl (by omega) ⟨_, _, _, _, rfl⟩
  · obtain ⟨_, _, _, _, rfl⟩ := he
    exact wp_ret (ev_of rfl rfl)
end PV
set_option linter.all false
set_option Elab.async false
set_option maxRecDepth 100000
set_option maxHeartbeats 4000000
namespace PV
open PySem PySem.Spec PyProof.Rows
open L2 (V Hp HO Same Cx)
theorem seq_nx_inv {a b : St} {env env' : Env} (h : sSeq a b env = some (.nx, env')) : ∃ e1, a env = some (.nx, e1) ∧ b e1 = some (.nx, env') := by
  unfold sSeq at h
  split at h
  · rename_i e1 h1; exact ⟨e1, h1, h⟩
  · rename_i r hne
    cases hr : a env with
    | none => rw [hr] at h; cases h
    | some p =>
      obtain ⟨o, e1⟩ := p
      rw [hr] at h
      cases h
      exact absurd hr (hne _)
def top (i : Nat) : Stmt := PySem.Challenge.pw_tablefolk_k13_texts.main.body.getD i (.Pass ⟨0, 0, 0, 0⟩)
abbrev st_is_element : Stmt := top 7
theorem sc_is_element : L2.FnScope ["table", "number"] ["table", "number"] (L2.defScope st_is_element) := ⟨rfl, rfl, rfl, by decide +kernel, rfl, by decide +kernel, by decide +kernel⟩
theorem ok_is_element {P : Program} {w : World} {K : PySem.W.Frag} {mg : Str → Option Value} {base : Heap} {f : Addr} {fd : FuncData} (F : L2.Fun K "is_element" "is_element" st_is_element f fd) (T : Bt mg) :
    L2.FnOk P w K mg base L2.CX0 1 f fd ["table", "number"] (spR K (rk K .k) φ_is_element) :=
  fn_ok (N := ["table", "number"]) (ps := ["table", "number"]) (k := 0) (m := (rk K .k)) (g := R_is_element) F sc_is_element (.inl (rk_non _)) fun cdv A outer s H E hr => by
    have hu := hr.units
    have nd := sc_is_element.nd
    have nox : ∀ (e : Value) (s : Shared), False → False := fun _ _ h => h
    exact (pss_last (ps_rete (((pv_and (m := .k) (pv_ge (m := .k) (pd_var 1) (pd_int (m := .k))) (pv_oneAnd (pv_lt (m := .k) (pd_var 1) (pd_len (m := .k) T (pd_var 0)))))))))
abbrev st_ask_table : Stmt := top 6
theorem sc_ask_table : L2.FnScope ["table", "size", "row", "number"] ["table"] (L2.defScope st_ask_table) := ⟨rfl, rfl, rfl, by decide +kernel, rfl, by decide +kernel, by decide +kernel⟩
theorem ok_ask_table {P : Program} {w : World} {K : PySem.W.Frag} {mg : Str → Option Value} {base : Heap} {f : Addr} {fd : FuncData} (F : L2.Fun K "ask_table" "ask_table" st_ask_table f fd) (T : Bt mg) (C_MOST_ROWS : ∃ t, mg "MOST_ROWS" = some (.int 12 t)) (G_is_element : Cal P w K mg base 1 "is_element" (rk K .k) φ_is_element) :
    L2.FnOk P w K mg base L2.CX0 2 f fd ["table"] (spR K (rk K .k) φ_ask_table) :=
  fn_ok (N := ["table", "size", "row", "number"]) (ps := ["table"]) (k := 1) (m := (rk K .k)) (g := R_ask_table) F sc_ask_table (.inl (rk_non _)) fun cdv A outer s H E hr => by
    have hu := hr.units
    have nd := sc_ask_table.nd
    have nox : ∀ (e : Value) (s : Shared), False → False := fun _ _ h => h
    exact (pss_more (ps_sets nd 1 (pd_len (m := .k) T (pd_var 0))) (pss_more (ps_iff (pw_t (pt_or (pt_lt (pd_var 1) (pd_int (m := .k))) (pt_oneOr (pt_gt (pd_var 1) (pd_con (m := .k) (hm := C_MOST_ROWS)))))) (pss_last (ps_nev)) ps_nil) (pss_last (ps_fore (pi_of (pd_var 0)) (pg_n nd 2) (pss_more (ps_iff (pt_ne hu (pd_len (m := .k) T (pd_var 2)) (pd_var 1)) (pss_last (ps_nev)) ps_nil) (pss_last (ps_iff (pt_not (pt_of (pd_all (m := .k) T (pd_comp nox nd 3 (pi_of (pd_var 2)) (fun _ _ _ _ _ _ => (pd_call G_is_element (hr.mono (by decide)) (pa_one (pd_var 0) (pa_one (pd_var 3) pa_no)))))))) (pss_last (ps_nev)) ps_nil)))))))
abbrev st_shown_row : Stmt := top 11
theorem sc_shown_row : L2.FnScope ["row", "number"] ["row"] (L2.defScope st_shown_row) := ⟨rfl, rfl, rfl, by decide +kernel, rfl, by decide +kernel, by decide +kernel⟩
theorem ok_shown_row {P : Program} {w : World} {K : PySem.W.Frag} {mg : Str → Option Value} {base : Heap} {f : Addr} {fd : FuncData} (F : L2.Fun K "shown_row" "shown_row" st_shown_row f fd) (T : Bt mg) :
    L2.FnOk P w K mg base L2.CX0 1 f fd ["row"] (spR K (rk K .k) φ_shown_row) :=
  fn_ok (N := ["row", "number"]) (ps := ["row"]) (k := 0) (m := (rk K .k)) (g := R_shown_row) F sc_shown_row (.inl (rk_non _)) fun cdv A outer s H E hr => by
    have hu := hr.units
    have nd := sc_shown_row.nd
    have nox : ∀ (e : Value) (s : Shared), False → False := fun _ _ h => h
    exact (pss_last (ps_rete (pd_join (m := .k) (pd_comp nox nd 1 (pi_of (pd_var 0)) (fun _ _ _ _ _ _ => (pd_str1 (m := .k) T (pd_var 1)))))))
abbrev st_shown : Stmt := top 9
theorem sc_shown : L2.FnScope ["table", "row"] ["table"] (L2.defScope st_shown) := ⟨rfl, rfl, rfl, by decide +kernel, rfl, by decide +kernel, by decide +kernel⟩
theorem ok_shown {P : Program} {w : World} {K : PySem.W.Frag} {mg : Str → Option Value} {base : Heap} {f : Addr} {fd : FuncData} (F : L2.Fun K "shown" "shown" st_shown f fd) (T : Bt mg) (G_ask_table : Cal P w K mg base 2 "ask_table" (rk K .k) φ_ask_table) (G_shown_row : Cal P w K mg base 1 "shown_row" (rk K .k) φ_shown_row) :
    L2.FnOk P w K mg base L2.CX0 3 f fd ["table"] (spR K (rk K .k) φ_shown) :=
  fn_ok (N := ["table", "row"]) (ps := ["table"]) (k := 2) (m := (rk K .k)) (g := R_shown) F sc_shown (.inl (rk_non _)) fun cdv A outer s H E hr => by
    have hu := hr.units
    have nd := sc_shown.nd
    have nox : ∀ (e : Value) (s : Shared), False → False := fun _ _ h => h
    exact (pss_more (ps_do (pd_call G_ask_table (hr.mono (by decide)) (pa_one (pd_var 0) pa_no))) (pss_last (ps_rete (pd_join (m := .k) (pd_comp nox nd 1 (pi_of (pd_var 0)) (fun _ _ _ _ _ _ => (pd_call G_shown_row (hr.mono (by decide)) (pa_one (pd_var 1) pa_no))))))))
abbrev st_read_number : Stmt := top 13
theorem sc_read_number : L2.FnScope ["figures", "written", "number"] ["figures"] (L2.defScope st_read_number) := ⟨rfl, rfl, rfl, by decide +kernel, rfl, by decide +kernel, by decide +kernel⟩
theorem ok_read_number {P : Program} {w : World} {K : PySem.W.Frag} {mg : Str → Option Value} {base : Heap} {f : Addr} {fd : FuncData} (F : L2.Fun K "read_number" "read_number" st_read_number f fd) (T : Bt mg) (C_MOST_ROWS : ∃ t, mg "MOST_ROWS" = some (.int 12 t)) :
    L2.FnOk P w K mg base L2.CX0 1 f fd ["figures"] (spR K (rk K .k) φ_read_number) :=
  fn_ok (N := ["figures", "written", "number"]) (ps := ["figures"]) (k := 0) (m := (rk K .k)) (g := R_read_number) F sc_read_number (.inl (rk_non _)) fun cdv A outer s H E hr => by
    have hu := hr.units
    have nd := sc_read_number.nd
    have nox : ∀ (e : Value) (s : Shared), False → False := fun _ _ h => h
    exact (pss_more (ps_setsC nox nd 1 2 (pi_rng T (pd_con (m := .k) (hm := C_MOST_ROWS))) (fun _ _ _ _ _ _ => (pd_str1 (m := .k) T (pd_var 2)))) (pss_more (ps_iff (pt_ni hu (pd_var 0) (pd_var 1)) (pss_last (ps_nev)) ps_nil) (pss_last (ps_rete (pd_index (m := .k) hu (pd_var 1) (pd_var 0))))))
abbrev st_read_row : Stmt := top 12
theorem sc_read_row : L2.FnScope ["text", "figures"] ["text"] (L2.defScope st_read_row) := ⟨rfl, rfl, rfl, by decide +kernel, rfl, by decide +kernel, by decide +kernel⟩
theorem ok_read_row {P : Program} {w : World} {K : PySem.W.Frag} {mg : Str → Option Value} {base : Heap} {f : Addr} {fd : FuncData} (F : L2.Fun K "read_row" "read_row" st_read_row f fd) (T : Bt mg) (G_read_number : Cal P w K mg base 1 "read_number" (rk K .k) φ_read_number) :
    L2.FnOk P w K mg base L2.CX0 2 f fd ["text"] (spR K rN φ_read_row) :=
  fn_ok (N := ["text", "figures"]) (ps := ["text"]) (k := 1) (m := rN) (g := R_read_row) F sc_read_row (.inl rN_non) fun cdv A outer s H E hr => by
    have hu := hr.units
    have nd := sc_read_row.nd
    have nox : ∀ (e : Value) (s : Shared), False → False := fun _ _ h => h
    exact (pss_last (ps_retn (PDw.n (PDo.fl (po_comp nox nd 1 (pi_of (pd_split (m := .k) (c := 32) (by kernel_rfl) (pd_var 0))) (fun _ _ _ _ _ _ => (pd_call G_read_number (hr.mono (by decide)) (pa_one (pd_var 1) pa_no))))))))
abbrev st_read : Stmt := top 10
theorem sc_read : L2.FnScope ["text", "table", "row"] ["text"] (L2.defScope st_read) := ⟨rfl, rfl, rfl, by decide +kernel, rfl, by decide +kernel, by decide +kernel⟩
theorem nonx_read : ∀ env env', R_read env ≠ some (.nx, env') := fun env env' h => by
  unfold R_read at h
  obtain ⟨e1, _, h⟩ := seq_nx_inv h
  obtain ⟨e2, _, h⟩ := seq_nx_inv h
  unfold sRetT at h
  split at h <;> cases h
theorem ok_read {P : Program} {w : World} {K : PySem.W.Frag} {mg : Str → Option Value} {base : Heap} {f : Addr} {fd : FuncData} (F : L2.Fun K "read" "read" st_read f fd) (T : Bt mg) (G_read_row : Cal P w K mg base 2 "read_row" rN φ_read_row) (G_ask_table : Cal P w K mg base 2 "ask_table" (rk K .k) φ_ask_table) :
    L2.FnOk P w K mg base L2.CX0 3 f fd ["text"] (spR K (rT K) φ_read) :=
  fn_ok (N := ["text", "table", "row"]) (ps := ["text"]) (k := 2) (m := (rT K)) (g := R_read) F sc_read (.inr nonx_read) fun cdv A outer s H E hr => by
    have hu := hr.units
    have nd := sc_read.nd
    have nox : ∀ (e : Value) (s : Shared), False → False := fun _ _ h => h
    exact (pss_more (ps_tabC nox nd 1 2 (pi_of (pd_split (m := .k) (c := 47) (by kernel_rfl) (pd_var 0))) (fun _ _ _ _ _ _ => (PDw.o (pw_call G_read_row (hr.mono (by decide)) (pa_one (pd_var 2) pa_no)))) fl_inv) (pss_more (ps_tryn (pss_last (ps_do (pd_callS (m := .k) G_ask_table (hr.mono (by decide)) (pa_one (PD.r (pd_varR 1)) pa_no))))) (pss_last (ps_retT 1))))
abbrev st_law_cell_at : Stmt := top 15
theorem sc_law_cell_at : L2.FnScope ["script", "k"] ["script", "k"] (L2.defScope st_law_cell_at) := ⟨rfl, rfl, rfl, by decide +kernel, rfl, by decide +kernel, by decide +kernel⟩
theorem ok_law_cell_at {P : Program} {w : World} {K : PySem.W.Frag} {mg : Str → Option Value} {base : Heap} {f : Addr} {fd : FuncData} (F : L2.Fun K "_law_cell_at" "_law_cell_at" st_law_cell_at f fd) (T : Bt mg) :
    L2.FnOk P w K mg base L2.CX0 1 f fd ["script", "k"] (spR K (rk K .k) φ_law_cell_at) :=
  fn_ok (N := ["script", "k"]) (ps := ["script", "k"]) (k := 0) (m := (rk K .k)) (g := R_law_cell_at) F sc_law_cell_at (.inl (rk_non _)) fun cdv A outer s H E hr => by
    have hu := hr.units
    have nd := sc_law_cell_at.nd
    have nox : ∀ (e : Value) (s : Shared), False → False := fun _ _ h => h
    exact (pss_more (ps_iff (pt_lt (pd_var 1) (pd_len (m := .k) T (pd_var 0))) (pss_last (ps_rete (pd_ix (pd_var 0) (pd_var 1)))) ps_nil) (pss_last (ps_rete (pd_int (m := .k)))))
abbrev st_law_draw : Stmt := top 16
theorem sc_law_draw : L2.FnScope ["cell", "k", "bound", "left", "j", "stir"] ["cell", "k", "bound"] (L2.defScope st_law_draw) := ⟨rfl, rfl, rfl, by decide +kernel, rfl, by decide +kernel, by decide +kernel⟩
theorem ok_law_draw {P : Program} {w : World} {K : PySem.W.Frag} {mg : Str → Option Value} {base : Heap} {f : Addr} {fd : FuncData} (F : L2.Fun K "_law_draw" "_law_draw" st_law_draw f fd) (T : Bt mg) :
    L2.FnOk P w K mg base L2.CX0 1 f fd ["cell", "k", "bound"] (spR K (rk K .k) φ_law_draw) :=
  fn_ok (N := ["cell", "k", "bound", "left", "j", "stir"]) (ps := ["cell", "k", "bound"]) (k := 0) (m := (rk K .k)) (g := R_law_draw) F sc_law_draw (.inl (rk_non _)) fun cdv A outer s H E hr => by
    have hu := hr.units
    have nd := sc_law_draw.nd
    have nox : ∀ (e : Value) (s : Shared), False → False := fun _ _ h => h
    exact (pss_more (ps_iff (pt_eq hu (pd_iMod (m := .k) (pd_var 0) (pd_int (m := .k))) (pd_int (m := .k))) (pss_more (ps_sets nd 3 (pd_iDiv (m := .k) (pd_var 0) (pd_int (m := .k)))) (pss_more (ps_fore (pi_rng T (pd_var 1)) (pg_n nd 4) (pss_last (ps_sets nd 3 (pd_iDiv (m := .k) (pd_var 3) (pd_var 2))))) (pss_last (ps_rete (pd_iMod (m := .k) (pd_var 3) (pd_var 2)))))) ps_nil) (pss_more (ps_sets nd 5 (pd_iMod (m := .k) (pd_iMul (m := .k) (pd_add (pd_add (pd_iMod (m := .k) (pd_var 0) (pd_int (m := .k))) (pd_iMul (m := .k) (pd_int (m := .k)) (pd_var 1))) (pd_int (m := .k))) (pd_int (m := .k))) (pd_int (m := .k)))) (pss_more (ps_sets nd 5 (pd_iMod (m := .k) (pd_iMul (m := .k) (pd_var 5) (pd_var 5)) (pd_int (m := .k)))) (pss_more (ps_sets nd 5 (pd_iMod (m := .k) (pd_iMul (m := .k) (pd_add (pd_var 5) (pd_iMul (m := .k) (pd_int (m := .k)) (pd_add (pd_var 1) (pd_int (m := .k))))) (pd_int (m := .k))) (pd_int (m := .k)))) (pss_last (ps_rete (pd_iMod (m := .k) (pd_iDiv (m := .k) (pd_var 5) (pd_int (m := .k))) (pd_var 2))))))))
abbrev st_law_whole : Stmt := top 17
theorem sc_law_whole : L2.FnScope ["found"] ["found"] (L2.defScope st_law_whole) := ⟨rfl, rfl, rfl, by decide +kernel, rfl, by decide +kernel, by decide +kernel⟩
theorem ok_law_whole {P : Program} {w : World} {K : PySem.W.Frag} {mg : Str → Option Value} {base : Heap} {f : Addr} {fd : FuncData} (F : L2.Fun K "_law_whole" "_law_whole" st_law_whole f fd) (T : Bt mg) :
    L2.FnOk P w K mg base L2.CX0 1 f fd ["found"] (spR K (rk K .k) φ_law_whole) :=
  fn_ok (N := ["found"]) (ps := ["found"]) (k := 0) (m := (rk K .k)) (g := R_law_whole) F sc_law_whole (.inl (rk_non _)) fun cdv A outer s H E hr => by
    have hu := hr.units
    have nd := sc_law_whole.nd
    have nox : ∀ (e : Value) (s : Shared), False → False := fun _ _ h => h
    exact (pss_last (ps_rete (((pv_and (m := .k) (pv_of (pd_is_int (m := .k) T (pd_var 0))) (pv_oneAnd (pv_not (m := .k) (pv_of (pd_is_bool (m := .k) T (pd_var 0))))))))))
abbrev st_law_cycles : Stmt := top 18
theorem sc_law_cycles : L2.FnScope ["dims", "size", "dim", "table", "a", "row", "b", "made", "worth"] ["dims"] (L2.defScope st_law_cycles) := ⟨rfl, rfl, rfl, by decide +kernel, rfl, by decide +kernel, by decide +kernel⟩
theorem ok_law_cycles {P : Program} {w : World} {K : PySem.W.Frag} {mg : Str → Option Value} {base : Heap} {f : Addr} {fd : FuncData} (F : L2.Fun K "_law_cycles" "_law_cycles" st_law_cycles f fd) (T : Bt mg) :
    L2.FnOk P w K mg base L2.CX0 1 f fd ["dims"] (spR K (rk K .k) φ_law_cycles) :=
  fn_ok (N := ["dims", "size", "dim", "table", "a", "row", "b", "made", "worth"]) (ps := ["dims"]) (k := 0) (m := (rk K .k)) (g := R_law_cycles) F sc_law_cycles (.inl (rk_non _)) fun cdv A outer s H E hr => by
    have hu := hr.units
    have nd := sc_law_cycles.nd
    have nox : ∀ (e : Value) (s : Shared), False → False := fun _ _ h => h
    exact (pss_more (ps_sets nd 1 (pd_int (m := .k))) (pss_more (ps_fore (pi_of (pd_var 0)) (pg_n nd 2) (pss_last (ps_sets nd 1 (pd_iMul (m := .k) (pd_var 1) (pd_var 2))))) (pss_more (ps_own nd 3 (po_lst (m := .k) pa_no)) (pss_more (ps_fore (pi_rng T (pd_var 1)) (pg_n nd 4) (pss_more (ps_own nd 5 (po_lst (m := .k) pa_no)) (pss_more (ps_fore (pi_rng T (pd_var 1)) (pg_n nd 6) (pss_more (ps_sets nd 7 (pd_int (m := .k))) (pss_more (ps_sets nd 8 (pd_int (m := .k))) (pss_more (ps_fore (pi_of (pd_var 0)) (pg_n nd 2) (pss_more (ps_sets nd 7 (pd_add (pd_var 7) (pd_iMul (m := .k) (pd_iMod (m := .k) (pd_add (pd_iDiv (m := .k) (pd_var 4) (pd_var 8)) (pd_iDiv (m := .k) (pd_var 6) (pd_var 8))) (pd_var 2)) (pd_var 8)))) (pss_last (ps_sets nd 8 (pd_iMul (m := .k) (pd_var 8) (pd_var 2)))))) (pss_last (ps_app 5 (pd_var 7))))))) (pss_ghost 5 (pss_last (ps_app 3 (pd_var 5))))))) (pss_ghost 3 (pss_last (ps_rete (pd_var 3))))))))
abbrev st_law_twisted : Stmt := top 19
theorem sc_law_twisted : L2.FnScope ["many", "extra", "table", "a", "row", "b", "turn", "both", "made"] ["many", "extra"] (L2.defScope st_law_twisted) := ⟨rfl, rfl, rfl, by decide +kernel, rfl, by decide +kernel, by decide +kernel⟩
theorem ok_law_twisted {P : Program} {w : World} {K : PySem.W.Frag} {mg : Str → Option Value} {base : Heap} {f : Addr} {fd : FuncData} (F : L2.Fun K "_law_twisted" "_law_twisted" st_law_twisted f fd) (T : Bt mg) :
    L2.FnOk P w K mg base L2.CX0 1 f fd ["many", "extra"] (spR K (rk K .k) φ_law_twisted) :=
  fn_ok (N := ["many", "extra", "table", "a", "row", "b", "turn", "both", "made"]) (ps := ["many", "extra"]) (k := 0) (m := (rk K .k)) (g := R_law_twisted) F sc_law_twisted (.inl (rk_non _)) fun cdv A outer s H E hr => by
    have hu := hr.units
    have nd := sc_law_twisted.nd
    have nox : ∀ (e : Value) (s : Shared), False → False := fun _ _ h => h
    exact (pss_more (ps_own nd 2 (po_lst (m := .k) pa_no)) (pss_more (ps_fore (pi_rng T (pd_iMul (m := .k) (pd_int (m := .k)) (pd_var 0))) (pg_n nd 3) (pss_more (ps_own nd 4 (po_lst (m := .k) pa_no)) (pss_more (ps_fore (pi_rng T (pd_iMul (m := .k) (pd_int (m := .k)) (pd_var 0))) (pg_n nd 5) (pss_more (ps_sets nd 6 (pd_ix (pd_lst (pa_one (pd_iMod (m := .k) (pd_var 5) (pd_var 0)) (pa_one (pd_iSub (m := .k) (pd_int (m := .k)) (pd_iMod (m := .k) (pd_var 5) (pd_var 0))) pa_no))) (pd_iDiv (m := .k) (pd_var 3) (pd_var 0)))) (pss_more (ps_sets nd 7 (pd_iMul (m := .k) (pd_iDiv (m := .k) (pd_var 3) (pd_var 0)) (pd_iDiv (m := .k) (pd_var 5) (pd_var 0)))) (pss_more (ps_sets nd 8 (pd_iMod (m := .k) (pd_add (pd_add (pd_iMod (m := .k) (pd_var 3) (pd_var 0)) (pd_var 6)) (pd_iMul (m := .k) (pd_var 1) (pd_var 7))) (pd_var 0))) (pss_last (ps_app 4 (pd_add (pd_var 8) (pd_iMul (m := .k) (pd_var 0) (pd_iMod (m := .k) (pd_add (pd_iDiv (m := .k) (pd_var 3) (pd_var 0)) (pd_iDiv (m := .k) (pd_var 5) (pd_var 0))) (pd_int (m := .k))))))))))) (pss_ghost 4 (pss_last (ps_app 2 (pd_var 4))))))) (pss_ghost 2 (pss_last (ps_rete (pd_var 2))))))
abbrev st_law_even : Stmt := top 20
theorem sc_law_even : L2.FnScope ["lines", "k", "longer", "line", "x", "some", "wrong", "j", "table", "one", "two"] [] (L2.defScope st_law_even) := ⟨rfl, rfl, rfl, by decide +kernel, rfl, by decide +kernel, by decide +kernel⟩
theorem ok_law_even {P : Program} {w : World} {K : PySem.W.Frag} {mg : Str → Option Value} {base : Heap} {f : Addr} {fd : FuncData} (F : L2.Fun K "_law_even" "_law_even" st_law_even f fd) (T : Bt mg) :
    L2.FnOk P w K mg base L2.CX0 1 f fd [] (spR K (rk K .k) φ_law_even) :=
  fn_ok (N := ["lines", "k", "longer", "line", "x", "some", "wrong", "j", "table", "one", "two"]) (ps := []) (k := 0) (m := (rk K .k)) (g := R_law_even) F sc_law_even (.inl (rk_non _)) fun cdv A outer s H E hr => by
    have hu := hr.units
    have nd := sc_law_even.nd
    have nox : ∀ (e : Value) (s : Shared), False → False := fun _ _ h => h
    exact (pss_more (ps_sets nd 0 (pd_lst (pa_one (pd_lst (m := .k) pa_no) pa_no))) (pss_more (ps_fore (pi_rng T (pd_int (m := .k))) (pg_n nd 1) (pss_more (ps_sets nd 2 (pd_lst (m := .k) pa_no)) (pss_more (ps_fore (pi_of (pd_var 0)) (pg_n nd 3) (pss_last (ps_sets nd 2 (pd_add (pd_var 2) (pd_comp1 nox nd 4 (pi_rng T (pd_int (m := .k))) (fun _ _ _ _ _ _ => (pt_ni hu (pd_var 4) (pd_var 3))) (fun _ _ _ _ _ _ => (pd_add (pd_var 3) (pd_lst (pa_one (pd_var 4) pa_no))))))))) (pss_last (ps_sets nd 0 (pd_var 2)))))) (pss_more (ps_own nd 5 (po_lst (m := .k) pa_no)) (pss_more (ps_fore (pi_of (pd_var 0)) (pg_n nd 3) (pss_more (ps_sets nd 6 (pd_int (m := .k))) (pss_more (ps_fore (pi_rng T (pd_int (m := .k))) (pg_n nd 7) (pss_last (ps_sets nd 6 (pd_add (pd_var 6) (pd_len (m := .k) T (pd_comp1 nox nd 1 (pi_rng T (pd_var 7)) (fun _ _ _ _ _ _ => (pt_gt (pd_ix (pd_var 3) (pd_var 1)) (pd_ix (pd_var 3) (pd_var 7)))) (fun _ _ _ _ _ _ => (pd_var 1)))))))) (pss_last (ps_iff (pt_eq hu (pd_iMod (m := .k) (pd_var 6) (pd_int (m := .k))) (pd_int (m := .k))) (pss_last (ps_app 5 (pd_var 3))) ps_nil))))) (pss_more (ps_own nd 8 (po_lst (m := .k) pa_no)) (pss_ghost 5 (pss_more (ps_fore (pi_of (pd_var 5)) (pg_n nd 9) (pss_ghost 5 (pss_last (ps_app 8 (pd_comp nox nd 10 (pi_of (pd_var 5)) (fun _ _ _ _ _ _ => (pd_index (m := .k) hu (pd_varR 5) (pd_comp nox nd 4 (pi_of (pd_var 9)) (fun _ _ _ _ _ _ => (pd_ix (pd_var 10) (pd_var 4))))))))))) (pss_ghost 8 (pss_last (ps_rete (pd_var 8)))))))))))
abbrev st_law_base : Stmt := top 21
theorem sc_law_base : L2.FnScope ["kind", "dims", "pair"] ["kind"] (L2.defScope st_law_base) := ⟨rfl, rfl, rfl, by decide +kernel, rfl, by decide +kernel, by decide +kernel⟩
theorem ok_law_base {P : Program} {w : World} {K : PySem.W.Frag} {mg : Str → Option Value} {base : Heap} {f : Addr} {fd : FuncData} (F : L2.Fun K "_law_base" "_law_base" st_law_base f fd) (T : Bt mg) (G_law_even : Cal P w K mg base 1 "_law_even" (rk K .k) φ_law_even) (G_law_cycles : Cal P w K mg base 1 "_law_cycles" (rk K .k) φ_law_cycles) (G_law_twisted : Cal P w K mg base 1 "_law_twisted" (rk K .k) φ_law_twisted) :
    L2.FnOk P w K mg base L2.CX0 2 f fd ["kind"] (spR K (rk K .k) φ_law_base) :=
  fn_ok (N := ["kind", "dims", "pair"]) (ps := ["kind"]) (k := 1) (m := (rk K .k)) (g := R_law_base) F sc_law_base (.inl (rk_non _)) fun cdv A outer s H E hr => by
    have hu := hr.units
    have nd := sc_law_base.nd
    have nox : ∀ (e : Value) (s : Shared), False → False := fun _ _ h => h
    exact (pss_more (ps_sets nd 1 (pd_lst (pa_one (pd_lst (pa_one (pd_int (m := .k)) pa_no)) (pa_one (pd_lst (pa_one (pd_int (m := .k)) pa_no)) (pa_one (pd_lst (pa_one (pd_int (m := .k)) pa_no)) (pa_one (pd_lst (pa_one (pd_int (m := .k)) pa_no)) (pa_one (pd_lst (pa_one (pd_int (m := .k)) (pa_one (pd_int (m := .k)) pa_no))) (pa_one (pd_lst (pa_one (pd_int (m := .k)) pa_no)) (pa_one (pd_lst (pa_one (pd_int (m := .k)) pa_no)) (pa_one (pd_lst (pa_one (pd_int (m := .k)) pa_no)) (pa_one (pd_lst (pa_one (pd_int (m := .k)) pa_no)) pa_no))))))))))) (pss_more (ps_sets nd 1 (pd_add (pd_var 1) (pd_lst (pa_one (pd_lst (pa_one (pd_int (m := .k)) (pa_one (pd_int (m := .k)) pa_no))) (pa_one (pd_lst (pa_one (pd_int (m := .k)) (pa_one (pd_int (m := .k)) (pa_one (pd_int (m := .k)) pa_no)))) (pa_one (pd_lst (pa_one (pd_int (m := .k)) pa_no)) (pa_one (pd_lst (pa_one (pd_int (m := .k)) (pa_one (pd_int (m := .k)) pa_no))) (pa_one (pd_lst (pa_one (pd_int (m := .k)) pa_no)) (pa_one (pd_lst (pa_one (pd_int (m := .k)) pa_no)) (pa_one (pd_lst (pa_one (pd_int (m := .k)) pa_no)) (pa_one (pd_lst (pa_one (pd_int (m := .k)) (pa_one (pd_int (m := .k)) pa_no))) pa_no))))))))))) (pss_more (ps_iff (pt_lt (pd_var 0) (pd_int (m := .k))) (pss_last (ps_rete (pd_call G_law_cycles (hr.mono (by decide)) (pa_one (pd_ix (pd_var 1) (pd_var 0)) pa_no)))) ps_nil) (pss_more (ps_iff (pt_lt (pd_var 0) (pd_int (m := .k))) (pss_more (ps_sets nd 2 (pd_ix (pd_lst (pa_one (pd_tup (pa_one (pd_int (m := .k)) (pa_one (pd_int (m := .k)) pa_no))) (pa_one (pd_tup (pa_one (pd_int (m := .k)) (pa_one (pd_int (m := .k)) pa_no))) (pa_one (pd_tup (pa_one (pd_int (m := .k)) (pa_one (pd_int (m := .k)) pa_no))) (pa_one (pd_tup (pa_one (pd_int (m := .k)) (pa_one (pd_int (m := .k)) pa_no))) (pa_one (pd_tup (pa_one (pd_int (m := .k)) (pa_one (pd_int (m := .k)) pa_no))) (pa_one (pd_tup (pa_one (pd_int (m := .k)) (pa_one (pd_int (m := .k)) pa_no))) pa_no))))))) (pd_iSub (m := .k) (pd_var 0) (pd_int (m := .k))))) (pss_last (ps_rete (pd_call G_law_twisted (hr.mono (by decide)) (pa_one (pd_ix (pd_var 2) (pd_int (m := .k))) (pa_one (pd_ix (pd_var 2) (pd_int (m := .k))) pa_no)))))) ps_nil) (pss_last (ps_rete (pd_call0 G_law_even (hr.mono (by decide)))))))))
abbrev st_law_renamed : Stmt := top 22
theorem sc_law_renamed : L2.FnScope ["base", "cell", "names", "k", "table", "row", "a", "b"] ["base", "cell"] (L2.defScope st_law_renamed) := ⟨rfl, rfl, rfl, by decide +kernel, rfl, by decide +kernel, by decide +kernel⟩
theorem nonx_law_renamed : ∀ env env', R_law_renamed env ≠ some (.nx, env') := fun env env' h => by
  unfold R_law_renamed at h
  obtain ⟨e1, _, h⟩ := seq_nx_inv h
  obtain ⟨e2, _, h⟩ := seq_nx_inv h
  obtain ⟨e3, _, h⟩ := seq_nx_inv h
  obtain ⟨e4, _, h⟩ := seq_nx_inv h
  unfold sRetT at h
  split at h <;> cases h
theorem ok_law_renamed {P : Program} {w : World} {K : PySem.W.Frag} {mg : Str → Option Value} {base : Heap} {f : Addr} {fd : FuncData} (F : L2.Fun K "_law_renamed" "_law_renamed" st_law_renamed f fd) (T : Bt mg) (G_law_draw : Cal P w K mg base 1 "_law_draw" (rk K .k) φ_law_draw) :
    L2.FnOk P w K mg base L2.CX0 2 f fd ["base", "cell"] (spR K (rT K) φ_law_renamed) :=
  fn_ok (N := ["base", "cell", "names", "k", "table", "row", "a", "b"]) (ps := ["base", "cell"]) (k := 1) (m := (rT K)) (g := R_law_renamed) F sc_law_renamed (.inr nonx_law_renamed) fun cdv A outer s H E hr => by
    have hu := hr.units
    have nd := sc_law_renamed.nd
    have nox : ∀ (e : Value) (s : Shared), False → False := fun _ _ h => h
    exact (pss_more (ps_own nd 2 (po_lst (m := .k) pa_no)) (pss_more (ps_fore (pi_rng T (pd_len (m := .k) T (pd_var 0))) (pg_n nd 3) (pss_last (ps_ins 2 (pd_iMod (m := .k) (pd_call G_law_draw (hr.mono (by decide)) (pa_one (pd_var 1) (pa_one (pd_var 3) (pa_one (pd_int (m := .k)) pa_no)))) (pd_add (pd_var 3) (pd_int (m := .k)))) (pd_var 3)))) (pss_more (ps_tabC nox nd 4 5 (pi_of (pd_var 0)) (fun _ _ _ _ _ _ => (po_list T (pd_var 5))) (fun _ _ h => fList_inv h)) (pss_more (ps_fore (pi_rng T (pd_len (m := .k) T (pd_var 0))) (pg_n nd 6) (pss_last (ps_fore (pi_rng T (pd_len (m := .k) T (pd_var 0))) (pg_n nd 7) (pss_last (ps_put2 4 (pd_ix (pd_varR 2) (pd_var 6)) (pd_ix (pd_varR 2) (pd_var 7)) (pd_sc (m := .k) (pd_ix (pd_varR 2) (pd_ix (pd_ix (pd_var 0) (pd_var 6)) (pd_var 7))))))))) (pss_last (ps_retT 4))))))
abbrev st_law_folk_by : Stmt := top 23
theorem sc_law_folk_by : L2.FnScope ["script", "first"] ["script", "first"] (L2.defScope st_law_folk_by) := ⟨rfl, rfl, rfl, by decide +kernel, rfl, by decide +kernel, by decide +kernel⟩
theorem nonx_law_folk_by : ∀ env env', R_law_folk_by env ≠ some (.nx, env') := fun env env' h => by
  unfold R_law_folk_by sRet at h
  split at h <;> cases h
theorem ok_law_folk_by {P : Program} {w : World} {K : PySem.W.Frag} {mg : Str → Option Value} {base : Heap} {f : Addr} {fd : FuncData} (F : L2.Fun K "_law_folk_by" "_law_folk_by" st_law_folk_by f fd) (T : Bt mg) (G_law_renamed : Cal P w K mg base 2 "_law_renamed" (rT K) φ_law_renamed) (G_law_base : Cal P w K mg base 2 "_law_base" (rk K .k) φ_law_base) (G_law_cell_at : Cal P w K mg base 1 "_law_cell_at" (rk K .k) φ_law_cell_at) :
    L2.FnOk P w K mg base L2.CX0 3 f fd ["script", "first"] (spR K (rT K) φ_law_folk_by) :=
  fn_ok (N := ["script", "first"]) (ps := ["script", "first"]) (k := 2) (m := (rT K)) (g := R_law_folk_by) F sc_law_folk_by (.inr nonx_law_folk_by) fun cdv A outer s H E hr => by
    have hu := hr.units
    have nd := sc_law_folk_by.nd
    have nox : ∀ (e : Value) (s : Shared), False → False := fun _ _ h => h
    exact (pss_last (ps_retTe (pt_callT G_law_renamed (hr.mono (by decide)) (pa_one (pd_call G_law_base (hr.mono (by decide)) (pa_one (pd_iMod (m := .k) (pd_call G_law_cell_at (hr.mono (by decide)) (pa_one (pd_var 0) (pa_one (pd_var 1) pa_no))) (pd_int (m := .k))) pa_no)) (pa_one (pd_call G_law_cell_at (hr.mono (by decide)) (pa_one (pd_var 0) (pa_one (pd_add (pd_var 1) (pd_int (m := .k))) pa_no))) pa_no)))))
abbrev st_law_lists : Stmt := top 24
theorem sc_law_lists : L2.FnScope ["found", "row", "number"] ["found"] (L2.defScope st_law_lists) := ⟨rfl, rfl, rfl, by decide +kernel, rfl, by decide +kernel, by decide +kernel⟩
theorem ok_law_lists {P : Program} {w : World} {K : PySem.W.Frag} {mg : Str → Option Value} {base : Heap} {f : Addr} {fd : FuncData} (F : L2.Fun K "_law_lists" "_law_lists" st_law_lists f fd) (T : Bt mg) (G_law_whole : Cal P w K mg base 1 "_law_whole" (rk K .k) φ_law_whole) :
    L2.FnOk P w K mg base L2.CX0 2 f fd ["found"] (spR K (rk K .k) φ_law_lists) :=
  fn_ok (N := ["found", "row", "number"]) (ps := ["found"]) (k := 1) (m := (rk K .k)) (g := R_law_lists) F sc_law_lists (.inl (rk_non _)) fun cdv A outer s H E hr => by
    have hu := hr.units
    have nd := sc_law_lists.nd
    have nox : ∀ (e : Value) (s : Shared), False → False := fun _ _ h => h
    exact (pss_more (ps_iff (pt_not (pt_of (pd_is_list (m := .k) T (pd_var 0)))) (pss_last (ps_rete (pd_bl (m := .k)))) ps_nil) (pss_more (ps_fore (pi_of (pd_var 0)) (pg_n nd 1) (pss_last (ps_iff (pw_t (pt_or (pt_not (pt_of (pd_is_list (m := .k) T (pd_var 1)))) (pt_oneOr (pt_not (pt_of (pd_all (m := .k) T (pd_comp nox nd 2 (pi_of (pd_var 1)) (fun _ _ _ _ _ _ => (pd_call G_law_whole (hr.mono (by decide)) (pa_one (pd_var 2) pa_no)))))))))) (pss_last (ps_rete (pd_bl (m := .k)))) ps_nil))) (pss_last (ps_rete (pd_bl (m := .k))))))
abbrev st_law_copy : Stmt := top 25
theorem sc_law_copy : L2.FnScope ["table", "row"] ["table"] (L2.defScope st_law_copy) := ⟨rfl, rfl, rfl, by decide +kernel, rfl, by decide +kernel, by decide +kernel⟩
theorem ok_law_copy {P : Program} {w : World} {K : PySem.W.Frag} {mg : Str → Option Value} {base : Heap} {f : Addr} {fd : FuncData} (F : L2.Fun K "_law_copy" "_law_copy" st_law_copy f fd) (T : Bt mg) :
    L2.FnOk P w K mg base L2.CX0 1 f fd ["table"] (spR K (rk K .k) φ_law_copy) :=
  fn_ok (N := ["table", "row"]) (ps := ["table"]) (k := 0) (m := (rk K .k)) (g := R_law_copy) F sc_law_copy (.inl (rk_non _)) fun cdv A outer s H E hr => by
    have hu := hr.units
    have nd := sc_law_copy.nd
    have nox : ∀ (e : Value) (s : Shared), False → False := fun _ _ h => h
    exact (pss_last (ps_rete (pd_comp nox nd 1 (pi_of (pd_var 0)) (fun _ _ _ _ _ _ => (pd_list T (pd_var 1))))))
abbrev st_law : Stmt := top 26
theorem sc_law : L2.FnScope ["script", "table", "size", "cell", "b", "a", "due", "handed", "text", "turn", "found"] ["script"] (L2.defScope st_law) := ⟨rfl, rfl, rfl, by decide +kernel, rfl, by decide +kernel, by decide +kernel⟩
theorem ok_law {P : Program} {w : World} {K : PySem.W.Frag} {mg : Str → Option Value} {base : Heap} {f : Addr} {fd : FuncData} (F : L2.Fun K "law" "law" st_law f fd) (T : Bt mg) (G_law_folk_by : Cal P w K mg base 3 "_law_folk_by" (rT K) φ_law_folk_by) (G_law_copy : Cal P w K mg base 1 "_law_copy" (rk K .k) φ_law_copy) (G_shown : Cal P w K mg base 3 "shown" (rk K .k) φ_shown) (G_law_cell_at : Cal P w K mg base 1 "_law_cell_at" (rk K .k) φ_law_cell_at) (G_read : Cal P w K mg base 3 "read" (rT K) φ_read) (G_law_draw : Cal P w K mg base 1 "_law_draw" (rk K .k) φ_law_draw) (G_law_lists : Cal P w K mg base 2 "_law_lists" (rk K .k) φ_law_lists) :
    L2.FnOk P w K mg base L2.CX0 4 f fd ["script"] (spR K (rk K .k) φ_law) :=
  fn_ok (N := ["script", "table", "size", "cell", "b", "a", "due", "handed", "text", "turn", "found"]) (ps := ["script"]) (k := 3) (m := (rk K .k)) (g := R_law) F sc_law (.inl (rk_non _)) fun cdv A outer s H E hr => by
    have hu := hr.units
    have nd := sc_law.nd
    have nox : ∀ (e : Value) (s : Shared), False → False := fun _ _ h => h
    exact (pss_more (ps_sets nd 1 ((PDt.k (pt_callT G_law_folk_by (hr.mono (by decide)) (pa_one (pd_var 0) (pa_one (pd_int (m := .k)) pa_no)))))) (pss_more (ps_iff (pt_eq hu (pd_iMod (m := .k) (pd_call G_law_cell_at (hr.mono (by decide)) (pa_one (pd_var 0) (pa_one (pd_int (m := .k)) pa_no))) (pd_int (m := .k))) (pd_int (m := .k))) (pss_more (ps_sets nd 2 (pd_add (pd_int (m := .k)) (pd_iMod (m := .k) (pd_iDiv (m := .k) (pd_call G_law_cell_at (hr.mono (by decide)) (pa_one (pd_var 0) (pa_one (pd_int (m := .k)) pa_no))) (pd_int (m := .k))) (pd_int (m := .k))))) (pss_more (ps_sets nd 3 (pd_call G_law_cell_at (hr.mono (by decide)) (pa_one (pd_var 0) (pa_one (pd_int (m := .k)) pa_no)))) (pss_last (ps_setsC nox nd 1 5 (pi_rng T (pd_var 2)) (fun _ _ _ _ _ _ => (pd_comp nox nd 4 (pi_rng T (pd_var 2)) (fun _ _ _ _ _ _ => (pd_call G_law_draw (hr.mono (by decide)) (pa_one (pd_var 3) (pa_one (pd_add (pd_iMul (m := .k) (pd_var 5) (pd_var 2)) (pd_var 4)) (pa_one (pd_var 2) pa_no))))))))))) ps_nil) (pss_more (ps_sets nd 6 (pd_str (m := .k))) (pss_more (ps_fore (pi_rng T (pd_len (m := .k) T (pd_var 1))) (pg_n nd 5) (pss_more (ps_iff (pt_gt (pd_var 5) (pd_int (m := .k))) (pss_last (ps_sets nd 6 (pd_cat (m := .k) (pd_var 6) (pd_str (m := .k))))) ps_nil) (pss_last (ps_fore (pi_rng T (pd_len (m := .k) T (pd_var 1))) (pg_n nd 4) (pss_last (ps_sets nd 6 (pd_cat (m := .k) (pd_cat (m := .k) (pd_var 6) (pd_ix (pd_lst (pa_one (pd_str (m := .k)) (pa_one (pd_str (m := .k)) pa_no))) (pd_int1 (m := .k) T ((pv_eq (m := .k) hu (pd_var 4) (pd_int (m := .k))))))) (pd_str1 (m := .k) T (pd_ix (pd_ix (pd_var 1) (pd_var 5)) (pd_var 4)))))))))) (pss_more (ps_sets nd 7 (pd_call G_law_copy (hr.mono (by decide)) (pa_one (pd_var 1) pa_no))) (pss_more (ps_sets nd 8 (pd_call G_shown (hr.mono (by decide)) (pa_one (pd_var 7) pa_no))) (pss_more (ps_iff (pw_t (pt_or (pt_not (pt_of (pd_is_str (m := .k) T (pd_var 8)))) (pt_or (pt_ne hu (pd_var 8) (pd_var 6)) (pt_oneOr (pt_ne hu (pd_var 7) (pd_var 1)))))) (pss_last (ps_rete (pd_bl (m := .k)))) ps_nil) (pss_more (ps_fore (pi_rng T (pd_int (m := .k))) (pg_n nd 9) (pss_more (ps_tab nd 10 (pt_callT G_read (hr.mono (by decide)) (pa_one (pd_var 6) pa_no))) (pss_more (ps_iff (pw_t (pt_or (pt_not (pt_of (pd_callS (m := .k) G_law_lists (hr.mono (by decide)) (pa_one (PD.r (pd_varR 10)) pa_no)))) (pt_oneOr (pt_ne hu (pd_len (m := .k) T (pd_varR 10)) (pd_len (m := .k) T (pd_var 1)))))) (pss_last (ps_rete (pd_bl (m := .k)))) ps_nil) (pss_more (ps_fore (pi_rng T (pd_len (m := .k) T (pd_var 1))) (pg_n nd 5) (pss_more (ps_iff (pt_ne hu (pd_ix (pd_varR 10) (pd_var 5)) (pd_ix (pd_var 1) (pd_var 5))) (pss_last (ps_rete (pd_bl (m := .k)))) ps_nil) (pss_last (ps_tapp 10 (pd_var 5))))) (pss_last (ps_tnew 10)))))) (pss_last (ps_rete (pd_bl (m := .k))))))))))))
end PV
set_option linter.all false
set_option Elab.async false
set_option maxRecDepth 100000
set_option maxHeartbeats 4000000
namespace PV
open PySem PySem.Spec PyProof.Rows
open L2 (V Hp HO Same Cx)
theorem all_mk {l : PySem.W.OpenLaw} {w : World} {K : PySem.W.Frag} {h : Heap} {mg : Str → Option Value} {fa : Addr} (X : K.In h) (G : h.Ns mainGlobals mg) (hfa : mg "law" = some (.ref fa))
    {f_is_element : Addr} {od_is_element an_is_element : Option Addr} {sl_is_element : Array (Option Value)} {oc_is_element kV_is_element dc_is_element pm_is_element cd_is_element ct_is_element : Value}
    (a_is_element : PySem.W.nsIn K mainGlobals "is_element" = some (some (.ref f_is_element))) (l_is_element : K.lookup f_is_element = some ⟨oc_is_element, od_is_element, .func (PySem.W.fnOf "is_element" "is_element" (L2.defArgs st_is_element) (L2.defBody st_is_element) (L2.defScope st_is_element) .none kV_is_element dc_is_element pm_is_element an_is_element cd_is_element ct_is_element), sl_is_element⟩) (c_is_element : PySem.W.codeIn K cd_is_element "is_element" = true) (k_is_element : PySem.W.keepIn K (.ref f_is_element) = true)
    {f_ask_table : Addr} {od_ask_table an_ask_table : Option Addr} {sl_ask_table : Array (Option Value)} {oc_ask_table kV_ask_table dc_ask_table pm_ask_table cd_ask_table ct_ask_table : Value}
    (a_ask_table : PySem.W.nsIn K mainGlobals "ask_table" = some (some (.ref f_ask_table))) (l_ask_table : K.lookup f_ask_table = some ⟨oc_ask_table, od_ask_table, .func (PySem.W.fnOf "ask_table" "ask_table" (L2.defArgs st_ask_table) (L2.defBody st_ask_table) (L2.defScope st_ask_table) .none kV_ask_table dc_ask_table pm_ask_table an_ask_table cd_ask_table ct_ask_table), sl_ask_table⟩) (c_ask_table : PySem.W.codeIn K cd_ask_table "ask_table" = true) (k_ask_table : PySem.W.keepIn K (.ref f_ask_table) = true)
    {f_shown_row : Addr} {od_shown_row an_shown_row : Option Addr} {sl_shown_row : Array (Option Value)} {oc_shown_row kV_shown_row dc_shown_row pm_shown_row cd_shown_row ct_shown_row : Value}
    (a_shown_row : PySem.W.nsIn K mainGlobals "shown_row" = some (some (.ref f_shown_row))) (l_shown_row : K.lookup f_shown_row = some ⟨oc_shown_row, od_shown_row, .func (PySem.W.fnOf "shown_row" "shown_row" (L2.defArgs st_shown_row) (L2.defBody st_shown_row) (L2.defScope st_shown_row) .none kV_shown_row dc_shown_row pm_shown_row an_shown_row cd_shown_row ct_shown_row), sl_shown_row⟩) (c_shown_row : PySem.W.codeIn K cd_shown_row "shown_row" = true) (k_shown_row : PySem.W.keepIn K (.ref f_shown_row) = true)
    {f_shown : Addr} {od_shown an_shown : Option Addr} {sl_shown : Array (Option Value)} {oc_shown kV_shown dc_shown pm_shown cd_shown ct_shown : Value}
    (a_shown : PySem.W.nsIn K mainGlobals "shown" = some (some (.ref f_shown))) (l_shown : K.lookup f_shown = some ⟨oc_shown, od_shown, .func (PySem.W.fnOf "shown" "shown" (L2.defArgs st_shown) (L2.defBody st_shown) (L2.defScope st_shown) .none kV_shown dc_shown pm_shown an_shown cd_shown ct_shown), sl_shown⟩) (c_shown : PySem.W.codeIn K cd_shown "shown" = true) (k_shown : PySem.W.keepIn K (.ref f_shown) = true)
    {f_read_number : Addr} {od_read_number an_read_number : Option Addr} {sl_read_number : Array (Option Value)} {oc_read_number kV_read_number dc_read_number pm_read_number cd_read_number ct_read_number : Value}
    (a_read_number : PySem.W.nsIn K mainGlobals "read_number" = some (some (.ref f_read_number))) (l_read_number : K.lookup f_read_number = some ⟨oc_read_number, od_read_number, .func (PySem.W.fnOf "read_number" "read_number" (L2.defArgs st_read_number) (L2.defBody st_read_number) (L2.defScope st_read_number) .none kV_read_number dc_read_number pm_read_number an_read_number cd_read_number ct_read_number), sl_read_number⟩) (c_read_number : PySem.W.codeIn K cd_read_number "read_number" = true) (k_read_number : PySem.W.keepIn K (.ref f_read_number) = true)
    {f_read_row : Addr} {od_read_row an_read_row : Option Addr} {sl_read_row : Array (Option Value)} {oc_read_row kV_read_row dc_read_row pm_read_row cd_read_row ct_read_row : Value}
    (a_read_row : PySem.W.nsIn K mainGlobals "read_row" = some (some (.ref f_read_row))) (l_read_row : K.lookup f_read_row = some ⟨oc_read_row, od_read_row, .func (PySem.W.fnOf "read_row" "read_row" (L2.defArgs st_read_row) (L2.defBody st_read_row) (L2.defScope st_read_row) .none kV_read_row dc_read_row pm_read_row an_read_row cd_read_row ct_read_row), sl_read_row⟩) (c_read_row : PySem.W.codeIn K cd_read_row "read_row" = true) (k_read_row : PySem.W.keepIn K (.ref f_read_row) = true)
    {f_read : Addr} {od_read an_read : Option Addr} {sl_read : Array (Option Value)} {oc_read kV_read dc_read pm_read cd_read ct_read : Value}
    (a_read : PySem.W.nsIn K mainGlobals "read" = some (some (.ref f_read))) (l_read : K.lookup f_read = some ⟨oc_read, od_read, .func (PySem.W.fnOf "read" "read" (L2.defArgs st_read) (L2.defBody st_read) (L2.defScope st_read) .none kV_read dc_read pm_read an_read cd_read ct_read), sl_read⟩) (c_read : PySem.W.codeIn K cd_read "read" = true) (k_read : PySem.W.keepIn K (.ref f_read) = true)
    {f_law_cell_at : Addr} {od_law_cell_at an_law_cell_at : Option Addr} {sl_law_cell_at : Array (Option Value)} {oc_law_cell_at kV_law_cell_at dc_law_cell_at pm_law_cell_at cd_law_cell_at ct_law_cell_at : Value}
    (a_law_cell_at : PySem.W.nsIn K mainGlobals "_law_cell_at" = some (some (.ref f_law_cell_at))) (l_law_cell_at : K.lookup f_law_cell_at = some ⟨oc_law_cell_at, od_law_cell_at, .func (PySem.W.fnOf "_law_cell_at" "_law_cell_at" (L2.defArgs st_law_cell_at) (L2.defBody st_law_cell_at) (L2.defScope st_law_cell_at) .none kV_law_cell_at dc_law_cell_at pm_law_cell_at an_law_cell_at cd_law_cell_at ct_law_cell_at), sl_law_cell_at⟩) (c_law_cell_at : PySem.W.codeIn K cd_law_cell_at "_law_cell_at" = true) (k_law_cell_at : PySem.W.keepIn K (.ref f_law_cell_at) = true)
    {f_law_draw : Addr} {od_law_draw an_law_draw : Option Addr} {sl_law_draw : Array (Option Value)} {oc_law_draw kV_law_draw dc_law_draw pm_law_draw cd_law_draw ct_law_draw : Value}
    (a_law_draw : PySem.W.nsIn K mainGlobals "_law_draw" = some (some (.ref f_law_draw))) (l_law_draw : K.lookup f_law_draw = some ⟨oc_law_draw, od_law_draw, .func (PySem.W.fnOf "_law_draw" "_law_draw" (L2.defArgs st_law_draw) (L2.defBody st_law_draw) (L2.defScope st_law_draw) .none kV_law_draw dc_law_draw pm_law_draw an_law_draw cd_law_draw ct_law_draw), sl_law_draw⟩) (c_law_draw : PySem.W.codeIn K cd_law_draw "_law_draw" = true) (k_law_draw : PySem.W.keepIn K (.ref f_law_draw) = true)
    {f_law_whole : Addr} {od_law_whole an_law_whole : Option Addr} {sl_law_whole : Array (Option Value)} {oc_law_whole kV_law_whole dc_law_whole pm_law_whole cd_law_whole ct_law_whole : Value}
    (a_law_whole : PySem.W.nsIn K mainGlobals "_law_whole" = some (some (.ref f_law_whole))) (l_law_whole : K.lookup f_law_whole = some ⟨oc_law_whole, od_law_whole, .func (PySem.W.fnOf "_law_whole" "_law_whole" (L2.defArgs st_law_whole) (L2.defBody st_law_whole) (L2.defScope st_law_whole) .none kV_law_whole dc_law_whole pm_law_whole an_law_whole cd_law_whole ct_law_whole), sl_law_whole⟩) (c_law_whole : PySem.W.codeIn K cd_law_whole "_law_whole" = true) (k_law_whole : PySem.W.keepIn K (.ref f_law_whole) = true)
    {f_law_cycles : Addr} {od_law_cycles an_law_cycles : Option Addr} {sl_law_cycles : Array (Option Value)} {oc_law_cycles kV_law_cycles dc_law_cycles pm_law_cycles cd_law_cycles ct_law_cycles : Value}
    (a_law_cycles : PySem.W.nsIn K mainGlobals "_law_cycles" = some (some (.ref f_law_cycles))) (l_law_cycles : K.lookup f_law_cycles = some ⟨oc_law_cycles, od_law_cycles, .func (PySem.W.fnOf "_law_cycles" "_law_cycles" (L2.defArgs st_law_cycles) (L2.defBody st_law_cycles) (L2.defScope st_law_cycles) .none kV_law_cycles dc_law_cycles pm_law_cycles an_law_cycles cd_law_cycles ct_law_cycles), sl_law_cycles⟩) (c_law_cycles : PySem.W.codeIn K cd_law_cycles "_law_cycles" = true) (k_law_cycles : PySem.W.keepIn K (.ref f_law_cycles) = true)
    {f_law_twisted : Addr} {od_law_twisted an_law_twisted : Option Addr} {sl_law_twisted : Array (Option Value)} {oc_law_twisted kV_law_twisted dc_law_twisted pm_law_twisted cd_law_twisted ct_law_twisted : Value}
    (a_law_twisted : PySem.W.nsIn K mainGlobals "_law_twisted" = some (some (.ref f_law_twisted))) (l_law_twisted : K.lookup f_law_twisted = some ⟨oc_law_twisted, od_law_twisted, .func (PySem.W.fnOf "_law_twisted" "_law_twisted" (L2.defArgs st_law_twisted) (L2.defBody st_law_twisted) (L2.defScope st_law_twisted) .none kV_law_twisted dc_law_twisted pm_law_twisted an_law_twisted cd_law_twisted ct_law_twisted), sl_law_twisted⟩) (c_law_twisted : PySem.W.codeIn K cd_law_twisted "_law_twisted" = true) (k_law_twisted : PySem.W.keepIn K (.ref f_law_twisted) = true)
    {f_law_even : Addr} {od_law_even an_law_even : Option Addr} {sl_law_even : Array (Option Value)} {oc_law_even kV_law_even dc_law_even pm_law_even cd_law_even ct_law_even : Value}
    (a_law_even : PySem.W.nsIn K mainGlobals "_law_even" = some (some (.ref f_law_even))) (l_law_even : K.lookup f_law_even = some ⟨oc_law_even, od_law_even, .func (PySem.W.fnOf "_law_even" "_law_even" (L2.defArgs st_law_even) (L2.defBody st_law_even) (L2.defScope st_law_even) .none kV_law_even dc_law_even pm_law_even an_law_even cd_law_even ct_law_even), sl_law_even⟩) (c_law_even : PySem.W.codeIn K cd_law_even "_law_even" = true) (k_law_even : PySem.W.keepIn K (.ref f_law_even) = true)
    {f_law_base : Addr} {od_law_base an_law_base : Option Addr} {sl_law_base : Array (Option Value)} {oc_law_base kV_law_base dc_law_base pm_law_base cd_law_base ct_law_base : Value}
    (a_law_base : PySem.W.nsIn K mainGlobals "_law_base" = some (some (.ref f_law_base))) (l_law_base : K.lookup f_law_base = some ⟨oc_law_base, od_law_base, .func (PySem.W.fnOf "_law_base" "_law_base" (L2.defArgs st_law_base) (L2.defBody st_law_base) (L2.defScope st_law_base) .none kV_law_base dc_law_base pm_law_base an_law_base cd_law_base ct_law_base), sl_law_base⟩) (c_law_base : PySem.W.codeIn K cd_law_base "_law_base" = true) (k_law_base : PySem.W.keepIn K (.ref f_law_base) = true)
    {f_law_renamed : Addr} {od_law_renamed an_law_renamed : Option Addr} {sl_law_renamed : Array (Option Value)} {oc_law_renamed kV_law_renamed dc_law_renamed pm_law_renamed cd_law_renamed ct_law_renamed : Value}
    (a_law_renamed : PySem.W.nsIn K mainGlobals "_law_renamed" = some (some (.ref f_law_renamed))) (l_law_renamed : K.lookup f_law_renamed = some ⟨oc_law_renamed, od_law_renamed, .func (PySem.W.fnOf "_law_renamed" "_law_renamed" (L2.defArgs st_law_renamed) (L2.defBody st_law_renamed) (L2.defScope st_law_renamed) .none kV_law_renamed dc_law_renamed pm_law_renamed an_law_renamed cd_law_renamed ct_law_renamed), sl_law_renamed⟩) (c_law_renamed : PySem.W.codeIn K cd_law_renamed "_law_renamed" = true) (k_law_renamed : PySem.W.keepIn K (.ref f_law_renamed) = true)
    {f_law_folk_by : Addr} {od_law_folk_by an_law_folk_by : Option Addr} {sl_law_folk_by : Array (Option Value)} {oc_law_folk_by kV_law_folk_by dc_law_folk_by pm_law_folk_by cd_law_folk_by ct_law_folk_by : Value}
    (a_law_folk_by : PySem.W.nsIn K mainGlobals "_law_folk_by" = some (some (.ref f_law_folk_by))) (l_law_folk_by : K.lookup f_law_folk_by = some ⟨oc_law_folk_by, od_law_folk_by, .func (PySem.W.fnOf "_law_folk_by" "_law_folk_by" (L2.defArgs st_law_folk_by) (L2.defBody st_law_folk_by) (L2.defScope st_law_folk_by) .none kV_law_folk_by dc_law_folk_by pm_law_folk_by an_law_folk_by cd_law_folk_by ct_law_folk_by), sl_law_folk_by⟩) (c_law_folk_by : PySem.W.codeIn K cd_law_folk_by "_law_folk_by" = true) (k_law_folk_by : PySem.W.keepIn K (.ref f_law_folk_by) = true)
    {f_law_lists : Addr} {od_law_lists an_law_lists : Option Addr} {sl_law_lists : Array (Option Value)} {oc_law_lists kV_law_lists dc_law_lists pm_law_lists cd_law_lists ct_law_lists : Value}
    (a_law_lists : PySem.W.nsIn K mainGlobals "_law_lists" = some (some (.ref f_law_lists))) (l_law_lists : K.lookup f_law_lists = some ⟨oc_law_lists, od_law_lists, .func (PySem.W.fnOf "_law_lists" "_law_lists" (L2.defArgs st_law_lists) (L2.defBody st_law_lists) (L2.defScope st_law_lists) .none kV_law_lists dc_law_lists pm_law_lists an_law_lists cd_law_lists ct_law_lists), sl_law_lists⟩) (c_law_lists : PySem.W.codeIn K cd_law_lists "_law_lists" = true) (k_law_lists : PySem.W.keepIn K (.ref f_law_lists) = true)
    {f_law_copy : Addr} {od_law_copy an_law_copy : Option Addr} {sl_law_copy : Array (Option Value)} {oc_law_copy kV_law_copy dc_law_copy pm_law_copy cd_law_copy ct_law_copy : Value}
    (a_law_copy : PySem.W.nsIn K mainGlobals "_law_copy" = some (some (.ref f_law_copy))) (l_law_copy : K.lookup f_law_copy = some ⟨oc_law_copy, od_law_copy, .func (PySem.W.fnOf "_law_copy" "_law_copy" (L2.defArgs st_law_copy) (L2.defBody st_law_copy) (L2.defScope st_law_copy) .none kV_law_copy dc_law_copy pm_law_copy an_law_copy cd_law_copy ct_law_copy), sl_law_copy⟩) (c_law_copy : PySem.W.codeIn K cd_law_copy "_law_copy" = true) (k_law_copy : PySem.W.keepIn K (.ref f_law_copy) = true)
    {f_law : Addr} {od_law an_law : Option Addr} {sl_law : Array (Option Value)} {oc_law kV_law dc_law pm_law cd_law ct_law : Value}
    (a_law : PySem.W.nsIn K mainGlobals "law" = some (some (.ref f_law))) (l_law : K.lookup f_law = some ⟨oc_law, od_law, .func (PySem.W.fnOf "law" "law" (L2.defArgs st_law) (L2.defBody st_law) (L2.defScope st_law) .none kV_law dc_law pm_law an_law cd_law ct_law), sl_law⟩) (c_law : PySem.W.codeIn K cd_law "law" = true) (k_law : PySem.W.keepIn K (.ref f_law) = true)
    (z_len : PySem.W.nsIn K mainGlobals "len" = some none)
    (z_range : PySem.W.nsIn K mainGlobals "range" = some none)
    (z_list : PySem.W.nsIn K mainGlobals "list" = some none)
    (z_all : PySem.W.nsIn K mainGlobals "all" = some none)
    (z_isinstance : PySem.W.nsIn K mainGlobals "isinstance" = some none)
    (z_max : PySem.W.nsIn K mainGlobals "max" = some none)
    (z_int : PySem.W.nsIn K mainGlobals "int" = some none)
    (z_bool : PySem.W.nsIn K mainGlobals "bool" = some none)
    (z_str : PySem.W.nsIn K mainGlobals "str" = some none)
    (z_tuple : PySem.W.nsIn K mainGlobals "tuple" = some none)
    (z_sorted : PySem.W.nsIn K mainGlobals "sorted" = some none)
    (z_set : PySem.W.nsIn K mainGlobals "set" = some none)
    (z_any : PySem.W.nsIn K mainGlobals "any" = some none)
    (z_enumerate : PySem.W.nsIn K mainGlobals "enumerate" = some none)
    (z_dict : PySem.W.nsIn K mainGlobals "dict" = some none)
    {t_MOST_ROWS : Tok} (v_MOST_ROWS : PySem.W.nsIn K mainGlobals "MOST_ROWS" = some (some (.int 12 t_MOST_ROWS))) :
    ∃ fd : FuncData, (∀ (s : Shared) (v : Value), BindsTo s fd ⟨[v], []⟩ [("script", v)]) ∧ ∀ base : Heap, K.In base → base.Ns mainGlobals mg → L2.FnOk l.prog w K mg base L2.CX0 4 fa fd ["script"] (spR K (rk K .k) φ_law) := by
  have e := hfa.symm.trans (PySem.W.mg_of X G a_law)
  cases e
  have T : Bt mg := ⟨PySem.W.mg_none_of X G z_len, PySem.W.mg_none_of X G z_range, PySem.W.mg_none_of X G z_list, PySem.W.mg_none_of X G z_all, PySem.W.mg_none_of X G z_isinstance, PySem.W.mg_none_of X G z_max, PySem.W.mg_none_of X G z_int, PySem.W.mg_none_of X G z_bool, PySem.W.mg_none_of X G z_str, PySem.W.mg_none_of X G z_tuple, PySem.W.mg_none_of X G z_sorted, PySem.W.mg_none_of X G z_set, PySem.W.mg_none_of X G z_any, PySem.W.mg_none_of X G z_enumerate, PySem.W.mg_none_of X G z_dict⟩
  have C_MOST_ROWS : ∃ t, mg "MOST_ROWS" = some (.int 12 t) := ⟨_, PySem.W.mg_of X G v_MOST_ROWS⟩
  refine ⟨PySem.W.fnOf "law" "law" (L2.defArgs st_law) (L2.defBody st_law) (L2.defScope st_law) .none kV_law dc_law pm_law an_law cd_law ct_law, fun s v => .of_eq rfl, fun base _ _ => ?_⟩
  have G_is_element : Cal l.prog w K mg base 1 "is_element" (rk K .k) φ_is_element := ⟨⟨f_is_element, _, ["table", "number"], PySem.W.mg_of X G a_is_element, k_is_element, ok_is_element (P := l.prog) (w := w) (base := base) (L2.fun_mk (st := st_is_element) l_is_element c_is_element k_is_element) T, (L2.fun_mk (st := st_is_element) l_is_element c_is_element k_is_element).binds fun _ _ _ _ _ _ us hl => match us, hl with | [_, _], _ => rfl⟩⟩
  have G_ask_table : Cal l.prog w K mg base 2 "ask_table" (rk K .k) φ_ask_table := ⟨⟨f_ask_table, _, ["table"], PySem.W.mg_of X G a_ask_table, k_ask_table, ok_ask_table (P := l.prog) (w := w) (base := base) (L2.fun_mk (st := st_ask_table) l_ask_table c_ask_table k_ask_table) T C_MOST_ROWS G_is_element, (L2.fun_mk (st := st_ask_table) l_ask_table c_ask_table k_ask_table).binds fun _ _ _ _ _ _ us hl => match us, hl with | [_], _ => rfl⟩⟩
  have G_shown_row : Cal l.prog w K mg base 1 "shown_row" (rk K .k) φ_shown_row := ⟨⟨f_shown_row, _, ["row"], PySem.W.mg_of X G a_shown_row, k_shown_row, ok_shown_row (P := l.prog) (w := w) (base := base) (L2.fun_mk (st := st_shown_row) l_shown_row c_shown_row k_shown_row) T, (L2.fun_mk (st := st_shown_row) l_shown_row c_shown_row k_shown_row).binds fun _ _ _ _ _ _ us hl => match us, hl with | [_], _ => rfl⟩⟩
  have G_shown : Cal l.prog w K mg base 3 "shown" (rk K .k) φ_shown := ⟨⟨f_shown, _, ["table"], PySem.W.mg_of X G a_shown, k_shown, ok_shown (P := l.prog) (w := w) (base := base) (L2.fun_mk (st := st_shown) l_shown c_shown k_shown) T G_ask_table G_shown_row, (L2.fun_mk (st := st_shown) l_shown c_shown k_shown).binds fun _ _ _ _ _ _ us hl => match us, hl with | [_], _ => rfl⟩⟩
  have G_read_number : Cal l.prog w K mg base 1 "read_number" (rk K .k) φ_read_number := ⟨⟨f_read_number, _, ["figures"], PySem.W.mg_of X G a_read_number, k_read_number, ok_read_number (P := l.prog) (w := w) (base := base) (L2.fun_mk (st := st_read_number) l_read_number c_read_number k_read_number) T C_MOST_ROWS, (L2.fun_mk (st := st_read_number) l_read_number c_read_number k_read_number).binds fun _ _ _ _ _ _ us hl => match us, hl with | [_], _ => rfl⟩⟩
  have G_read_row : Cal l.prog w K mg base 2 "read_row" rN φ_read_row := ⟨⟨f_read_row, _, ["text"], PySem.W.mg_of X G a_read_row, k_read_row, ok_read_row (P := l.prog) (w := w) (base := base) (L2.fun_mk (st := st_read_row) l_read_row c_read_row k_read_row) T G_read_number, (L2.fun_mk (st := st_read_row) l_read_row c_read_row k_read_row).binds fun _ _ _ _ _ _ us hl => match us, hl with | [_], _ => rfl⟩⟩
  have G_read : Cal l.prog w K mg base 3 "read" (rT K) φ_read := ⟨⟨f_read, _, ["text"], PySem.W.mg_of X G a_read, k_read, ok_read (P := l.prog) (w := w) (base := base) (L2.fun_mk (st := st_read) l_read c_read k_read) T G_read_row G_ask_table, (L2.fun_mk (st := st_read) l_read c_read k_read).binds fun _ _ _ _ _ _ us hl => match us, hl with | [_], _ => rfl⟩⟩
  have G_law_cell_at : Cal l.prog w K mg base 1 "_law_cell_at" (rk K .k) φ_law_cell_at := ⟨⟨f_law_cell_at, _, ["script", "k"], PySem.W.mg_of X G a_law_cell_at, k_law_cell_at, ok_law_cell_at (P := l.prog) (w := w) (base := base) (L2.fun_mk (st := st_law_cell_at) l_law_cell_at c_law_cell_at k_law_cell_at) T, (L2.fun_mk (st := st_law_cell_at) l_law_cell_at c_law_cell_at k_law_cell_at).binds fun _ _ _ _ _ _ us hl => match us, hl with | [_, _], _ => rfl⟩⟩
  have G_law_draw : Cal l.prog w K mg base 1 "_law_draw" (rk K .k) φ_law_draw := ⟨⟨f_law_draw, _, ["cell", "k", "bound"], PySem.W.mg_of X G a_law_draw, k_law_draw, ok_law_draw (P := l.prog) (w := w) (base := base) (L2.fun_mk (st := st_law_draw) l_law_draw c_law_draw k_law_draw) T, (L2.fun_mk (st := st_law_draw) l_law_draw c_law_draw k_law_draw).binds fun _ _ _ _ _ _ us hl => match us, hl with | [_, _, _], _ => rfl⟩⟩
  have G_law_whole : Cal l.prog w K mg base 1 "_law_whole" (rk K .k) φ_law_whole := ⟨⟨f_law_whole, _, ["found"], PySem.W.mg_of X G a_law_whole, k_law_whole, ok_law_whole (P := l.prog) (w := w) (base := base) (L2.fun_mk (st := st_law_whole) l_law_whole c_law_whole k_law_whole) T, (L2.fun_mk (st := st_law_whole) l_law_whole c_law_whole k_law_whole).binds fun _ _ _ _ _ _ us hl => match us, hl with | [_], _ => rfl⟩⟩
  have G_law_cycles : Cal l.prog w K mg base 1 "_law_cycles" (rk K .k) φ_law_cycles := ⟨⟨f_law_cycles, _, ["dims"], PySem.W.mg_of X G a_law_cycles, k_law_cycles, ok_law_cycles (P := l.prog) (w := w) (base := base) (L2.fun_mk (st := st_law_cycles) l_law_cycles c_law_cycles k_law_cycles) T, (L2.fun_mk (st := st_law_cycles) l_law_cycles c_law_cycles k_law_cycles).binds fun _ _ _ _ _ _ us hl => match us, hl with | [_], _ => rfl⟩⟩
  have G_law_twisted : Cal l.prog w K mg base 1 "_law_twisted" (rk K .k) φ_law_twisted := ⟨⟨f_law_twisted, _, ["many", "extra"], PySem.W.mg_of X G a_law_twisted, k_law_twisted, ok_law_twisted (P := l.prog) (w := w) (base := base) (L2.fun_mk (st := st_law_twisted) l_law_twisted c_law_twisted k_law_twisted) T, (L2.fun_mk (st := st_law_twisted) l_law_twisted c_law_twisted k_law_twisted).binds fun _ _ _ _ _ _ us hl => match us, hl with | [_, _], _ => rfl⟩⟩
  have G_law_even : Cal l.prog w K mg base 1 "_law_even" (rk K .k) φ_law_even := ⟨⟨f_law_even, _, [], PySem.W.mg_of X G a_law_even, k_law_even, ok_law_even (P := l.prog) (w := w) (base := base) (L2.fun_mk (st := st_law_even) l_law_even c_law_even k_law_even) T, (L2.fun_mk (st := st_law_even) l_law_even c_law_even k_law_even).binds fun _ _ _ _ _ _ us hl => match us, hl with | [], _ => rfl⟩⟩
  have G_law_base : Cal l.prog w K mg base 2 "_law_base" (rk K .k) φ_law_base := ⟨⟨f_law_base, _, ["kind"], PySem.W.mg_of X G a_law_base, k_law_base, ok_law_base (P := l.prog) (w := w) (base := base) (L2.fun_mk (st := st_law_base) l_law_base c_law_base k_law_base) T G_law_even G_law_cycles G_law_twisted, (L2.fun_mk (st := st_law_base) l_law_base c_law_base k_law_base).binds fun _ _ _ _ _ _ us hl => match us, hl with | [_], _ => rfl⟩⟩
  have G_law_renamed : Cal l.prog w K mg base 2 "_law_renamed" (rT K) φ_law_renamed := ⟨⟨f_law_renamed, _, ["base", "cell"], PySem.W.mg_of X G a_law_renamed, k_law_renamed, ok_law_renamed (P := l.prog) (w := w) (base := base) (L2.fun_mk (st := st_law_renamed) l_law_renamed c_law_renamed k_law_renamed) T G_law_draw, (L2.fun_mk (st := st_law_renamed) l_law_renamed c_law_renamed k_law_renamed).binds fun _ _ _ _ _ _ us hl => match us, hl with | [_, _], _ => rfl⟩⟩
  have G_law_folk_by : Cal l.prog w K mg base 3 "_law_folk_by" (rT K) φ_law_folk_by := ⟨⟨f_law_folk_by, _, ["script", "first"], PySem.W.mg_of X G a_law_folk_by, k_law_folk_by, ok_law_folk_by (P := l.prog) (w := w) (base := base) (L2.fun_mk (st := st_law_folk_by) l_law_folk_by c_law_folk_by k_law_folk_by) T G_law_renamed G_law_base G_law_cell_at, (L2.fun_mk (st := st_law_folk_by) l_law_folk_by c_law_folk_by k_law_folk_by).binds fun _ _ _ _ _ _ us hl => match us, hl with | [_, _], _ => rfl⟩⟩
  have G_law_lists : Cal l.prog w K mg base 2 "_law_lists" (rk K .k) φ_law_lists := ⟨⟨f_law_lists, _, ["found"], PySem.W.mg_of X G a_law_lists, k_law_lists, ok_law_lists (P := l.prog) (w := w) (base := base) (L2.fun_mk (st := st_law_lists) l_law_lists c_law_lists k_law_lists) T G_law_whole, (L2.fun_mk (st := st_law_lists) l_law_lists c_law_lists k_law_lists).binds fun _ _ _ _ _ _ us hl => match us, hl with | [_], _ => rfl⟩⟩
  have G_law_copy : Cal l.prog w K mg base 1 "_law_copy" (rk K .k) φ_law_copy := ⟨⟨f_law_copy, _, ["table"], PySem.W.mg_of X G a_law_copy, k_law_copy, ok_law_copy (P := l.prog) (w := w) (base := base) (L2.fun_mk (st := st_law_copy) l_law_copy c_law_copy k_law_copy) T, (L2.fun_mk (st := st_law_copy) l_law_copy c_law_copy k_law_copy).binds fun _ _ _ _ _ _ us hl => match us, hl with | [_], _ => rfl⟩⟩
  exact ok_law (P := l.prog) (w := w) (base := base) (L2.fun_mk (st := st_law) l_law c_law k_law) T G_law_folk_by G_law_copy G_shown G_law_cell_at G_read G_law_draw G_law_lists
theorem walk {l : PySem.W.OpenLaw} {q : Program} {loose : List Str} {XP : (Str → Option Value) → Heap → Prop} {YP : World → Heap → Prop} {d : DefRec} {K : Params → PySem.W.Frag} (hn : l.most = some 63) (hdf : d.params.defaults = [])
    (hY : ∀ (w : World) (h : Heap), YP w h → (K w.params).In h)
    (F : ∀ (w : World) (mg : Str → Option Value) (fa : Addr) (h : Heap), (K w.params).In h → h.Ns mainGlobals mg → mg d.name = some (.ref fa) →
      ∃ fd : FuncData, (∀ (s : Shared) (u : Value), BindsTo s fd ⟨[u], []⟩ [("script", u)]) ∧ ∀ base : Heap, (K w.params).In base → base.Ns mainGlobals mg → L2.FnOk l.prog w (K w.params) mg base L2.CX0 4 fa fd ["script"] (spR (K w.params) (rk (K w.params) .k) φ_law)) :
    PySem.W.WalkO q loose XP YP l.row.toRowW d [] (fun f vs => PySem.call f vs) :=
  L2.walk_of (n := 63) (k := 4) (x := "script") (CX := fun _ => L2.CX0) (sp := fun w => spR (K w.params) (rk (K w.params) .k) φ_law) hn (by decide) hdf ⟨rfl, by decide, by decide⟩ hY F (fun _ _ a ns hl _ hS => law_start (law13 ns) hS) fun _ _ _ _ _ z => z
end PV
set_option maxHeartbeats 0 in
theorem PySem.Challenge.cw_tablefolk_k13_texts_holds : PySem.Challenge.rw_tablefolk_k13_texts.Holds := by
  w_on; o_law; k_head; (case hw => w_witness2)
  k_fill
  refine PV.walk (l := PySem.Challenge.rw_tablefolk_k13_texts) rfl rfl (fun w h Y => PySem.W.kIn_of Y) ?F
  case F =>
    intro w mg fa h KX G hmg
    refine' PV.all_mk KX G hmg ?a_is_element ?l_is_element ?c_is_element ?k_is_element ?a_ask_table ?l_ask_table ?c_ask_table ?k_ask_table ?a_shown_row ?l_shown_row ?c_shown_row ?k_shown_row ?a_shown ?l_shown ?c_shown ?k_shown ?a_read_number ?l_read_number ?c_read_number ?k_read_number ?a_read_row ?l_read_row ?c_read_row ?k_read_row ?a_read ?l_read ?c_read ?k_read ?a_law_cell_at ?l_law_cell_at ?c_law_cell_at ?k_law_cell_at ?a_law_draw ?l_law_draw ?c_law_draw ?k_law_draw ?a_law_whole ?l_law_whole ?c_law_whole ?k_law_whole ?a_law_cycles ?l_law_cycles ?c_law_cycles ?k_law_cycles ?a_law_twisted ?l_law_twisted ?c_law_twisted ?k_law_twisted ?a_law_even ?l_law_even ?c_law_even ?k_law_even ?a_law_base ?l_law_base ?c_law_base ?k_law_base ?a_law_renamed ?l_law_renamed ?c_law_renamed ?k_law_renamed ?a_law_folk_by ?l_law_folk_by ?c_law_folk_by ?k_law_folk_by ?a_law_lists ?l_law_lists ?c_law_lists ?k_law_lists ?a_law_copy ?l_law_copy ?c_law_copy ?k_law_copy ?a_law ?l_law ?c_law ?k_law ?z_len ?z_range ?z_list ?z_all ?z_isinstance ?z_max ?z_int ?z_bool ?z_str ?z_tuple ?z_sorted ?z_set ?z_any ?z_enumerate ?z_dict ?v_MOST_ROWS
    (case a_is_element => k_is)
    (case l_is_element => k_is)
    (case c_is_element => k_is)
    (case k_is_element => k_is)
    (case a_ask_table => k_is)
    (case l_ask_table => k_is)
    (case c_ask_table => k_is)
    (case k_ask_table => k_is)
    (case a_shown_row => k_is)
    (case l_shown_row => k_is)
    (case c_shown_row => k_is)
    (case k_shown_row => k_is)
    (case a_shown => k_is)
    (case l_shown => k_is)
    (case c_shown => k_is)
    (case k_shown => k_is)
    (case a_read_number => k_is)
    (case l_read_number => k_is)
    (case c_read_number => k_is)
    (case k_read_number => k_is)
    (case a_read_row => k_is)
    (case l_read_row => k_is)
    (case c_read_row => k_is)
    (case k_read_row => k_is)
    (case a_read => k_is)
    (case l_read => k_is)
    (case c_read => k_is)
    (case k_read => k_is)
    (case a_law_cell_at => k_is)
    (case l_law_cell_at => k_is)
    (case c_law_cell_at => k_is)
    (case k_law_cell_at => k_is)
    (case a_law_draw => k_is)
    (case l_law_draw => k_is)
    (case c_law_draw => k_is)
    (case k_law_draw => k_is)
    (case a_law_whole => k_is)
    (case l_law_whole => k_is)
    (case c_law_whole => k_is)
    (case k_law_whole => k_is)
    (case a_law_cycles => k_is)
    (case l_law_cycles => k_is)
    (case c_law_cycles => k_is)
    (case k_law_cycles => k_is)
    (case a_law_twisted => k_is)
    (case l_law_twisted => k_is)
    (case c_law_twisted => k_is)
    (case k_law_twisted => k_is)
    (case a_law_even => k_is)
    (case l_law_even => k_is)
    (case c_law_even => k_is)
    (case k_law_even => k_is)
    (case a_law_base => k_is)
    (case l_law_base => k_is)
    (case c_law_base => k_is)
    (case k_law_base => k_is)
    (case a_law_renamed => k_is)
    (case l_law_renamed => k_is)
    (case c_law_renamed => k_is)
    (case k_law_renamed => k_is)
    (case a_law_folk_by => k_is)
    (case l_law_folk_by => k_is)
    (case c_law_folk_by => k_is)
    (case k_law_folk_by => k_is)
    (case a_law_lists => k_is)
    (case l_law_lists => k_is)
    (case c_law_lists => k_is)
    (case k_law_lists => k_is)
    (case a_law_copy => k_is)
    (case l_law_copy => k_is)
    (case c_law_copy => k_is)
    (case k_law_copy => k_is)
    (case a_law => k_is)
    (case l_law => k_is)
    (case c_law => k_is)
    (case k_law => k_is)
    (case z_len => k_is)
    (case z_range => k_is)
    (case z_list => k_is)
    (case z_all => k_is)
    (case z_isinstance => k_is)
    (case z_max => k_is)
    (case z_int => k_is)
    (case z_bool => k_is)
    (case z_str => k_is)
    (case z_tuple => k_is)
    (case z_sorted => k_is)
    (case z_set => k_is)
    (case z_any => k_is)
    (case z_enumerate => k_is)
    (case z_dict => k_is)
    (case v_MOST_ROWS => k_is)
