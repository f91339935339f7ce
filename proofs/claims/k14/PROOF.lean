import PyProof.Rows.All
import Wide.All
import OpenK.AllK
import Wide.FinOn
import Lean
import PyProof.EqAt
import PyProof.EqKinds
import PyProof.TupleCall
import PySem.Str
import PyProof.NeKinds
import PyProof.SetKind
import PyProof.DictStraight
import PyProof.Rows.TupIn
import PyProof.CollectIter
import PyProof.FactsAll.set
import PyProof.SetNew
import PyProof.Rows.SortShell
import PyProof.Rows.SetFrom
import KE.KSortAsk
import PyProof.StrLawsTight
import PyProof.StrCalls2
import KE.KIntText
import PyProof.StrWalks
import PyProof.SliceStr2
import KE.IntTextText
import PySem.Challenge.RW_tablefolk_k14_read_or_refused
set_option Elab.async false
set_option linter.all false
set_option maxRecDepth 100000
namespace L2
open PySem PySem.Spec PyProof.Rows
noncomputable abbrev Key:=Sum Int Str
noncomputable def ZgT:Key→Value→Bool
 | .inl k,v=>Value.isInt k v
 | .inr x,v=>Value.isStrOf x v
noncomputable def keyH (w:World):Key→Int
 | .inl k=>hashInt k
 | .inr x=>hashStr w x
theorem Yn:∀ {k:Key} {v:Value},ZgT k v=true→(∃ i t,k=Sum.inl i∧v=Value.int i t)∨(∃ x t,k=Sum.inr x∧v=Value.str x t)
 | .inl i,v,h=>by
  obtain ⟨t,e⟩:=Value.isInt_shape (k:=i) (v:=v) h
  exact .inl ⟨i,t,rfl,e⟩
 | .inr x,v,h=>by
  obtain ⟨t,e⟩:=Value.isStrOf_shape (x:=x) (v:=v) h
  exact .inr ⟨x,t,rfl,e⟩
theorem Zis (a b:Int):decide ((Sum.inl a:Key)=Sum.inl b)=(a == b):=by
 by_cases e:a=b
 ·subst e;simp
 ·have h:¬ (Sum.inl a:Key)=Sum.inl b:=fun q=>e (Sum.inl.inj q)
  rw [decide_eq_false h]
  exact (beq_eq_false_iff_ne.mpr e).symm
theorem Zie (a b:Str):decide ((Sum.inr a:Key)=Sum.inr b)=decide (a=b):=by
 by_cases e:a=b
 ·subst e;simp
 ·have h:¬ (Sum.inr a:Key)=Sum.inr b:=fun q=>e (Sum.inr.inj q)
  rw [decide_eq_false h,decide_eq_false e]
theorem Zii (a:Int)(b:Str):decide ((Sum.inl a:Key)=Sum.inr b)=false:=decide_eq_false (fun q=>nomatch q)
theorem ZiF (a:Str)(b:Int):decide ((Sum.inr a:Key)=Sum.inl b)=false:=decide_eq_false (fun q=>nomatch q)
noncomputable def Zeh (prog:Program) (w:World):PySem.KeyKind prog w Key where
 is:=ZgT
 hash:=keyH w
 inj:=fun v a b ha hb=>by
  rcases Yn ha with ⟨i,t,rfl,rfl⟩ | ⟨x,t,rfl,rfl⟩
  ·rcases Yn hb with ⟨j,u,rfl,e⟩ | ⟨y,u,rfl,e⟩
   ·injection e with e1 _;rw [e1]
   ·exact nomatch e
  ·rcases Yn hb with ⟨j,u,rfl,e⟩ | ⟨y,u,rfl,e⟩
   ·exact nomatch e
   ·injection e with e1 _;rw [e1]
 byValue:=fun k v h=>by
  rcases Yn h with ⟨i,t,rfl,rfl⟩ | ⟨x,t,rfl,rfl⟩ <;> rfl
 pyHash:=fun hv h=>by
  rcases Yn hv with ⟨i,t,rfl,rfl⟩ | ⟨x,t,rfl,rfl⟩
  ·exact wpAny_pyHash_int h
  ·exact wpAny_pyHash_str h
 eqBool:=fun hu hv h=>by
  rcases Yn hu with ⟨i,t,rfl,rfl⟩ | ⟨x,t,rfl,rfl⟩
  ·rcases Yn hv with ⟨j,u,rfl,rfl⟩ | ⟨y,u,rfl,rfl⟩
   ·rw [Zis] at h;exact wpAny_eqBool_int h
   ·rw [Zii] at h;exact SeqAt.EqAt.int_str i t y u _ _ _ _ h
  ·rcases Yn hv with ⟨j,u,rfl,rfl⟩ | ⟨y,u,rfl,rfl⟩
   ·rw [ZiF] at h;exact SeqAt.EqAt.str_int x t j u _ _ _ _ h
   ·rw [Zie] at h;exact wpAny_eqBool_str h
 «strs»:=fun k x t v h=>by
  rcases Yn h with ⟨i,u,rfl,e⟩ | ⟨y,u,rfl,e⟩
  ·exact nomatch e
  ·injection e with e1 _
   subst e1
   cases v <;> rfl
end L2
namespace L2
open PySem PySem.Spec PyProof.Rows
inductive V where
 | non | bl (b:Bool) | int (i:Int) | str (x:Str) | byt (b:Array UInt8) | flt (b:UInt64) | ref (a:Addr) | ty (n:String)
 deriving DecidableEq
noncomputable def RelV:V→Value→Prop
 | .non,u=>u=Value.none
 | .bl b,u=>u=Value.bool b
 | .int i,u=>∃ t,u=Value.int i t
 | .str x,u=>∃ t,u=Value.str x t
 | .byt b,u=>∃ t,u=Value.bytes b t
 | .flt b,u=>∃ t,u=Value.float b t
 | .ref a,u=>u=Value.ref a
 | .ty n,u=>u=Value.type n
noncomputable abbrev Vals:List V→List Value→Prop:=Paired RelV
theorem Vals.length {xs:List V}{us:List Value}(r:Vals xs us):xs.length=us.length:=Paired.length r
theorem Vals.get:∀ {xs:List V} {us:List Value} {i:Nat} {x:V},Vals xs us→xs[i]?=some x→∃ u,us[i]?=some u∧RelV x u
 | _,_,_,_,.nil,e=>by simp at e
 | _,_,0,_,.cons r _,e=>by simp at e;subst e;exact ⟨_,rfl,r⟩
 | _,_,i + 1,x,.cons _ t,e=>by
  obtain ⟨u,h1,h2⟩:=Vals.get (i:=i) (x:=x) t (by simpa using e)
  exact ⟨u,by simpa using h1,h2⟩
theorem Vals.set {x:V}{u:Value}(r:RelV x u):∀ {xs:List V} {us:List Value} (i:Nat),Vals xs us→Vals (xs.set i x) (us.set i u)
 | _,_,_,.nil=>.nil
 | _,_,0,.cons _ t=>.cons r t
 | _,_,i + 1,.cons q t=>.cons q (Vals.set r i t)
theorem Vals.append:∀ {xs ys:List V} {us ws:List Value},Vals xs us→Vals ys ws→Vals (xs++ys) (us++ws)
 | _,_,_,_,.nil,s=>s
 | _,_,_,_,.cons r t,s=>.cons r (Vals.append t s)
theorem Vals.take:∀ {xs:List V} {us:List Value} (n:Nat),Vals xs us→Vals (xs.take n) (us.take n)
 | _,_,0,_=>.nil
 | _,_,_ + 1,.nil=>.nil
 | _,_,n + 1,.cons r t=>.cons r (Vals.take n t)
theorem Vals.drop:∀ {xs:List V} {us:List Value} (n:Nat),Vals xs us→Vals (xs.drop n) (us.drop n)
 | _,_,0,r=>r
 | _,_,_ + 1,.nil=>.nil
 | _,_,n + 1,.cons _ t=>Vals.drop n t
noncomputable def RelO:Option V→Option Value→Prop
 | some v,some u=>RelV v u
 | none,none=>True
 | _,_=>False
noncomputable def KV {κ:Type}:List (κ × V)→List (κ × Value)→Prop:=Paired fun (p:κ × V) (q:κ × Value)=>p.1=q.1∧RelV p.2 q.2
noncomputable def kV:Key→V
 | .inl i=>.int i
 | .inr x=>.str x
inductive HO where
 | lst (xs:List V)
 | tup (xs:List V)
 | dK (kvs:List (Key × V)) | dT (kvs:List (List Key × V))
 | set (S:Int→Bool) (n:Nat)
 | ins (C dx:Addr) (fs:List (Str × V))
 | own (x:Addr)
 | xd (fs:List (Str × V))
 | met (f x:Addr)
 | rng (lo hi:Int)
 | frz (o:Obj) (u:HO)
 | tbl (ps:Array Value)
 | ext (φ:Heap→Prop)
noncomputable abbrev Hp:=Addr→Option HO
noncomputable def upd (H:Hp) (a:Addr) (o:HO):Hp:=fun b=>if b=a then some o else H b
theorem Zb {H:Hp}{a:Addr}{o:HO}:upd H a o a=some o:=by unfold upd;rw [if_pos rfl]
theorem Yb {H:Hp}{a b:Addr}{o:HO}(h:b≠a):upd H a o b=H b:=by unfold upd;rw [if_neg h]
theorem Jb {H:Hp}{a b:Addr}{o:HO}(h:H a=some o)(h':H b=none):a≠b:=by
 intro e;subst e;rw [h] at h';cases h'
section
variable (P:Program) (w:World)
noncomputable def Ju (H : Hp) (h : Heap) (a : Addr) : HO → Prop
  | .lst xs => xs.length ≤ sizeLine ∧ ∃ (its : List Value) (n : Nat), Vals xs its ∧ h.get? a = some { cls := .type "list", data := .seq its.toArray n }
  | .tup xs => xs.length ≤ sizeLine ∧ ∃ its : List Value, Vals xs its ∧ IsTup h a its.toArray
  | .dK kvs => kvs.length ≤ sizeLine ∧ (a == sysModules) = false ∧ ∃ vs, KV kvs vs ∧ h.DictOf (Zeh P w) a vs
  | .dT kvs => kvs.length ≤ sizeLine ∧ (a == sysModules) = false ∧ ∃ xs : List (List Key × Addr × Value),
      Paired (fun (p : List Key × V) (q : List Key × Addr × Value) => p.1 = q.1 ∧ H q.2.1 = some (.tup (p.1.map kV)) ∧ RelV p.2 q.2.2) kvs xs ∧
      ∃ o es ep, h.get? a = some o ∧ o.ExactDict ∧ o.data = .dict es ep ∧ es.toList = xs.map (entryOfKey (tupleKind (Zeh P w))) ∧ (xs.map (·.1)).Nodup
  | .set S n => h.SetOf (intKind P w) a S n
  | .ins C dx fs => H dx = some (.own a) ∧ fs.length ≤ 1000 ∧ dx ≠ a ∧ h.get? a = some (PySem.W.instObj C dx) ∧
      ∃ mA, h.Ns1 dx mA ∧ (∀ f, RelO (fs.lookup f) (mA f)) ∧ PySem.Within mA (fs.map (·.1))
  | .own _ => ∃ o, h.get? a = some o
  | .xd fs => ∃ mA, h.Ns1 a mA ∧ ∀ f, RelO (fs.lookup f) (mA f)
  | .rng lo hi => ∃ t u v, h.get? a = some { cls := .type "range", data := .fields #[.int lo t, .int hi u, .int 1 v] }
  | .frz o u => h.get? a = some o ∧ Ju H h a u
  | .tbl ps => h.get? a = some { cls := .none, data := .fields ps }
  | .met f x => h.get? a = some (PySem.W.methodObj (.ref f) (.ref x))
  | .ext φ => φ h ∧ (∃ o, h.get? a = some o) ∧ ∀ h1 h2 : Heap, φ h1 → (∀ o, h1.get? a = some o → h2.get? a = some o) → φ h2
noncomputable def HOk (H:Hp) (h:Heap):Prop:=∀ a o,H a=some o→Ju P w H h a o
end
section
variable {P:Program} {w:World} {H H':Hp} {h h':Heap} {a:Addr} {o:HO}
theorem Ju.lt (x:Ju P w H h a o):a < h.objs.size:=by
 cases o with
 | lst xs=>obtain ⟨_,_,_,_,e⟩:=x;exact Heap.lt_size e
 | tup xs=>obtain ⟨_,_,_,p⟩:=x;exact p.lt
 | dK kvs=>obtain ⟨_,_,_,_,o,_,_,e,_⟩:=x;exact Heap.lt_size e
 | dT kvs=>obtain ⟨_,_,_,_,o,_,_,e,_⟩:=x;exact Heap.lt_size e
 | set S n=>obtain ⟨o,_,_,_,e,_⟩:=x;exact Heap.lt_size e
 | ins C dx fs=>obtain ⟨_,_,_,e,_⟩:=x;exact Heap.lt_size e
 | own y=>obtain ⟨_,e⟩:=x;exact Heap.lt_size e
 | xd fs=>obtain ⟨_,⟨_,_,_,e,_⟩,_⟩:=x;exact Heap.lt_size e
 | rng lo hi=>obtain ⟨_,_,_,e⟩:=x;exact Heap.lt_size e
 | frz ob u=>obtain ⟨e,_⟩:=x;exact Heap.lt_size e
 | tbl ps=>exact Heap.lt_size (show h.get? a=some _ from x)
 | met f y=>exact Heap.lt_size (show h.get? a=some _ from x)
 | ext φ=>obtain ⟨_,⟨_,e⟩,_⟩:=x;exact Heap.lt_size e
theorem Paired.mapP {α β:Type}{F G:α→β→Prop}:∀ {l₁:List α} {l₂:List β},Paired F l₁ l₂→(∀ a b,F a b→G a b)→Paired G l₁ l₂
 | _,_,.nil,_=>.nil
 | _,_,.cons r t,f=>.cons (f _ _ r) (Paired.mapP t f)
theorem Ju.stay (x:Ju P w H h a o)(k:∀ b u,(b=a∨H b=some (.own a))→h.get? b=some u→h'.get? b=some u)
  (ho:∀ b,H b=some (.own a)→H' b=some (.own a)) (ht:∀ b xs,H b=some (.tup xs)→H' b=some (.tup xs)):Ju P w H' h' a o:=by
 induction o with
 | lst xs=>obtain ⟨z,its,n,r,e⟩:=x;exact ⟨z,its,n,r,k _ _ (.inl rfl) e⟩
 | tup xs=>obtain ⟨z,its,r,ob,e,c⟩:=x;exact ⟨z,its,r,ob,k _ _ (.inl rfl) e,c⟩
 | dK kvs=>obtain ⟨z,y,vs,r,ob,es,ep,e,c⟩:=x;exact ⟨z,y,vs,r,ob,es,ep,k _ _ (.inl rfl) e,c⟩
 | dT kvs =>
  obtain ⟨z,y,xs,r,ob,es,ep,e,c⟩:=x
  exact ⟨z,y,xs,Paired.mapP r fun p q z=>⟨z.1,ht _ _ z.2.1,z.2.2⟩,ob,es,ep,k _ _ (.inl rfl) e,c⟩
 | set S n=>obtain ⟨ob,es,ep,t,e,c⟩:=x;exact ⟨ob,es,ep,t,k _ _ (.inl rfl) e,c⟩
 | ins C dx fs =>
  obtain ⟨d,z,ne,e,mA,⟨od,es,ep,e2,c⟩,r⟩:=x
  exact ⟨ho _ d,z,ne,k _ _ (.inl rfl) e,mA,⟨od,es,ep,k _ _ (.inr d) e2,c⟩,r⟩
 | own y=>obtain ⟨ob,e⟩:=x;exact ⟨ob,k _ _ (.inl rfl) e⟩
 | xd fs=>obtain ⟨mA,⟨od,es,ep,e,c⟩,r⟩:=x;exact ⟨mA,⟨od,es,ep,k _ _ (.inl rfl) e,c⟩,r⟩
 | rng lo hi=>obtain ⟨t,u,v,e⟩:=x;exact ⟨t,u,v,k _ _ (.inl rfl) e⟩
 | frz ob u ih=>obtain ⟨e,q⟩:=x;exact ⟨k _ _ (.inl rfl) e,ih q⟩
 | tbl ps =>
  have e:h.get? a=some { cls:=.none,data:=.fields ps }:=x
  show h'.get? a=some { cls:=.none,data:=.fields ps }
  exact k a _ (.inl rfl) e
 | met f y =>
  have e:h.get? a=some (PySem.W.methodObj (.ref f) (.ref y)):=x
  show h'.get? a=some (PySem.W.methodObj (.ref f) (.ref y))
  exact k a _ (.inl rfl) e
 | ext φ=>obtain ⟨p,⟨o,e⟩,st⟩:=x;exact ⟨st _ _ p fun o q=>k _ _ (.inl rfl) q,⟨o,k _ _ (.inl rfl) e⟩,st⟩
theorem HOk.lt (x:HOk P w H h)(e:H a=some o):a < h.objs.size:=(x a o e).lt
theorem HOk.fresh (x:HOk P w H h)(e:h.objs.size≤a):H a=none:=by
 cases q:H a with
 | none=>rfl
 | some u=>exact absurd (Nat.lt_of_lt_of_le (x.lt q) e) (Nat.lt_irrefl _)
theorem HOk.kept (x:HOk P w H h)(k:∀ b u,h.get? b=some u→h'.get? b=some u):HOk P w H h':=fun a o e =>
 (x a o e).stay (fun b u _ q=>k b u q) (fun _ q=>q) fun _ _ q=>q
theorem HOk.laid (x:HOk P w H h)(k:∀ b u,h.get? b=some u→h'.get? b=some u)(hp:h.objs.size≤a)(new:Ju P w (upd H a o) h' a o):HOk P w (upd H a o) h':=fun b u e=>by
 have hn:=x.fresh hp
 by_cases hb:b=a
 ·subst hb;rw [Zb] at e;cases e;exact new
 ·rw [Yb hb] at e
  exact (x b u e).stay (fun c v _ q=>k c v q) (fun c q=>by rw [Yb (Jb q hn)];exact q) fun c xs q=>by rw [Yb (Jb q hn)];exact q
end
noncomputable def Rd (H:Hp) (a:Addr) (u:HO):Prop:=H a=some u∨∃ o,H a=some (.frz o u)
theorem Rd.of {H:Hp}{a:Addr}{u:HO}(h:H a=some u):Rd H a u:=.inl h
theorem Rd.ok {P:Program}{w:World}{H:Hp}{h:Heap}{a:Addr}{u:HO}(r:Rd H a u)(x:HOk P w H h):Ju P w H h a u:=by
 rcases r with r | ⟨o,r⟩
 ·exact x a u r
 ·obtain ⟨_,q⟩:=x a _ r
  exact q
noncomputable def Mut:Option HO→Prop
 | some (.lst _)=>True
 | some (.dK _)=>True
 | some (.dT _)=>True
 | some (.set _ _)=>True
 | some (.ins _ _ _)=>True
 | some (.ext _)=>True
 | _=>False
section
variable {P:Program} {w:World} {H:Hp} {h h':Heap} {x e:Addr} {o':HO}
theorem HOk.write (ok : HOk P w H h)(mu : Mut (H x))(he : e = x ∨ H e = some (.own x))(k : ∀ b u, b ≠ e → h.get? b = some u → h'.get? b = some u)(heo : ∃ u, h'.get? e = some u)
    (new : Ju P w (upd H x o') h' x o') : HOk P w (upd H x o') h' := fun b u q => by
  have nown : ∀ c y, H c = some (.own y) → c ≠ x := fun c y r z => by subst z; rw [r] at mu; exact mu
  have ntup : ∀ c xs, H c = some (.tup xs) → c ≠ x := fun c xs r z => by subst z; rw [r] at mu; exact mu
  by_cases hb : b = x
  · subst hb; rw [Zb] at q; cases q; exact new
  · rw [Yb hb] at q
    by_cases hbe : b = e
    · have q' : H b = some (.own x) := by
        rcases he with z | z
        · exact absurd (hbe.trans z) hb
        · rw [hbe]; exact z
      rw [q] at q'; cases q'
      obtain ⟨v, hv⟩ := heo
      exact ⟨v, by rw [hbe]; exact hv⟩
    · refine (ok b u q).stay (fun c v hc r => k c v ?_ r) (fun c r => by rw [Yb (nown c b r)]; exact r) fun c xs r => by rw [Yb (ntup c xs r)]; exact r
      rcases hc with rfl | hc
      · exact hbe
      · rintro rfl
        rcases he with z | z
        · exact nown c b hc z
        · rw [hc] at z; cases z; exact hb rfl
end
structure Un (fs ex:List Addr)(H H':Hp)(h h':Heap):Prop where
 keep:∀ b o,h.get? b=some o→H b=none→b ∉ fs→b ∉ ex→h'.get? b=some o
 slot:∀ b o,h.get? b=some o→H b=none→b ∈ fs→b ∉ ex→∃ sl,h'.get? b=some { o with slots:=sl }
 free:∀ b o,h.get? b=some o→H b=none→b ∉ ex→H' b=none
 there:∀ b o,h.get? b=some o→b ∉ ex→∃ o',h'.get? b=some o'
 tups:∀ b xs,H b=some (.tup xs)→H' b=some (.tup xs)
 frzs:∀ b o u,H b=some (.frz o u)→H' b=some (.frz o u)
 tbls:∀ b ps,H b=some (.tbl ps)→∃ more,H' b=some (.tbl (ps++more))
section
variable {fs fs' ex ex':List Addr} {H H1 H2:Hp} {h h1 h2 h':Heap} {a x e:Addr} {o:HO}
theorem Un.any (u:Un fs ex H H1 h h1){b:Addr}{ob:Obj}(q:h.get? b=some ob)(n:H b=none)(hx:b ∉ ex):∃ sl,h1.get? b=some { ob with slots:=sl }:=by
 by_cases hb:b ∈ fs
 ·exact u.slot b ob q n hb hx
 ·exact ⟨ob.slots,u.keep b ob q n hb hx⟩
theorem Un.trans (a:Un fs ex H H1 h h1)(b:Un fs ex H1 H2 h1 h2):Un fs ex H H2 h h2 where
 keep:=fun c ob q n hc hx=>b.keep c ob (a.keep c ob q n hc hx) (a.free c ob q n hx) hc hx
 slot:=fun c ob q n hc hx=>by
  obtain ⟨sl,e1⟩:=a.slot c ob q n hc hx
  obtain ⟨sl',e2⟩:=b.slot c _ e1 (a.free c ob q n hx) hc hx
  exact ⟨sl',e2⟩
 free:=fun c ob q n hx=>by
  obtain ⟨o',e1⟩:=a.there c ob q hx
  exact b.free c o' e1 (a.free c ob q n hx) hx
 there:=fun c ob q hx=>by
  obtain ⟨o',e1⟩:=a.there c ob q hx
  exact b.there c o' e1 hx
 tups:=fun c xs q=>b.tups c xs (a.tups c xs q)
 frzs:=fun c ob xs q=>b.frzs c ob xs (a.frzs c ob xs q)
 tbls:=fun c ps q=>by
  obtain ⟨m1,e1⟩:=a.tbls c ps q
  obtain ⟨m2,e2⟩:=b.tbls c _ e1
  exact ⟨m1++m2,by rw [e2,Array.append_assoc]⟩
theorem Un.kept (k:∀ b u,h.get? b=some u→h'.get? b=some u):Un fs ex H H h h' :=
 ⟨fun b ob q _ _ _=>k b ob q,fun b ob q _ _ _=>⟨ob.slots,k b ob q⟩,fun _ _ _ n _=>n,fun b ob q _=>⟨ob,k b ob q⟩,fun _ _ q=>q,fun _ _ _ q=>q,fun _ ps q=>⟨#[],by rw [q];simp⟩⟩
theorem Un.refl:Un fs ex H H h h:=Un.kept fun _ _ q=>q
theorem Un.laid (k:∀ b u,h.get? b=some u→h'.get? b=some u)(hp:h.objs.size≤a)(hn:H a=none):Un fs ex H (upd H a o) h h' where
 keep:=fun b u q _ _ _=>k b u q
 slot:=fun b u q _ _ _=>⟨u.slots,k b u q⟩
 free:=fun b u q n _=>by rw [Yb (Nat.ne_of_lt (Nat.lt_of_lt_of_le (Heap.lt_size q) hp))];exact n
 there:=fun b u q _=>⟨u,k b u q⟩
 tups:=fun b xs q=>by rw [Yb (Jb q hn)];exact q
 frzs:=fun b u xs q=>by rw [Yb (Jb q hn)];exact q
 tbls:=fun b ps q=>⟨#[],by rw [Yb (Jb q hn),q];simp⟩
theorem Un.write (mu:Mut (H x))(he:e=x∨H e=some (.own x))(k:∀ b u,b≠e→h.get? b=some u→h'.get? b=some u)(heo:∃ u,h'.get? e=some u):Un fs ex H (upd H x o) h h':=by
 have hx:∀ b,H b=none→b≠x:=fun b n z=>by subst z;rw [n] at mu;exact mu
 have hb:∀ b,H b=none→b≠e:=fun b n z=>by
  subst z
  rcases he with r | r
  ·exact hx b n r
  ·rw [n] at r;cases r
 have hm:∀ b u,H b=some u→¬ Mut (some u)→b≠x:=fun b u q nm z=>by subst z;rw [q] at mu;exact nm mu
 refine ⟨fun b u q n _ _=>k b u (hb b n) q,fun b u q n _ _=>⟨u.slots,k b u (hb b n) q⟩,fun b u q n _=>by rw [Yb (hx b n)];exact n,fun b u q _=>?_,
  fun b xs q=>by rw [Yb (hm b _ q fun z=>z)];exact q,fun b u xs q=>by rw [Yb (hm b _ q fun z=>z)];exact q,fun b ps q=>⟨#[],by rw [Yb (hm b _ q fun z=>z),q];simp⟩⟩
 by_cases hbe:b=e
 ·subst hbe;exact heo
 ·exact ⟨u,k b u hbe q⟩
theorem Un.mono (u:Un fs ex H H1 h h1)(hs:∀ b ∈ fs,b ∈ fs')(hx:∀ b ∈ ex,b ∈ ex'):Un fs' ex' H H1 h h1 :=
 ⟨fun b ob q n hb he=>u.keep b ob q n (fun z=>hb (hs b z)) fun z=>he (hx b z),fun _ _ q n _ he=>u.any q n fun z=>he (hx _ z),fun b ob q n he=>u.free b ob q n fun z=>he (hx b z),fun b ob q he=>u.there b ob q fun z=>he (hx b z),u.tups,u.frzs,u.tbls⟩
end
noncomputable def trk (h:Heap) (H:Hp):List Addr:=(List.range h.objs.size).filter fun a=>(H a).isSome
noncomputable def hidT (h:Heap) (H:Hp):Heap:=PySem.W.hideAll h (trk h H)
theorem ZfS (h:Heap)(H:Hp):(hidT h H).objs.size=h.objs.size:=PySem.W.hideAll_size _ _
theorem ZgL {h:Heap}{H:Hp}{b:Addr}{o:Obj}(e:h.get? b=some o)(n:H b=none):(hidT h H).get? b=some o :=
 PySem.W.hideAll_get _ e fun hm=>by
  have q:(H b).isSome=true:=(List.mem_filter.mp hm).2
  rw [n] at q;simp at q
theorem Zhu {h:Heap}{H:Hp}{b:Addr}{o:Obj}(e:(hidT h H).get? b=some o):h.get? b=some o∧H b=none:=by
 have e':h.get? b=some o:=PySem.W.of_hideAll (trk h H) e
 refine ⟨e',?_⟩
 cases q:H b with
 | none=>rfl
 | some x =>
  have hm:b ∈ trk h H:=List.mem_filter.mpr ⟨List.mem_range.mpr (Heap.lt_size e'),by simp [q]⟩
  have z:(hidT h H).get? b=none:=PySem.W.hideAll_none (trk h H) hm
  rw [z] at e;cases e
noncomputable def ZhG (g h:Heap) (L:Addr):List (Addr × Obj):=(List.range h.objs.size).filterMap fun a=>if a=L∨(g.get? a).isSome=true then none else (h.get? a).map fun o=>(a,o)
noncomputable def rest (g h:Heap) (L d:Addr):List (Addr × Obj):=(ZhG g h L).filter fun p=>decide (p.1≠d)
end L2
namespace L2
open PySem PySem.Spec PyProof.Rows
structure Mod (K:PySem.W.Frag)(mg:Str→Option Value)(base:Heap):Prop where
 kin:K.In base
 glob:base.Ns mainGlobals mg
 blt:∃ mb,base.Ns builtinsNs mb∧∀ x:Str,x≠"__name__"→mb x=bootBuiltins x
 nolimit:base.NoLimit
structure Cx where
 prog:Program
 w:World
 K:PySem.W.Frag
 mg:Str→Option Value
 base:Heap
 A:Around
 N:List Str
 s₀:Shared
 H₀:Hp
 env:Env
 outer:List Env
 stack:List Env
 ex:List Addr
 fn:Str→Bool
 calm:Bool
 pn:List (Addr × Obj)
 xe:Value→Shared→Prop
noncomputable def frs (l:List Env):List Addr:=l.filterMap (·.frame)
noncomputable abbrev Cx.fs (X:Cx):List Addr:=frs X.outer
noncomputable def Vis (sc:Scope) (x:Str):Prop:=sc.names.lookup x=some .local∨sc.names.lookup x=some .cell∨sc.names.lookup x=some .free
noncomputable def Loc (sc:Scope) (x:Str):Prop:=sc.names.lookup x=some .local∨sc.names.lookup x=some .cell
noncomputable def Look (env:Env) (h:Heap) (m:Str→Option Value) (x:Str) (u:Value):Prop :=
 (env.kindOf x=some .local∧m x=some u)∨((env.kindOf x=some .cell∨env.kindOf x=some .free)∧∃ c,env.cells.lookup x=some c∧h.IsCell c (some u))
structure Cx.Ok (X:Cx):Prop where
 mod:Mod X.K X.mg X.base
 kind:X.env.scope.kind=.function
 glob:X.env.globals=mainGlobals
 blt:X.env.builtins=builtinsNs
 above:X.s₀.heap.objs.size≤X.env.locals
 inj:∀ x y c,X.env.cells.lookup x=some c→X.env.cells.lookup y=some c→x=y
 has:∀ x,(X.env.kindOf x=some .cell∨X.env.kindOf x=some .free)→∃ c,X.env.cells.lookup x=some c
 cab:∀ x c,X.fn x=true→X.env.cells.lookup x=some c→X.s₀.heap.objs.size≤c
 hd:X.calm=true→X.A.handled=none
 frames:X.A.frames=some X.stack
 stk:X.stack=X.outer∨(X.stack=X.env::X.outer∧X.env.frame=some X.env.locals)
 exf:∀ b ∈ X.ex,b≠X.env.locals∧∀ x c,X.env.cells.lookup x=some c→c≠b
 bs:∀ b o,X.base.get? b=some o→X.s₀.heap.get? b=some o∧X.H₀ b=none
 bsz:X.base.objs.size≤X.s₀.heap.objs.size
 noex:∀ b o,X.base.get? b=some o→b ∉ X.ex
 exfs:∀ b ∈ X.ex,b ∉ X.fs
 funs:X.s₀.heap.FunFrames X.base X.outer
 frf:∀ b ∈ X.fs,X.H₀ b=none
structure Inv (X:Cx)(pins:List (Addr × Obj))(σ:List (Option V))(H:Hp)(s:Shared):Prop where
 ok:X.Ok
 os:s.os=X.s₀.os
 bare:AllBare s.gens
 base:Un X.fs X.ex X.H₀ H X.s₀.heap s.heap
 loc:∃ m,s.heap.Ns X.env.locals m∧∀ (i:Nat) (x:Str) (v:V),X.N[i]?=some x→σ[i]?=some (some v)→Vis X.env.scope x→∃ u,RelV v u∧Look X.env s.heap m x u
 cell:∀ x c,X.env.cells.lookup x=some c→∃ v,s.heap.IsCell c v
 free:H X.env.locals=none
 freeC:∀ x c,X.env.cells.lookup x=some c→H c=none
 pin:∀ p ∈ X.pn++pins,s.heap.get? p.1=some p.2∧H p.1=none∧p.1≠X.env.locals∧p.1 ∉ X.fs∧∀ v,p.2.data≠.cell v
 hok:HOk X.prog X.w H s.heap
 len:σ.length=X.N.length
section
variable {X:Cx} {pins:List (Addr × Obj)} {σ:List (Option V)} {H H':Hp} {s:Shared} {h':Heap}
theorem Cx.Ok.nofr (ok:X.Ok){b:Addr}{o:Obj}(e:X.base.get? b=some o):b ∉ X.fs:=fun hb=>by
 have:=(ok.funs.mem hb).1
 rw [e] at this;cases this
theorem Inv.bs (I:Inv X pins σ H s):∀ b o,X.base.get? b=some o→s.heap.get? b=some o∧H b=none:=fun b o e =>
 ⟨I.base.keep b o (I.ok.bs b o e).1 (I.ok.bs b o e).2 (I.ok.nofr e) (I.ok.noex b o e),I.base.free b o (I.ok.bs b o e).1 (I.ok.bs b o e).2 (I.ok.noex b o e)⟩
theorem Inv.bk (I:Inv X pins σ H s):∀ b o,X.base.get? b=some o→s.heap.get? b=some o:=fun b o e=>(I.bs b o e).1
theorem Inv.mod (I:Inv X pins σ H s):Mod X.K X.mg X.base:=I.ok.mod
theorem Inv.kIn (I:Inv X pins σ H s):X.K.In s.heap:=I.ok.mod.kin.keeps I.bk
theorem Inv.nolimit (I:Inv X pins σ H s):s.heap.NoLimit:=I.ok.mod.nolimit.keeps I.bk
theorem Inv.fr (I:Inv X pins σ H s):∃ m,Fr X.base X.env.locals s.heap m :=
 let ⟨m,hn,_⟩:=I.loc
 ⟨m,hn,I.bk,Nat.le_trans I.ok.bsz I.ok.above⟩
theorem Inv.lt (I:Inv X pins σ H s):X.env.locals < s.heap.objs.size:=let ⟨_,hn,_⟩:=I.loc;hn.lt
theorem Inv.sz (I:Inv X pins σ H s):X.s₀.heap.objs.size≤s.heap.objs.size:=Nat.le_trans I.ok.above (Nat.le_of_lt I.lt)
theorem Inv.nofs (I:Inv X pins σ H s){a:Addr}(h:s.heap.objs.size≤a):a ∉ X.fs:=fun hb=>by
 obtain ⟨_,o,ho,_⟩:=I.ok.funs.mem hb
 exact absurd (Nat.lt_of_lt_of_le (Heap.lt_size ho) (Nat.le_trans I.sz h)) (Nat.lt_irrefl _)
theorem Inv.cne (I:Inv X pins σ H s):∀ x c,X.env.cells.lookup x=some c→c≠X.env.locals:=fun x c e z=>by
 obtain ⟨v,o,ho,hd⟩:=I.cell x c e
 obtain ⟨m,⟨o',es,ep,ho',hd',_⟩,_⟩:=I.loc
 rw [z,ho'] at ho;cases ho;rw [hd'] at hd;cases hd
theorem Inv.funs (I:Inv X pins σ H s):s.heap.FunFrames X.base X.outer:=by
 have all:∀ (l:List Env),(∀ b ∈ frs l,b ∈ X.fs)→X.s₀.heap.FunFrames X.base l→s.heap.FunFrames X.base l:=by
  intro l
  induction l with
  | nil=>intro _ _;trivial
  | cons env r ih =>
   intro hs hl
   obtain ⟨hk,⟨L,o,hf,hn,ho,hd⟩,hr⟩:=hl
   have hL:L ∈ X.fs:=hs L (by unfold frs;rw [List.filterMap_cons,hf];exact List.mem_cons_self)
   obtain ⟨sl,e⟩:=I.base.slot L o ho (I.ok.frf L hL) hL fun z=>I.ok.exfs L z hL
   exact ⟨hk,⟨L,_,hf,hn,e,hd⟩,ih (fun b hb=>hs b (by unfold frs;rw [List.filterMap_cons,hf];exact List.mem_cons_of_mem _ hb)) hr⟩
 exact all X.outer (fun _ hb=>hb) I.ok.funs
theorem Inv.stack (I:Inv X pins σ H s):s.heap.FunFrames X.base X.stack:=by
 rcases I.ok.stk with e | ⟨e,hf⟩
 ·rw [e];exact I.funs
 ·rw [e]
  obtain ⟨m,hn,_⟩:=I.loc
  refine .cons (by rw [I.ok.kind];decide) hf hn ?_ I.funs
  exact Heap.get?_none_of_le (Nat.le_trans I.ok.bsz I.ok.above)
theorem Inv.YX (I:Inv X pins σ H s):∀ b ∈ frs X.stack,b ∈ X.env.locals::X.fs:=fun b hb=>by
 rcases I.ok.stk with e | ⟨e,hf⟩
 ·rw [e] at hb;exact List.mem_cons_of_mem _ hb
 ·rw [e] at hb
  unfold frs at hb
  rw [List.filterMap_cons,hf] at hb
  exact hb
theorem Inv.ZcI (I:Inv X pins σ H s):∀ b ∈ frs X.stack,H b=none:=fun b hb=>by
 rcases List.mem_cons.mp (I.YX b hb) with e | hb
 ·rw [e];exact I.free
 ·obtain ⟨_,o,ho,_⟩:=I.ok.funs.mem hb
  exact I.base.free b o ho (I.ok.frf b hb) fun z=>I.ok.exfs b z hb
theorem Inv.step {g':Array GenState}{t':Nat}{d':Drawn}{ch:List Addr}(I:Inv X pins σ H s)
  (hch:∀ b ∈ ch,(b ∈ X.ex∨X.s₀.heap.objs.size≤b)∧b≠X.env.locals∧(∀ x c,X.env.cells.lookup x=some c→c≠b)∧∀ p ∈ X.pn++pins,p.1≠b)
  (keep:∀ b o,b≠X.env.locals→b ∉ X.fs→b ∉ ch→s.heap.get? b=some o→H b=none→h'.get? b=some o)
  (slot:∀ b o,b≠X.env.locals→b ∈ X.fs→b ∉ ch→s.heap.get? b=some o→H b=none→∃ sl,h'.get? b=some { o with slots:=sl }) (free:∀ b o,b ∉ ch→s.heap.get? b=some o→H b=none→H' b=none)
  (there:∀ b o,b ∉ ch→s.heap.get? b=some o→∃ o',h'.get? b=some o')
  (tups:∀ b xs,H b=some (.tup xs)→H' b=some (.tup xs)) (frzs:∀ b o u,H b=some (.frz o u)→H' b=some (.frz o u)) (tbls:∀ b ps,H b=some (.tbl ps)→∃ more,H' b=some (.tbl (ps++more)))
  (ns:∀ m,s.heap.Ns X.env.locals m→h'.Ns X.env.locals m) (hok:HOk X.prog X.w H' h') (hg:AllBare g') :
  Inv X pins σ H' { s with heap:=h',gens:=g',drawn:=d',toks:=t' }:=by
 have neL:∀ b o,X.s₀.heap.get? b=some o→b≠X.env.locals:=fun b o e=>Nat.ne_of_lt (Nat.lt_of_lt_of_le (Heap.lt_size e) I.ok.above)
 have neC:∀ b o,X.s₀.heap.get? b=some o→b ∉ X.ex→b ∉ ch:=fun b o e hx hb=>by
  rcases (hch b hb).1 with z | z
  ·exact hx z
  ·exact absurd (Nat.lt_of_lt_of_le (Heap.lt_size e) z) (Nat.lt_irrefl _)
 have cellK:∀ x c,X.env.cells.lookup x=some c→∀ v,s.heap.IsCell c v→h'.IsCell c v:=fun x c e v ⟨o,ho,hd⟩=>by
  have nch:c ∉ ch:=fun z=>(hch c z).2.2.1 x c e rfl
  by_cases hc:c ∈ X.fs
  ·obtain ⟨sl,q⟩:=slot c o (I.cne x c e) hc nch ho (I.freeC x c e)
   exact ⟨_,q,hd⟩
  ·exact ⟨o,keep c o (I.cne x c e) hc nch ho (I.freeC x c e),hd⟩
 refine ⟨I.ok,I.os,hg,⟨fun b o e n hb hx=>?_,fun b o e n hb hx=>?_,fun b o e n hx=>?_,fun b o e hx=>?_,fun b xs e=>tups b xs (I.base.tups b xs e),fun b o xs e=>frzs b o xs (I.base.frzs b o xs e),fun b ps e=>?_⟩,?_,fun x c e=>?_,?_,fun x c e=>?_,fun p hp=>?_,hok,I.len⟩
 ·exact keep b o (neL b o e) hb (neC b o e hx) (I.base.keep b o e n hb hx) (I.base.free b o e n hx)
 ·obtain ⟨sl,e1⟩:=I.base.slot b o e n hb hx
  obtain ⟨sl',e2⟩:=slot b _ (neL b o e) hb (neC b o e hx) e1 (I.base.free b o e n hx)
  exact ⟨sl',e2⟩
 ·obtain ⟨o',e1⟩:=I.base.there b o e hx
  exact free b o' (neC b o e hx) e1 (I.base.free b o e n hx)
 ·obtain ⟨o',e1⟩:=I.base.there b o e hx
  exact there b o' (neC b o e hx) e1
 ·obtain ⟨m1,e1⟩:=I.base.tbls b ps e
  obtain ⟨m2,e2⟩:=tbls b _ e1
  exact ⟨m1++m2,by rw [e2,Array.append_assoc]⟩
 ·obtain ⟨m,hn,hl⟩:=I.loc
  refine ⟨m,ns m hn,fun i x v e1 e2 e3=>?_⟩
  obtain ⟨u,r,l⟩:=hl i x v e1 e2 e3
  refine ⟨u,r,?_⟩
  rcases l with l | ⟨k,c,e,z⟩
  ·exact .inl l
  ·exact .inr ⟨k,c,e,cellK x c e _ z⟩
 ·obtain ⟨v,z⟩:=I.cell x c e
  exact ⟨v,cellK x c e v z⟩
 ·obtain ⟨m,⟨o,_,_,ho,_⟩,_⟩:=I.loc
  exact free _ o (fun z=>(hch _ z).2.1 rfl) ho I.free
 ·obtain ⟨v,o,ho,hd⟩:=I.cell x c e
  exact free c o (fun z=>(hch c z).2.2.1 x c e rfl) ho (I.freeC x c e)
 ·obtain ⟨e,n,ne,nf,d⟩:=I.pin p hp
  have nch:p.1 ∉ ch:=fun z=>(hch p.1 z).2.2.2 p hp rfl
  exact ⟨keep p.1 p.2 ne nf nch e n,free p.1 p.2 nch e n,ne,nf,d⟩
theorem Inv.un {t':Nat}(I:Inv X pins σ H s)(u:Un X.fs [] H H' s.heap h')(hok:HOk X.prog X.w H' h'):Inv X pins σ H' { s with heap:=h',toks:=t' }:=by
 obtain ⟨m,⟨o,es,ep,ho,r⟩,_⟩:=id I.loc
 obtain ⟨sl,hL⟩:=u.any ho I.free (by simp)
 exact I.step (g':=s.gens) (d':=s.drawn) (ch:=[]) (fun _ z=>nomatch z) (fun b o _ hb _ e n=>u.keep b o e n hb (by simp)) (fun b o _ hb _ e n=>u.slot b o e n hb (by simp)) (fun b o _ e n=>u.free b o e n (by simp)) (fun b o _ e=>u.there b o e (by simp)) u.tups u.frzs u.tbls (fun m' hm=>by
  obtain ⟨o',es',ep',ho',r'⟩:=hm
  rw [ho] at ho';cases ho'
  exact ⟨_,es',ep',hL,r'⟩) hok I.bare
theorem Inv.call {g':Array GenState}{t':Nat}{d':Drawn}{ch:List Addr}(I:Inv X pins σ H s)(u:Un (frs X.stack) ch H H' s.heap h')(hok:HOk X.prog X.w H' h')(hg:AllBare g')
  (hch:∀ b ∈ ch,(b ∈ X.ex∨X.s₀.heap.objs.size≤b)∧b≠X.env.locals∧(∀ x c,X.env.cells.lookup x=some c→c≠b)∧∀ p ∈ X.pn++pins,p.1≠b) :
  Inv X pins σ H' { s with heap:=h',gens:=g',drawn:=d',toks:=t' }:=by
 obtain ⟨m,⟨o,es,ep,ho,r⟩,_⟩:=id I.loc
 obtain ⟨sl,hL⟩:=u.any ho I.free fun z=>(hch _ z).2.1 rfl
 exact I.step (ch:=ch) hch (fun b o hL hb hc e n=>u.keep b o e n (fun z=>(List.mem_cons.mp (I.YX b z)).elim hL hb) hc) (fun b o _ _ hc e n=>u.any e n hc) (fun b o hc e n=>u.free b o e n hc) (fun b o hc e=>u.there b o e hc) u.tups u.frzs u.tbls (fun m' hm=>by
  obtain ⟨o',es',ep',ho',r'⟩:=hm
  rw [ho] at ho';cases ho'
  exact ⟨_,es',ep',hL,r'⟩) hok hg
theorem Inv.turned {t':Nat}{it:Addr}(I:Inv X pins σ H s)(k:∀ b o,b≠it→s.heap.get? b=some o→h'.get? b=some o)(hn:H it=none)(hL:it≠X.env.locals)
  (h1:it ∈ X.ex∨X.s₀.heap.objs.size≤it) (h2:∀ x c,X.env.cells.lookup x=some c→c≠it) (h3:∀ p ∈ X.pn++pins,p.1≠it):Inv X pins σ H { s with heap:=h',toks:=t' }:=by
 have nit:∀ b u,H b=some u→b≠it:=fun b u e z=>by rw [z,hn] at e;cases e
 refine I.step (g':=s.gens) (d':=s.drawn) (ch:=[it]) (fun b hb=>?_) (fun b o _ _ hc e _=>k b o (fun z=>hc (by simp [z])) e) (fun b o _ _ hc e _=>⟨o.slots,k b o (fun z=>hc (by simp [z])) e⟩) (fun _ _ _ _ n=>n)
  (fun b o hc e=>⟨o,k b o (fun z=>hc (by simp [z])) e⟩) (fun _ _ e=>e) (fun _ _ _ e=>e) (fun b ps e=>⟨#[],by rw [e];simp⟩) (fun m hm=>?_) (fun b u e=>?_) I.bare
 ·have e:b=it:=by simpa using hb
  subst e
  exact ⟨h1,hL,h2,h3⟩
 ·obtain ⟨o,es,ep,ho,r⟩:=hm
  exact ⟨o,es,ep,k _ o (Ne.symm hL) ho,r⟩
 ·refine (I.hok b u e).stay (fun c v hc q=>k c v ?_ q) (fun _ q=>q) fun _ _ q=>q
  rcases hc with z | z
  ·rw [z];exact nit b u e
  ·exact nit c _ z
theorem Inv.tok (I:Inv X pins σ H s)(t:Nat):Inv X pins σ H { s with toks:=t }:=I.un (h':=s.heap) (t':=t) Un.refl I.hok
theorem Inv.kept {t':Nat}(I:Inv X pins σ H s)(k:∀ b u,s.heap.get? b=some u→h'.get? b=some u):Inv X pins σ H { s with heap:=h',toks:=t' }:=I.un (Un.kept k) (I.hok.kept k)
theorem Inv.laid {a:Addr}{o:HO}{t':Nat}(I:Inv X pins σ H s)(k:∀ b u,s.heap.get? b=some u→h'.get? b=some u)(hp:s.heap.objs.size≤a)(new:Ju X.prog X.w (upd H a o) h' a o) :
  Inv X pins σ (upd H a o) { s with heap:=h',toks:=t' }:=I.un (Un.laid k hp (I.hok.fresh hp)) (I.hok.laid k hp new)
theorem Inv.write {x e:Addr}{o:HO}{t':Nat}(I:Inv X pins σ H s)(mu:Mut (H x))(he:e=x∨H e=some (.own x))(k:∀ b u,b≠e→s.heap.get? b=some u→h'.get? b=some u)(heo:∃ u,h'.get? e=some u)
  (new:Ju X.prog X.w (upd H x o) h' x o):Inv X pins σ (upd H x o) { s with heap:=h',toks:=t' }:=I.un (Un.write mu he k heo) (I.hok.write mu he k heo new)
theorem Inv.ZaA {pins':List (Addr × Obj)}(I:Inv X pins σ H s)(h:∀ p ∈ pins',s.heap.get? p.1=some p.2∧H p.1=none∧p.1≠X.env.locals∧p.1 ∉ X.fs∧∀ v,p.2.data≠.cell v):Inv X pins' σ H s :=
 ⟨I.ok,I.os,I.bare,I.base,I.loc,I.cell,I.free,I.freeC,fun p hp=>(List.mem_append.mp hp).elim (fun z=>I.pin p (List.mem_append_left _ z)) (h p),I.hok,I.len⟩
theorem ZbJ {N:List Str}(hN:N.Nodup){i j:Nat}{x:Str}(a:N[i]?=some x)(b:N[j]?=some x):i=j:=by
 obtain ⟨h1,e1⟩:=List.getElem?_eq_some_iff.mp a
 obtain ⟨h2,e2⟩:=List.getElem?_eq_some_iff.mp b
 exact (List.getElem_inj hN).mp (e1.trans e2.symm)
theorem Zfe {M : Model}{A : Around}{E : Value → Shared → Prop}{i : Nat}{x : Str}{v : V}{u : Value}{Q : Unit → Shared → Prop}(I : Inv X pins σ H s)(hN : X.N.Nodup)(hi : X.N[i]? = some x)(hx : Loc X.env.scope x)(r : RelV v u)
    (h : ∀ s', Inv X pins (σ.set i (some v)) H s' → (∃ a, Heap.SameBut a s.heap s'.heap ∧ (a = X.env.locals ∨ X.env.cells.lookup x = some a)) → Q () s') (hf : X.fn x = true ∨ X.env.scope.names.lookup x = some .local := by first | exact .inl rfl | exact .inr rfl | assumption) : wpAny M A (storeName X.env x u) Q E s := by
  obtain ⟨m, hn, hl⟩ := id I.loc
  have hcls : (X.env.scope.kind == .class || (X.env.scope.kind == .module && X.env.locals != X.env.globals)) = false := by rw [I.ok.kind]; rfl
  have hiσ : i < σ.length := by rw [I.len]; exact (List.getElem?_eq_some_iff.mp hi).1
  have cne := I.cne
  have tracked : ∀ {a : Addr} {h' : Heap}, (∃ o, s.heap.get? a = some o ∧ H a = none) → Heap.SameBut a s.heap h' → HOk X.prog X.w H h' := fun {a h'} ha hs b ob e => by
    obtain ⟨_, _, hfree⟩ := ha
    refine (I.hok b ob e).stay (fun c w' hc q => (hs.2 c ?_).trans q) (fun _ q => q) fun _ _ q => q
    rintro rfl
    rcases hc with rfl | hc
    · rw [hfree] at e; cases e
    · rw [hfree] at hc; cases hc
  rcases hx with hk | hk
  · refine wpAny_storeName_local hk hn (fun h' hn' hs => ?_) hcls
    obtain ⟨oL, _, _, hoL, _⟩ := id hn
    refine h _ ⟨I.ok, I.os, I.bare, ⟨fun b o e n hb hx => ?_, fun b o e n hb hx => ?_, I.base.free, fun b o e hx => ?_, I.base.tups, I.base.frzs, I.base.tbls⟩, ⟨_, hn', fun j y v' e1 e2 e3 => ?_⟩, fun y c e => ?_, I.free, I.freeC, fun p hp => ?_, tracked ⟨oL, hoL, I.free⟩ hs, by simpa using I.len⟩ ⟨_, hs, .inl rfl⟩
    · exact (hs.2 b (Nat.ne_of_lt (Nat.lt_of_lt_of_le (Heap.lt_size e) I.ok.above))).trans (I.base.keep b o e n hb hx)
    · obtain ⟨sl, e1⟩ := I.base.slot b o e n hb hx
      exact ⟨sl, (hs.2 b (Nat.ne_of_lt (Nat.lt_of_lt_of_le (Heap.lt_size e) I.ok.above))).trans e1⟩
    · obtain ⟨o', e1⟩ := I.base.there b o e hx
      exact ⟨o', (hs.2 b (Nat.ne_of_lt (Nat.lt_of_lt_of_le (Heap.lt_size e) I.ok.above))).trans e1⟩
    · by_cases hj : j = i
      · subst hj
        rw [hi] at e1; cases e1
        rw [List.getElem?_set_self hiσ] at e2
        cases e2
        exact ⟨u, r, .inl ⟨hk, by simp⟩⟩
      · rw [List.getElem?_set_ne (Ne.symm hj)] at e2
        obtain ⟨u', r', q⟩ := hl j y v' e1 e2 e3
        refine ⟨u', r', ?_⟩
        rcases q with ⟨k, e⟩ | ⟨k, c, e, z⟩
        · refine .inl ⟨k, ?_⟩
          have : y ≠ x := fun e => hj (ZbJ hN e1 (e ▸ hi))
          simp [this, e]
        · exact .inr ⟨k, c, e, z.sameBut hs (cne y c e)⟩
    · obtain ⟨w', z⟩ := I.cell y c e
      exact ⟨w', z.sameBut hs (cne y c e)⟩
    · obtain ⟨e, n, ne, nf, d⟩ := I.pin p hp
      exact ⟨(hs.2 p.1 ne).trans e, n, ne, nf, d⟩
  · have hfn : X.fn x = true := by
      rcases hf with z | z
      · exact z
      · rw [z] at hk; cases hk
    obtain ⟨c, hc⟩ := I.ok.has x (.inl hk)
    obtain ⟨w', z⟩ := I.cell x c hc
    refine wpAny_storeName_cell I.ok.kind hk hc z (fun h' hc' hs => ?_)
    obtain ⟨oc, hoc, hocd⟩ := id z
    refine h { s with heap := h' } ⟨I.ok, I.os, I.bare, ⟨fun b o e n hb hx => ?_, fun b o e n hb hx => ?_, I.base.free, fun b o e hx => ?_, I.base.tups, I.base.frzs, I.base.tbls⟩, ⟨m, hn.sameBut hs (Ne.symm (cne x c hc)), fun j y v' e1 e2 e3 => ?_⟩, fun y c' e => ?_, I.free, I.freeC, fun p hp => ?_, tracked ⟨oc, hoc, I.freeC x c hc⟩ hs, by simpa using I.len⟩ ⟨c, hs, .inr hc⟩
    · exact (hs.2 b (Nat.ne_of_lt (Nat.lt_of_lt_of_le (Heap.lt_size e) (I.ok.cab x c hfn hc)))).trans (I.base.keep b o e n hb hx)
    · obtain ⟨sl, e1⟩ := I.base.slot b o e n hb hx
      exact ⟨sl, (hs.2 b (Nat.ne_of_lt (Nat.lt_of_lt_of_le (Heap.lt_size e) (I.ok.cab x c hfn hc)))).trans e1⟩
    · obtain ⟨o', e1⟩ := I.base.there b o e hx
      exact ⟨o', (hs.2 b (Nat.ne_of_lt (Nat.lt_of_lt_of_le (Heap.lt_size e) (I.ok.cab x c hfn hc)))).trans e1⟩
    · by_cases hj : j = i
      · subst hj
        rw [hi] at e1; cases e1
        rw [List.getElem?_set_self hiσ] at e2
        cases e2
        exact ⟨u, r, .inr ⟨.inl hk, c, hc, hc'⟩⟩
      · rw [List.getElem?_set_ne (Ne.symm hj)] at e2
        obtain ⟨u', r', q⟩ := hl j y v' e1 e2 e3
        refine ⟨u', r', ?_⟩
        rcases q with q | ⟨k, c', e, z'⟩
        · exact .inl q
        · refine .inr ⟨k, c', e, z'.sameBut hs ?_⟩
          rintro rfl
          exact hj (ZbJ hN e1 (I.ok.inj _ _ _ e hc ▸ hi))
    · by_cases hcc : c' = c
      · subst hcc; exact ⟨_, hc'⟩
      · obtain ⟨w2, z2⟩ := I.cell y c' e
        exact ⟨w2, z2.sameBut hs hcc⟩
    · obtain ⟨e, n, ne, nf, d⟩ := I.pin p hp
      refine ⟨(hs.2 p.1 ?_).trans e, n, ne, nf, d⟩
      intro q
      rw [q, hoc] at e
      have q' : oc = p.2 := Option.some.inj e
      exact d w' (by rw [← q']; exact hocd)
theorem Y6 {M:Model}{A:Around}{E:Value→Shared→Prop}{i:Nat}{x:Str}{v:V}{u:Value}{Q:Unit→Shared→Prop}(I:Inv X pins σ H s)(hN:X.N.Nodup)(hi:X.N[i]?=some x)(hx:Loc X.env.scope x)(r:RelV v u)
  (h:∀ s',Inv X pins (σ.set i (some v)) H s'→Q () s') (hf:X.fn x=true∨X.env.scope.names.lookup x=some .local:=by first | exact .inl rfl | exact .inr rfl | assumption):wpAny M A (storeName X.env x u) Q E s :=
 Zfe I hN hi hx r (fun s' I' _=>h s' I') hf
theorem Inv.call' {s':Shared}{ch:List Addr}(I:Inv X pins σ H s)(ho:s'.os=s.os)(u:Un (frs X.stack) ch H H' s.heap s'.heap)(hok:HOk X.prog X.w H' s'.heap)(hg:AllBare s'.gens)
  (hch:∀ b ∈ ch,(b ∈ X.ex∨X.s₀.heap.objs.size≤b)∧b≠X.env.locals∧(∀ x c,X.env.cells.lookup x=some c→c≠b)∧∀ p ∈ X.pn++pins,p.1≠b):Inv X pins σ H' s':=by
 obtain ⟨h',g',d',t',o'⟩:=s'
 have e:o'=s.os:=ho
 subst e
 exact I.call (g':=g') (t':=t') (d':=d') u hok hg hch
end
noncomputable abbrev XK:=Value→Option Addr→Hp→Prop
noncomputable abbrev St:=List (Option V)
noncomputable abbrev VK:=V→Hp→Prop
noncomputable abbrev TE:=St→Hp→VK→Prop
noncomputable abbrev TT:=St→Hp→(Bool→Hp→Prop)→Prop
noncomputable abbrev TA:=St→Hp→(List V→Hp→Prop)→Prop
structure Ends where
 nx:St→Hp→Prop
 rt:VK
 bk:St→Hp→Prop:=fun _ _=>False
 ct:St→Hp→Prop:=fun _ _=>False
noncomputable abbrev TS:=Ends→St→Hp→Prop
noncomputable def EP (X:Cx) (pins:List (Addr × Obj)) (σ:St) (Q:VK) (u:Value) (s':Shared):Prop:=∃ v H',Inv X pins σ H' s'∧RelV v u∧Q v H'
noncomputable def TP (X:Cx) (pins:List (Addr × Obj)) (σ:St) (Q:Bool→Hp→Prop) (b:Bool) (s':Shared):Prop:=∃ H',Inv X pins σ H' s'∧Q b H'
noncomputable def AP (X:Cx) (pins:List (Addr × Obj)) (σ:St) (Q:List V→Hp→Prop) (us:List Value) (s':Shared):Prop:=∃ vs H',Inv X pins σ H' s'∧Vals vs us∧Q vs H'
noncomputable def SP (X:Cx) (pins:List (Addr × Obj)) (D:Ends) (f:Flow) (s':Shared):Prop :=
 match f with
 | .next=>∃ σ' H',Inv X pins σ' H' s'∧D.nx σ' H'
 | .brk=>∃ σ' H',Inv X pins σ' H' s'∧D.bk σ' H'
 | .cont=>∃ σ' H',Inv X pins σ' H' s'∧D.ct σ' H'
 | .ret u=>∃ v σ' H',Inv X pins σ' H' s'∧RelV v u∧D.rt v H'
noncomputable def PE (X:Cx) (e:Expr) (t:TE):Prop :=
 ∀ (pins:List (Addr × Obj)) (s:Shared) (σ:St) (H:Hp) (Q:VK),Inv X pins σ H s→t σ H Q→wpAny (model X.prog X.w) X.A (eval e X.env) (EP X pins σ Q) X.xe s
noncomputable def PT (X:Cx) (e:Expr) (t:TT):Prop :=
 ∀ (pins:List (Addr × Obj)) (s:Shared) (σ:St) (H:Hp) (Q:Bool→Hp→Prop),Inv X pins σ H s→t σ H Q→wpAny (model X.prog X.w) X.A (isTrue e X.env (eval e X.env)) (TP X pins σ Q) X.xe s
noncomputable def PW (X:Cx) (e:Expr) (t:TT):Prop :=
 ∀ (whole:Sem Value) (pins:List (Addr × Obj)) (s:Shared) (σ:St) (H:Hp) (Q:Bool→Hp→Prop),Inv X pins σ H s→t σ H Q→wpAny (model X.prog X.w) X.A (isTrue e X.env whole) (TP X pins σ Q) X.xe s
noncomputable def PA (X:Cx) (es:List Expr) (t:TA):Prop :=
 ∀ (pos:Pos) (pins:List (Addr × Obj)) (s:Shared) (σ:St) (H:Hp) (Q:List V→Hp→Prop),Inv X pins σ H s→t σ H Q→wpAny (model X.prog X.w) X.A (spliced (backTo pos (starEach es X.env))) (AP X pins σ Q) X.xe s
noncomputable def PS (X:Cx) (st:Stmt) (t:TS):Prop :=
 ∀ (pins:List (Addr × Obj)) (s:Shared) (σ:St) (H:Hp) (D:Ends),Inv X pins σ H s→t D σ H→wpAny (model X.prog X.w) X.A (exec st X.env) (SP X pins D) X.xe s
noncomputable def PSs (X:Cx) (st:List Stmt) (t:TS):Prop :=
 ∀ (pins:List (Addr × Obj)) (s:Shared) (σ:St) (H:Hp) (D:Ends),Inv X pins σ H s→t D σ H→wpAny (model X.prog X.w) X.A (execs st X.env) (SP X pins D) X.xe s
theorem thn {α:Type}{t:Sem α}{Q Q':α→Shared→Prop}{M:Model}{A:Around}{E:Value→Shared→Prop}{s:Shared}(h:wpAny M A t Q E s)(hQ:∀ a s,Q a s→Q' a s):wpAny M A t Q' E s:=wpAny_mono h hQ fun _ _ x=>x
end L2
namespace L2
open PySem PySem.Spec PyProof.Rows
section
variable {X:Cx}
noncomputable def tVar (i:Nat):TE:=fun σ H Q=>∃ v,σ[i]?=some (some v)∧Q v H
noncomputable def tC (v:V):TE:=fun _ H Q=>Q v H
theorem Zav {i:Nat} {x:Str} {pos:Pos} (hN:X.N[i]?=some x) (hv:Vis X.env.scope x) (hd:(x == ("__debug__":Str))=false:=by decide) (hcd:(x == ("__classdict__":Str))=false:=by decide):PE X (.Name x pos) (tVar i):=by
 intro pins s σ H Q I h
 obtain ⟨v,e,h⟩:=h
 obtain ⟨m,hn,hl⟩:=I.loc
 obtain ⟨u,r,l⟩:=hl i x v hN e hv
 have fin:EP X pins σ Q u s:=⟨v,H,I,r,h⟩
 rcases l with ⟨hk,hm⟩ | ⟨hk,c,hc,hcell⟩
 ·exact wpAny_Name (wpAny_loadName_local I.ok.kind hk hn hm fin) hd
 ·rcases hk with hk | hk
  ·exact wpAny_Name (wpAny_loadName_cell I.ok.kind hk hc hcell fin) hd
  ·exact wpAny_Name (wpAny_loadName_free I.ok.kind hk hc hcell fin hcd) hd
theorem ZfP {i j pos}:PE X (.Constant (.int i) j pos) (tC (.int i)):=fun _ _ _ H _ I h=>wpAny_Constant_int ⟨.int i,H,I.tok _,⟨_,rfl⟩,h⟩
theorem Zjq {b j pos}:PE X (.Constant (.bool b) j pos) (tC (.bl b)):=fun _ _ _ H _ I h=>Constant_bool ⟨.bl b,H,I,rfl,h⟩
theorem ZiW {j pos}:PE X (.Constant .none j pos) (tC .non):=fun _ _ _ H _ I h=>Constant_none ⟨.non,H,I,rfl,h⟩
theorem Zax {x j pos}:PE X (.Constant (.str x) j pos) (tC (.str x)):=fun _ _ _ H _ I h=>Calls.Constant_str ⟨.str x,H,I.tok _,⟨_,rfl⟩,h⟩
noncomputable def Gl (X:Cx) (x:Str):Prop:=X.env.kindOf x=some .globalImplicit
theorem JD {E:Value→Shared→Prop}{pins:List (Addr × Obj)}{s:Shared}{σ:St}{H:Hp}{x:Str}{u:Value}{pos:Pos}{Q:Value→Shared→Prop}(I:Inv X pins σ H s)(hg:Gl X x)(hm:X.mg x=some u)(h:Q u s)
  (hd:(x == ("__debug__":Str))=false:=by decide):wpAny (model X.prog X.w) X.A (eval (.Name x pos) X.env) Q E s :=
 Calls.Name_function_global I.ok.kind hg (Calls.loadGlobal_global (by rw [I.ok.glob];exact I.mod.glob.keeps I.bk) hm h) hd
theorem Zch {E:Value→Shared→Prop}{pins:List (Addr × Obj)}{s:Shared}{σ:St}{H:Hp}{x:Str}{u:Value}{pos:Pos}{Q:Value→Shared→Prop}(I:Inv X pins σ H s)(hg:Gl X x)(hm:X.mg x=none)(hv:bootBuiltins x=some u)(h:Q u s)
  (hn:x≠"__name__":=by decide) (hd:(x == ("__debug__":Str))=false:=by decide):wpAny (model X.prog X.w) X.A (eval (.Name x pos) X.env) Q E s:=by
 obtain ⟨mb,h1,h2⟩:=I.mod.blt
 exact Calls.Name_function_global I.ok.kind hg (Calls.loadGlobal_builtin (by rw [I.ok.glob];exact I.mod.glob.keeps I.bk) hm (by rw [I.ok.blt];exact h1.keeps I.bk) ((h2 x hn).trans hv) h) hd
theorem Zhx {x:Str} {v:V} {u:Value} {pos:Pos} (hg:Gl X x) (hm:X.mg x=some u) (r:RelV v u) (hd:(x == ("__debug__":Str))=false:=by decide):PE X (.Name x pos) (tC v) :=
 fun _ _ _ H _ I h=>JD I hg hm ⟨v,H,I,r,h⟩ hd
theorem ZeH {x:Str} {v:V} {u:Value} {pos:Pos} (hg:Gl X x) (hm:X.mg x=none) (hv:bootBuiltins x=some u) (r:RelV v u) (hn:x≠"__name__":=by decide) (hd:(x == ("__debug__":Str))=false:=by decide):PE X (.Name x pos) (tC v) :=
 fun _ _ _ H _ I h=>Zch I hg hm hv ⟨v,H,I,r,h⟩ hn hd
noncomputable def t2I (ta tb:TE) (k:Int→Int→Hp→Prop):St→Hp→Prop:=fun σ H=>ta σ H fun x H1=>tb σ H1 fun y H2=>∃ i j,x=.int i∧y=.int j∧k i j H2
variable {a b:Expr} {ta tb:TE} {pos:Pos}
noncomputable def PC (X:Cx) (op:CmpOp) (a b:Expr) (t:TE):Prop :=
 ∀ (pins:List (Addr × Obj)) (s:Shared) (σ:St) (H:Hp) (Q:VK),Inv X pins σ H s→t σ H Q →
  wpAny (model X.prog X.w) X.A (eval a X.env) (fun v s₁=>wpAny (model X.prog X.w) X.A (eval b X.env) (fun u s₂=>wpAny (model X.prog X.w) X.A (compareOp op v u) (EP X pins σ Q) X.xe s₂) X.xe s₁) X.xe s
theorem Zgh (b:Expr){op:CmpOp}(h:op≠.In)(h2:op≠.NotIn):behindInMarks op b=false:=by
 have e1:(op == CmpOp.In)=false:=by cases op <;> first | rfl | exact absurd rfl h
 have e2:(op == CmpOp.NotIn)=false:=by cases op <;> first | rfl | exact absurd rfl h2
 cases b <;> simp [behindInMarks,e1,e2]
noncomputable def tIsN (ta:TE):TE:=fun σ H Q=>ta σ H fun x H1=>Q (.bl (decide (x=.non))) H1
noncomputable def tB (t:TE):TT:=fun σ H Q=>t σ H fun x H1=>∃ c,x=.bl c∧Q c H1
theorem JX {op:CmpOp}{t:TE}(h:PC X op a b t)(h1:behindInMarks op b=false:=by first | exact Zgh _ (by decide) (by decide) | rfl):PT X (.Compare a [op] [b] pos) (tB t):=by
 intro pins s σ H Q I hw
 refine wpAny_isTrue_Compare1 (thn (h pins s σ H _ I hw) fun v s1 h1=>thn h1 fun u s2 h2=>thn h2 fun c s3 ⟨x,H1,I1,r1,q1⟩=>?_) h1
 obtain ⟨d,rfl,q⟩:=q1
 cases r1
 exact wpAny_truthy_bool ⟨H1,I1,q⟩
theorem ZiV {e:Expr}{t:TE}(h:PE X e t)(he:∀ whole,isTrue e X.env whole=(do let v ← whole;standAt e.pos;holding [v] (truthy v)):=by intro _;rfl):PT X e (tB t):=by
 intro pins s σ H Q I hw
 refine isTrue_plain (thn (h pins s σ H _ I hw) fun v s1 ⟨x,H1,I1,r1,q1⟩=>?_) (he _)
 obtain ⟨d,rfl,q⟩:=q1
 cases r1
 exact wpAny_truthy_bool ⟨H1,I1,q⟩
variable {tA tB':TT} {rest:List Expr}
noncomputable def tAnd (t u:TT):TT:=fun σ H Q=>t σ H fun c H1=>if c=true then u σ H1 Q else Q false H1
noncomputable def tOr (t u:TT):TT:=fun σ H Q=>t σ H fun c H1=>if c=true then Q true H1 else u σ H1 Q
noncomputable def tNot (t:TT):TT:=fun σ H Q=>t σ H fun c H1=>Q (!c) H1
theorem ZhS (ha:PT X a tA):PW X (.BoolOp .And [a] pos) tA:=by
 intro wh pins s σ H Q I h
 refine isTrue_and (thn (ha pins s σ H Q I h) fun c s1 e=>?_)
 cases c with
 | true=>exact isTrue_and_nil e
 | false=>exact e
theorem Ziw (ha:PT X a tA):PW X (.BoolOp .Or [a] pos) tA:=by
 intro wh pins s σ H Q I h
 refine isTrue_or (thn (ha pins s σ H Q I h) fun c s1 e=>?_)
 cases c with
 | false=>exact isTrue_or_nil e
 | true=>exact e
theorem Zif (ha:PT X a tA)(hb:PW X (.BoolOp .And (b::rest) pos) tB'):PW X (.BoolOp .And (a::b::rest) pos) (tAnd tA tB'):=by
 intro wh pins s σ H Q I h
 refine isTrue_and (thn (ha pins s σ H _ I h) fun c s1 ⟨H1,I1,q1⟩=>?_)
 cases c with
 | true=>exact hb wh pins s1 σ H1 Q I1 q1
 | false=>exact ⟨H1,I1,q1⟩
theorem Zi7 (ha:PT X a tA)(hb:PW X (.BoolOp .Or (b::rest) pos) tB'):PW X (.BoolOp .Or (a::b::rest) pos) (tOr tA tB'):=by
 intro wh pins s σ H Q I h
 refine isTrue_or (thn (ha pins s σ H _ I h) fun c s1 ⟨H1,I1,q1⟩=>?_)
 cases c with
 | true=>exact ⟨H1,I1,q1⟩
 | false=>exact hb wh pins s1 σ H1 Q I1 q1
theorem Zb0 (ha:PT X a tA):PT X (.UnaryOp .Not a pos) (tNot tA):=by
 intro pins s σ H Q I h
 exact isTrue_not (ha pins s σ H (fun c H1=>Q (!c) H1) I h)
noncomputable def Zjm (ta tb:TE):TE:=fun σ H Q=>ta σ H fun x H1=>∃ c,x=.bl c∧if c=true then tb σ H1 Q else Q (.bl false) H1
theorem Zi4 {op}{t:TE}(h:PE X a t):PE X (.BoolOp op [a] pos) t:=fun pins s σ H Q I hw=>BoolOp_one (h pins s σ H Q I hw)
theorem Zix (ha:PE X a ta)(hb:PE X (.BoolOp .And (b::rest) pos) tb):PE X (.BoolOp .And (a::b::rest) pos) (Zjm ta tb):=by
 intro pins s σ H Q I h
 refine BoolOp_and (thn (ha pins s σ H _ I h) fun v s1 ⟨x,H1,I1,r1,q1⟩=>?_)
 obtain ⟨c,rfl,q1⟩:=q1
 cases r1
 refine wpAny_truthy_bool ?_
 cases c with
 | true=>exact hb pins s1 σ H1 Q I1 q1
 | false=>exact ⟨.bl false,H1,I1,rfl,q1⟩
end
end L2
namespace L2
open PySem PySem.Spec PyProof.Rows
noncomputable def SqL (K:PySem.W.Frag) (H:Hp) (a:Addr) (xs:List V):Prop :=
 Rd H a (.lst xs) ∨
  ∃ (o:Obj) (its:Array Value) (n:Nat),K.lookup a=some o∧o.cls=.type "list"∧o.dict=none∧o.data=.seq its n∧its.size≤sizeLine∧Vals xs its.toList
noncomputable def SqT (K:PySem.W.Frag) (H:Hp) (a:Addr) (xs:List V):Prop :=
 Rd H a (.tup xs) ∨
  ∃ (o:Obj) (its:Array Value) (n:Nat),K.lookup a=some o∧o.cls=.type "tuple"∧o.data=.seq its n∧its.size≤sizeLine∧Vals xs its.toList
noncomputable def absV:Value→Option V
 | .none=>some .non
 | .bool b=>some (.bl b)
 | .int i _=>some (.int i)
 | .str x _=>some (.str x)
 | .bytes b _=>some (.byt b)
 | .float b _=>some (.flt b)
 | .ref a=>some (.ref a)
 | .type n=>some (.ty n)
 | _=>none
theorem RelV.abs {x:V}{u:Value}(r:RelV x u):absV u=some x:=by
 cases x with
 | non=>cases r;rfl
 | bl _=>cases r;rfl
 | int _=>obtain ⟨t,rfl⟩:=r;rfl
 | str _=>obtain ⟨t,rfl⟩:=r;rfl
 | byt _=>obtain ⟨t,rfl⟩:=r;rfl
 | flt _=>obtain ⟨t,rfl⟩:=r;rfl
 | ref _=>cases r;rfl
 | ty _=>cases r;rfl
theorem RelV.inj {x y:V}{u:Value}(r:RelV x u)(q:RelV y u):x=y:=Option.some.inj (r.abs.symm.trans q.abs)
theorem Vals.inj:∀ {xs ys:List V} {us:List Value},Vals xs us→Vals ys us→xs=ys
 | _,_,_,.nil,.nil=>rfl
 | _,_,_,.cons r t,.cons r' t'=>by rw [r.inj r',Vals.inj t t']
section
variable {X:Cx} {pins:List (Addr × Obj)} {σ:St} {H:Hp} {s:Shared} {a:Addr} {xs ys:List V}
theorem SqL.of {K:PySem.W.Frag}(h:H a=some (.lst xs)):SqL K H a xs:=.inl (.inl h)
theorem SqT.of {K:PySem.W.Frag}(h:H a=some (.tup xs)):SqT K H a xs:=.inl (.inl h)
theorem Inv.list (I:Inv X pins σ H s)(h:SqL X.K H a xs):∃ its:List Value,Vals xs its∧PlainL s.heap a its.toArray∧xs.length≤sizeLine:=by
 rcases h with h | ⟨o,its,n,hk,hc,hd,hs,hz,r⟩
 ·obtain ⟨z,its,n,r,e⟩:=h.ok I.hok
  exact ⟨its,r,⟨_,n,e,rfl,rfl,rfl⟩,z⟩
 ·refine ⟨its.toList,r,⟨o,n,I.kIn a o hk,hc,hd,by simpa using hs⟩,?_⟩
  have e:=r.length
  simp only [Array.length_toList] at e
  omega
theorem Inv.tuple (I:Inv X pins σ H s)(h:SqT X.K H a xs):∃ its:List Value,Vals xs its∧IsTup s.heap a its.toArray∧xs.length≤sizeLine:=by
 rcases h with h | ⟨o,its,n,hk,hc,hs,hz,r⟩
 ·obtain ⟨z,its,r,p⟩:=h.ok I.hok
  exact ⟨its,r,p,z⟩
 ·refine ⟨its.toList,r,⟨o,I.kIn a o hk,hc,n,by simpa using hs⟩,?_⟩
  have e:=r.length
  simp only [Array.length_toList] at e
  omega
theorem Inv.ZgJ (I:Inv X pins σ H s)(h:SqL X.K H a xs)(h':SqL X.K H a ys):xs=ys:=by
 obtain ⟨its,r,⟨o,n,e,_,_,d⟩,_⟩:=I.list h
 obtain ⟨its',r',⟨o',n',e',_,_,d'⟩,_⟩:=I.list h'
 rw [e] at e';cases e'
 rw [d] at d'
 injection d' with d1 _
 have:its=its':=by simpa using congrArg Array.toList d1
 subst this
 exact r.inj r'
theorem Inv.Zfq (I:Inv X pins σ H s)(h:SqT X.K H a xs)(h':SqT X.K H a ys):xs=ys:=by
 obtain ⟨its,r,⟨o,e,_,n,d⟩,_⟩:=I.tuple h
 obtain ⟨its',r',⟨o',e',_,n',d'⟩,_⟩:=I.tuple h'
 rw [e] at e';cases e'
 rw [d] at d'
 injection d' with d1 _
 have:its=its':=by simpa using congrArg Array.toList d1
 subst this
 exact r.inj r'
end
noncomputable abbrev Cx.wish (X:Cx) (E:Value→Shared→Prop):Cx:={ X with xe:=E }
noncomputable abbrev Cx.nox (X:Cx):Cx:=X.wish fun _ _=>False
theorem Cx.Ok.wish {X:Cx}(ok:X.Ok)(E:Value→Shared→Prop):(X.wish E).Ok :=
 ⟨ok.mod,ok.kind,ok.glob,ok.blt,ok.above,ok.inj,ok.has,ok.cab,ok.hd,ok.frames,ok.stk,ok.exf,ok.bs,ok.bsz,ok.noex,ok.exfs,ok.funs,ok.frf⟩
theorem Cx.Ok.Zh {X:Cx}{E:Value→Shared→Prop}(ok:(X.wish E).Ok):X.Ok :=
 ⟨ok.mod,ok.kind,ok.glob,ok.blt,ok.above,ok.inj,ok.has,ok.cab,ok.hd,ok.frames,ok.stk,ok.exf,ok.bs,ok.bsz,ok.noex,ok.exfs,ok.funs,ok.frf⟩
section
variable {X:Cx} {pins:List (Addr × Obj)} {σ:St} {H:Hp} {s:Shared} {E:Value→Shared→Prop}
theorem Inv.wish (I:Inv X pins σ H s)(E:Value→Shared→Prop):Inv (X.wish E) pins σ H s:=⟨I.ok.wish E,I.os,I.bare,I.base,I.loc,I.cell,I.free,I.freeC,I.pin,I.hok,I.len⟩
theorem Inv.Zh (I:Inv (X.wish E) pins σ H s):Inv X pins σ H s:=⟨I.ok.Zh,I.os,I.bare,I.base,I.loc,I.cell,I.free,I.freeC,I.pin,I.hok,I.len⟩
theorem SP.Zh {D:Ends}{f:Flow}{s':Shared}(h:SP (X.wish E) pins D f s'):SP X pins D f s':=by
 cases f with
 | next=>obtain ⟨σ',H',I,q⟩:=h;exact ⟨σ',H',I.Zh,q⟩
 | brk=>obtain ⟨σ',H',I,q⟩:=h;exact ⟨σ',H',I.Zh,q⟩
 | cont=>obtain ⟨σ',H',I,q⟩:=h;exact ⟨σ',H',I.Zh,q⟩
 | ret u=>obtain ⟨v,σ',H',I,r,q⟩:=h;exact ⟨v,σ',H',I.Zh,r,q⟩
theorem PE.nox {e:Expr}{t:TE}(h:PE X.nox e t):PE X e t:=fun pins s σ H Q I hw =>
 wpAny_mono (h pins s σ H Q (I.wish _) hw) (fun _ _ ⟨v,H',I',r,q⟩=>⟨v,H',I'.Zh,r,q⟩) fun _ _ z=>False.elim z
theorem PT.nox {e:Expr}{t:TT}(h:PT X.nox e t):PT X e t:=fun pins s σ H Q I hw =>
 wpAny_mono (h pins s σ H Q (I.wish _) hw) (fun _ _ ⟨H',I',q⟩=>⟨H',I'.Zh,q⟩) fun _ _ z=>False.elim z
theorem PSs.nox {st:List Stmt}{t:TS}(h:PSs X.nox st t):PSs X st t:=fun pins s σ H D I hw =>
 wpAny_mono (h pins s σ H D (I.wish _) hw) (fun _ _ q=>q.Zh) fun _ _ z=>False.elim z
end
section
variable {X:Cx} {st:Stmt} {rest:List Stmt} {t u:TS} {e:Expr} {te:TE} {pos:Pos}
noncomputable def Zjk:TS:=fun D σ H=>D.nx σ H
noncomputable def tSeq (t u:TS):TS:=fun D σ H=>t { D with nx:=u D } σ H
theorem Zha:PSs X [] Zjk:=fun _ _ σ H _ I h=>wpAny_execs_nil ⟨σ,H,I,h⟩
theorem Zgd (h1:PS X st t)(h2:PSs X rest u):PSs X (st::rest) (tSeq t u):=by
 intro pins s σ H D I h
 refine wpAny_execs_cons (thn (h1 pins s σ H { D with nx:=u D } I h) fun f s1 q=>?_)
 cases f with
 | next =>
  obtain ⟨σ',H',I',q⟩:=q
  exact h2 pins s1 σ' H' D I' q
 | ret v=>exact q
 | brk=>exact q
 | cont=>exact q
theorem Zhj (h1:PS X st t):PSs X [st] t:=by
 intro pins s σ H D I h
 refine wpAny_execs_cons (thn (h1 pins s σ H D I h) fun f s1 q=>?_)
 cases f with
 | next=>exact wpAny_execs_nil q
 | ret v=>exact q
 | brk=>exact q
 | cont=>exact q
theorem Inv.quiet {pins:List (Addr × Obj)}{σ:St}{H:Hp}{s:Shared}(I:Inv X pins σ H s):interactive X.env=false:=by simp [interactive,I.ok.kind]
noncomputable def Zjh (te:TE):TS:=fun D σ H=>te σ H fun _ H1=>D.nx σ H1
theorem Zhk (he:PE X e te)(hs:swapsWith e none pos.line X.env=pure false:=by rfl):PS X (.Expr e pos) (Zjh te):=by
 intro pins s σ H D I h
 exact wpAny_Expr_any (thn (he pins s σ H _ I h) fun v s1 ⟨x,H1,I1,r1,q1⟩=>⟨σ,H1,I1,q1⟩) I.quiet hs
noncomputable def tRet (te:TE):TS:=fun D σ H=>te σ H D.rt
theorem Ziy (he:PE X e te):PS X (.Return (some e) pos) (tRet te):=by
 intro pins s σ H D I h
 exact wpAny_Return_some (thn (he pins s σ H _ I h) fun v s1 ⟨x,H1,I1,r1,q1⟩=>⟨x,σ,H1,I1,r1,q1⟩)
noncomputable def tIfS (c:TT) (t u:TS):TS:=fun D σ H=>c σ H fun b H1=>if b=true then t D σ H1 else u D σ H1
theorem Zjs {c:Expr}{a b:List Stmt}{tc:TT}(hc:PT X c tc)(ha:PSs X a t)(hb:PSs X b u):PS X (.If c a b pos) (tIfS tc t u):=by
 intro pins s σ H D I h
 refine wpAny_If (thn (hc pins s σ H _ I h) fun d s1 ⟨H1,I1,q1⟩=>?_)
 cases d with
 | true=>exact ha pins s1 σ H1 D I1 q1
 | false=>exact hb pins s1 σ H1 D I1 q1
end
noncomputable abbrev TG:=V→St→Hp→(St→Hp→Prop)→Prop
noncomputable def PG (X:Cx) (target:Expr) (t:TG):Prop :=
 ∀ (pins:List (Addr × Obj)) (s:Shared) (σ:St) (H:Hp) (v:V) (u:Value) (Q:St→Hp→Prop),Inv X pins σ H s→RelV v u→t v σ H Q →
  wpAny (model X.prog X.w) X.A (assign target X.env u) (fun _ s'=>∃ σ' H',Inv X pins σ' H' s'∧Q σ' H') X.xe s
section
variable {X:Cx} {pos:Pos}
noncomputable def Zbo (i:Nat):TG:=fun v σ H Q=>Q (σ.set i (some v)) H
theorem Zcr {i:Nat}{x:Str}(hN:X.N.Nodup)(hi:X.N[i]?=some x)(hx:Loc X.env.scope x)(hf:X.fn x=true∨X.env.scope.names.lookup x=some .local:=by first | exact .inl rfl | exact .inr rfl | assumption):PG X (.Name x pos) (Zbo i):=by
 intro pins s σ H v u Q I r h
 exact wpAny_assign_Name (Y6 I hN hi hx r (fun s' I'=>⟨_,H,I',h⟩) hf)
noncomputable def tAsg (te:TE) (g:TG):TS:=fun D σ H=>te σ H fun x H1=>g x σ H1 D.nx
theorem Zfo {i:Nat}{x:Str}{e:Expr}{te:TE}{pos':Pos}(hN:X.N.Nodup)(hi:X.N[i]?=some x)(hx:Loc X.env.scope x)(he:PE X e te)(hs:swapsWith e (some (.Name x pos')) pos.line X.env=pure false:=by rfl)(hf:X.fn x=true∨X.env.scope.names.lookup x=some .local:=by first | exact .inl rfl | exact .inr rfl | assumption) :
  PS X (.Assign [.Name x pos'] e pos) (tAsg te (Zbo i)):=by
 intro pins s σ H D I h
 refine wpAny_Assign_Name (thn (he pins s σ H _ I h) fun v s1 ⟨y,H1,I1,r1,q1⟩=>?_) hs
 exact Y6 I1 hN hi hx r1 (fun s2 I2=>⟨_,H1,I2,q1⟩) hf
end
section
variable {X:Cx} {pos:Pos}
end
structure It where
 go:Nat→Hp→Prop
 yld:Nat→Hp→V→Hp→Prop
 stop:Nat→Hp→Prop
noncomputable def FpOk (X:Cx) (pins:List (Addr × Obj)) (H:Hp) (b:Addr):Prop :=
 H b=none∧b≠X.env.locals∧b ∉ X.fs∧(b ∈ X.ex∨X.s₀.heap.objs.size≤b)∧(∀ x c,X.env.cells.lookup x=some c→c≠b)∧∀ p ∈ X.pn++pins,p.1≠b
theorem Inv.fpOk {X:Cx}{pins:List (Addr × Obj)}{σ:St}{H H':Hp}{s:Shared}{b:Addr}(I:Inv X pins σ H s)(hb:s.heap.objs.size≤b)(hn:H' b=none):FpOk X pins H' b:=by
 refine ⟨hn,Nat.ne_of_gt (Nat.lt_of_lt_of_le I.lt hb),I.nofs hb,.inr (Nat.le_trans I.sz hb),fun x c e z=>?_,fun p hp z=>?_⟩
 ·obtain ⟨v,q⟩:=I.cell x c e
  exact absurd (Nat.lt_of_lt_of_le q.lt (by rw [z];exact hb)) (Nat.lt_irrefl _)
 ·exact absurd (Nat.lt_of_lt_of_le (Heap.lt_size (I.pin p hp).1) (by rw [z];exact hb)) (Nat.lt_irrefl _)
structure Turn (P:Program)(w:World)(K:PySem.W.Frag)(tg:Expr)(J:It)(fp:List Addr)(it:Addr)(tn:Nat→Heap→Prop):Prop where
 mem:it ∈ fp
 obj:∀ i h,tn i h→∀ b ∈ fp,∃ o,h.get? b=some o∧∀ v,o.data≠.cell v
 keep:∀ i h h',tn i h→(∀ b ∈ fp,∀ o,h.get? b=some o→h'.get? b=some o)→tn i h'
 item:∀ (X:Cx),X.prog=P→X.w=w→X.K=K→X.calm=true→∀ (i:Nat) (pins:List (Addr × Obj)) (s:Shared) (σ:St) (H:Hp) (E:Value→Shared→Prop),Inv X pins σ H s→(∀ b ∈ fp,FpOk X pins H b)→tn i s.heap→J.go i H →
  wpAny (model P w) X.A (pyNext (.ref it)) (fun r s1=>∃ u,r=some u ∧
   wpAny (model P w) X.A (letOwnedTupleGo tg (.ref it) u) (fun _ s2=>∃ x H',Inv X pins σ H' s2∧RelV x u∧J.yld i H x H'∧tn (i + 1) s2.heap∧∀ b ∈ fp,H' b=none) E s1) E s
 done:∀ (X:Cx),X.prog=P→X.w=w→X.K=K→X.calm=true→∀ (i:Nat) (pins:List (Addr × Obj)) (s:Shared) (σ:St) (H:Hp) (E:Value→Shared→Prop),Inv X pins σ H s→(∀ b ∈ fp,FpOk X pins H b)→tn i s.heap→J.stop i H →
  wpAny (model P w) X.A (pyNext (.ref it)) (fun r s1=>r=none∧Inv X pins σ H s1) E s
 self:∀ (A:Around) (i:Nat) (s:Shared) (Q:Value→Shared→Prop) (E:Value→Shared→Prop),tn i s.heap→Q (.ref it) s→wpAny (model P w) A (pyIter (.ref it)) Q E s
noncomputable abbrev TI:=St→Hp→(It→Hp→Prop)→Prop
noncomputable def PIE (X:Cx) (pins:List (Addr × Obj)) (σ:St) (tg:Expr) (R:It→Hp→Prop) (itv:Value) (s2:Shared):Prop :=
 ∃ (it:Addr) (fp:List Addr) (tn:Nat→Heap→Prop) (J:It) (H':Hp),itv=.ref it∧Inv X pins σ H' s2∧Turn X.prog X.w X.K tg J fp it tn∧tn 0 s2.heap∧(∀ b ∈ fp,FpOk X pins H' b)∧R J H'
noncomputable def PI (X:Cx) (tg iter:Expr) (wi:TI):Prop :=
 ∀ (pins:List (Addr × Obj)) (s:Shared) (σ:St) (H:Hp) (R:It→Hp→Prop),Inv X pins σ H s→wi σ H R →
  wpAny (model X.prog X.w) X.A (eval iter X.env) (fun v s1=>wpAny (model X.prog X.w) X.A (pyIter v) (PIE X pins σ tg R) X.xe s1) X.xe s
theorem Zdd {M : Model}{A : Around}{E : Value → Shared → Prop}{s : Shared}{tg : Expr}{it : Addr}{u : Value}{o : Obj}{n : String}{vs : Array Value}{Q : Unit → Shared → Prop}(ho : s.heap.get? it = some o)(hc : o.cls = .type n)(hd : o.data = .fields vs)
    (hn : ["enumerate", "zip", "dict_itemiterator", "dict_reverseitemiterator", "odict_iterator", "itertools.zip_longest", "itertools.pairwise"].contains n = false) (hQ : Q () s) : wpAny M A (letOwnedTupleGo tg (.ref it) u) Q E s := by
  unfold letOwnedTupleGo
  cases tg <;> first
    | exact wpAny_pure hQ
    | (cases u <;> first
        | exact wpAny_pure hQ
        | (refine wpAny_bind (wpAny_load ho ?_)
           rw [hc, hd]
           show wpAny M A (if (["enumerate", "zip", "dict_itemiterator", "dict_reverseitemiterator", "odict_iterator", "itertools.zip_longest", "itertools.pairwise"].contains n && vs[0]? == some (rawInt _)) = true then _ else _) Q E s
           rw [if_neg (by intro h; rw [hn, Bool.false_and] at h; cases h)]
           exact wpAny_pure hQ))
noncomputable def Itl (K:PySem.W.Frag) (a:Addr):It :=
 ⟨fun i H=>∃ xs x,SqL K H a xs∧xs[i]?=some x,fun i H x H'=>H'=H∧∀ xs,SqL K H a xs→xs[i]?=some x,fun i H=>∃ xs,SqL K H a xs∧xs.length≤i⟩
noncomputable def Itt (K:PySem.W.Frag) (a:Addr):It :=
 ⟨fun i H=>∃ xs x,SqT K H a xs∧xs[i]?=some x,fun i H x H'=>H'=H∧∀ xs,SqT K H a xs→xs[i]?=some x,fun i H=>∃ xs,SqT K H a xs∧xs.length≤i⟩
noncomputable def Itr (lo:Int) (n:Nat):It:=⟨fun i _=>i < n,fun i H x H'=>H'=H∧x=.int (lo + i),fun i _=>n≤i⟩
theorem Zfz {P:Program}{w:World}{K:PySem.W.Frag}{tg:Expr}(a it:Addr):Turn P w K tg (Itl K a) [it] it (fun i h=>h.IsListIter it a i) where
 mem:=by simp
 obj:=fun i h st b hb=>by
  have e:b=it:=by simpa using hb
  subst e
  obtain ⟨o,e,c,d⟩:=st
  exact ⟨o,e,fun v z=>by rw [d] at z;cases z⟩
 keep:=fun i h h' st k=>st.at fun o e=>k it (by simp) o e
 item:=by
  intro X hP hw hK hc i pins s σ H E I hf st hg
  subst hP hw hK
  obtain ⟨xs,x,hq,hx⟩:=hg
  obtain ⟨its,rv,p,hz⟩:=I.list hq
  obtain ⟨u,hu,ru⟩:=rv.get hx
  obtain ⟨f0,f1,f2,f3,f4,f5⟩:=hf it (by simp)
  refine wpAny_pyNext_list_item st p.isList (x:=u) (by simpa using hu) fun h' st' sb=>?_
  have I1:Inv X pins σ H { s with heap:=h' }:=I.turned (t':=s.toks) (fun b o hb e=>(sb.2 b hb).trans e) f0 f1 f3 f4 f5
  obtain ⟨o,e,c,d⟩:=id st'
  exact ⟨u,rfl,Zdd (s:={ s with heap:=h' }) e c d (by decide) ⟨x,H,I1,ru,⟨rfl,fun ys hy=>by rw [I.ZgJ hy hq];exact hx⟩,st',fun b hb=>(hf b hb).1⟩⟩
 done:=by
  intro X hP hw hK hc i pins s σ H E I hf st hg
  subst hP hw hK
  obtain ⟨xs,hq,hx⟩:=hg
  obtain ⟨its,rv,p,hz⟩:=I.list hq
  obtain ⟨f0,f1,f2,f3,f4,f5⟩:=hf it (by simp)
  have hl:=rv.length
  exact wpAny_pyNext_list_end (I.ok.hd hc) st p.isList (by simp;omega) fun h' eb=>⟨rfl,I.turned (t':=s.toks) (fun b o hb e=>eb b o hb e) f0 f1 f3 f4 f5⟩
 self:=fun _ _ _ _ _ st h=>wpAny_pyIter_listiter st h
theorem Ze3 {P:Program}{w:World}{K:PySem.W.Frag}{tg:Expr}(a it:Addr):Turn P w K tg (Itt K a) [it] it (fun i h=>h.IsTupleIter it a i) where
 mem:=by simp
 obj:=fun i h st b hb=>by
  have e:b=it:=by simpa using hb
  subst e
  obtain ⟨o,e,c,d⟩:=st
  exact ⟨o,e,fun v z=>by rw [d] at z;cases z⟩
 keep:=fun i h h' st k=>st.at fun o e=>k it (by simp) o e
 item:=by
  intro X hP hw hK hc i pins s σ H E I hf st hg
  subst hP hw hK
  obtain ⟨xs,x,hq,hx⟩:=hg
  obtain ⟨its,rv,p,hz⟩:=I.tuple hq
  obtain ⟨u,hu,ru⟩:=rv.get hx
  obtain ⟨f0,f1,f2,f3,f4,f5⟩:=hf it (by simp)
  refine wpAny_pyNext_tuple_item st (show s.heap.IsTuple a its.toArray from p) (x:=u) (by simpa using hu) fun h' st' sb=>?_
  have I1:Inv X pins σ H { s with heap:=h' }:=I.turned (t':=s.toks) (fun b o hb e=>(sb.2 b hb).trans e) f0 f1 f3 f4 f5
  obtain ⟨o,e,c,d⟩:=id st'
  exact ⟨u,rfl,Zdd (s:={ s with heap:=h' }) e c d (by decide) ⟨x,H,I1,ru,⟨rfl,fun ys hy=>by rw [I.Zfq hy hq];exact hx⟩,st',fun b hb=>(hf b hb).1⟩⟩
 done:=by
  intro X hP hw hK hc i pins s σ H E I hf st hg
  subst hP hw hK
  obtain ⟨xs,hq,hx⟩:=hg
  obtain ⟨its,rv,p,hz⟩:=I.tuple hq
  obtain ⟨f0,f1,f2,f3,f4,f5⟩:=hf it (by simp)
  have hl:=rv.length
  exact wpAny_pyNext_tuple_end (I.ok.hd hc) st (show s.heap.IsTuple a its.toArray from p) (by simp;omega) fun h' eb=>⟨rfl,I.turned (t':=s.toks) (fun b o hb e=>eb b o hb e) f0 f1 f3 f4 f5⟩
 self:=fun _ _ _ _ _ st h=>wpAny_pyIter_tupleiter st h
theorem ZeP {P:Program}{w:World}{K:PySem.W.Frag}{tg:Expr}(it:Addr)(lo:Int)(n:Nat):Turn P w K tg (Itr lo n) [it] it (fun i h=>IsRangeIter h it (lo + (i:Nat) * 1) ((n:Int) - (i:Nat)) 1) where
 mem:=by simp
 obj:=fun i h st b hb=>by
  have e:b=it:=by simpa using hb
  subst e
  exact ⟨_,st,fun v z=>by
   have z':Data.fields _=Data.cell v:=z
   cases z'⟩
 keep:=fun i h h' st k=>k it (by simp) _ st
 item:=by
  intro X hP hw hK hc i pins s σ H E I hf st hg
  subst hP hw hK
  obtain ⟨f0,f1,f2,f3,f4,f5⟩:=hf it (by simp)
  have W:=Walks.range (prog:=X.prog) (w:=X.w) (I.ok.hd hc) it lo 1 n
  refine W.item i s _ _ hg st fun v h' tk hv st' kk=>?_
  obtain ⟨t,rfl⟩:=hv
  have I1:Inv X pins σ H { s with heap:=h',toks:=tk }:=I.turned (fun b o hb e=>kk b o (by simpa using hb) e) f0 f1 f3 f4 f5
  refine ⟨_,rfl,Zdd (s:={ s with heap:=h',toks:=tk }) (n:="range_iterator") st' rfl rfl (by decide) ⟨.int (lo + i),H,I1,⟨t,?_⟩,⟨rfl,rfl⟩,st',fun b hb=>(hf b hb).1⟩⟩
  rw [Int.mul_one]
 done:=by
  intro X hP hw hK hc i pins s σ H E I hf st hg
  subst hP hw hK
  obtain ⟨f0,f1,f2,f3,f4,f5⟩:=hf it (by simp)
  exact wpAny_pyNext_range_end (I.ok.hd hc) st (by have:n≤i:=hg;omega) fun h' eb=>⟨rfl,I.turned (t':=s.toks) (fun b o hb e=>eb b o hb e) f0 f1 f3 f4 f5⟩
 self:=fun _ _ _ _ _ st h=>wpAny_pyIter_rangeiter st h
end L2
namespace L2
open PySem PySem.Spec PyProof.Rows
section
variable {X:Cx} {tg:Expr}
theorem Zgg {pins:List (Addr × Obj)}{σ:St}{H:Hp}{s:Shared}{R:It→Hp→Prop}{E:Value→Shared→Prop}{lo hi:Int}{t u v:Tok}{tk:Nat}(I:Inv X pins σ H s)(h1:-(2 ^ 62)≤lo)(h2:lo < 2 ^ 62)(h3:-(2 ^ 62)≤hi)(h4:hi < 2 ^ 62)
  (q:R (Itr lo (hi - lo).toNat) H):wpAny (model X.prog X.w) X.A (pyIter (.ref s.heap.objs.size)) (PIE X pins σ tg R) E { s with heap:=s.heap.push { cls:=.type "range",data:=.fields #[.int lo t,.int hi u,.int 1 v] },toks:=tk }:=by
 refine wpAny_pyIter_range (IsRange.new ..) (small_one h1 h2 h3 h4) ?_
 have I1:Inv X pins σ H { s with heap:=s.heap.push { cls:=.type "range",data:=.fields #[.int lo t,.int hi u,.int 1 v] },toks:=tk }:=I.kept fun b o e=>Heap.get?_push_of_some _ e
 refine ⟨(s.heap.push { cls:=.type "range",data:=.fields #[.int lo t,.int hi u,.int 1 v] }).objs.size,[(s.heap.push { cls:=.type "range",data:=.fields #[.int lo t,.int hi u,.int 1 v] }).objs.size],_,_,H,rfl,
  I1.kept (t':=tk) fun b o e=>Heap.get?_push_of_some _ e,ZeP _ lo (hi - lo).toNat,?_,fun b hb=>?_,q⟩
 ·have e1:lo + ((0:Nat):Int) * 1=lo:=by simp
  have e2:(((hi - lo).toNat:Nat):Int) - ((0:Nat):Int)=Builtin.Range.rangeSize lo hi 1:=by rw [rangeSize_one];split <;> omega
  show IsRangeIter _ _ (lo + ((0:Nat):Int) * 1) ((((hi - lo).toNat:Nat):Int) - ((0:Nat):Int)) 1
  rw [e1,e2]
  exact Heap.get?_push_size _ rfl
 ·have e:b=(s.heap.push { cls:=.type "range",data:=.fields #[.int lo t,.int hi u,.int 1 v] }).objs.size:=by simpa using hb
  subst e
  exact I1.fpOk (Nat.le_refl _) (I1.hok.fresh (Nat.le_refl _))
noncomputable def Zjb (ta:TA):TI:=fun σ H R=>ta σ H fun vs H1=>∃ j:Int,vs=[.int j]∧-(2 ^ 62)≤j∧j < 2 ^ 62∧R (Itr 0 j.toNat) H1
theorem ZfI {a:Expr} {ta:TA} {p pos:Pos} (hg:Gl X "range") (hm:X.mg "range"=none) (ha:PA X [a] ta) (hs:starEach [a] X.env=[(false,eval a X.env)]:=by rfl):PI X tg (.Call (.Name "range" p) [a] [] pos) (Zjb ta):=by
 intro pins s σ H R I h
 refine Call_ (Zch I hg hm boot_range (PyProof.Rows.callWith_type1 (thn (ha pos pins s σ H _ I h) fun us s1 ⟨vs,H1,I1,r1,q1⟩=>?_) hs rfl))
 obtain ⟨j,e,q1,q2,q⟩:=q1
 subst e
 cases r1 with
 | cons r rr =>
  cases rr
  obtain ⟨t,rfl⟩:=r
  exact call_range_1 (Zgg I1 (by omega) (by omega) q1 q2 (by simpa using q))
noncomputable def tFor (wi:TI) (g:TG) (tb:TS):TS:=fun D σ H=>wi σ H fun J H1=>∃ W:Nat→Nat→St→Hp→Prop,(∃ m,W 0 m σ H1)∧∀ i m σ H,W i m σ H →
 (J.stop i H∧D.nx σ H)∨(J.go i H∧∃ N:St→Hp→Prop,(∀ σ' H',N σ' H'→∃ m',m' < m∧W (i + 1) m' σ' H')∧∀ x H',J.yld i H x H'→g x σ H' fun σ2 H2=>tb { D with nx:=N,ct:=N,bk:=D.nx } σ2 H2)
noncomputable def JC (fp:List Addr) (h:Heap):List (Addr × Obj):=fp.filterMap fun b=>(h.get? b).map fun o=>(b,o)
theorem Ys {fp:List Addr}{h:Heap}{b:Addr}{o:Obj}(hb:b ∈ fp)(e:h.get? b=some o):(b,o) ∈ JC fp h:=List.mem_filterMap.mpr ⟨b,hb,by rw [e];rfl⟩
theorem Zfm {fp:List Addr}{h:Heap}{p:Addr × Obj}(hp:p ∈ JC fp h):p.1 ∈ fp∧h.get? p.1=some p.2:=by
 obtain ⟨b,hb,e⟩:=List.mem_filterMap.mp hp
 cases q:h.get? b with
 | none=>rw [q] at e;cases e
 | some o =>
  rw [q] at e
  have e':(b,o)=p:=Option.some.inj e
  subst e'
  exact ⟨hb,q⟩
theorem Inv.pinned {pins:List (Addr × Obj)}{σ:St}{H:Hp}{s:Shared}{fp:List Addr}(I:Inv X pins σ H s)(hf:∀ b ∈ fp,FpOk X pins H b)(ho:∀ b ∈ fp,∃ o,s.heap.get? b=some o∧∀ v,o.data≠.cell v):Inv X (pins++JC fp s.heap) σ H s :=
 I.ZaA fun p hp=>(List.mem_append.mp hp).elim (fun z=>I.pin p (List.mem_append_right _ z)) fun z=>by
  obtain ⟨hb,e⟩:=Zfm z
  obtain ⟨f0,f1,f2,_⟩:=hf p.1 hb
  obtain ⟨o,e',d⟩:=ho p.1 hb
  rw [e] at e';cases e'
  exact ⟨e,f0,f1,f2,d⟩
theorem Inv.Zn {pins pl:List (Addr × Obj)}{σ:St}{H:Hp}{s:Shared}(I:Inv X (pins++pl) σ H s):Inv X pins σ H s:=I.ZaA fun p hp=>I.pin p (List.mem_append_right _ (List.mem_append_left _ hp))
theorem Zig {iter:Expr}{body:List Stmt}{wi:TI}{g:TG}{tb:TS}{pos:Pos}(hp:PassesOwn (model X.prog X.w) X.A X.env X.xe)(hc:X.calm=true)(hi:PI X tg iter wi)(hg:PG X tg g)(hb:PSs X body tb)
  (hs:∀ x,foldedSetIterable iter X.env x=pure x:=by intro _;rfl):PS X (.For tg iter body [] pos) (tFor wi g tb):=by
 intro pins s σ H D I h
 refine wpAny_For (thn (hi pins s σ H _ I h) fun v s1 h1=>thn h1 fun itv s2 h2=>?_) hs
 obtain ⟨it,fp,tn,J,H2,e,I2,T,st2,f2,W,⟨m0,w0⟩,turn⟩:=h2
 subst e
 have stat:∀ {H':Hp},(∀ b ∈ fp,H' b=none)→∀ b ∈ fp,FpOk X pins H' b:=fun hn b hb=>⟨hn b hb,(f2 b hb).2⟩
 refine codeAny_forLoop_any (fun n s'=>∃ i σ' H',Inv X pins σ' H' s'∧tn i s'.heap∧(∀ b ∈ fp,H' b=none)∧W i n σ' H') ?_ m0 ⟨0,σ,H2,I2,st2,fun b hb=>(f2 b hb).1,w0⟩
 rintro n s3 ⟨i,σ3,H3,I3,st3,fr3,w3⟩
 rcases turn i n σ3 H3 w3 with ⟨stop,qn⟩ | ⟨go,N,hN,step⟩
 ·refine wpAny_passesOwn hp (thn (T.done X rfl rfl rfl hc i pins s3 σ3 H3 X.xe I3 (stat fr3) st3 stop) fun r s4 ⟨hr,I4⟩=>?_)
  subst hr
  exact wpAny_execs_nil ⟨σ3,H3,I4,qn⟩
 ·refine wpAny_passesOwn hp (thn (T.item X rfl rfl rfl hc i pins s3 σ3 H3 X.xe I3 (stat fr3) st3 go) fun r s4 ⟨u,hr,h4⟩=>?_)
  subst hr
  refine wpAny_passesOwn hp (thn h4 fun _ s5 ⟨x,H5,I5,r5,y5,st5,fr5⟩=>?_)
  have I5':=I5.pinned (stat fr5) (T.obj _ _ st5)
  refine wpAny_passesOwn hp (thn (hg _ s5 σ3 H5 x u _ I5' r5 (step x H5 y5)) fun _ s6 ⟨σ6,H6,I6,q6⟩=>?_)
  refine wpAny_passesOwn hp (thn (hb _ s6 σ6 H6 _ I6 q6) fun f s7 q7=>?_)
  have again:∀ {σ7:St} {H7:Hp},Inv X (pins++JC fp s5.heap) σ7 H7 s7→N σ7 H7→∃ m,m < n∧∃ i σ' H',Inv X pins σ' H' s7∧tn i s7.heap∧(∀ b ∈ fp,H' b=none)∧W i m σ' H':=fun {σ7 H7} I7 n7=>by
   obtain ⟨m',hm,w7⟩:=hN σ7 H7 n7
   refine ⟨m',hm,i + 1,σ7,H7,I7.Zn,T.keep _ _ _ st5 fun b hb o e=>(I7.pin (b,o) (List.mem_append_right _ (List.mem_append_right _ (Ys hb e)))).1,fun b hb=>?_,w7⟩
   obtain ⟨o,e,d⟩:=T.obj _ _ st5 b hb
   exact (I7.pin (b,o) (List.mem_append_right _ (List.mem_append_right _ (Ys hb e)))).2.1
  cases f with
  | next=>obtain ⟨σ7,H7,I7,n7⟩:=q7;exact again I7 n7
  | cont=>obtain ⟨σ7,H7,I7,n7⟩:=q7;exact again I7 n7
  | brk=>obtain ⟨σ7,H7,I7,q7⟩:=q7;exact ⟨σ7,H7,I7.Zn,q7⟩
  | ret v=>obtain ⟨x7,σ7,H7,I7,r7,q7⟩:=q7;exact ⟨x7,σ7,H7,I7.Zn,r7,q7⟩
end
end L2
namespace L2
open PySem PySem.Spec PyProof.Rows
noncomputable abbrev R2:=V→V→Hp→VK→Prop
noncomputable def OpR (X:Cx) (f:Value→Value→Sem Value) (r:R2):Prop :=
 ∀ (pins:List (Addr × Obj)) (s:Shared) (σ:St) (H:Hp) (x y:V) (v u:Value) (Q:VK),Inv X pins σ H s→RelV x v→RelV y u→r x y H Q →
  wpAny (model X.prog X.w) X.A (f v u) (EP X pins σ Q) X.xe s
noncomputable def Yu (X:Cx) (f:Value) (r:List V→Hp→VK→Prop):Prop :=
 ∀ (pins:List (Addr × Obj)) (s:Shared) (σ:St) (H:Hp) (xs:List V) (us:List Value) (Q:VK),Inv X pins σ H s→Vals xs us→r xs H Q →
  wpAny (model X.prog X.w) X.A (call f us) (EP X pins σ Q) X.xe s
noncomputable def tOp (r:R2) (ta tb:TE):TE:=fun σ H Q=>ta σ H fun x H1=>tb σ H1 fun y H2=>r x y H2 Q
noncomputable def rI (C:Int→Int→Prop) (g:Int→Int→V):R2:=fun x y H Q=>∃ i j,x=.int i∧y=.int j∧C i j∧Q (g i j) H
noncomputable def rI0 (g:Int→Int→V):R2:=fun x y H Q=>∃ i j,x=.int i∧y=.int j∧Q (g i j) H
section
variable {X:Cx} {a b c:Expr} {ta tb tc:TE} {pos:Pos}
theorem binT (ha:PE X a ta)(hb:PE X b tb){pins:List (Addr × Obj)}{s:Shared}{σ:St}{H:Hp}{R:V→V→Hp→Prop}(I:Inv X pins σ H s)
  (h:ta σ H fun x H1=>tb σ H1 fun y H2=>R x y H2) {Q:Value→Shared→Prop} {f:Value→Value→Sem Value}
  (hf:∀ v u s2 x y H2,Inv X pins σ H2 s2→RelV x v→RelV y u→R x y H2→wpAny (model X.prog X.w) X.A (f v u) Q X.xe s2) :
  wpAny (model X.prog X.w) X.A (eval a X.env) (fun v s₁=>wpAny (model X.prog X.w) X.A (eval b X.env) (fun u s₂=>wpAny (model X.prog X.w) X.A (f v u) Q X.xe s₂) X.xe s₁) X.xe s:=by
 refine thn (ha pins s σ H _ I h) fun v s1 ⟨x,H1,I1,r1,q1⟩=>?_
 refine thn (hb pins s1 σ H1 _ I1 q1) fun u s2 ⟨y,H2,I2,r2,q2⟩=>?_
 exact hf v u s2 x y H2 I2 r1 r2 q2
theorem Zdj {op:Operator}{r:R2}(ho:OpR X (binaryOp op) r)(ha:PE X a ta)(hb:PE X b tb):PE X (.BinOp a op b pos) (tOp r ta tb):=by
 intro pins s σ H Q I h
 exact wpAny_BinOp (binT ha hb I h fun v u s2 x y H2 I2 rx ry q=>ho pins s2 σ H2 x y v u Q I2 rx ry q)
theorem opI {f:Value→Value→Sem Value}{C:Int→Int→Prop}{g:Int→Int→Int}
  (rule:∀ (i j:Int) (t u:Tok) (s:Shared) (Q:Value→Shared→Prop) (E:Value→Shared→Prop),C i j→Q (.int (g i j) s.toks) { s with toks:=s.toks + 1 }→wpAny (model X.prog X.w) X.A (f (.int i t) (.int j u)) Q E s) :
  OpR X f (rI C fun i j=>.int (g i j)):=by
 intro pins s σ H x y v u Q I rx ry h
 obtain ⟨i,j,rfl,rfl,hc,q⟩:=h
 obtain ⟨t,rfl⟩:=rx
 obtain ⟨t',rfl⟩:=ry
 exact rule i j t t' s _ _ hc ⟨.int (g i j),H,I.tok _,⟨_,rfl⟩,q⟩
theorem opI0 {f:Value→Value→Sem Value}{g:Int→Int→Int}
  (rule:∀ (i j:Int) (t u:Tok) (s:Shared) (Q:Value→Shared→Prop) (E:Value→Shared→Prop),Q (.int (g i j) s.toks) { s with toks:=s.toks + 1 }→wpAny (model X.prog X.w) X.A (f (.int i t) (.int j u)) Q E s) :
  OpR X f (rI0 fun i j=>.int (g i j)):=by
 intro pins s σ H x y v u Q I rx ry h
 obtain ⟨i,j,rfl,rfl,q⟩:=h
 obtain ⟨t,rfl⟩:=rx
 obtain ⟨t',rfl⟩:=ry
 exact rule i j t t' s _ _ ⟨.int (g i j),H,I.tok _,⟨_,rfl⟩,q⟩
theorem opB0 {f:Value→Value→Sem Value}{g:Int→Int→Bool}
  (rule:∀ (i j:Int) (t u:Tok) (s:Shared) (Q:Value→Shared→Prop) (E:Value→Shared→Prop),Q (.bool (g i j)) s→wpAny (model X.prog X.w) X.A (f (.int i t) (.int j u)) Q E s) :
  OpR X f (rI0 fun i j=>.bl (g i j)):=by
 intro pins s σ H x y v u Q I rx ry h
 obtain ⟨i,j,rfl,rfl,q⟩:=h
 obtain ⟨t,rfl⟩:=rx
 obtain ⟨t',rfl⟩:=ry
 exact rule i j t t' s _ _ ⟨.bl (g i j),H,I,rfl,q⟩
noncomputable def CDiv (i j:Int):Prop:=0 < j∧j < 1073741824
noncomputable def CMul (i j:Int):Prop:=(-(2 ^ 64) < i∧i < 2 ^ 64)∨(-(2 ^ 64) < j∧j < 2 ^ 64)
theorem CMul.ok {i j:Int}(h:CMul i j):IntMulOk i j:=by
 rcases h with ⟨h1,h2⟩ | ⟨h1,h2⟩
 ·exact .of_left (intBits_le_64 h1 h2)
 ·exact .of_right (intBits_le_64 h1 h2)
theorem ZiJ:OpR X (binaryOp .Add) (rI0 fun i j=>.int (i + j)):=opI0 fun _ _ _ _ _ _ _ q=>add_int q
theorem Ziz:OpR X (binaryOp .Mult) (rI CMul fun i j=>.int (i * j)):=opI fun _ _ _ _ _ _ _ hc q=>mul_int q hc.ok
theorem ZhU:OpR X (binaryOp .FloorDiv) (rI CDiv fun i j=>.int (i / j)):=opI fun i j _ _ _ _ _ hc q=>by
 have h1:(0:Int) < j:=hc.1
 have h2:j < 1073741824:=hc.2
 exact floordiv_int (by omega) (by rw [Int.fdiv_eq_ediv_of_nonneg i (by omega)];exact q) (.inl (PyProof.noPylong_small (by omega)))
theorem Zi1:OpR X (binaryOp .Mod) (rI (fun _ j=>0 < j) fun i j=>.int (i % j)):=opI fun i j _ _ _ _ _ hc q=>by
 have h1:(0:Int) < j:=hc
 exact mod_int' (by omega) (by rw [Int.fmod_eq_emod_of_nonneg i (by omega)];exact q)
end
section
variable {X:Cx} {a b c:Expr} {ta tb tc:TE} {pos:Pos}
theorem Ziv {pins:List (Addr × Obj)}{σ:St}{H:Hp}{s:Shared}{Q:VK}{k k':Bool}(I:Inv X pins σ H s)(q:Q (.bl k) H)(e:k=k'):EP X pins σ Q (.bool k') s:=by
 subst e
 exact ⟨.bl k,H,I,rfl,q⟩
theorem Zg1:OpR X (compareOp .Lt) (rI0 fun i j=>.bl (decide (i < j))):=opB0 fun _ _ _ _ _ _ _ q=>lt_int q
theorem Zjj:OpR X (compareOp .Gt) (rI0 fun i j=>.bl (decide (j < i))):=opB0 fun _ _ _ _ _ _ _ q=>gt_int q
theorem Zg4:OpR X (compareOp .GtE) (rI0 fun i j=>.bl (decide (j≤i))):=opB0 fun _ _ _ _ _ _ _ q=>ge_int q
theorem Zin:OpR X (compareOp .Is) (fun x y H Q=>y=.non∧Q (.bl (decide (x=.non))) H):=by
 intro pins s σ H x y v u Q I rx ry h
 obtain ⟨rfl,q⟩:=h
 cases ry
 refine is_none_gen (Ziv I q ?_)
 cases x <;> first
  | (cases rx;rfl)
  | (obtain ⟨t,rfl⟩:=rx;rfl)
theorem OpR.or {f:Value→Value→Sem Value}{r r':R2}(h:OpR X f r)(h':OpR X f r'):OpR X f (fun x y H Q=>r x y H Q∨r' x y H Q):=by
 intro pins s σ H x y v u Q I rx ry q
 rcases q with q | q
 ·exact h pins s σ H x y v u Q I rx ry q
 ·exact h' pins s σ H x y v u Q I rx ry q
theorem ZR (b:Expr){op:CmpOp}(h:op≠.In:=by decide)(h2:op≠.NotIn:=by decide):behindInMarks op b=false:=by
 have e1:(op == CmpOp.In)=false:=by cases op <;> first | rfl | exact absurd rfl h
 have e2:(op == CmpOp.NotIn)=false:=by cases op <;> first | rfl | exact absurd rfl h2
 cases b <;> simp [behindInMarks,e1,e2]
theorem ZhW {op:CmpOp}{r:R2}(ho:OpR X (compareOp op) r)(ha:PE X a ta)(hb:PE X b tb)(hm:behindInMarks op b=false):PE X (.Compare a [op] [b] pos) (tOp r ta tb):=by
 intro pins s σ H Q I h
 exact wpAny_Compare1 (binT ha hb I h fun v u s2 x y H2 I2 rx ry q=>ho pins s2 σ H2 x y v u Q I2 rx ry q) hm
noncomputable def Zje (t:TE):TT:=fun σ H Q=>t σ H fun x H'=>∃ k,x=.bl k∧Q k H'
theorem Zh0 {op:CmpOp}{r:R2}(ho:OpR X (compareOp op) r)(ha:PE X a ta)(hb:PE X b tb)(hm:behindInMarks op b=false):PT X (.Compare a [op] [b] pos) (Zje (tOp r ta tb)):=by
 intro pins s σ H Q I h
 refine wpAny_isTrue_Compare1 (thn (ha pins s σ H _ I h) fun v s1 ⟨x,H1,I1,r1,q1⟩=>thn (hb pins s1 σ H1 _ I1 q1) fun u s2 ⟨y,H2,I2,r2,q2⟩ =>
  thn (ho pins s2 σ H2 x y v u _ I2 r1 r2 q2) fun c s3 ⟨z,H3,I3,r3,k,e,q3⟩=>?_) hm
 subst e
 cases r3
 exact wpAny_truthy_bool ⟨H3,I3,q3⟩
theorem ZbP:(sizeLine:Nat) < 2 ^ 63:=by rw [sizeLine_eq];decide
theorem Zfd:OpR X (binaryOp .Add) (fun x y H Q=>∃ i j,x=.str i∧y=.str j∧i.length + j.length≤sizeLine∧Q (.str (i++j)) H):=by
 intro pins s σ H x y v u Q I rx ry h
 obtain ⟨i,j,rfl,rfl,hz,q⟩:=h
 obtain ⟨t,rfl⟩:=rx
 obtain ⟨t',rfl⟩:=ry
 exact add_str (fun t' tk=>⟨.str (i++j),H,I.tok _,⟨_,rfl⟩,q⟩) hz
noncomputable def Zd2 (b:Expr):Prop:=∀ o i,subscripted b false o i=operate [o,i] (getItem o i)
theorem Zeb (ha:PE X a ta)(hb:PE X b tb)(hs:Zd2 b) :
  PE X (.Subscript a b pos) (tOp (fun x y H Q=>∃ z i c,x=.str z∧y=.int i∧0≤i∧i < 2 ^ 63∧i < z.length∧z.cps[i.toNat]?=some c∧Q (.str ⟨#[c]⟩) H) ta tb):=by
 intro pins s σ H Q I h
 refine Subscript_ (binT ha hb I h fun v u s2 x y H2 I2 rx ry q=>?_)
 obtain ⟨z,i,c,rfl,rfl,h0,h63,h1,hc,q⟩:=q
 obtain ⟨t,rfl⟩:=rx
 obtain ⟨t',rfl⟩:=ry
 have e:seqIndex? i z.length=some i.toNat:=PySem.StrLaws.seqIndex_nonneg h0 h1
 exact tail_any (typeIs_str s2 z t) slot_str_getitem.lookup (getItem_str (c:=c) (by
  have e1:decide (i < -(2 ^ 63:Int))=false:=decide_eq_false (by omega)
  have e2:decide (i ≥ 2 ^ 63)=false:=decide_eq_false (by omega)
  rw [e1,e2] <;> rfl) (by rw [e];exact hc) ⟨.str ⟨#[c]⟩,H2,I2.tok _,⟨_,rfl⟩,q⟩) (hs _ _)
theorem vals1 {x:V}{us:List Value}(r:Vals [x] us):∃ u,us=[u]∧RelV x u:=by
 cases r with
 | cons r1 r2=>cases r2;exact ⟨_,rfl,r1⟩
theorem Zdq:Yu X (.type "str") (fun xs H Q=>∃ i,xs=[.int i]∧i.natAbs.log2 < 1920∧Q (.str (toString i)) H):=by
 intro pins s σ H xs us Q I r h
 obtain ⟨i,rfl,hz,q⟩:=h
 obtain ⟨u,rfl,t,rfl⟩:=vals1 r
 exact PySem.P.str_of_int hz ⟨.str _,H,I.tok _,⟨_,rfl⟩,q⟩
end
end L2
namespace L2
open PySem PySem.Spec PyProof.Rows
section
variable {prog:Program} {w:World} {A:Around} {E:Value→Shared→Prop} {s:Shared} {K:PySem.W.Frag} {x dx C f:Addr} {mA:Str→Option Value} {name:Str} {v:Value}
end
section
variable {P:Program} {w:World} {H H':Hp} {h h':Heap} {a C dx:Addr} {fs fs':List (Str × V)}
end
structure Cls (K:PySem.W.Frag)(C:Addr):Prop where
 pg:PySem.W.plainGet K C Str.empty=true
 hd:PySem.W.hasDictIn K C=true
 po:PySem.W.plainOver K C=true
 sa:PySem.W.findIn K (.ref C) "__setattr__"=some (some (.builtin "object.__setattr__"))
theorem Cls.get {K:PySem.W.Frag}{C:Addr}(c:Cls K C)(f:Str):PySem.W.plainGet K C f=true:=c.pg
section
variable {X:Cx} {pins:List (Addr × Obj)} {σ:St} {H:Hp} {s:Shared} {a C dx:Addr} {fs:List (Str × V)} {f:Str} {v:V} {A:Around} {E:Value→Shared→Prop}
theorem Inv.made (I:Inv X pins σ H s):Inv X pins σ (upd (upd H s.heap.objs.size (.own (s.heap.objs.size + 1))) (s.heap.objs.size + 1) (.ins C s.heap.objs.size []))
  { s with heap:=(s.heap.push PySem.W.emptyDict).push (PySem.W.instObj C s.heap.objs.size) }:=by
 have e1:(s.heap.push PySem.W.emptyDict).get? s.heap.objs.size=some PySem.W.emptyDict:=Heap.get?_push_size s.heap rfl
 have e2:((s.heap.push PySem.W.emptyDict).push (PySem.W.instObj C s.heap.objs.size)).get? (s.heap.objs.size + 1)=some (PySem.W.instObj C s.heap.objs.size):=by
  have:=Heap.get?_push_size (s.heap.push PySem.W.emptyDict) (o:=PySem.W.instObj C s.heap.objs.size) rfl
  rwa [Heap.size_push] at this
 have e3:(s.heap.push PySem.W.emptyDict).Ns s.heap.objs.size (fun _=>none):=⟨PySem.W.emptyDict,#[],_,e1,rfl,(fun e he=>absurd he (by simp)),fun _=>rfl⟩
 have I1:=I.laid (a:=s.heap.objs.size) (o:=.own (s.heap.objs.size + 1)) (h':=s.heap.push PySem.W.emptyDict) (t':=s.toks) (fun b u q=>Heap.get?_push_of_some _ q) (Nat.le_refl _) ⟨_,e1⟩
 refine I1.laid (a:=s.heap.objs.size + 1) (o:=.ins C s.heap.objs.size []) (t':=s.toks) (fun b u q=>Heap.get?_push_of_some _ q) (Nat.le_of_eq (Heap.size_push _ _)) ?_
 have ne:s.heap.objs.size≠s.heap.objs.size + 1:=Nat.ne_of_lt (Nat.lt_succ_self _)
 refine ⟨by rw [Yb ne,Zb],Nat.zero_le _,ne,e2,fun _=>none,(Heap.Ns1.of_empty e3).at fun o q=>Heap.get?_push_of_some _ q,fun _=>True.intro,fun y hy=>absurd rfl hy⟩
end
section
variable {X:Cx} {o e value:Expr} {f:Str} {pos pos' tpos:Pos} {ta tv:TE}
end
section
variable {X:Cx} {pins:List (Addr × Obj)} {σ:St} {H:Hp} {s:Shared} {A:Around} {E:Value→Shared→Prop} {Q:Value→Shared→Prop} {c:Value} {b:Bool}
end
end L2
namespace L2
open PySem PySem.Spec PyProof.Rows
structure Room (k:Nat)(A:Around):Prop where
 hd:A.handled=none
 dp:A.depth + 3 * k + 5 < recursionLimit
 un:A.units + 16 * k + 200 < cLine
theorem Room.mono {j k:Nat}{A:Around}(r:Room k A)(h:j≤k):Room j A:=⟨r.hd,by have:=r.dp;omega,by have:=r.un;omega⟩
theorem Room.deeper {k:Nat}{A:Around}(r:Room (k + 1) A)(env:Env):Room k (A.deeper env) :=
 ⟨r.hd,by have:=r.dp;show A.depth + 1 + 3 * k + 5 < _;omega,by have:=r.un;show A.units + 3 + 16 * k + 200 < _;omega⟩
theorem Room.in1 {k:Nat}{A:Around}(r:Room (k + 1) A):Room k A.in1 :=
 ⟨r.hd,by have:=r.dp;show A.depth + 3 * k + 5 < _;omega,by have:=r.un;show A.units + 1 + 16 * k + 200 < _;omega⟩
theorem Room.depth {k:Nat}{A:Around}(r:Room k A):A.depth < recursionLimit:=by have:=r.dp;omega
theorem Room.units {k:Nat}{A:Around}(r:Room k A):A.units + 64 < cLine:=by have:=r.un;omega
noncomputable def tNil:TA:=fun _ H Q=>Q [] H
noncomputable def Zi9 (ta:TE) (tr:TA):TA:=fun σ H Q=>ta σ H fun x H1=>tr σ H1 fun xs H2=>Q (x::xs) H2
section
variable {X:Cx} {e:Expr} {es:List Expr} {te:TE} {t:TA} {pos:Pos}
theorem Jp:PA X [] tNil:=fun _ _ _ _ H Q I h=>Calls.spliced_nil ⟨[],H,I,.nil,h⟩
theorem Zj (ha:PE X e te)(hr:PA X es t)(hs:starEach (e::es) X.env=(false,eval e X.env)::starEach es X.env:=by rfl):PA X (e::es) (Zi9 te t):=by
 intro pos pins s σ H Q I h
 rw [hs]
 show wpAny _ _ (spliced ((false,eval e X.env)::backTo pos (starEach es X.env))) _ _ s
 refine Calls.spliced_cons (thn (ha pins s σ H _ I h) fun u s1 ⟨x,H1,I1,r1,q1⟩=>?_)
 exact thn (hr pos pins s1 σ H1 _ I1 q1) fun us s2 ⟨xs,H2,I2,r2,q2⟩=>⟨x::xs,H2,I2,.cons r1 r2,q2⟩
noncomputable def tLst (t:TA):TE:=fun σ H Q=>t σ H fun xs H1=>xs.length≤sizeLine∧∀ p,H1 p=none→Q (.ref p) (upd H1 p (.lst xs))
theorem ZiU (h:PA X es t):PE X (.List es pos) (tLst t):=by
 intro pins s σ H Q I hq
 refine wpAny_List_spliced (thn (h pos pins s σ H _ I hq) fun us s1 ⟨xs,H1,I1,r,z,q⟩=>⟨by rw [← r.length];exact z,?_⟩)
 have hf:H1 s1.heap.objs.size=none:=I1.hok.fresh (Nat.le_refl _)
 refine ⟨.ref s1.heap.objs.size,upd H1 s1.heap.objs.size (.lst xs),I1.laid (t':=s1.toks) (fun b u e=>Heap.get?_push_of_some _ e) (Nat.le_refl _) ?_,rfl,q _ hf⟩
 exact ⟨z,us,0,r,Heap.get?_push_size _ rfl⟩
end
noncomputable abbrev Sp:=List V→Hp→VK→XK→Prop
noncomputable abbrev CXT:=List Env→Hp→Shared→XK→Value→Shared→Prop
structure Env0 (P:Program)(w:World)(K:PySem.W.Frag)(mg:Str→Option Value)(base:Heap)(A:Around)(outer:List Env)(s:Shared)(H:Hp):Prop where
 frames:A.frames=some outer
 mod:Mod K mg base
 bs:∀ b o,base.get? b=some o→s.heap.get? b=some o∧H b=none
 bsz:base.objs.size≤s.heap.objs.size
 funs:s.heap.FunFrames base outer
 frf:∀ b ∈ frs outer,H b=none
 hok:HOk P w H s.heap
 bare:AllBare s.gens
noncomputable def CE (outer:List Env) (P:Program) (w:World) (H:Hp) (s:Shared) (Q:VK) (u:Value) (s':Shared):Prop :=
 ∃ v H',s'.os=s.os∧AllBare s'.gens∧Un (frs outer) [] H H' s.heap s'.heap∧HOk P w H' s'.heap∧RelV v u∧Q v H'
noncomputable def CR (CX:CXT) (outer:List Env) (P:Program) (w:World) (H:Hp) (s:Shared) (Q:VK) (E:XK) (r:Result) (s':Shared):Prop :=
 match r with
 | .ok (.ret u)=>CE outer P w H s Q u s'
 | .ok _=>False
 | .error e=>CX outer H s E e s'
structure FnOk (P:Program)(w:World)(K:PySem.W.Frag)(mg:Str→Option Value)(base:Heap)(CX:CXT)(k:Nat)(f:Addr)(fd:FuncData)(ps:List Str)(sp:Sp):Prop where
 len:∀ vs H Q E,sp vs H Q E→vs.length=ps.length
 run:∀ (A:Around) (outer:List Env) (s:Shared) (H:Hp) (args:Args) (us:List Value) (vs:List V) (Q:VK) (E:XK),Room k A→Env0 P w K mg base A outer s H→BindsTo s fd args (ps.zip us)→Vals vs us→sp vs H Q E →
  codeAny (model P w) A (.call (.ref f) args) (CR CX outer P w H s Q E) s
theorem FnOk.mono {P:Program}{w:World}{K:PySem.W.Frag}{mg:Str→Option Value}{base:Heap}{CX:CXT}{j k:Nat}{f:Addr}{fd:FuncData}{ps:List Str}{sp:Sp}(F:FnOk P w K mg base CX j f fd ps sp)(h:j≤k) :
  FnOk P w K mg base CX k f fd ps sp:=⟨F.len,fun A outer s H args us vs Q E hr=>F.run A outer s H args us vs Q E (hr.mono h)⟩
theorem Env0.in1 {P:Program}{w:World}{K:PySem.W.Frag}{mg:Str→Option Value}{base:Heap}{A:Around}{outer:List Env}{s:Shared}{H:Hp}(e:Env0 P w K mg base A outer s H) :
  Env0 P w K mg base A.in1 outer s H:=⟨e.frames,e.mod,e.bs,e.bsz,e.funs,e.frf,e.hok,e.bare⟩
section
variable {X:Cx} {pins:List (Addr × Obj)} {σ:St} {H:Hp} {s s':Shared}
theorem Inv.env0 (I:Inv X pins σ H s):Env0 X.prog X.w X.K X.mg X.base X.A X.stack s H :=
 ⟨I.ok.frames,I.ok.mod,I.bs,Nat.le_trans I.ok.bsz I.sz,I.stack,I.ZcI,I.hok,I.bare⟩
theorem Inv.after {Q:VK}{u:Value}(I:Inv X pins σ H s)(h:CE X.stack X.prog X.w H s Q u s'):EP X pins σ Q u s':=by
 obtain ⟨v,H',os,bare,un,hok,r,q⟩:=h
 obtain ⟨hh,g,d,t,os'⟩:=s'
 obtain rfl:os'=s.os:=os
 exact ⟨v,H',I.call (h':=hh) (g':=g) (d':=d) (t':=t) (ch:=[]) un hok bare (fun b z=>absurd z (by simp)),r,q⟩
end
noncomputable def Zji (sp:Sp) (dvs:List V) (E:XK) (t:TA):TE:=fun σ H Q=>t σ H fun vs H1=>sp (vs++dvs) H1 Q E
noncomputable def Binds (K:PySem.W.Frag) (fd:FuncData) (ps:List Str) (ds:List Value):Prop :=
 ∀ (s:Shared) (us:List Value),K.In s.heap→(us++ds).length=ps.length→BindsTo s fd ⟨us,[]⟩ (ps.zip (us++ds))
theorem Binds.all {K:PySem.W.Frag}{fd:FuncData}{ps:List Str}(h:∀ us:List Value,us.length=ps.length→bindArgs fd ⟨us,[]⟩=pure (ps.zip us)):Binds K fd ps []:=fun s us _ hl=>by
 rw [List.append_nil] at hl ⊢
 exact .of_eq (h us hl)
noncomputable def Passes (CX:CXT) (X:Cx) (E:XK):Prop:=∀ (pins:List (Addr × Obj)) (σ:St) (H:Hp) (s:Shared) (e:Value) (s':Shared),Inv X pins σ H s→CX X.stack H s E e s'→X.xe e s'
section
variable {X:Cx} {CX:CXT} {k:Nat} {f C:Addr} {fd:FuncData} {ps:List Str} {sp:Sp} {dvs:List V} {ds:List Value} {E:XK} {x m:Str} {p pos apos:Pos} {e o:Expr} {es:List Expr} {ta:TE} {t:TA}
theorem Zh4 {pins:List (Addr × Obj)}{σ:St}{H:Hp}{s:Shared}{Q:VK}{us:List Value}{vs:List V}(F:FnOk X.prog X.w X.K X.mg X.base CX k f fd ps sp)(hr:Room k X.A)(hb:Binds X.K fd ps ds)(hd:Vals dvs ds)(hx:Passes CX X E)
  (I:Inv X pins σ H s) (r:Vals vs us) (h:sp (vs++dvs) H Q E):wpAny (model X.prog X.w) X.A (call (.ref f) us) (EP X pins σ Q) X.xe s:=by
 have r2:Vals (vs++dvs) (us++ds):=r.append hd
 have hl:(us++ds).length=ps.length:=by rw [← r2.length];exact F.len _ _ _ _ h
 refine wpAny_call (codeAny_mono (F.run X.A X.stack s H ⟨us,[]⟩ (us++ds) (vs++dvs) Q E hr I.env0 (hb s us I.kIn hl) r2 h) fun r s' hq=>?_)
 cases r with
 | error e=>exact hx pins σ H s e s' I hq
 | ok fl =>
  cases fl with
  | ret u=>exact I.after hq
  | next=>exact False.elim hq
  | brk=>exact False.elim hq
  | cont=>exact False.elim hq
theorem ZhX (F:FnOk X.prog X.w X.K X.mg X.base CX k f fd ps sp)(hr:Room k X.A)(hg:Gl X x)(hm:X.mg x=some (.ref f))(hk:PySem.W.keepIn X.K (.ref f)=true)(hb:Binds X.K fd ps ds)(hd:Vals dvs ds)(hx:Passes CX X E)
  (ha:PA X (e::es) t) (hdb:(x == ("__debug__":Str))=false:=by decide) (he:starEach (e::es) X.env=(false,eval e X.env)::starEach es X.env:=by rfl) (hpl:(backTo pos (starEach es X.env)).any (·.1)=false:=by rfl) :
  PE X (.Call (.Name x p) (e::es) [] pos) (Zji sp dvs E t):=by
 intro pins s σ H Q I h
 refine wpAny_Call_Name_kw (JD I hg hm ?_ hdb)
 refine PySem.W.callWith_K (h₀:=X.base) I.ok.mod.kin hk (thn (ha pos pins s σ H _ I h) fun us s1 ⟨vs,H1,I1,r,q⟩=>⟨I1.kIn,?_⟩) he hpl
 exact Zh4 F hr hb hd hx I1 r q
end
section
variable {X:Cx} {CX:CXT} {k:Nat} {f C:Addr} {fd:FuncData} {ps ks:List Str} {sp:Sp} {E:XK} {x m:Str} {p pos apos kpos:Pos} {e o:Expr} {es:List Expr} {kws:List Keyword} {te ta:TE} {t tk:TA} {nm:Option Str}
variable {g:List Value→List Value→List Value} {gV:List V→List V→List V}
end
structure Jj (N P:List Str)(sc:Scope):Prop where
 kind:sc.kind=.function
 co:sc.isCoroutine=false
 gen:sc.isGenerator=false
 nd:N.Nodup
 pre:N.take P.length=P
 par:∀ x ∈ P,sc.names.lookup x=some .local∨sc.names.lookup x=some .cell
 nofree:∀ y ∈ sc.names,y.2≠.free
theorem Zc0 {kindOf:Str→Option NameKind}{x:Str}:∀ {binds:List (Str × Value)} {m:Str→Option Value},(∀ v,(x,v) ∉ binds)→bindL kindOf binds m x=m x
 | [],_,_=>rfl
 | (n,v)::r,m,h=>by
  unfold bindL
  rw [Zc0 fun w hw=>h w (List.mem_cons_of_mem _ hw)]
  split
  ·have:x≠n:=by rintro rfl;exact h v List.mem_cons_self
   simp [this]
  ·rfl
theorem ZcP {kindOf:Str→Option NameKind}{x:Str}:∀ {binds:List (Str × Value)} {m:Str→Option Value},(∀ v,(x,v) ∉ binds)→bindC kindOf binds m x=m x
 | [],_,_=>rfl
 | (n,v)::r,m,h=>by
  unfold bindC
  rw [ZcP fun w hw=>h w (List.mem_cons_of_mem _ hw)]
  split
  ·rfl
  ·have:x≠n:=by rintro rfl;exact h v List.mem_cons_self
   simp [this]
theorem ZcZ {kindOf:Str→Option NameKind}{x:Str}{v:Value}:∀ {P:List Str} {vs:List Value} {i:Nat} {m:Str→Option Value},P.Nodup→P[i]?=some x→vs[i]?=some v→kindOf x=some .local →
  bindL kindOf (P.zip vs) m x=some v
 | [],_,_,_,_,h,_,_=>by simp at h
 | _::_,[],_,_,_,_,h,_=>by simp at h
 | p::P,w::vs,0,m,nd,h1,h2,hk=>by
  simp at h1 h2;subst h1;subst h2
  show bindL kindOf ((p,w)::P.zip vs) m p=_
  unfold bindL
  rw [Zc0 fun v hv=>(List.nodup_cons.mp nd).1 (List.of_mem_zip hv).1,if_pos hk]
  simp
 | p::P,w::vs,i + 1,m,nd,h1,h2,hk=>by
  show bindL kindOf ((p,w)::P.zip vs) m x=_
  unfold bindL
  exact ZcZ (i:=i) (List.nodup_cons.mp nd).2 (by simpa using h1) (by simpa using h2) hk
theorem ZcM {kindOf:Str→Option NameKind}{x:Str}{v:Value}:∀ {P:List Str} {vs:List Value} {i:Nat} {m:Str→Option Value},P.Nodup→P[i]?=some x→vs[i]?=some v→kindOf x≠some .local →
  bindC kindOf (P.zip vs) m x=some v
 | [],_,_,_,_,h,_,_=>by simp at h
 | _::_,[],_,_,_,_,h,_=>by simp at h
 | p::P,w::vs,0,m,nd,h1,h2,hk=>by
  simp at h1 h2;subst h1;subst h2
  show bindC kindOf ((p,w)::P.zip vs) m p=_
  unfold bindC
  rw [ZcP fun v hv=>(List.nodup_cons.mp nd).1 (List.of_mem_zip hv).1,if_neg hk]
  simp
 | p::P,w::vs,i + 1,m,nd,h1,h2,hk=>by
  show bindC kindOf ((p,w)::P.zip vs) m x=_
  unfold bindC
  exact ZcM (i:=i) (List.nodup_cons.mp nd).2 (by simpa using h1) (by simpa using h2) hk
noncomputable def start (N:List Str) (vs:List V):St:=vs.map some++List.replicate (N.length - vs.length) none
noncomputable def cxOf (CX:CXT) (P:Program) (w:World) (K:PySem.W.Frag) (mg:Str→Option Value) (base:Heap) (N:List Str) (qual:Str) (scope:Scope) (f:Addr) (cd:Value) (A:Around) (outer:List Env) (s:Shared) (H:Hp) (E:XK):Cx where
 prog:=P
 w:=w
 K:=K
 mg:=mg
 base:=base
 A:=A.deeper (envOfC qual scope s.heap.objs.size f cd)
 N:=N
 s₀:=s
 H₀:=H
 env:=envOfC qual scope s.heap.objs.size f cd
 outer:=outer
 stack:=envOfC qual scope s.heap.objs.size f cd::outer
 ex:=[]
 calm:=true
 fn:=fun _=>true
 pn:=[]
 xe:=fun e s'=>wpAny (model P w) (A.deeper (envOfC qual scope s.heap.objs.size f cd)) (leaving (envOfC qual scope s.heap.objs.size f cd) e) (fun _ s''=>CX outer H s E e s'') (fun e' s''=>CX outer H s E e' s'') s'
theorem ZdK {sc:Scope}{n:Nat}{x:Str}(h:sc.names.lookup x=some .cell):∃ c,(cellsFrom n sc.names []).lookup x=some c:=by
 have q:=PySem.W.cellsFrom_some sc.names n [] (.inl h)
 exact Option.isSome_iff_exists.mp q
theorem ZcY {CX : CXT}{P : Program}{w : World}{K : PySem.W.Frag}{mg : Str → Option Value}{base : Heap}{N ps : List Str}{qual : Str}{scope : Scope}{f : Addr}{cd : Value}{A : Around}{outer : List Env}{s s1 : Shared}{H : Hp}{E : XK}{us : List Value}{vs : List V}
    (S : Jj N ps scope) (hd : A.handled = none) (e0 : Env0 P w K mg base A outer s H) (hl : vs.length = ps.length) (r : Vals vs us)
    (x : InCallC s s.heap.objs.size (bindL (envOfC qual scope s.heap.objs.size f cd).kindOf (ps.zip us) fun _ => none) (cellsFrom (s.heap.objs.size + 1) scope.names []) (bindC (envOfC qual scope s.heap.objs.size f cd).kindOf (ps.zip us) fun _ => none) s1) :
    Inv (cxOf CX P w K mg base N qual scope f cd A outer s H E) [] (start N vs) H s1 := by
  have hpl : ps.length ≤ N.length := by have := congrArg List.length S.pre; rw [List.length_take] at this; omega
  obtain ⟨h1, tk, rfl, hk⟩ := x.done
  have noA : ∀ b : Addr, b ∉ (cxOf CX P w K mg base N qual scope f cd A outer s H E).ex := fun b z => absurd (show b ∈ ([] : List Addr) from z) (by simp)
  refine ⟨⟨e0.mod, S.kind, rfl, rfl, Nat.le_refl _, fun y z c h1 h2 => ?_, fun y hy => ?_, fun y c _ h => ?_, fun _ => hd, Around.frames_deeper e0.frames, .inr ⟨rfl, rfl⟩, fun b z => absurd z (noA b), e0.bs, e0.bsz, fun b _ _ => noA b, fun b z => absurd z (noA b), e0.funs, e0.frf⟩,
    rfl, e0.bare, Un.kept hk, ⟨_, x.toInCall.ns, fun i y v h1 h2 h3 => ?_⟩, fun y c h => ⟨_, x.cell y c h⟩, e0.hok.fresh (Nat.le_refl _), fun y c h => ?_, fun p hp => absurd (show p ∈ ([] : List (Addr × Obj)) from hp) (by simp), e0.hok.kept hk, ?_⟩
  · exact name_of_addr x.apart (PySem.mem_of_lookup h1) (PySem.mem_of_lookup h2)
  · have hy : scope.names.lookup y = some .cell ∨ scope.names.lookup y = some .free := hy
    rcases hy with hy | hy
    · exact ZdK hy
    · exact absurd rfl (S.nofree _ (PySem.mem_of_lookup hy))
  · exact Nat.le_of_lt (x.above y c (PySem.mem_of_lookup h))
  · have hi : i < vs.length := by
      unfold start at h2
      by_cases hi : i < vs.length
      · exact hi
      · rw [List.getElem?_append_right (by simpa using hi)] at h2
        rw [List.getElem?_replicate] at h2
        split at h2 <;> cases h2
    have ha : vs[i]? = some v := by
      unfold start at h2
      rw [List.getElem?_append_left (by simpa using hi), List.getElem?_map] at h2
      cases e : vs[i]? with
      | none => rw [e] at h2; cases h2
      | some a => rw [e] at h2; cases h2; rfl
    obtain ⟨u, hu, rv⟩ := r.get ha
    have hp : ps[i]? = some y := by
      rw [← S.pre, List.getElem?_take_of_lt (by omega)]; exact h1
    have ndP : ps.Nodup := by rw [← S.pre]; exact S.nd.sublist (List.take_sublist _ _)
    refine ⟨u, rv, ?_⟩
    rcases S.par y (List.mem_of_getElem? hp) with k | k
    · exact .inl ⟨k, ZcZ ndP hp hu k⟩
    · obtain ⟨c, e⟩ := ZdK (n := s.heap.objs.size + 1) k
      refine .inr ⟨.inl k, c, e, ?_⟩
      have q := x.cell y c e
      rw [ZcM ndP hp hu (by show scope.names.lookup y ≠ _; rw [k]; decide)] at q
      exact q
  · exact e0.hok.fresh (Nat.le_of_lt (x.above y c (PySem.mem_of_lookup h)))
  · unfold start
    show _ = N.length
    rw [List.length_append, List.length_map, List.length_replicate]
    omega
theorem ZgV {CX:CXT}{P:Program}{w:World}{K:PySem.W.Frag}{mg:Str→Option Value}{base:Heap}{k:Nat}{f:Addr}{name qual:Str}{params:Arguments}{body:List Stmt}{scope:Scope}{dV kV doc pm cdv ct oc:Value}{an od:Option Addr}
  {osl:Array (Option Value)} {N ps:List Str} {sp:Sp} (lk:K.lookup f=some ⟨oc,od,.func (PySem.W.fnOf name qual params body scope dV kV doc pm an cdv ct),osl⟩) (hcd:PySem.W.codeIn K cdv qual=true) (S:Jj N ps scope)
  (len:∀ vs H Q E,sp vs H Q E→vs.length=ps.length)
  (hbody:∀ (A:Around) (outer:List Env) (s:Shared) (H:Hp) (vs:List V) (Q:VK) (E:XK),Room k (A.deeper (envOfC qual scope s.heap.objs.size f cdv))→sp vs H Q E →
   ∃ t,PSs (cxOf CX P w K mg base N qual scope f cdv A outer s H E) body t∧t { nx:=fun _ H'=>Q .non H',rt:=Q } (start N vs) H) :
  FnOk P w K mg base CX (k + 1) f (PySem.W.fnOf name qual params body scope dV kV doc pm an cdv ct) ps sp:=by
 refine ⟨len,fun A outer s H args us vs Q E hr e0 hb r hsp=>?_⟩
 have hl:=len _ _ _ _ hsp
 have KX:K.In s.heap:=e0.mod.kin.keeps fun b o e=>(e0.bs b o e).1
 have lim:s.heap.NoLimit:=e0.mod.nolimit.keeps fun b o e=>(e0.bs b o e).1
 have hkind:∀ y ∈ ps.zip us,scope.names.lookup y.1=some .local∨(scope.names.lookup y.1=some .cell∧((cellsFrom (s.heap.objs.size + 1) scope.names []).lookup y.1).isSome=true):=fun ⟨n,v⟩ hy=>by
  rcases S.par n (List.of_mem_zip hy).1 with q | q
  ·exact .inl q
  ·exact .inr ⟨q,PySem.W.cellsFrom_some _ _ _ (.inl q)⟩
 refine codeAny_call_function hr.depth (KX _ _ lk) rfl S.co S.gen rfl (PySem.W.codeRec_of KX hcd) (hb _ _ _ _ ?_)
 refine wpAny_newFunctionEnv_cells S.kind hkind fun env he s1 x=>?_
 subst he
 refine ⟨lim.keeps x.toInCall.keep,codeAny_func ?_⟩
 obtain ⟨t,ht,hq⟩:=hbody A outer s H vs Q E (hr.deeper _) hsp
 have I:Inv (cxOf CX P w K mg base N qual scope f cdv A outer s H E) [] (start N vs) H s1:=ZcY S hr.hd e0 hl r x
 refine wpAny_mono (ht [] s1 (start N vs) H _ I hq) (fun fl s' hs=>?_) fun e s' hs=>hs
 have fin:∀ {σ':St} {H':Hp} {v:V} {u:Value},Inv (cxOf CX P w K mg base N qual scope f cdv A outer s H E) [] σ' H' s'→RelV v u→Q v H'→CE outer P w H s Q u s' :=
  fun {σ' H' v u} J rv q=>⟨v,H',J.os,J.bare,J.base,J.hok,rv,q⟩
 cases fl with
 | ret u =>
  obtain ⟨v,σ',H',J,rv,q⟩:=hs
  exact fin J rv q
 | next =>
  obtain ⟨σ',H',J,q⟩:=hs
  exact fin (v:=V.non) (u:=Value.none) J rfl q
 | brk =>
  obtain ⟨_,_,_,q⟩:=hs
  exact False.elim q
 | cont =>
  obtain ⟨_,_,_,q⟩:=hs
  exact False.elim q
end L2
namespace L2
open PySem PySem.Spec PyProof.Rows
section
variable {X:Cx} {x:Str} {p pos:Pos} {e:Expr} {es:List Expr} {t:TA} {id T:String} {r:List V→Hp→VK→Prop}
noncomputable def tCB (r:List V→Hp→VK→Prop) (t:TA):TE:=fun σ H Q=>t σ H fun vs H1=>r vs H1 Q
theorem ZaI (hc:Yu X (.builtin id) r) (hg:Gl X x) (hm:X.mg x=none) (hv:bootBuiltins x=some (.builtin id)) (ha:PA X (e::es) t) (hn:x≠"__name__":=by decide) (hdb:(x == ("__debug__":Str))=false:=by decide)
  (he:starEach (e::es) X.env=(false,eval e X.env)::starEach es X.env:=by rfl) (hpl:(backTo pos (starEach es X.env)).any (·.1)=false:=by rfl):PE X (.Call (.Name x p) (e::es) [] pos) (tCB r t):=by
 intro pins s σ H Q I h
 refine wpAny_Call_Name_kw (Zch I hg hm hv ?_ hn hdb)
 exact PyProof.Rows.callWith_builtin1 (thn (ha pos pins s σ H _ I h) fun us s1 ⟨vs,H1,I1,r1,q1⟩=>hc pins s1 σ H1 vs us Q I1 r1 q1) he hpl
theorem ZfH (hc:Yu X (.type T) r) (hg:Gl X x) (hm:X.mg x=none) (hv:bootBuiltins x=some (.type T)) (ha:PA X (e::es) t) (hn:x≠"__name__":=by decide) (hdb:(x == ("__debug__":Str))=false:=by decide)
  (he:starEach (e::es) X.env=(false,eval e X.env)::starEach es X.env:=by rfl) (hpl:(backTo pos (starEach es X.env)).any (·.1)=false:=by rfl):PE X (.Call (.Name x p) (e::es) [] pos) (tCB r t):=by
 intro pins s σ H Q I h
 refine wpAny_Call_Name_kw (Zch I hg hm hv ?_ hn hdb)
 exact PyProof.Rows.callWith_type1 (thn (ha pos pins s σ H _ I h) fun us s1 ⟨vs,H1,I1,r1,q1⟩=>hc pins s1 σ H1 vs us Q I1 r1 q1) he hpl
end
end L2
namespace HT
open PySem PyProof.Rows
section
open PySem.SeqAt
open PySem.AutoSeq1 (wpAny_loadPart')
open PySem.MeetsSeq PySem.MeetsSeq2 PySem.MeetsSeq3
end
section
variable {prog:Program} {w:World} {A:Around} {E:Value→Shared→Prop} {s:Shared}
end
end HT
namespace L2
open PySem PySem.Spec PyProof.Rows
noncomputable abbrev TO:=St→Hp→(Option Int→Hp→Prop)→Prop
noncomputable def PO (X:Cx) (e:Option Expr) (t:TO):Prop :=
 ∀ (pins:List (Addr × Obj)) (s:Shared) (σ:St) (H:Hp) (Q:Option Int→Hp→Prop),Inv X pins σ H s→t σ H Q →
  wpAny (model X.prog X.w) X.A (evalPart e X.env) (fun u s'=>∃ o H',Inv X pins σ H' s'∧IsPart u o∧Q o H') X.xe s
noncomputable def Zhl:TO:=fun _ H Q=>Q none H
noncomputable def Zjc (t:TE):TO:=fun σ H Q=>t σ H fun x H1=>∃ i,x=.int i∧Q (some i) H1
theorem intsAre_of {ns:List Int}:∀ {us:List Value},Vals (ns.map V.int) us→IntsAre us ns:=by
 induction ns with
 | nil=>intro us r;rw [List.map_nil] at r;cases r;exact .nil
 | cons n ns ih =>
  intro us r
  rw [List.map_cons] at r
  cases r with
  | cons r1 r2 =>
   obtain ⟨t,e⟩:=r1
   subst e
   exact .cons n t (ih r2)
section
variable {X:Cx} {e:Expr} {te:TE} {lo hi:Option Expr} {tl th:TO} {pos p2:Pos}
theorem ZhR:PO X none Zhl:=by
 intro pins s σ H Q I h
 rw [evalPart_none]
 exact wpAny_pure ⟨none,H,I,.none,h⟩
theorem ZhY (h:PE X e te):PO X (some e) (Zjc te):=by
 intro pins s σ H Q I hw
 rw [evalPart_some]
 refine thn (h pins s σ H _ I hw) fun u s1 ⟨x,H1,I1,r1,q1⟩=>?_
 obtain ⟨i,rfl,q⟩:=q1
 obtain ⟨t,rfl⟩:=r1
 exact ⟨some i,H1,I1,.int i t,q⟩
noncomputable def SlR (X:Cx) (r:V→Option Int→Option Int→Hp→VK→Prop):Prop :=
 ∀ (pins:List (Addr × Obj)) (s:Shared) (σ:St) (H:Hp) (x:V) (v vl vu:Value) (lo hi:Option Int) (sl:Addr) (Q:VK),Inv X pins σ H s→RelV x v→s.heap.IsSliceOf sl vl vu .none→IsPart vl lo→IsPart vu hi→r x lo hi H Q →
  ∃ T id,typeLookup (.type T) "__getitem__"=pure (some (.builtin id))∧s.TypeIs v T∧wpAny (model X.prog X.w) X.A (getItem v (.ref sl)) (EP X pins σ Q) X.xe s
theorem SlR.or {r r':V→Option Int→Option Int→Hp→VK→Prop}(h:SlR X r)(h':SlR X r'):SlR X (fun x lo hi H Q=>r x lo hi H Q∨r' x lo hi H Q):=by
 intro pins s σ H x v vl vu lo hi sl Q I rx hs pl pu q
 rcases q with q | q
 ·exact h pins s σ H x v vl vu lo hi sl Q I rx hs pl pu q
 ·exact h' pins s σ H x v vl vu lo hi sl Q I rx hs pl pu q
noncomputable def tSl (r:V→Option Int→Option Int→Hp→VK→Prop) (te:TE) (tl th:TO):TE:=fun σ H Q=>te σ H fun x H1=>tl σ H1 fun l H2=>th σ H2 fun u H3=>r x l u H3 Q
theorem Zgj {r:V→Option Int→Option Int→Hp→VK→Prop}(hr:SlR X r)(he:PE X e te)(hl:PO X lo tl)(hu:PO X hi th):PE X (.Subscript e (.Slice lo hi none p2) pos) (tSl r te tl th):=by
 intro pins s σ H Q I h
 refine Subscript_ (thn (he pins s σ H _ I h) fun v s1 ⟨x,H1,I1,r1,q1⟩=>?_)
 refine wpAny_Slice (thn (hl pins s1 σ H1 _ I1 q1) fun vl s2 ⟨l,H2,I2,pl,q2⟩=>thn (hu pins s2 σ H2 _ I2 q2) fun vu s3 ⟨u,H3,I3,pu,q3⟩=>?_)
 rw [evalPart_none]
 refine wpAny_pure ?_
 have I4:Inv X pins σ H3 { s3 with heap:=s3.heap.push { cls:=.type "slice",data:=.fields #[vl,vu,.none] } }:=I3.kept (t':=s3.toks) fun b ob q=>Heap.get?_push_of_some _ q
 obtain ⟨T,id,hT,ht,hg⟩:=hr pins { s3 with heap:=s3.heap.push { cls:=.type "slice",data:=.fields #[vl,vu,.none] } } σ H3 x v vl vu l u s3.heap.objs.size Q I4 r1 (Heap.IsSliceOf.new ..) pl pu q3
 show wpAny (model X.prog X.w) X.A (subscriptTail e (.Slice lo hi none p2) v (.ref s3.heap.objs.size)) (EP X pins σ Q) X.xe { s3 with heap:=s3.heap.push { cls:=.type "slice",data:=.fields #[vl,vu,.none] } }
 exact tail_any (ops:=[.ref s3.heap.objs.size,v]) ht hT hg (by with_unfolding_all rfl)
end
end L2
namespace L2
open PySem PySem.Spec PyProof.Rows
noncomputable def ixN (n:Nat) (i:Int):Option Nat:=if 0≤i then (if i < n then some i.toNat else none) else if -(n:Int)≤i then some (i + n).toNat else none
noncomputable def atI {α:Type} (xs:List α) (i:Int):Option α:=(ixN xs.length i).bind fun j=>xs[j]?
theorem Zhc {n:Nat}{i:Int}{j:Nat}(h:ixN n i=some j):seqIndex? i n=some j∧j < n∧-(n:Int)≤i∧i < n:=by
 unfold ixN at h
 by_cases h0:0≤i
 ·rw [if_pos h0] at h
  by_cases h1:i < n
  ·rw [if_pos h1] at h
   have e:i.toNat=j:=Option.some.inj h
   exact ⟨by rw [seqIndex_of h0 h1,e],by omega,by omega,h1⟩
  ·rw [if_neg h1] at h;cases h
 ·rw [if_neg h0] at h
  by_cases h1:-(n:Int)≤i
  ·rw [if_pos h1] at h
   have e:(i + n).toNat=j:=Option.some.inj h
   exact ⟨by rw [seqIndex_neg (by omega) h1,e],by omega,h1,by omega⟩
  ·rw [if_neg h1] at h;cases h
theorem Zct {α:Type}{xs:List α}{i:Int}{v:α}(h:atI xs i=some v):∃ j,seqIndex? i xs.length=some j∧xs[j]?=some v∧j < xs.length∧-(xs.length:Int)≤i∧i < xs.length:=by
 unfold atI at h
 cases e:ixN xs.length i with
 | none=>rw [e] at h;cases h
 | some j =>
  rw [e] at h
  obtain ⟨h1,h2,h3,h4⟩:=Zhc e
  exact ⟨j,h1,h,h2,h3,h4⟩
noncomputable def Zep (b:Expr):Prop:=∀ o i,subscripted b false o i=operate [o,i] (getItem o i)
noncomputable def IxR (X:Cx) (r:R2):Prop :=
 ∀ (value slice:Expr) (pins:List (Addr × Obj)) (s:Shared) (σ:St) (H:Hp) (x y:V) (v u:Value) (Q:VK),Inv X pins σ H s→RelV x v→RelV y u→r x y H Q →
  subscripted slice false v u=operate [v,u] (getItem v u)→wpAny (model X.prog X.w) X.A (subscriptTail value slice v u) (EP X pins σ Q) X.xe s
noncomputable def MtR (X:Cx) (id:String) (r:V→List V→Hp→VK→Prop):Prop :=
 ∀ (pins:List (Addr × Obj)) (s:Shared) (σ:St) (H:Hp) (x:V) (xs:List V) (v:Value) (us:List Value) (Q:VK),Inv X pins σ H s→RelV x v→Vals xs us→r x xs H Q →
  wpAny (model X.prog X.w) X.A (call (.builtin id) (v::us)) (EP X pins σ Q) X.xe s
section
variable {X:Cx} {a b:Expr} {ta tb:TE} {pos:Pos}
theorem IxR.or {r r':R2}(h:IxR X r)(h':IxR X r'):IxR X (fun x y H Q=>r x y H Q∨r' x y H Q):=by
 intro value slice pins s σ H x y v u Q I rx ry q hs
 rcases q with q | q
 ·exact h value slice pins s σ H x y v u Q I rx ry q hs
 ·exact h' value slice pins s σ H x y v u Q I rx ry q hs
theorem MtR.or {id:String}{r r':V→List V→Hp→VK→Prop}(h:MtR X id r)(h':MtR X id r'):MtR X id (fun x xs H Q=>r x xs H Q∨r' x xs H Q):=by
 intro pins s σ H x xs v us Q I rx rs q
 rcases q with q | q
 ·exact h pins s σ H x xs v us Q I rx rs q
 ·exact h' pins s σ H x xs v us Q I rx rs q
theorem Zjg {r:R2}(hr:IxR X r)(ha:PE X a ta)(hb:PE X b tb)(hs:Zep b):PE X (.Subscript a b pos) (tOp r ta tb):=by
 intro pins s σ H Q I h
 exact Subscript_ (binT ha hb I h fun v u s2 x y H2 I2 rx ry q=>hr a b pins s2 σ H2 x y v u Q I2 rx ry q (hs _ _))
noncomputable def rIxL (K:PySem.W.Frag):R2:=fun x y H Q=>∃ p xs i v,x=.ref p∧y=.int i∧SqL K H p xs∧atI xs i=some v∧Q v H
noncomputable def rIxT (K:PySem.W.Frag):R2:=fun x y H Q=>∃ p xs i v,x=.ref p∧y=.int i∧SqT K H p xs∧atI xs i=some v∧Q v H
noncomputable def rIxS:R2:=fun x y H Q=>∃ z i c,x=.str z∧y=.int i∧z.length≤sizeLine∧atI z.cps.toList i=some c∧Q (.str ⟨#[c]⟩) H
theorem ZhI : IxR X (rIxL X.K) := by
  intro value slice pins s σ H x y v u Q I rx ry h hs
  obtain ⟨p, xs, i, z, rfl, rfl, hq, he, q⟩ := h
  cases rx
  obtain ⟨t, rfl⟩ := ry
  obtain ⟨its, r, pl, hz⟩ := I.list hq
  obtain ⟨j, h1, h2, h3, h4, h5⟩ := Zct he
  obtain ⟨w, ew, rw'⟩ := r.get h2
  have hl := r.length
  have hn := ZbP
  have fin : EP X pins σ Q w s := ⟨z, H, I, rw', q⟩
  by_cases h0 : 0 ≤ i
  · have hj : i.toNat = j := by
      rw [seqIndex_of h0 h5] at h1
      exact Option.some.inj h1
    exact item_listR pl.isList h0 (by omega) (by rw [hj]; simpa using ew) fin hs
  · have hj : (i + (its.toArray.size : Int)).toNat = j := by
      rw [seqIndex_neg (by omega) h4] at h1
      rw [List.size_toArray, ← hl]
      exact Option.some.inj h1
    exact subscriptTail_builtinR (x := w) pl.isList.typeIs slot_list_getitem.lookup
      (wpAny_getItem_list_neg (Q := fun r s' => r = w ∧ EP X pins σ Q r s') pl.isList (by omega) (by rw [List.size_toArray] <;> omega) (by omega) (by rw [hj]; simpa using ew) ⟨rfl, fin⟩) hs
theorem ZiM:IxR X (rIxT X.K):=by
 intro value slice pins s σ H x y v u Q I rx ry h hs
 obtain ⟨p,xs,i,z,rfl,rfl,hq,he,q⟩:=h
 cases rx
 obtain ⟨t,rfl⟩:=ry
 obtain ⟨its,r,pl,hz⟩:=I.tuple hq
 obtain ⟨j,h1,h2,h3,h4,h5⟩:=Zct he
 obtain ⟨w,ew,rw'⟩:=r.get h2
 have hl:=r.length
 have hn:=ZbP
 have fin:EP X pins σ Q w s:=⟨z,H,I,rw',q⟩
 exact subscriptTail_builtinR (x:=w) pl.typeIs slot_tuple_getitem.lookup
  (getItem_tuple (j:=j) (Q:=fun r s'=>r=w∧EP X pins σ Q r s') pl (by omega) (by omega) (by rw [List.size_toArray,← hl];exact h1) (by simpa using ew) ⟨rfl,fin⟩) hs
theorem Zh5:IxR X rIxS:=by
 intro value slice pins s σ H x y v u Q I rx ry h hs
 obtain ⟨z,i,c,rfl,rfl,hz,he,q⟩:=h
 obtain ⟨t,rfl⟩:=rx
 obtain ⟨t',rfl⟩:=ry
 obtain ⟨j,h1,h2,h3,h4,h5⟩:=Zct he
 have hl:z.cps.toList.length=z.length:=by simp [Str.length]
 rw [hl] at h1 h4 h5
 have hn:=ZbP
 exact tail_any (typeIs_str s z t) slot_str_getitem.lookup (getItem_str (c:=c) (by
  have e1:decide (i < -(2 ^ 63:Int))=false:=decide_eq_false (by omega)
  have e2:decide (i ≥ 2 ^ 63)=false:=decide_eq_false (by omega)
  rw [e1,e2,Bool.or_false]) (by rw [h1];simpa using h2) ⟨.str ⟨#[c]⟩,H,I.tok _,⟨_,rfl⟩,q⟩) hs
noncomputable def rIx (K:PySem.W.Frag):R2:=fun x y H Q=>rIxL K x y H Q∨rIxT K x y H Q∨rIxS x y H Q
theorem Zib:IxR X (rIx X.K):=ZhI.or (ZiM.or Zh5)
theorem Inv.lst {pins:List (Addr × Obj)}{σ:St}{H:Hp}{s:Shared}{p:Addr}{xs:List V}(I:Inv X pins σ H s)(h:H p=some (.lst xs)) :
  ∃ (its:List Value) (n:Nat),Vals xs its∧s.heap.get? p=some { cls:=.type "list",data:=.seq its.toArray n }∧xs.length≤sizeLine:=by
 obtain ⟨z,its,n,r,e⟩:=I.hok p _ h
 exact ⟨its,n,r,e,z⟩
theorem ZdY:Yu X (.builtin "len") (fun xs H Q=>∃ p ys,xs=[.ref p]∧(SqL X.K H p ys∨SqT X.K H p ys)∧Q (.int ys.length) H):=by
 intro pins s σ H xs us Q I r h
 obtain ⟨p,ys,rfl,hq,q⟩:=h
 obtain ⟨u,rfl,rx⟩:=vals1 r
 cases rx
 have hn:=ZbP
 rcases hq with hq | hq
 ·obtain ⟨its,r',pl,hz⟩:=I.list hq
  have hlen:=r'.length
  exact Calls.call_len_list pl.isList (by simp only [List.size_toArray] <;> omega) ⟨.int ys.length,H,I.tok _,⟨s.toks + 1,by rw [List.size_toArray,hlen]⟩,q⟩
 ·obtain ⟨its,r',pl,hz⟩:=I.tuple hq
  have hlen:=r'.length
  exact len_tuple pl (by simp only [List.size_toArray] <;> omega) ⟨.int ys.length,H,I.tok _,⟨s.toks + 1,by rw [List.size_toArray,hlen]⟩,q⟩
theorem Yu.or {f:Value}{r r':List V→Hp→VK→Prop}(h:Yu X f r)(h':Yu X f r'):Yu X f (fun xs H Q=>r xs H Q∨r' xs H Q):=by
 intro pins s σ H xs us Q I rs q
 rcases q with q | q
 ·exact h pins s σ H xs us Q I rs q
 ·exact h' pins s σ H xs us Q I rs q
noncomputable def tyV (K : PySem.W.Frag) (T : String) (x : V) (H : Hp) : Prop := match x with
  | .str _ => T = "str"
  | .int _ => T = "int"
  | .ref p => (T = "list" ∧ ∃ xs, SqL K H p xs) ∨ (T = "tuple" ∧ ∃ o, K.lookup p = some o ∧ o.cls = .type "tuple" ∧ o.dict = none) ∨
      (T = "dict" ∧ ((∃ kvs, H p = some (.dK kvs)) ∨ ∃ kvs, H p = some (.dT kvs))) ∨ (T = "set" ∧ ∃ S n, H p = some (.set S n))
  | _ => False
theorem Zi0 {pins : List (Addr × Obj)}{σ : St}{H : Hp}{s : Shared}{T : String}{x : V}{v : Value}(I : Inv X pins σ H s)(r : RelV x v)(ty : tyV X.K T x H) :
    s.TypeIs v T ∧ ∀ a, v = .ref a → ∃ ob, s.heap.get? a = some ob ∧ ob.dict = none := by
  cases x with
  | str z =>
    obtain ⟨t, rfl⟩ := r
    cases (show T = "str" from ty)
    exact ⟨typeIs_str s z t, fun _ e => nomatch e⟩
  | int i =>
    obtain ⟨t, rfl⟩ := r
    cases (show T = "int" from ty)
    exact ⟨typeIs_int s i t, fun _ e => nomatch e⟩
  | ref p =>
    cases r
    rcases ty with ⟨rfl, xs, hq⟩ | ⟨rfl, o, hk, hc, hd⟩ | ⟨rfl, hk⟩ | ⟨rfl, S, n, hk⟩
    · obtain ⟨its, _, pl, _⟩ := I.list hq
      refine ⟨pl.isList.typeIs, fun a e => ?_⟩
      cases e
      obtain ⟨o, n, e, c, hd, _⟩ := pl
      exact ⟨o, e, hd⟩
    · refine ⟨⟨o, I.kIn p o hk, hc⟩, fun a e => ?_⟩
      cases e
      exact ⟨o, I.kIn _ o hk, hd⟩
    · have z : ∃ o, s.heap.get? p = some o ∧ o.ExactDict := by
        rcases hk with ⟨kvs, hk⟩ | ⟨kvs, hk⟩
        · obtain ⟨_, _, _, _, o, _, _, e, ex, _⟩ := I.hok p _ hk
          exact ⟨o, e, ex⟩
        · obtain ⟨_, _, _, _, o, _, _, e, ex, _⟩ := I.hok p _ hk
          exact ⟨o, e, ex⟩
      obtain ⟨o, e, ex⟩ := z
      refine ⟨⟨o, e, ex.1⟩, fun a e2 => ?_⟩
      cases e2
      exact ⟨o, e, ex.2.1⟩
    · obtain ⟨o, _, _, _, e, ex, _⟩ := I.hok p _ hk
      refine ⟨⟨o, e, ex.1⟩, fun a e2 => ?_⟩
      cases e2
      exact ⟨o, e, ex.2.1⟩
  | _ => exact False.elim ty
noncomputable def tBM (K:PySem.W.Frag) (T:String) (r:V→List V→Hp→VK→Prop) (to:TE) (t:TA):TE:=fun σ H Q=>to σ H fun x H1=>tyV K T x H1∧t σ H1 fun xs H2=>r x xs H2 Q
variable {o e:Expr} {es:List Expr} {to:TE} {t:TA} {name:Str} {apos cpos:Pos} {T id:String} {r:V→List V→Hp→VK→Prop}
theorem Zbi (pa:PlainAttrs T) (slot:Slot T name id) (hty:typeOf (.builtin id)=pure (.type "method_descriptor")) (hm:MtR X id r) (ho:PE X o to) (ha:PA X (e::es) t)
  (hbase:attributeBase o name X.env (eval o X.env)=eval o X.env:=by rfl)
  (hfew:((backTo cpos (starEach (e::es) X.env)).all (fun x=>!x.1) && (backToKw cpos (keywordEach [] X.env)).all (fun x=>x.1.isSome)
   && decide ((e::es).length + ([]:List Keyword).length + (if ([]:List Keyword).isEmpty then 0 else 1) < 30))=true:=by rfl)
  (hline:(apos.endLine == cpos.line)=true:=by rfl) (hs:starEach (e::es) X.env=(false,eval e X.env)::starEach es X.env:=by rfl) (hplain:(backTo cpos (starEach es X.env)).any (·.1)=false:=by rfl) :
  PE X (.Call (.Attribute o name apos) (e::es) [] cpos) (tBM X.K T r to t):=by
 intro pins s σ H Q I h
 refine wpAny_Call_method_late hbase hfew hline rfl (thn (ho pins s σ H _ I h) fun v s1 ⟨x,H1,I1,r1,ty,q1⟩=>?_)
 obtain ⟨h1,h2⟩:=Zi0 I1 r1 ty
 refine ⟨T,id,pa,slot,hty,h1,h2,?_⟩
 have hA:=ha cpos pins s1 σ H1 _ I1 q1
 rw [hs] at hA ⊢
 refine Calls.callWith_builtin (by show (false || (backTo cpos (starEach es X.env)).any (·.1))=false;rw [hplain] <;> rfl) (Calls.evalArgs_plain ?_)
 exact thn hA fun us s2 ⟨vs,H2,I2,r2,q2⟩=>hm pins s2 σ H2 x vs v us Q I2 r1 r2 q2
end
end L2
namespace L2
open PySem PySem.Spec PyProof.Rows
noncomputable def MtM (X:Cx) (id:String) (r:V→List V→Hp→VK→Prop):Prop :=
 ∀ (pins:List (Addr × Obj)) (s:Shared) (σ:St) (H:Hp) (x:V) (xs:List V) (v:Value) (us:List Value) (Q:VK),Inv X pins σ H s→RelV x v→Vals xs us→r x xs H Q →
  wpAny (model X.prog X.w) X.A (call (.builtin id) (v::us)) (EP X pins σ Q) X.xe s
theorem Vals.one:∀ {x:V} {us:List Value},Vals [x] us→∃ u,us=[u]∧RelV x u
 | _,_,.cons r .nil=>⟨_,rfl,r⟩
theorem Vals.two:∀ {x y:V} {us:List Value},Vals [x,y] us→∃ u v,us=[u,v]∧RelV x u∧RelV y v
 | _,_,_,.cons r (.cons q .nil)=>⟨_,_,rfl,r,q⟩
theorem Vals.rep {xs:List V}{us:List Value}(h:Vals xs us):∀ k:Nat,Vals (List.replicate k xs).flatten (List.replicate k us).flatten
 | 0=>.nil
 | k + 1=>by
  rw [List.replicate_succ,List.replicate_succ,List.flatten_cons,List.flatten_cons]
  exact Vals.append h (Vals.rep h k)
theorem foldl_rep (its:List Value):∀ (k:Nat) (acc:List Value),
  List.foldl (fun x1 x2=>x1++x2) acc.toArray (List.replicate k its.toArray)=(acc++(List.replicate k its).flatten).toArray
 | 0,acc=>by simp
 | k + 1,acc=>by
  have e:acc.toArray++its.toArray=(acc++its).toArray:=by simp
  have e2:(acc++its)++(List.replicate k its).flatten=acc++(List.replicate (k + 1) its).flatten:=by
   rw [List.replicate_succ,List.flatten_cons,List.append_assoc]
  rw [← e2,← foldl_rep its k (acc++its),← e,List.replicate_succ,List.foldl_cons]
section
variable {X:Cx} {pins:List (Addr × Obj)} {σ:St} {H:Hp} {s:Shared} {l b:Addr} {xs ys zs:List V}
theorem Inv.lset {its its':List Value}{n:Nat}{f:Array Value→Array Value}{t':Nat}(I:Inv X pins σ H s)(hH:H l=some (.lst xs))
  (e:s.heap.get? l=some { cls:=.type "list",data:=.seq its.toArray n }) (hf:f its.toArray=its'.toArray) (hv:Vals ys its') (hz:ys.length≤sizeLine) :
  Inv X pins σ (upd H l (.lst ys)) { s with heap:=s.heap.update l (Obj.mapSeq f),toks:=t' }:=by
 have q:=PySem.IsL.update e f
 rw [hf] at q
 refine I.write (x:=l) (e:=l) (by rw [hH];exact trivial) (.inl rfl) (fun b' u hb hu=>(Heap.get?_update_other s.heap (Obj.mapSeq f) (Ne.symm hb)).trans hu) ⟨_,q⟩ ?_
 exact ⟨hz,its',_,hv,q⟩
theorem Inv.lnew {its:List Value}{t':Nat}(I:Inv X pins σ H s)(hv:Vals ys its)(hz:ys.length≤sizeLine) :
  Inv X pins σ (upd H s.heap.objs.size (.lst ys)) { s with heap:=s.heap.push { cls:=.type "list",data:=.seq its.toArray },toks:=t' } :=
 I.laid (fun _ _ q=>Heap.get?_push_of_some _ q) (Nat.le_refl _) ⟨hz,its,0,hv,Heap.get?_push_size _ rfl⟩
theorem Inv.fresh (I:Inv X pins σ H s):H s.heap.objs.size=none:=I.hok.fresh (Nat.le_refl _)
theorem Inv.lstM (I:Inv X pins σ H s)(hH:H l=some (.lst xs)):xs.length≤sizeLine∧∃ (its:List Value) (n:Nat),Vals xs its∧xs.length=its.length∧s.heap.get? l=some { cls:=.type "list",data:=.seq its.toArray n }:=by
 obtain ⟨z,its,n,r,e⟩:=I.hok l _ hH
 exact ⟨z,its,n,r,r.length,e⟩
theorem ZgO {n:Nat}(h:n≤sizeLine):Builtin.List.listTooLong n=false:=by
 unfold Builtin.List.listTooLong
 exact decide_eq_false (by omega)
end
section
variable {X:Cx}
noncomputable def Zg8:V→List V→Hp→VK→Prop:=fun x vs H Q=>∃ l xs y,x=.ref l∧vs=[y]∧H l=some (.lst xs)∧xs.length < sizeLine∧Q .non (upd H l (.lst (xs++[y])))
theorem ZaT:MtM X "list.append" Zg8:=by
 intro pins s σ H x vs v us Q I rx rv h
 obtain ⟨l,xs,y,rfl,rfl,hH,hz,q⟩:=h
 cases rx
 obtain ⟨u,rfl,ru⟩:=rv.one
 obtain ⟨z,its,n,r,hl,e⟩:=I.lstM hH
 refine call_meets F.slot_list_append ⟨_,e,rfl⟩ F.entry_list_append (F.args_list_append_2 _ _) (PySem.list_append l its.toArray n u (by rw [List.size_toArray];omega)) ⟨e,?_⟩
 refine ⟨.non,_,I.lset (its':=its++[u]) hH e (by simp) (r.append (.cons ru .nil)) ?_,rfl,q⟩
 rw [List.length_append,List.length_singleton]
 omega
noncomputable def rRep:R2:=fun x y H Q=>∃ l k xs,x=.ref l∧y=.int k∧H l=some (.lst xs)∧-(2 ^ 63)≤k∧k < 2 ^ 63∧xs.length * k.toNat≤sizeLine ∧
 ∀ p,H p=none→Q (.ref p) (upd H p (.lst (List.replicate k.toNat xs).flatten))
theorem len_rep {α:Type}(xs:List α)(k:Nat):(List.replicate k xs).flatten.length=k * xs.length:=by
 induction k with
 | zero=>simp
 | succ k ih=>rw [List.replicate_succ,List.flatten_cons,List.length_append,ih,Nat.succ_mul,Nat.add_comm]
theorem ZiI:OpR X (binaryOp .Mult) rRep:=by
 intro pins s σ H x y v u Q I rx ry h
 obtain ⟨l,k,xs,rfl,rfl,hH,h1,h2,hz,q⟩:=h
 cases rx
 obtain ⟨t,rfl⟩:=ry
 obtain ⟨z,its,n,r,hl,e⟩:=I.lstM hH
 have hlen:its.toArray.size * k.toNat≤sizeLine:=by rw [List.size_toArray,← hl];exact hz
 have hcap:¬ its.toArray.size * k.toNat > (2 ^ 63 - 1) / 8:=by
  have:(sizeLine:Nat)≤(2 ^ 63 - 1) / 8:=by decide
  omega
 have hfit:¬ (!Builtin.List.listFitsIndex k)=true:=by
  rw [fitsIndex_both h1 h2]
  exact Bool.false_ne_true
 have hlong:¬ Builtin.List.listTooLong (its.toArray.size * k.toNat)=true:=by
  rw [ZgO hlen]
  exact Bool.false_ne_true
 have hnew:List.foldl (fun x1 x2=>x1++x2) #[] (List.replicate (if its.toArray.isEmpty=true then 0 else k.toNat) its.toArray)=(List.replicate k.toNat its).flatten.toArray:=by
  have f0:∀ m:Nat,List.foldl (fun x1 x2=>x1++x2) #[] (List.replicate m its.toArray)=(List.replicate m its).flatten.toArray:=fun m=>by
   have:=foldl_rep its m []
   rw [List.nil_append] at this
   exact this
  rw [f0]
  cases its with
  | nil=>simp
  | cons a r'=>rw [if_neg (by simp)]
 refine wpAny_binaryOp_repeat_ref (T:="list") (U:="int") (by decide) ⟨_,e,rfl⟩ (fun s'=>typeIs_int s' k t) noFill_list_mul F.fills_int_mul F.slot_int_rmul repeat_list F.slot_int_index.lookup
  (call_meets F.slot_int_rmul (typeIs_int s k t) F.entry_int_rmul (F.args_int_rmul_2 _ _) (int___rmul___int_list k t l its.toArray n)
   ⟨e,rfl,⟨_,e,rfl⟩,call_meets F.slot_list_mul ⟨_,e,rfl⟩ F.entry_list_mul (F.args_list_mul_2 _ _) (AutoListH.list___mul___list_int_3 l its.toArray n k t hfit hcap hlong) ⟨e,?_⟩⟩)
 rw [hnew]
 exact ⟨.ref _,_,I.lnew (t':=s.toks) (r.rep k.toNat) (by rw [len_rep,Nat.mul_comm];exact hz),rfl,q _ I.fresh⟩
end
section
variable {prog:Program} {w:World} {A:Around} {E:Value→Shared→Prop} {s:Shared}
end
section
variable {X:Cx}
end
end L2
namespace Att
open PySem PySem.W PySem.Calls PyProof.Rows
theorem ZbW {P:Params}{h:Heap}:∀ (ns:List Int) (vs:List Value),WellAll P h vs (ns.map WData.int)→IntsAre vs ns:=by
 intro ns
 induction ns with
 | nil =>
  intro vs w
  rw [List.map_nil] at w
  cases w
  exact .nil
 | cons n ns ih =>
  intro vs w
  rw [List.map_cons] at w
  cases w with
  | cons a b =>
   cases a
   exact .cons _ _ (ih _ b)
theorem ZfT {l:OpenLaw}{n:Nat}(hn:l.most=some n){P:Params}{h:Heap}{args:List WData}{vals:List Value}
  (hpre:l.row.toRowW.claim.pre args=true) (hwl:WellAll P h vals args) :
  ∃ a vs ns,vals=[Value.ref a]∧args=[WData.list (ns.map WData.int)]∧h.get? a=some { cls:=.type "list",data:=.seq vs.toArray }∧IntsAre vs ns∧ns.length≤n:=by
 have hsh:WShape.hasAll [] args [.list .int]=true:=(pre_splitW hpre).1
 have hc:l.pre.holds [] { args:=args }=true:=(pre_splitW hpre).2
 obtain ⟨d,r,rfl,h1,h2⟩:=hasAllW_cons hsh
 obtain rfl:=hasAllW_nil h2
 obtain ⟨xs,rfl,h3⟩:=hasW_list h1
 obtain ⟨ns,rfl⟩:=items_int h3
 have hlen:ns.length≤n:=by
  unfold OpenLaw.pre at hc
  have h4:(WTm.not (.lt (.lit (.int (n:Int))) (.len (.arg 0)))).holds [] { args:=[.list (ns.map .int)] }=true:=by
   have h4:=(holds_andW hc).1
   rw [hn] at h4
   exact h4
  have h5:=condW_of h4 (w_not (w_lt w_lit (w_len_list (w_arg rfl))))
  rw [List.length_map] at h5
  refine Nat.le_of_not_lt fun q=>?_
  have q':(n:Int) < ((ns.length:Nat):Int):=by omega
  first
   | (rw [decide_eq_true q'] at h5;exact absurd h5 (by decide))
   | (simp at h5;omega)
 cases hwl with
 | cons w1 w2 =>
  cases w2
  cases w1 with
  | list ho hall=>exact ⟨_,_,ns,rfl,rfl,ho,ZbW ns _ hall,hlen⟩
theorem Zfg (l:OpenLaw)(args:List WData):l.row.toRowW.claim.post args (.bool true) args=true :=
 postW_of (r:=l.row.toRowW) (X:=(true == true))
  (show WShape.has [] (.bool true) .bool=true by first | rfl | decide | simp [WShape.has,WShape.arms,WShape.armsAll])
  (show (WTm.eq .res (.lit (.bool true))).value [] { args:=args,res:=some (.bool true),after:=args }=some (.bool (true == true)) from w_eq_bool (w_res rfl) w_lit) rfl
theorem Zd5 {l:OpenLaw}{n:Nat}{q:Program}{loose:List Str}{XP:(Str→Option Value)→Heap→Prop}{YP:World→Heap→Prop}{d:DefRec}
  (hn:l.most=some n) (hdf:d.params.defaults=[])
  (call:∀ (w:World) (s₀ s₁:Shared) (mg mb:Str→Option Value) (fa:Addr) (o:Obj) (pm cd doc:Value) (a:Addr) (vs:List Value) (ns:List Int),
   Ground q loose [] XP w s₀ mg mb s₁.heap→YP w s₁.heap →
   s₁.heap.get? fa=some o→o.data=.func (docDef d.name d.params d.body d.scope pm cd doc)→s₁.heap.CodeRec cd d.name→mg d.name=some (.ref fa) →
   s₁.heap.get? a=some { cls:=.type "list",data:=.seq vs.toArray }→IntsAre vs ns→ns.length≤n→s₁.gens=#[] →
   codeAny (model l.prog w) callerA (.call (.ref fa) ⟨[.ref a],[]⟩) (fun r s'=>r=.ok (.ret (.bool true))∧OldK s₁.heap s'.heap∧s'.os=s₁.os∧AllBare s'.gens) s₁) :
  WalkO q loose XP YP l.row.toRowW d [] (fun f vs=>PySem.call f vs):=by
 intro w s₀ s₁ mg mb G Y fa o pm cd doc dV kV ho hd hcd hD hmg hg args vals as hpre hlay hrd hwl hlo
 obtain rfl:dV=.none:=Dflts.none hD hdf
 obtain rfl:kV=.none:=Dflts.noKw hD
 obtain ⟨a,vs,ns,rfl,rfl,hobj,hints,hlen⟩:=ZfT hn hpre hwl
 refine enter_call (codeAny_mono (call w s₀ s₁ mg mb fa o pm cd doc a vs ns G Y ho (fd_plain hd) hcd hmg hobj hints hlen hg) fun r s' hq=>?_)
 obtain ⟨rfl,h2,h3,h4⟩:=hq
 exact ⟨.inl ⟨.bool true,.bool true,[],rfl,fun _=>rfl,.bool true,Zfg l _,fun _=>⟨List.Pairwise.nil,fun _ hm=>(nomatch hm)⟩⟩,h2,h3,h4⟩
section
variable {prog:Program} {w:World} {A:Around} {E:Value→Shared→Prop} {s:Shared} {K:Frag}
end
end Att
namespace L2
open PySem PySem.Spec PyProof.Rows
theorem Zag:∀ {vs:List Value} {ns:List Int},IntsAre vs ns→Vals (ns.map V.int) vs
 | _,_,.nil=>.nil
 | _,_,.cons n t h=>.cons ⟨t,rfl⟩ (Zag h)
noncomputable def Only (H:Hp):Prop:=∀ b,H b=none∨∃ o xs,H b=some (.frz o (.lst xs))
theorem ZgA {P : Program}{w : World}{K : PySem.W.Frag}{mg mb : Str → Option Value}{CX : CXT}{k : Nat}{fa a : Addr}{fd : FuncData}{x : Str}{sp : Sp}{s₁ : Shared}{vs : List Value}{ns : List Int}
    (KX : K.In s₁.heap) (hns : s₁.heap.Ns mainGlobals mg) (hb : s₁.heap.Ns builtinsNs mb) (hbb : ∀ x : Str, x ≠ "__name__" → mb x = bootBuiltins x) (hlim : s₁.heap.NoLimit) (hg : s₁.gens = #[])
    (ha : s₁.heap.get? a = some { cls := .type "list", data := .seq vs.toArray }) (hi : IntsAre vs ns) (hl : ns.length ≤ sizeLine) (hr : Room k callerA)
    (F : ∀ base : Heap, K.In base → base.Ns mainGlobals mg → FnOk P w K mg base CX k fa fd [x] sp) (hbind : ∀ (s : Shared) (u : Value), BindsTo s fd ⟨[u], []⟩ [(x, u)])
    (hsp : ∀ H : Hp, Only H → SqL K H a (ns.map V.int) → sp [.ref a] H (fun v _ => v = .bl true) fun _ _ _ => False)
    (hCX : ∀ H e s', CX [] H s₁ (fun _ _ _ => False) e s' → False) :
    codeAny (model P w) callerA (.call (.ref fa) ⟨[.ref a], []⟩) (fun r s' => r = .ok (.ret (.bool true)) ∧ OldK s₁.heap s'.heap ∧ s'.os = s₁.os ∧ AllBare s'.gens) s₁ := by
  have rv := Zag hi
  have lenV := hi.length
  have core : ∀ H : Hp, Only H → SqL K H a (ns.map V.int) → HOk P w H s₁.heap → (∀ b, H b ≠ none → b = a) → (H a ≠ none → K.lookup a = none) →
      codeAny (model P w) callerA (.call (.ref fa) ⟨[.ref a], []⟩) (fun r s' => r = .ok (.ret (.bool true)) ∧ OldK s₁.heap s'.heap ∧ s'.os = s₁.os ∧ AllBare s'.gens) s₁ := by
    intro H hO hS hok hA hK
    have base_of : ∀ {b : Addr} {o : Obj}, s₁.heap.get? b = some o → H b = none → (hidT s₁.heap H).get? b = some o := fun e n => ZgL e n
    have noA : ∀ {b : Addr} {o : Obj} {es : Array DictEntry} {ep : Nat}, s₁.heap.get? b = some o → o.data = .dict es ep → H b = none := fun {b o es ep} e d => by
      cases q : H b with
      | none => rfl
      | some u =>
        have e' : b = a := hA b (by rw [q]; simp)
        subst e'
        rw [ha] at e; cases e
        have d' : Data.seq vs.toArray _ = Data.dict es ep := d
        cases d'
    have nsK : ∀ {b : Addr} {m : Str → Option Value}, s₁.heap.Ns b m → (hidT s₁.heap H).Ns b m := fun {b m} ⟨o, es, ep, e, d, r⟩ => ⟨o, es, ep, base_of e (noA e d), d, r⟩
    have hKb : K.In (hidT s₁.heap H) := fun b o e => base_of (KX b o e) (by
      cases q : H b with
      | none => rfl
      | some u =>
        have e' : b = a := hA b (by rw [q]; simp)
        subst e'
        rw [hK (by rw [q]; simp)] at e; cases e)
    have hM : Mod K mg (hidT s₁.heap H) := ⟨hKb, nsK hns, ⟨mb, nsK hb, hbb⟩, let ⟨mc, h1, h2⟩ := hlim; ⟨mc, nsK h1, h2⟩⟩
    have e0 : Env0 P w K mg (hidT s₁.heap H) callerA [] s₁ H := ⟨rfl, hM, fun b o e => Zhu e, Nat.le_of_eq (ZfS _ _), trivial, fun b hb => absurd (show b ∈ ([] : List Addr) from hb) (by simp), hok, .of_eq hg⟩
    refine codeAny_mono ((F _ hKb (nsK hns)).run callerA [] s₁ H ⟨[.ref a], []⟩ [.ref a] [.ref a] _ _ hr e0 (hbind s₁ (.ref a)) (.cons rfl .nil) (hsp H hO hS)) fun r s' h => ?_
    cases r with
    | error e => exact (hCX H e s' h).elim
    | ok fl =>
      cases fl with
      | next => exact False.elim h
      | brk => exact False.elim h
      | cont => exact False.elim h
      | ret u =>
        obtain ⟨v, H', os, bare, un, hok', r', q⟩ := h
        have q' : v = .bl true := q
        subst q'
        obtain rfl : u = Value.bool true := r'
        refine ⟨rfl, OldK.of_keep fun b o e => ?_, os, bare⟩
        cases q : H b with
        | none => exact un.keep b o e q (by intro z; exact absurd (show b ∈ ([] : List Addr) from z) (by simp)) (by simp)
        | some u =>
          rcases hO b with z | ⟨ob, xs, z⟩
          · rw [q] at z; cases z
          · have z2 := un.frzs b ob _ z
            obtain ⟨e1, _⟩ := hok b _ z
            obtain ⟨e2, _⟩ := hok' b _ z2
            rw [e] at e1; cases e1
            exact e2
  cases hk : K.lookup a with
  | some o =>
    have e := KX a o hk
    rw [ha] at e
    cases e
    refine core (fun _ => none) (fun _ => .inl rfl) (.inr ⟨_, vs.toArray, _, hk, rfl, rfl, rfl, by rw [List.size_toArray, lenV]; exact hl, by simpa using rv⟩) (fun b u z => by have z' : (none : Option HO) = some u := z; cases z') (fun b z => absurd rfl z) fun z => absurd rfl z
  | none =>
    refine core (fun b => if b = a then some (.frz { cls := .type "list", data := .seq vs.toArray } (.lst (ns.map V.int))) else none) (fun b => ?_) (.inl (.inr ⟨{ cls := .type "list", data := .seq vs.toArray }, if_pos rfl⟩)) (fun b u z => ?_) (fun b z => ?_) fun _ => hk
    · by_cases hb : b = a
      · exact .inr ⟨_, _, if_pos hb⟩
      · exact .inl (if_neg hb)
    · by_cases hb : b = a
      · have z' := (if_pos hb).symm.trans z
        cases z'
        subst hb
        exact ⟨ha, by rw [List.length_map]; exact hl, vs, _, rv, ha⟩
      · have z' := (if_neg hb).symm.trans z
        cases z'
    · by_cases hb : b = a
      · exact hb
      · exact absurd (if_neg hb) z
end L2
namespace L2
open PySem PySem.Spec PyProof.Rows
theorem Zhi {l:PySem.W.OpenLaw}{n k:Nat}{q:Program}{loose:List Str}{XP:(Str→Option Value)→Heap→Prop}{YP:World→Heap→Prop}{d:DefRec}{K:Params→PySem.W.Frag}{CX:World→CXT}{sp:World→Sp}{x:Str}
  (hn:l.most=some n) (hn2:n≤sizeLine) (hdf:d.params.defaults=[]) (hr:Room k callerA)
  (hY:∀ (w:World) (h:Heap),YP w h→(K w.params).In h)
  (F:∀ (w:World) (mg:Str→Option Value) (fa:Addr) (h:Heap),(K w.params).In h→h.Ns mainGlobals mg→mg d.name=some (.ref fa) →
   ∃ fd:FuncData,(∀ (s:Shared) (u:Value),BindsTo s fd ⟨[u],[]⟩ [(x,u)]) ∧
    ∀ base:Heap,(K w.params).In base→base.Ns mainGlobals mg→FnOk l.prog w (K w.params) mg base (CX w) k fa fd [x] (sp w))
  (hsp:∀ (w:World) (H:Hp) (a:Addr) (ns:List Int),ns.length≤n→Only H→SqL (K w.params) H a (ns.map V.int)→sp w [.ref a] H (fun v _=>v=.bl true) fun _ _ _=>False)
  (hCX:∀ (w:World) (H:Hp) (s:Shared) (e:Value) (s':Shared),CX w [] H s (fun _ _ _=>False) e s'→False) :
  PySem.W.WalkO q loose XP YP l.row.toRowW d [] (fun f vs=>PySem.call f vs):=by
 refine Att.Zd5 hn hdf fun w s₀ s₁ mg mb fa o pm cd doc a vs ns G Y ho hd hcd hmg hobj hints hlen hg=>?_
 have KX:=hY w _ Y
 obtain ⟨fd,hb,hF⟩:=F w mg fa _ KX G.T.g hmg
 exact ZgA KX G.T.g G.T.b G.T.builtins G.T.nolimit hg hobj hints (Nat.le_trans hlen hn2) hr hF hb (fun H hO hS=>hsp w H a ns hlen hO hS) fun H e s'=>hCX w H s₁ e s'
end L2
namespace L2
open PySem PySem.Spec PyProof.Rows
noncomputable def Zf (s:Stmt):Arguments:=match s with
 | .FunctionDef _ a _ _ _ _ _ _ _ _=>a
 | _=>{ posonlyargs:=[],args:=[],vararg:=none,kwonlyargs:=[],kw_defaults:=[],kwarg:=none,defaults:=[] }
noncomputable def Ye (s:Stmt):List Stmt:=match s with
 | .FunctionDef _ _ b _ _ _ _ _ _ _=>b
 | _=>[]
noncomputable def Zc (s:Stmt):Scope:=match s with
 | .FunctionDef _ _ _ _ _ _ sc _ _ _=>sc
 | _=>{ kind:=.function,names:=[],isGenerator:=false,isCoroutine:=false }
noncomputable abbrev CX0:CXT:=fun _ _ _ _ _ _=>False
noncomputable abbrev E0:XK:=fun _ _ _=>False
theorem Zjd {X:Cx}:Passes CX0 X E0:=fun _ _ _ _ _ _ _ h=>h.elim
structure Fun (K:PySem.W.Frag)(x qual:Str)(st:Stmt)(f:Addr)(fd:FuncData):Prop where
 ex:∃ (oc:Value) (od:Option Addr) (kV doc pm:Value) (an:Option Addr) (cdv ct:Value) (osl:Array (Option Value)),
  fd=PySem.W.fnOf x qual (Zf st) (Ye st) (Zc st) .none kV doc pm an cdv ct∧K.lookup f=some ⟨oc,od,.func fd,osl⟩∧PySem.W.codeIn K cdv qual=true
 kp:PySem.W.keepIn K (.ref f)=true
section
variable {P:Program} {w:World} {K:PySem.W.Frag} {mg:Str→Option Value} {base:Heap}
theorem Fun.ok {x qual:Str}{st:Stmt}{f:Addr}{fd:FuncData}{N ps:List Str}{k:Nat}{sp:Sp}(F:Fun K x qual st f fd)(S:Jj N ps (Zc st))(len:∀ vs H Q E,sp vs H Q E→vs.length=ps.length)
  (hbody:∀ (cdv:Value) (A:Around) (outer:List Env) (s:Shared) (H:Hp) (vs:List V) (Q:VK) (E:XK),Room k (A.deeper (envOfC qual (Zc st) s.heap.objs.size f cdv))→sp vs H Q E →
   ∃ t,PSs (cxOf CX0 P w K mg base N qual (Zc st) f cdv A outer s H E).nox (Ye st) t∧t { nx:=fun _ H'=>Q .non H',rt:=Q } (start N vs) H):FnOk P w K mg base CX0 (k + 1) f fd ps sp:=by
 obtain ⟨oc,od,kV,doc,pm,an,cdv,ct,osl,rfl,lk,hcd⟩:=F.ex
 refine ZgV lk hcd S len fun A outer s H vs Q E hr hsp=>?_
 obtain ⟨t,h,q⟩:=hbody cdv A outer s H vs Q E hr hsp
 exact ⟨t,h.nox,q⟩
theorem Fun.binds {x qual:Str}{st:Stmt}{f:Addr}{fd:FuncData}{ps:List Str}(F:Fun K x qual st f fd)
  (h:∀ (kV doc pm:Value) (an:Option Addr) (cdv ct:Value) (us:List Value),us.length=ps.length→bindArgs (PySem.W.fnOf x qual (Zf st) (Ye st) (Zc st) .none kV doc pm an cdv ct) ⟨us,[]⟩=pure (ps.zip us)):Binds K fd ps []:=by
 obtain ⟨oc,od,kV,doc,pm,an,cdv,ct,osl,rfl,lk,hcd⟩:=F.ex
 exact .all (h kV doc pm an cdv ct)
theorem Ji {x qual:Str}{st:Stmt}{f:Addr}{oc:Value}{od an:Option Addr}{osl:Array (Option Value)}{kV doc pm cdv ct:Value}(l:K.lookup f=some ⟨oc,od,.func (PySem.W.fnOf x qual (Zf st) (Ye st) (Zc st) .none kV doc pm an cdv ct),osl⟩)
  (c:PySem.W.codeIn K cdv qual=true) (k:PySem.W.keepIn K (.ref f)=true):Fun K x qual st f (PySem.W.fnOf x qual (Zf st) (Ye st) (Zc st) .none kV doc pm an cdv ct):=⟨⟨oc,od,kV,doc,pm,an,cdv,ct,osl,rfl,l,c⟩,k⟩
end
section
variable {X:Cx}
end
theorem iteF {A B:Prop}(h:B):if false=true then A else B:=by
 rw [if_neg Bool.false_ne_true]
 exact h
theorem iteT {A B:Prop}(h:A):if true=true then A else B:=by
 rw [if_pos rfl]
 exact h
noncomputable def Same (H H':Hp):Prop:=∀ b o,H b=some o→H' b=some o
theorem Same.refl (H:Hp):Same H H:=fun _ _ h=>h
theorem Same.trans {H H1 H2:Hp}(a:Same H H1)(b:Same H1 H2):Same H H2:=fun c o h=>b c o (a c o h)
theorem Same.free {H H':Hp}(e:Same H H'){l:Addr}(h:H' l=Option.none):H l=Option.none:=by
 cases q:H l with
 | none=>rfl
 | some o =>
  rw [e l o q] at h
  cases h
theorem Same.seq {K:PySem.W.Frag}{H H':Hp}{a:Addr}{xs:List V}(e:Same H H')(h:SqL K H a xs):SqL K H' a xs:=by
 rcases h with (h | ⟨o,h⟩) | h
 ·exact .inl (.inl (e _ _ h))
 ·exact .inl (.inr ⟨o,e _ _ h⟩)
 ·exact .inr h
end L2
set_option linter.all false
set_option Elab.async false
namespace PV
theorem el9 {A1 A2 A3 A4 A5 A6:Type}{P Q R:A1→A2→A3→A4→A5→A6→Prop}{Z:Prop}(h:∃ a b c d e f,P a b c d e f∧Q a b c d e f∧R a b c d e f)(k:∀ a b c d e f,P a b c d e f→Q a b c d e f→R a b c d e f→Z):Z:=by
 obtain ⟨a,b,c,d,e,f,p,q,r⟩:=h
 exact k a b c d e f p q r
theorem el10 {A1 A2 A3 A4 A5 A6 A7:Type}{P Q R:A1→A2→A3→A4→A5→A6→A7→Prop}{Z:Prop}(h:∃ a b c d e f g,P a b c d e f g∧Q a b c d e f g∧R a b c d e f g)(k:∀ a b c d e f g,P a b c d e f g→Q a b c d e f g→R a b c d e f g→Z):Z:=by
 obtain ⟨a,b,c,d,e,f,g,p,q,r⟩:=h
 exact k a b c d e f g p q r
open PySem (Str)
inductive D where
 | non | bl (b:Bool) | int (i:Int) | str (x:Str) | lst (xs:List D) | tup (xs:List D) | dct (kvs:List (Int × Int))
 deriving Inhabited
inductive Sl where
 | un | sh (d:D) | fr (d:D) | ow (ds:List D) | tab (rows:List (List D)) | dc (kvs:List (Int × Int)) | nw (ds:List D) | jk (d:D) | jl (n:Nat) | xc (c:Nat)
 deriving Inhabited
noncomputable def lim:Nat:=100000
mutual
noncomputable def D.dep:D→Nat
 | .lst xs=>D.deps xs + 1
 | .tup xs=>D.deps xs + 1
 | .dct _=>100
 | _=>0
noncomputable def D.deps:List D→Nat
 | []=>0
 | x::xs=>max (D.dep x) (D.deps xs)
end
mutual
noncomputable def eqD:D→D→Bool
 | .non,.non=>true
 | .bl a,.bl b=>a == b
 | .bl a,.int b=>(if a then 1 else 0) == b
 | .int a,.bl b=>a == (if b then 1 else 0)
 | .int a,.int b=>a == b
 | .str a,.str b=>a == b
 | .lst a,.lst b=>eqDs a b
 | .tup a,.tup b=>eqDs a b
 | .dct a,.dct b=>decide (a=b)
 | _,_=>false
noncomputable def eqDs:List D→List D→Bool
 | [],[]=>true
 | x::xs,y::ys=>eqD x y && eqDs xs ys
 | _,_=>false
end
noncomputable abbrev Env:=List Sl
noncomputable abbrev Ex:=Env→Option D
noncomputable abbrev Tx:=Env→Option Bool
noncomputable abbrev Lx:=Env→Option (List D)
noncomputable def Sl.val:Sl→Option D
 | .un=>none
 | .sh d=>some d
 | .fr d=>some d
 | .ow ds=>some (.lst ds)
 | .tab rows=>some (.lst (rows.map .lst))
 | .nw ds=>some (.lst ds)
 | _=>none
noncomputable def Sl.shd:Sl→Option D
 | .sh d=>some d
 | .fr d=>some d
 | _=>none
noncomputable def eC (d:D):Ex:=fun _=>some d
noncomputable def eVar (i:Nat):Ex:=fun env=>env[i]?.bind Sl.shd
noncomputable def Zco (i:Nat):Ex:=fun env=>env[i]?.bind Sl.val
noncomputable def e2I (f:Int→Int→Option D) (a b:Ex):Ex:=fun env=>match a env,b env with
 | some (.int i),some (.int j)=>f i j
 | _,_=>none
noncomputable def iMul (i j:Int):Option D:=if (-18446744073709551616 < i∧i < 18446744073709551616)∨(-18446744073709551616 < j∧j < 18446744073709551616) then some (.int (i * j)) else none
noncomputable def iMod (i j:Int):Option D:=if 0 < j then some (.int (i % j)) else none
noncomputable def iDiv (i j:Int):Option D:=if 0 < j∧j < 1073741824 then some (.int (i / j)) else none
noncomputable def t2I (p:Int→Int→Bool) (a b:Ex):Tx:=fun env=>match a env,b env with
 | some (.int i),some (.int j)=>some (p i j)
 | _,_=>none
noncomputable def pLt (i j:Int):Bool:=decide (i < j)
noncomputable def pGt (i j:Int):Bool:=decide (j < i)
noncomputable def pGe (i j:Int):Bool:=decide (j≤i)
noncomputable def tEq (a b:Ex):Tx:=fun env=>match a env,b env with
 | some x,some y=>if x.dep≤8∧y.dep≤8 then some (eqD x y) else none
 | _,_=>none
noncomputable def tNe (a b:Ex):Tx:=fun env=>match a env,b env with
 | some x,some y=>if x.dep≤8∧y.dep≤8 then some (!eqD x y) else none
 | _,_=>none
noncomputable def inD (x:D) (ys:List D):Bool:=ys.any fun y=>eqD y x
noncomputable def tIn (a b:Ex):Tx:=fun env=>match a env,b env with
 | some x,some (.lst ys)=>if D.deps ys≤8∧x.dep≤8 then some (inD x ys) else none
 | some x,some (.tup ys)=>if D.deps ys≤8∧x.dep≤8 then some (inD x ys) else none
 | _,_=>none
noncomputable def tNi (a b:Ex):Tx:=fun env=>match tIn a b env with
 | some k=>some (!k)
 | none=>none
noncomputable def D.isN:D→Bool
 | .non=>true
 | _=>false
noncomputable def tIsN (a:Ex):Tx:=fun env=>match a env with
 | some x=>some x.isN
 | none=>none
noncomputable def tAnd (a b:Tx):Tx:=fun env=>match a env with
 | some true=>b env
 | some false=>some false
 | none=>none
noncomputable def tOr (a b:Tx):Tx:=fun env=>match a env with
 | some true=>some true
 | some false=>b env
 | none=>none
noncomputable def tNot (a:Tx):Tx:=fun env=>match a env with
 | some k=>some (!k)
 | none=>none
noncomputable def tB (a:Ex):Tx:=fun env=>match a env with
 | some (.bl k)=>some k
 | _=>none
noncomputable def eB (a:Tx):Ex:=fun env=>match a env with
 | some k=>some (.bl k)
 | none=>none
noncomputable def evs:List Ex→Env→Option (List D)
 | [],_=>some []
 | e::es,env=>match e env,evs es env with
  | some d,some ds=>some (d::ds)
  | _,_=>none
noncomputable def eLst (es:List Ex):Ex:=fun env=>match evs es env with
 | some ds=>some (.lst ds)
 | none=>none
noncomputable def Jh (φ:List D→Option D) (es:List Ex):Ex:=fun env=>match evs es env with
 | some ds=>φ ds
 | none=>none
noncomputable def eF1 (φ:D→Option D) (a:Ex):Ex:=fun env=>match a env with
 | some x=>φ x
 | none=>none
noncomputable def eF2 (φ:D→D→Option D) (a b:Ex):Ex:=fun env=>match a env,b env with
 | some x,some y=>φ x y
 | _,_=>none
noncomputable def ixN (n:Nat) (i:Int):Option Nat:=if 0≤i then (if i < n then some i.toNat else none) else if -(n:Int)≤i then some (i + n).toNat else none
noncomputable def atD (xs:List D) (i:Int):Option D:=(ixN xs.length i).bind fun j=>xs[j]?
noncomputable def fIx:D→D→Option D
 | .lst xs,.int i=>atD xs i
 | .tup xs,.int i=>atD xs i
 | _,_=>none
noncomputable def eIx (a b:Ex):Ex:=eF2 fIx a b
noncomputable def fAdd:D→D→Option D
 | .int i,.int j=>some (.int (i + j))
 | .lst xs,.lst ys=>if xs.length + ys.length≤lim then some (.lst (xs++ys)) else none
 | _,_=>none
noncomputable def eAdd (a b:Ex):Ex:=eF2 fAdd a b
noncomputable def fLen:D→Option D
 | .lst xs=>some (.int xs.length)
 | .tup xs=>some (.int xs.length)
 | _=>none
noncomputable def oNo:Env→Option (Option Int):=fun _=>some none
noncomputable def oAt (a:Ex):Env→Option (Option Int):=fun env=>match a env with
 | some (.int i)=>some (some i)
 | _=>none
noncomputable def allB:List D→Option Bool
 | []=>some true
 | .bl b::xs=>match allB xs with
  | some c=>some (b && c)
  | none=>none
 | _::_=>none
noncomputable def fAll:D→Option D
 | .lst xs=>match allB xs with
  | some b=>some (.bl b)
  | none=>none
 | _=>none
noncomputable def YF:List D→Option (List Int)
 | []=>some []
 | .int i::xs=>match YF xs with
  | some r=>some (i::r)
  | none=>none
 | _::_=>none
noncomputable def ltL:List Int→List Int→Bool
 | [],[]=>false
 | [],_::_=>true
 | _::_,[]=>false
 | x::xs,y::ys=>if x=y then ltL xs ys else decide (x < y)
inductive Ty where
 | int | bool | str | list | tuple
noncomputable def isTy:Ty→D→Bool
 | .int,.int _=>true
 | .int,.bl _=>true
 | .bool,.bl _=>true
 | .str,.str _=>true
 | .list,.lst _=>true
 | .tuple,.tup _=>true
 | _,_=>false
noncomputable def fIs (t:Ty):D→Option D
 | .dct _=>none
 | x=>some (.bl (isTy t x))
noncomputable def ZaF:D→Bool
 | .lst _=>false
 | .tup _=>false
 | .dct _=>false
 | _=>true
noncomputable def idxD (x:D):List D→Option Nat
 | []=>none
 | y::ys=>if eqD y x then some 0 else match idxD x ys with
  | some j=>some (j + 1)
  | none=>none
noncomputable def Zcb:D→D→Option D
 | .lst ys,x=>if D.deps ys≤8∧x.dep≤8 then (match idxD x ys with
  | some j=>some (.int j)
  | none=>none) else none
 | _,_=>none
noncomputable def iOf (a:Ex):Lx:=fun env=>match a env with
 | some (.lst xs)=>some xs
 | some (.tup xs)=>some xs
 | _=>none
noncomputable def ZC (lo:Int) (n:Nat):List D:=(List.range n).map fun k=>.int (lo + (k:Nat))
noncomputable def iRng (a:Ex):Lx:=fun env=>match a env with
 | some (.int j)=>if -(lim:Int)≤j∧j≤lim then some (ZC 0 j.toNat) else none
 | _=>none
noncomputable def Jz (i:Nat) (c:Tx) (e:Ex) (env:Env):List D→Option (List D)
 | []=>some []
 | d::ds=>match c (env.set i (.sh d)) with
  | some true=>match e (env.set i (.sh d)),Jz i c e env ds with
   | some x,some xs=>some (x::xs)
   | _,_=>none
  | some false=>Jz i c e env ds
  | none=>none
noncomputable def Yj:Tx:=fun _=>some true
noncomputable def Yg (i:Nat) (it:Lx) (c:Tx) (e:Ex):Ex:=fun env=>match it env with
 | some ds=>if ds.length≤lim then (match Jz i c e env ds with
  | some xs=>some (.lst xs)
  | none=>none) else none
 | none=>none
inductive Out where
 | nx | bk | ct | rt (d:D)
noncomputable abbrev St:=Env→Option (Out × Env)
noncomputable def Jg:St:=fun env=>some (.nx,env)
noncomputable def sSet (i:Nat) (e:Ex):St:=fun env=>match e env with
 | some d=>some (.nx,env.set i (.sh d))
 | none=>none
noncomputable def sOwn (i:Nat) (e:Ex):St:=fun env=>match e env with
 | some (.lst ds)=>some (.nx,env.set i (.ow ds))
 | _=>none
noncomputable def sFrz (i:Nat):St:=fun env=>match env[i]? with
 | some (.ow ds)=>some (.nx,env.set i (.sh (.lst ds)))
 | some (.tab rs)=>some (.nx,env.set i (.sh (.lst (rs.map .lst))))
 | some (.nw ds)=>some (.nx,env.set i (.fr (.lst ds)))
 | some (.dc kvs)=>some (.nx,env.set i (.sh (.dct kvs)))
 | some (.sh _)=>some (.nx,env)
 | some (.fr _)=>some (.nx,env)
 | _=>none
noncomputable def sApp (i:Nat) (e:Ex):St:=fun env=>match env[i]?,e env with
 | some (.ow ds),some d=>if ds.length < lim then some (.nx,env.set i (.ow (ds++[d]))) else none
 | _,_=>none
noncomputable def sRet (e:Ex):St:=fun env=>match e env with
 | some d=>some (.rt d,env)
 | none=>none
noncomputable def sSeq (a b:St):St:=fun env=>match a env with
 | some (.nx,env1)=>b env1
 | r=>r
noncomputable def sIf (c:Tx) (a b:St):St:=fun env=>match c env with
 | some true=>a env
 | some false=>b env
 | none=>none
noncomputable abbrev Tg:=D→Env→Option Env
noncomputable def gN (i:Nat):Tg:=fun d env=>some (env.set i (.sh d))
noncomputable def g2 (i j:Nat):Tg:=fun d env=>match d with
 | .tup [x,y]=>some ((env.set i (.sh x)).set j (.sh y))
 | _=>none
noncomputable def forL (g:Tg) (b:St):List D→St
 | [],env=>some (.nx,env)
 | d::ds,env=>match g d env with
  | some e0=>match b e0 with
   | some (.nx,e1)=>forL g b ds e1
   | some (.ct,e1)=>forL g b ds e1
   | some (.bk,e1)=>some (.nx,e1)
   | some (.rt r,e1)=>some (.rt r,e1)
   | none=>none
  | none=>none
noncomputable def sFor (g:Tg) (it:Lx) (b:St):St:=fun env=>match it env with
 | some ds=>forL g b ds env
 | none=>none
noncomputable def enter (n:Nat) (ds:List D):Env:=ds.map .sh++List.replicate (n - ds.length) .un
noncomputable def run (p n:Nat) (g:St) (ds:List D):Option D:=if ds.length=p then (match g (enter n ds) with
 | some (.rt d,_)=>some d
 | some (.nx,_)=>some .non
 | _=>none) else none
end PV
set_option linter.all false
set_option Elab.async false
set_option maxHeartbeats 1000000
namespace PV
open PySem (Str)
structure Agr (S:List Nat)(env env0:Env):Prop where
 len:env.length=env0.length
 out:∀ i,i ∉ S→env[i]?=env0[i]?
theorem Agr.refl (S:List Nat)(env:Env):Agr S env env:=⟨rfl,fun _ _=>rfl⟩
theorem Agr.trans {S:List Nat}{a b c:Env}(h:Agr S a b)(k:Agr S b c):Agr S a c:=⟨h.len.trans k.len,fun i hi=>(h.out i hi).trans (k.out i hi)⟩
theorem Agr.set {S:List Nat}{a b:Env}(h:Agr S a b){i:Nat}(hi:i ∈ S)(s:Sl):Agr S (a.set i s) b :=
 ⟨by rw [List.length_set];exact h.len,fun j hj=>by rw [List.getElem?_set_ne (by rintro rfl;exact hj hi)];exact h.out j hj⟩
theorem Agr.mono {S T:List Nat}{a b:Env}(h:Agr S a b)(st:∀ i ∈ S,i ∈ T):Agr T a b:=⟨h.len,fun i hi=>h.out i fun z=>hi (st i z)⟩
theorem ZhB {env:Env}{i:Nat}{s:Sl}(h:i < env.length):(env.set i s)[i]?=some s:=by rw [List.getElem?_set_self h]
theorem Zd8 {env:Env}{i j:Nat}{s:Sl}(h:i≠j):eVar j (env.set i s)=eVar j env:=by unfold eVar;rw [List.getElem?_set_ne h]
theorem Zgr {env:Env}{i:Nat}{d:D}(h:i < env.length):eVar i (env.set i (.sh d))=some d:=by unfold eVar;rw [ZhB h];rfl
theorem Agr.var {S:List Nat}{a b:Env}(h:Agr S a b){i:Nat}(hi:i ∉ S):eVar i a=eVar i b:=by unfold eVar;rw [h.out i hi]
theorem JR {a b:St}{env e1:Env}(h:a env=some (.nx,e1)):sSeq a b env=b e1:=by unfold sSeq;rw [h]
theorem Zef {a b:St}{env e1:Env}{r:D}(h:a env=some (.rt r,e1)):sSeq a b env=some (.rt r,e1):=by unfold sSeq;rw [h]
theorem ZfR {c:Tx}{a b:St}{env:Env}(h:c env=some true):sIf c a b env=a env:=by unfold sIf;rw [h]
theorem ZfZ {c:Tx}{a b:St}{env:Env}(h:c env=some false):sIf c a b env=b env:=by unfold sIf;rw [h]
theorem Zg7 {g:Tg}{it:Lx}{b:St}{env:Env}{ds:List D}(h:it env=some ds):sFor g it b env=forL g b ds env:=by unfold sFor;rw [h]
theorem Zbc {e:Ex}{env:Env}{d:D}(h:e env=some d):sRet e env=some (.rt d,env):=by unfold sRet;rw [h]
theorem Zan {i:Nat}{e:Ex}{env:Env}{d:D}(h:e env=some d):sSet i e env=some (.nx,env.set i (.sh d)):=by unfold sSet;rw [h]
theorem ZdI {env:Env}:Jg env=some (.nx,env):=rfl
theorem Za5 {p n:Nat}{g:St}{ds:List D}{r:D}{e1:Env}(hp:ds.length=p)(h:g (enter n ds)=some (.rt r,e1)):run p n g ds=some r:=by unfold run;rw [if_pos hp,h]
theorem ZiN {p n:Nat}{g:St}{ds:List D}{e1:Env}(hp:ds.length=p)(h:g (enter n ds)=some (.nx,e1)):run p n g ds=some .non:=by unfold run;rw [if_pos hp,h]
theorem ZfD {φ:List D→Option D}{a:Ex}{env:Env}{x:D}(h:a env=some x):Jh φ [a] env=φ [x]:=by simp [Jh,evs,h]
theorem Zat {φ:List D→Option D}{a b:Ex}{env:Env}{x y:D}(h:a env=some x)(h2:b env=some y):Jh φ [a,b] env=φ [x,y]:=by simp [Jh,evs,h,h2]
theorem Zij {φ:List D→Option D}{a b c:Ex}{env:Env}{x y z:D}(h:a env=some x)(h2:b env=some y)(h3:c env=some z):Jh φ [a,b,c] env=φ [x,y,z]:=by simp [Jh,evs,h,h2,h3]
theorem ZiO {φ:D→Option D}{a:Ex}{env:Env}{x:D}(h:a env=some x):eF1 φ a env=φ x:=by simp [eF1,h]
theorem ZgF {g : Tg}{b : St}{ds : List D}(I : Nat → Env → Prop)
    (step : ∀ k d env, ds[k]? = some d → I k env → ∃ e0 e1, g d env = some e0 ∧ b e0 = some (.nx, e1) ∧ I (k + 1) e1) (env : Env) (h0 : I 0 env) : ∃ e1, forL g b ds env = some (.nx, e1) ∧ I ds.length e1 := by
  have go : ∀ (m k : Nat) (env : Env), k + m = ds.length → I k env → ∃ e1, forL g b (ds.drop k) env = some (.nx, e1) ∧ I ds.length e1 := by
    intro m
    induction m with
    | zero => intro k env hk hI; have : k = ds.length := by omega
              subst this; rw [List.drop_length]; exact ⟨env, rfl, hI⟩
    | succ m ih =>
      intro k env hk hI
      have hlt : k < ds.length := by omega
      obtain ⟨e0, e1, h1, h2, h3⟩ := step k ds[k] env (by simp [hlt]) hI
      rw [List.drop_eq_getElem_cons hlt]
      simp only [forL, h1, h2]
      exact ih (k + 1) e1 (by omega) h3
  simpa using go ds.length 0 env (by omega) h0
theorem ZcQ {i:Nat}{e:Ex}{env:Env}(F:D→D):∀ (ds:List D),(∀ d ∈ ds,e (env.set i (.sh d))=some (F d))→Jz i Yj e env ds=some (ds.map F)
 | [],_=>rfl
 | d::ds,h=>by
  simp only [Jz,Yj,h d List.mem_cons_self,ZcQ F ds fun d' hd'=>h d' (List.mem_cons_of_mem _ hd'),List.map_cons]
theorem YZ (lo:Int)(n:Nat):(ZC lo n).length=n:=by simp [ZC]
theorem ZeW {lo:Int}{n k:Nat}(h:k < n):(ZC lo n)[k]?=some (.int (lo + k)):=by simp [ZC,h]
theorem Yk:lim=100000:=rfl
theorem ZeB {e:Ex}{env:Env}{n:Nat}(h:e env=some (.int n))(hn:n≤1000):iRng e env=some (ZC 0 n):=by
 unfold iRng
 simp only [h]
 rw [if_pos ⟨by rw [Yk];omega,by rw [Yk];omega⟩]
 simp
noncomputable def rowD (r:List Int):D:=.lst (r.map .int)
noncomputable def tabD (T:List (List Int)):D:=.lst (T.map rowD)
structure Tab (T:List (List Int))(n:Nat):Prop where
 len:T.length=n
 row:∀ r ∈ T,r.length=n
 ent:∀ r ∈ T,∀ x ∈ r,0≤x∧x < n
 pos:1≤n
 top:n≤12
noncomputable def tg (T:List (List Int)) (a b:Int):Int:=(T.getD a.toNat []).getD b.toNat 0
theorem ZeC {xs:List D}{j:Nat}{d:D}(h:xs[j]?=some d):atD xs (j:Int)=some d:=by
 have hj:j < xs.length:=(List.getElem?_eq_some_iff.mp h).1
 unfold atD ixN
 rw [if_pos (by omega),if_pos (by omega)]
 simpa using h
theorem Zhd {r:List Int}{b:Int}(h0:0≤b)(h1:b < r.length):fIx (rowD r) (.int b)=some (.int (r.getD b.toNat 0)):=by
 obtain ⟨k,rfl⟩:=Int.eq_ofNat_of_zero_le h0
 have hk:k < r.length:=by omega
 show atD _ _=_
 rw [ZeC (d:=.int (r.getD k 0))]
 ·simp
 ·simp [hk,List.getD]
theorem Tab.Zh9 {T:List (List Int)}{n:Nat}(h:Tab T n){a:Int}(h0:0≤a)(h1:a < n):(T.getD a.toNat []).length=n:=by
 have hk:a.toNat < T.length:=by have:=h.len;omega
 rw [List.getD_eq_getElem?_getD,List.getElem?_eq_getElem hk]
 exact h.row _ (List.getElem_mem hk)
theorem Tab.bound {T:List (List Int)}{n:Nat}(h:Tab T n){a b:Int}(h0:0≤a)(h1:a < n)(h2:0≤b)(h3:b < n):0≤tg T a b∧tg T a b < n:=by
 have hk:a.toNat < T.length:=by have:=h.len;omega
 have hl:=h.Zh9 h0 h1
 have hb:b.toNat < (T.getD a.toNat []).length:=by omega
 unfold tg
 rw [List.getD_eq_getElem?_getD (l:=T.getD a.toNat []),List.getElem?_eq_getElem hb]
 refine h.ent _ ?_ _ (List.getElem_mem hb)
 rw [List.getD_eq_getElem?_getD,List.getElem?_eq_getElem hk]
 exact List.getElem_mem hk
theorem ZgI (T:List (List Int)):fLen (tabD T)=some (.int T.length):=by simp [tabD,fLen]
theorem Zdm (r:List Int):fLen (rowD r)=some (.int r.length):=by simp [rowD,fLen]
mutual
theorem ZbF:∀ d:D,eqD d d=true
 | .non=>by simp [eqD]
 | .bl _=>by simp [eqD]
 | .int _=>by simp [eqD]
 | .str _=>by simp [eqD]
 | .lst xs=>by simp only [eqD];exact Za3 xs
 | .tup xs=>by simp only [eqD];exact Za3 xs
 | .dct xs=>by simp [eqD]
theorem Za3:∀ ds:List D,eqDs ds ds=true
 | []=>by simp [eqDs]
 | d::ds=>by simp only [eqDs,ZbF d,Za3 ds,Bool.and_self]
end
theorem Zc4:∀ xs:List Int,D.deps (xs.map .int)=0
 | []=>by simp [D.deps]
 | x::xs=>by simp [D.deps,D.dep,Zc4 xs]
theorem Zht (r:List Int):(rowD r).dep=1:=by simp [rowD,D.dep,Zc4]
theorem ZcN:∀ T:List (List Int),D.deps (T.map rowD)≤1
 | []=>by simp [D.deps]
 | r::T=>by simp only [List.map_cons,D.deps,Zht];have:=ZcN T;omega
theorem ZeK (T:List (List Int)):(tabD T).dep≤2:=by have:=ZcN T;simp only [tabD,D.dep];omega
theorem Zem {a b:Ex}{env:Env}{i j:Int}(h1:a env=some (.int i))(h2:b env=some (.int j)):tEq a b env=some (i == j):=by
 simp [tEq,h1,h2,D.dep,eqD]
theorem Zh3 {a b:Ex}{env:Env}{i j:Int}(h1:a env=some (.int i))(h2:b env=some (.int j)):tNe a b env=some (!(i == j)):=by
 simp [tNe,h1,h2,D.dep,eqD]
theorem ints_map (r:List Int):YF (r.map .int)=some r:=by
 induction r with
 | nil=>rfl
 | cons x r ih=>simp [YF,ih]
theorem ZcE:∀ x:List Int,ltL x x=false
 | []=>rfl
 | a::x=>by simp [ltL,ZcE x]
theorem Zdy:∀ {x y z:List Int},ltL x y=true→ltL y z=true→ltL x z=true
 | [],[],z,h,_=>by simp [ltL] at h
 | [],b::y,[],_,h=>by simp [ltL] at h
 | [],b::y,c::z,_,_=>by simp [ltL]
 | a::x,[],z,h,_=>by simp [ltL] at h
 | a::x,b::y,[],_,h=>by simp [ltL] at h
 | a::x,b::y,c::z,h,k=>by
  simp only [ltL] at h k ⊢
  by_cases e1:a=b
  ·subst e1
   rw [if_pos rfl] at h
   by_cases e2:a=c
   ·subst e2
    rw [if_pos rfl] at k ⊢
    exact Zdy h k
   ·rw [if_neg e2] at k ⊢;exact k
  ·rw [if_neg e1] at h
   have h':=of_decide_eq_true h
   by_cases e2:b=c
   ·subst e2
    rw [if_neg e1];exact h
   ·rw [if_neg e2] at k
    have k':=of_decide_eq_true k
    rw [if_neg (by omega)]
    exact decide_eq_true (by omega)
theorem Zen:∀ x y:List Int,ltL x y=false→ltL y x=false→x=y
 | [],[],_,_=>rfl
 | [],b::y,h,_=>by simp [ltL] at h
 | a::x,[],_,h=>by simp [ltL] at h
 | a::x,b::y,h,k=>by
  simp only [ltL] at h k
  by_cases e:a=b
  ·subst e
   rw [if_pos rfl] at h k
   rw [Zen x y h k]
  ·rw [if_neg e] at h
   rw [if_neg (fun q=>e q.symm)] at k
   have h':=of_decide_eq_false h
   have k':=of_decide_eq_false k
   omega
noncomputable def leL (x y:List Int):Prop:=ltL y x=false
theorem leL.refl (x:List Int):leL x x:=ZcE x
theorem leL.of {x y:List Int}(h:ltL x y=true):leL x y:=by
 unfold leL
 cases k:ltL y x with
 | false=>rfl
 | true=>have:=Zdy h k;rw [ZcE] at this;cases this
theorem leL.trans {x y z:List Int}(h:leL x y)(k:leL y z):leL x z:=by
 unfold leL at *
 cases q:ltL z x with
 | false=>rfl
 | true =>
  cases e:ltL x y with
  | true=>have:=Zdy q e;rw [k] at this;cases this
  | false=>rw [Zen x y e h] at q;rw [k] at q;cases q
end PV
set_option linter.all false
set_option Elab.async false
set_option maxHeartbeats 1000000
namespace PV
open PySem (Str)
noncomputable def ev (e:Ex) (env:Env) (P:D→Prop):Prop:=∃ d,e env=some d∧P d
noncomputable def evI (e:Ex) (env:Env) (P:Int→Prop):Prop:=∃ i,e env=some (.int i)∧P i
noncomputable def evR (e:Ex) (env:Env) (P:List Int→Prop):Prop:=∃ r,e env=some (rowD r)∧P r
noncomputable def evT (e:Ex) (env:Env) (P:List (List Int)→Prop):Prop:=∃ T,e env=some (tabD T)∧P T
noncomputable def tv (t:Tx) (env:Env) (P:Bool→Prop):Prop:=∃ k,t env=some k∧P k
noncomputable def wp (s:St) (env:Env) (Q:Out→Env→Prop):Prop:=∃ o e,s env=some (o,e)∧Q o e
theorem ev.mono {e:Ex}{env:Env}{P P':D→Prop}(h:ev e env P)(k:∀ d,P d→P' d):ev e env P':=let ⟨d,a,b⟩:=h;⟨d,a,k d b⟩
theorem wp.mono {s:St}{env:Env}{Q Q':Out→Env→Prop}(h:wp s env Q)(k:∀ o e,Q o e→Q' o e):wp s env Q':=let ⟨o,e,a,b⟩:=h;⟨o,e,a,k o e b⟩
theorem tv.mono {t:Tx}{env:Env}{P P':Bool→Prop}(h:tv t env P)(k:∀ d,P d→P' d):tv t env P':=let ⟨d,a,b⟩:=h;⟨d,a,k d b⟩
theorem evI.ev {e:Ex}{env:Env}{P:D→Prop}(h:evI e env fun i=>P (.int i)):ev e env P:=let ⟨i,a,b⟩:=h;⟨_,a,b⟩
theorem evR.ev {e:Ex}{env:Env}{P:D→Prop}(h:evR e env fun r=>P (rowD r)):ev e env P:=let ⟨i,a,b⟩:=h;⟨_,a,b⟩
theorem evT.ev {e:Ex}{env:Env}{P:D→Prop}(h:evT e env fun r=>P (tabD r)):ev e env P:=let ⟨i,a,b⟩:=h;⟨_,a,b⟩
theorem ev.eq {e:Ex}{env:Env}{d:D}(h:ev e env (·=d)):e env=some d:=let ⟨x,a,b⟩:=h;b ▸ a
theorem evI.eq {e:Ex}{env:Env}{i:Int}(h:evI e env (·=i)):e env=some (.int i):=let ⟨x,a,b⟩:=h;b ▸ a
theorem tv.eq {e:Tx}{env:Env}{d:Bool}(h:tv e env (·=d)):e env=some d:=let ⟨x,a,b⟩:=h;b ▸ a
theorem Zg {e:Ex}{env:Env}{d:D}{P:D→Prop}(h:e env=some d)(k:P d):ev e env P:=⟨d,h,k⟩
theorem Je {e:Ex}{env:Env}{d:Int}{P:Int→Prop}(h:e env=some (.int d))(k:P d):evI e env P:=⟨d,h,k⟩
theorem ZdG {e:Ex}{env:Env}{d:List Int}{P:List Int→Prop}(h:e env=some (rowD d))(k:P d):evR e env P:=⟨d,h,k⟩
theorem ZaY {e:Ex}{env:Env}{d:List (List Int)}{P:List (List Int)→Prop}(h:e env=some (tabD d))(k:P d):evT e env P:=⟨d,h,k⟩
theorem Zae {e:Tx}{env:Env}{d:Bool}{P:Bool→Prop}(h:e env=some d)(k:P d):tv e env P:=⟨d,h,k⟩
theorem ZbI {a b:Ex}{env:Env}{P:Int→Prop}(h:evI a env fun i=>evI b env fun j=>P (i + j)):evI (eAdd a b) env P:=by
 obtain ⟨i,h1,j,h2,p⟩:=h;exact ⟨_,by simp [eAdd,eF2,h1,h2,fAdd],p⟩
theorem Zh1 {a b:Ex}{env:Env}{P:Int→Prop}(h:evI a env fun i=>evI b env fun j=>((-18446744073709551616 < i∧i < 18446744073709551616)∨(-18446744073709551616 < j∧j < 18446744073709551616))∧P (i * j)):evI (e2I iMul a b) env P:=by
 obtain ⟨i,h1,j,h2,q,p⟩:=h;exact ⟨_,by simp only [e2I,h1,h2,iMul,if_pos q],p⟩
theorem ZcF {a b:Ex}{env:Env}{P:Int→Prop}(h:evI a env fun i=>evI b env fun j=>0 < j∧P (i % j)):evI (e2I iMod a b) env P:=by
 obtain ⟨i,h1,j,h2,q,p⟩:=h;exact ⟨_,by simp only [e2I,h1,h2,iMod,if_pos q],p⟩
theorem ZbG {a:Ex}{env:Env}{P:Int→Prop}(h:evT a env fun T=>P T.length):evI (eF1 fLen a) env P:=by
 obtain ⟨T,h1,p⟩:=h;exact ⟨_,by simp [eF1,h1,ZgI],p⟩
theorem ZdA {a:Ex}{env:Env}{P:Int→Prop}(h:evR a env fun T=>P T.length):evI (eF1 fLen a) env P:=by
 obtain ⟨T,h1,p⟩:=h;exact ⟨_,by simp [eF1,h1,Zdm],p⟩
theorem Zgn {a:Ex}{env:Env}{P:Int→Prop}(h:ev a env fun d=>∃ ds,d=.lst ds∧P ds.length):evI (eF1 fLen a) env P:=by
 obtain ⟨_,h1,ds,rfl,p⟩:=h;exact ⟨_,by simp [eF1,h1,fLen],p⟩
theorem ev_B {t:Tx}{env:Env}{P:D→Prop}(h:tv t env fun k=>P (.bl k)):ev (eB t) env P:=by
 obtain ⟨k,h1,p⟩:=h;exact ⟨_,by simp only [eB,h1],p⟩
theorem ZgW {a b:Ex}{env:Env}{P:Bool→Prop}(h:evI a env fun i=>evI b env fun j=>P (decide (i < j))):tv (t2I pLt a b) env P:=by
 obtain ⟨i,h1,j,h2,p⟩:=h;exact ⟨_,by simp [t2I,h1,h2,pLt],p⟩
theorem Zbg {a b:Ex}{env:Env}{P:Bool→Prop}(h:evI a env fun i=>evI b env fun j=>P (decide (j < i))):tv (t2I pGt a b) env P:=by
 obtain ⟨i,h1,j,h2,p⟩:=h;exact ⟨_,by simp [t2I,h1,h2,pGt],p⟩
theorem Zg3 {a b:Ex}{env:Env}{P:Bool→Prop}(h:evI a env fun i=>evI b env fun j=>P (decide (j≤i))):tv (t2I pGe a b) env P:=by
 obtain ⟨i,h1,j,h2,p⟩:=h;exact ⟨_,by simp [t2I,h1,h2,pGe],p⟩
theorem Zi2 {a b:Ex}{env:Env}{P:Bool→Prop}(h:evI a env fun i=>evI b env fun j=>P (decide (i=j))):tv (tEq a b) env P:=by
 obtain ⟨i,h1,j,h2,p⟩:=h;exact ⟨_,(Zem h1 h2).trans (by congr 1),p⟩
theorem Zfr {a b:Ex}{env:Env}{P:Bool→Prop}(h:evI a env fun i=>evI b env fun j=>P (decide (i≠j))):tv (tNe a b) env P:=by
 obtain ⟨i,h1,j,h2,p⟩:=h
 exact ⟨_,(Zh3 h1 h2).trans (by congr 1;by_cases e:i=j <;> simp [e]),p⟩
theorem ZdZ:∀ (r q:List Int),eqDs (r.map .int) (q.map .int)=decide (r=q)
 | [],[]=>by simp [eqDs]
 | [],_::_=>by simp [eqDs]
 | _::_,[]=>by simp [eqDs]
 | x::r,y::q=>by
  simp only [List.map_cons,eqDs,eqD,ZdZ r q]
  by_cases h1:x=y <;> by_cases h2:r=q <;> simp [h1,h2]
theorem ZhQ (r q:List Int):eqD (rowD r) (rowD q)=decide (r=q):=by simp only [rowD,eqD,ZdZ]
theorem Zc6:∀ (r q:List (List Int)),eqDs (r.map rowD) (q.map rowD)=decide (r=q)
 | [],[]=>by simp [eqDs]
 | [],_::_=>by simp [eqDs]
 | _::_,[]=>by simp [eqDs]
 | x::r,y::q=>by
  simp only [List.map_cons,eqDs,ZhQ,Zc6 r q]
  by_cases h1:x=y <;> by_cases h2:r=q <;> simp [h1,h2]
theorem Zg6 (r q:List (List Int)):eqD (tabD r) (tabD q)=decide (r=q):=by simp only [tabD,eqD,Zc6]
theorem Zih {a b:Ex}{env:Env}{P:Bool→Prop}(h:evT a env fun i=>evT b env fun j=>P (decide (i=j))):tv (tEq a b) env P:=by
 obtain ⟨i,h1,j,h2,p⟩:=h
 exact ⟨_,by have:=ZeK i;have:=ZeK j;simp only [tEq,h1,h2,Zg6];rw [if_pos (by omega)],p⟩
theorem ZfN {a:Ex}{env:Env}{P:Bool→Prop}(h:ev a env fun d=>P d.isN):tv (tIsN a) env P:=by
 obtain ⟨i,h1,p⟩:=h;exact ⟨_,by simp only [tIsN,h1],p⟩
theorem ZiL {a:Tx}{env:Env}{P:Bool→Prop}(h:tv a env fun d=>P (!d)):tv (tNot a) env P:=by
 obtain ⟨i,h1,p⟩:=h;exact ⟨_,by simp only [tNot,h1],p⟩
theorem ZdL {a b:Tx}{env:Env}{P:Bool→Prop}(h:tv a env fun d=>(d=true→tv b env P)∧(d=false→P false)):tv (tAnd a b) env P:=by
 obtain ⟨i,h1,p,q⟩:=h
 cases i with
 | true=>obtain ⟨j,h2,p⟩:=p rfl;exact ⟨j,by simp only [tAnd,h1,h2],p⟩
 | false=>exact ⟨false,by simp only [tAnd,h1],q rfl⟩
theorem Zdi {a b:Tx}{env:Env}{P:Bool→Prop}(h:tv a env fun d=>(d=true→P true)∧(d=false→tv b env P)):tv (tOr a b) env P:=by
 obtain ⟨i,h1,p,q⟩:=h
 cases i with
 | false=>obtain ⟨j,h2,p⟩:=q rfl;exact ⟨j,by simp only [tOr,h1,h2],p⟩
 | true=>exact ⟨true,by simp only [tOr,h1],p rfl⟩
theorem tv_B {a:Ex}{env:Env}{P:Bool→Prop}(h:ev a env fun d=>∃ k,d=.bl k∧P k):tv (tB a) env P:=by
 obtain ⟨_,h1,k,rfl,p⟩:=h;exact ⟨_,by simp only [tB,h1],p⟩
theorem YD {env:Env}{Q:Out→Env→Prop}(h:Q .nx env):wp Jg env Q:=⟨_,_,rfl,h⟩
theorem Yo {i:Nat}{e:Ex}{env:Env}{Q:Out→Env→Prop}(h:ev e env fun d=>Q .nx (env.set i (.sh d))):wp (sSet i e) env Q:=by
 obtain ⟨d,h1,p⟩:=h;exact ⟨_,_,by simp only [sSet,h1],p⟩
theorem Zfj {i:Nat}{e:Ex}{env:Env}{Q:Out→Env→Prop}(h:ev e env fun d=>∃ ds,d=.lst ds∧Q .nx (env.set i (.ow ds))):wp (sOwn i e) env Q:=by
 obtain ⟨_,h1,ds,rfl,p⟩:=h;exact ⟨_,_,by simp only [sOwn,h1],p⟩
theorem Zft {i:Nat}{e:Ex}{env:Env}{Q:Out→Env→Prop}{ds:List D}(hi:env[i]?=some (.ow ds))(h:ev e env fun d=>ds.length < lim∧Q .nx (env.set i (.ow (ds++[d])))):wp (sApp i e) env Q:=by
 obtain ⟨d,h1,q,p⟩:=h;exact ⟨_,_,by simp only [sApp,hi,h1,if_pos q],p⟩
theorem Zfk {i:Nat}{env:Env}{Q:Out→Env→Prop}{ds:List D}(hi:env[i]?=some (.ow ds))(h:Q .nx (env.set i (.sh (.lst ds)))):wp (sFrz i) env Q:=⟨_,_,by simp only [sFrz,hi],h⟩
theorem ZhT {i:Nat}{env:Env}{Q:Out→Env→Prop}{d:D}(hi:env[i]?=some (.sh d))(h:Q .nx env):wp (sFrz i) env Q:=⟨_,_,by simp only [sFrz,hi],h⟩
theorem Zt {e:Ex}{env:Env}{Q:Out→Env→Prop}(h:ev e env fun d=>Q (.rt d) env):wp (sRet e) env Q:=by
 obtain ⟨d,h1,p⟩:=h;exact ⟨_,_,by simp only [sRet,h1],p⟩
noncomputable def thn (b:St) (Q:Out→Env→Prop):Out→Env→Prop
 | .nx,e=>wp b e Q
 | .bk,e=>Q .bk e
 | .ct,e=>Q .ct e
 | .rt d,e=>Q (.rt d) e
theorem wp_seq {a b:St}{env:Env}{Q:Out→Env→Prop}(h:wp a env (thn b Q)):wp (sSeq a b) env Q:=by
 obtain ⟨o,e,h1,p⟩:=h
 cases o with
 | nx=>obtain ⟨o,e',h2,p⟩:=p;exact ⟨o,e',by simp only [sSeq,h1,h2],p⟩
 | bk=>exact ⟨_,_,by simp only [sSeq,h1],p⟩
 | ct=>exact ⟨_,_,by simp only [sSeq,h1],p⟩
 | rt d=>exact ⟨_,_,by simp only [sSeq,h1],p⟩
theorem Zaj {c:Tx}{a b:St}{env:Env}{Q:Out→Env→Prop}(h:tv c env fun k=>(k=true→wp a env Q)∧(k=false→wp b env Q)):wp (sIf c a b) env Q:=by
 obtain ⟨k,h1,p,q⟩:=h
 cases k with
 | true=>obtain ⟨o,e,h2,p⟩:=p rfl;exact ⟨o,e,by simp only [sIf,h1,h2],p⟩
 | false=>obtain ⟨o,e,h2,p⟩:=q rfl;exact ⟨o,e,by simp only [sIf,h1,h2],p⟩
theorem Zg2 {c:Tx}{a:St}{env:Env}{Q:Out→Env→Prop}(h:tv c env (·=false))(k:Q .nx env):wp (sIf c a Jg) env Q :=
 Zaj (tv.mono h fun d hd=>⟨fun e=>(by rw [hd] at e;cases e),fun _=>YD k⟩)
noncomputable def lps (I:Env→Prop) (Q:Out→Env→Prop):Out→Env→Prop
 | .nx,e=>I e
 | .ct,e=>I e
 | .bk,e=>Q .nx e
 | .rt d,e=>Q (.rt d) e
theorem ZdD {g : Tg}{it : Lx}{b : St}{env : Env}{Q : Out → Env → Prop}{ds : List D}(I : Nat → Env → Prop)(hit : it env = some ds)(h0 : I 0 env)
    (step : ∀ k d e, ds[k]? = some d → I k e → ∃ e0, g d e = some e0 ∧ wp b e0 (lps (I (k + 1)) Q)) (h1 : ∀ e, I ds.length e → Q .nx e) : wp (sFor g it b) env Q := by
  have go : ∀ (m k : Nat) (env : Env), k + m = ds.length → I k env → ∃ o e, forL g b (ds.drop k) env = some (o, e) ∧ Q o e := by
    intro m
    induction m with
    | zero => intro k env hk hI; have : k = ds.length := by omega
              subst this; rw [List.drop_length]; exact ⟨_, env, rfl, h1 _ hI⟩
    | succ m ih =>
      intro k env hk hI
      have hlt : k < ds.length := by omega
      obtain ⟨e0, hg, o, e1, hb, p⟩ := step k ds[k] env (by simp [hlt]) hI
      rw [List.drop_eq_getElem_cons hlt]
      cases o with
      | nx => obtain ⟨o, e, h2, p⟩ := ih (k + 1) e1 (by omega) p; exact ⟨o, e, by simp only [forL, hg, hb, h2], p⟩
      | ct => obtain ⟨o, e, h2, p⟩ := ih (k + 1) e1 (by omega) p; exact ⟨o, e, by simp only [forL, hg, hb, h2], p⟩
      | bk => exact ⟨_, _, by simp only [forL, hg, hb], p⟩
      | rt d => exact ⟨_, _, by simp only [forL, hg, hb], p⟩
  obtain ⟨o, e, h2, p⟩ := go ds.length 0 env (by omega) h0
  exact ⟨o, e, by simp only [sFor, hit]; simpa using h2, p⟩
theorem Zf0 {i:Nat}{it:Lx}{r:List (List Int)}{b:St}{env:Env}{Q:Out→Env→Prop}(I:Nat→Env→Prop)(hit:it env=some (r.map rowD))(h0:I 0 env)
  (step:∀ (k:Nat) e x,r[k]?=some x→I k e→wp b (e.set i (.sh (rowD x))) (lps (I (k + 1)) Q)) (h1:∀ e,I r.length e→Q .nx e):wp (sFor (gN i) it b) env Q:=by
 refine ZdD I hit h0 (fun k d e hd hI=>?_) (fun e hI=>h1 e (by rwa [List.length_map] at hI))
 rw [List.getElem?_map,Option.map_eq_some_iff] at hd
 obtain ⟨x,hx,rfl⟩:=hd
 exact ⟨_,rfl,step k e x hx hI⟩
noncomputable def ends (d:D):Out→Env→Prop
 | .rt x,_=>x=d
 | .nx,_=>d=.non
 | _,_=>False
theorem Zar {p n:Nat}{g:St}{ds:List D}{d:D}(hp:ds.length=p)(h:wp g (enter n ds) (ends d)):run p n g ds=some d:=by
 obtain ⟨o,e,h1,q⟩:=h
 cases o with
 | rt x=>have:x=d:=q;subst this;exact Za5 hp h1
 | nx=>have:d=.non:=q;subst this;exact ZiN hp h1
 | bk=>cases q
 | ct=>cases q
noncomputable def upto (n:Nat):List Int:=(List.range n).map Int.ofNat
theorem Zik (n:Nat):(upto n).map D.int=ZC 0 n:=by simp [upto,ZC,Function.comp_def]
theorem JV {n:Nat}{x:Int}:x ∈ upto n↔0≤x∧x < n:=by
 simp only [upto,List.mem_map,List.mem_range]
 exact ⟨fun ⟨k,hk,e⟩=>by subst e;simp only [Int.ofNat_eq_natCast];omega,fun ⟨h0,h1⟩=>⟨x.toNat,by omega,by simp only [Int.ofNat_eq_natCast];omega⟩⟩
theorem ZaC (n:Nat):(upto n).length=n:=by simp [upto]
theorem ZaS {e:Ex}{env:Env}{n:Nat}(h:e env=some (.int n))(hn:n≤1000):iRng e env=some ((upto n).map .int):=by rw [Zik];exact ZeB h hn
theorem ZhD {i:Nat}{e:Ex}{env:Env}{Q:Out→Env→Prop}{r:List Int}(hi:env[i]?=some (.ow (r.map .int)))(h:evI e env fun x=>r.length < 1000∧Q .nx (env.set i (.ow ((r++[x]).map .int)))):wp (sApp i e) env Q:=by
 obtain ⟨x,h1,h2,p⟩:=h
 refine Zft hi ⟨_,h1,?_,?_⟩
 ·rw [List.length_map,Yk];omega
 ·rw [List.map_append] at p;exact p
theorem ZgU {r:List Int}{e:Ex}{env:Env}(h:e env=some (rowD r)):iOf e env=some (r.map .int):=by simp [iOf,h,rowD]
theorem Zh2 {i:Nat}{it:Lx}{e:Ex}{env:Env}{P:Bool→Prop}{r:List Int}(p:Int→Bool)(hit:it env=some (r.map .int))(hl:r.length≤lim)(he:∀ x ∈ r,ev e (env.set i (.sh (.int x))) (·=.bl (p x)))(h:P (r.all p)):ev (eF1 fAll (Yg i it Yj e)) env fun d=>∃ k,d=.bl k∧P k:=by
 refine ⟨_,?_,_,rfl,h⟩
 have hc:=ZcQ (i:=i) (e:=e) (env:=env) (fun d=>match d with | .int x=>.bl (p x) | _=>.non) (r.map .int) (fun d hd=>by obtain ⟨x,hx,rfl⟩:=List.mem_map.mp hd;exact (he x hx).eq)
 have e2:(r.map D.int).map (fun d=>match d with | .int x=>D.bl (p x) | _=>.non)=r.map fun x=>.bl (p x):=by simp
 have e3:∀ q:List Int,allB (q.map fun x=>D.bl (p x))=some (q.all p):=by
  intro q
  induction q with
  | nil=>rfl
  | cons x q ih=>simp only [List.map_cons,allB,ih,List.all_cons]
 simp only [eF1,Yg,hit,List.length_map,if_pos hl,hc,e2,fAll,e3]
end PV
namespace PV
theorem Zfa {T:List (List Int)}{e:Ex}{env:Env}(h:e env=some (tabD T)):iOf e env=some (T.map rowD):=by simp [iOf,h,tabD]
theorem Zhn {i:Nat}{e:Ex}{env:Env}{Q:Out→Env→Prop}{T:List (List Int)}(hi:env[i]?=some (.ow (T.map rowD)))(h:evR e env fun x=>T.length < 1000∧Q .nx (env.set i (.ow ((T++[x]).map rowD)))):wp (sApp i e) env Q:=by
 obtain ⟨x,h1,h2,p⟩:=h
 refine Zft hi ⟨_,h1,?_,?_⟩
 ·rw [List.length_map,Yk];omega
 ·rw [List.map_append] at p;exact p
end PV
set_option linter.all false
set_option Elab.async false
set_option maxRecDepth 100000
set_option maxHeartbeats 4000000
namespace PV
open PySem PySem.Spec PyProof.Rows
open L2 (V Hp HO Vals SqL SqT Same upd Cx PE PT PW PA PS PSs TE TT TA TS Inv RelV Zb Yb Jb)
noncomputable def kvV (kvs:List (Int × Int)):List (L2.Key × V):=kvs.map fun p=>(Sum.inl p.1,V.int p.2)
mutual
noncomputable def Rep (K:PySem.W.Frag) (H:Hp):D→V→Prop
 | .non,v=>v=.non
 | .bl b,v=>v=.bl b
 | .int i,v=>v=.int i
 | .str x,v=>v=.str x
 | .lst ds,v=>∃ a vs,v=.ref a∧SqL K H a vs∧Reps K H ds vs
 | .tup ds,v=>∃ a vs,v=.ref a∧SqT K H a vs∧Reps K H ds vs
 | .dct kvs,v=>∃ a o,v=.ref a∧H a=some (.frz o (.dK (kvV kvs)))
noncomputable def Reps (K:PySem.W.Frag) (H:Hp):List D→List V→Prop
 | [],vs=>vs=[]
 | d::ds,vs=>∃ v r,vs=v::r∧Rep K H d v∧Reps K H ds r
end
theorem seqT {K:PySem.W.Frag}{H H':Hp}{a:Addr}{xs:List V}(e:Same H H')(h:SqT K H a xs):SqT K H' a xs:=by
 rcases h with (h | ⟨o,h⟩) | h
 ·exact .inl (.inl (e _ _ h))
 ·exact .inl (.inr ⟨o,e _ _ h⟩)
 ·exact .inr h
mutual
theorem Rep.mono {K:PySem.W.Frag}{H H':Hp}(e:Same H H'):∀ (d:D) (v:V),Rep K H d v→Rep K H' d v
 | .non,_,h=>by simp only [Rep] at h ⊢;exact h
 | .bl _,_,h=>by simp only [Rep] at h ⊢;exact h
 | .int _,_,h=>by simp only [Rep] at h ⊢;exact h
 | .str _,_,h=>by simp only [Rep] at h ⊢;exact h
 | .lst ds,v,h=>by
  simp only [Rep] at h ⊢
  obtain ⟨a,vs,h1,h2,h3⟩:=h
  exact ⟨a,vs,h1,e.seq h2,Reps.mono e ds vs h3⟩
 | .tup ds,v,h=>by
  simp only [Rep] at h ⊢
  obtain ⟨a,vs,h1,h2,h3⟩:=h
  exact ⟨a,vs,h1,seqT e h2,Reps.mono e ds vs h3⟩
 | .dct kvs,v,h=>by
  simp only [Rep] at h ⊢
  obtain ⟨a,o,h1,h2⟩:=h
  exact ⟨a,o,h1,e _ _ h2⟩
theorem Reps.mono {K:PySem.W.Frag}{H H':Hp}(e:Same H H'):∀ (ds:List D) (vs:List V),Reps K H ds vs→Reps K H' ds vs
 | [],_,h=>by simp only [Reps] at h ⊢;exact h
 | d::ds,vs,h=>by
  simp only [Reps] at h ⊢
  obtain ⟨v,r,h1,h2,h3⟩:=h
  exact ⟨v,r,h1,Rep.mono e d v h2,Reps.mono e ds r h3⟩
end
section
variable {K:PySem.W.Frag} {H:Hp}
theorem Reps.nil:Reps K H [] []:=by simp [Reps]
theorem Reps.cons {d:D}{v:V}{ds:List D}{vs:List V}(h:Rep K H d v)(t:Reps K H ds vs):Reps K H (d::ds) (v::vs):=by
 simp only [Reps];exact ⟨v,vs,rfl,h,t⟩
theorem Reps.length:∀ {ds:List D} {vs:List V},Reps K H ds vs→ds.length=vs.length
 | [],vs,h=>by simp only [Reps] at h;subst h;rfl
 | d::ds,vs,h=>by
  simp only [Reps] at h
  obtain ⟨v,r,rfl,_,t⟩:=h
  simp [t.length]
theorem Reps.get:∀ {ds:List D} {vs:List V} {i:Nat} {d:D},Reps K H ds vs→ds[i]?=some d→∃ v,vs[i]?=some v∧Rep K H d v
 | [],vs,i,d,h,e=>by simp at e
 | d'::ds,vs,0,d,h,e=>by
  simp only [Reps] at h
  obtain ⟨v,r,rfl,h1,t⟩:=h
  simp at e;subst e
  exact ⟨v,rfl,h1⟩
 | d'::ds,vs,i + 1,d,h,e=>by
  simp only [Reps] at h
  obtain ⟨v,r,rfl,h1,t⟩:=h
  obtain ⟨w,q1,q2⟩:=Reps.get (i:=i) (d:=d) t (by simpa using e)
  exact ⟨w,by simpa using q1,q2⟩
theorem Reps.getV:∀ {ds:List D} {vs:List V} {i:Nat} {v:V},Reps K H ds vs→vs[i]?=some v→∃ d,ds[i]?=some d∧Rep K H d v
 | [],vs,i,v,h,e=>by simp only [Reps] at h;subst h;simp at e
 | d'::ds,vs,0,v,h,e=>by
  simp only [Reps] at h
  obtain ⟨w,r,rfl,h1,t⟩:=h
  simp at e;subst e
  exact ⟨d',rfl,h1⟩
 | d'::ds,vs,i + 1,v,h,e=>by
  simp only [Reps] at h
  obtain ⟨w,r,rfl,h1,t⟩:=h
  obtain ⟨d,q1,q2⟩:=Reps.getV (i:=i) (v:=v) t (by simpa using e)
  exact ⟨d,by simpa using q1,q2⟩
theorem Reps.append:∀ {ds es:List D} {vs ws:List V},Reps K H ds vs→Reps K H es ws→Reps K H (ds++es) (vs++ws)
 | [],es,vs,ws,h,h2=>by simp only [Reps] at h;subst h;exact h2
 | d::ds,es,vs,ws,h,h2=>by
  simp only [Reps] at h
  obtain ⟨v,r,rfl,h1,t⟩:=h
  exact Reps.cons h1 (t.append h2)
theorem Reps.take:∀ {ds:List D} {vs:List V} (n:Nat),Reps K H ds vs→Reps K H (ds.take n) (vs.take n)
 | [],vs,n,h=>by simp only [Reps] at h;subst h;simp [Reps]
 | d::ds,vs,0,h=>by simp [Reps]
 | d::ds,vs,n + 1,h=>by
  simp only [Reps] at h
  obtain ⟨v,r,rfl,h1,t⟩:=h
  exact Reps.cons h1 (t.take n)
theorem Reps.drop:∀ {ds:List D} {vs:List V} (n:Nat),Reps K H ds vs→Reps K H (ds.drop n) (vs.drop n)
 | [],vs,n,h=>by simp only [Reps] at h;subst h;simp [Reps]
 | d::ds,vs,0,h=>h
 | d::ds,vs,n + 1,h=>by
  simp only [Reps] at h
  obtain ⟨v,r,rfl,h1,t⟩:=h
  exact t.drop n
theorem Reps.set {d:D}{v:V}(h:Rep K H d v):∀ {ds:List D} {vs:List V} (i:Nat),Reps K H ds vs→Reps K H (ds.set i d) (vs.set i v)
 | [],vs,i,t=>by simp only [Reps] at t;subst t;simp [Reps]
 | e::ds,vs,0,t=>by
  simp only [Reps] at t
  obtain ⟨w,r,rfl,h1,t⟩:=t
  exact Reps.cons h t
 | e::ds,vs,i + 1,t=>by
  simp only [Reps] at t
  obtain ⟨w,r,rfl,h1,t⟩:=t
  exact Reps.cons h1 (t.set h i)
end
noncomputable def cut (F G:Hp):Hp:=fun a=>match G a with
 | none=>F a
 | some _=>none
theorem Zap {F G:Hp}:Same (cut F G) F:=fun b o h=>by
 unfold cut at h
 split at h
 ·exact h
 ·cases h
theorem Zau {F G:Hp}{a:Addr}(h:G a=none):cut F G a=F a:=by unfold cut;rw [h]
structure Ext (F H F' H':Hp):Prop where
 hh:Same H H'
 ff:Same F F'
 dm:∀ a o,F' a=some o→F a=some o∨H a=none
 fh:Same F' H'
theorem Ext.refl {F H:Hp}(h:Same F H):Ext F H F H:=⟨.refl _,.refl _,fun _ _ e=>.inl e,h⟩
theorem Ext.trans {F H F1 H1 F2 H2:Hp}(a:Ext F H F1 H1)(b:Ext F1 H1 F2 H2):Ext F H F2 H2 :=
 ⟨a.hh.trans b.hh,a.ff.trans b.ff,fun c o e=>(b.dm c o e).elim (fun q=>a.dm c o q) fun q=>.inr (a.hh.free q),b.fh⟩
theorem Ext.laid {F H:Hp}(fh:Same F H){p:Addr}{o:HO}(hp:H p=none):Ext F H (upd F p o) (upd H p o):=by
 refine ⟨fun b u e=>?_,fun b u e=>?_,fun b u e=>?_,fun b u e=>?_⟩
 ·rw [Yb (Jb e hp)];exact e
 ·rw [Yb (Jb (fh _ _ e) hp)];exact e
 ·by_cases hb:b=p
  ·subst hb;exact .inr hp
  ·rw [Yb hb] at e;exact .inl e
 ·by_cases hb:b=p
  ·subst hb;rw [Zb] at e ⊢;exact e
  ·rw [Yb hb] at e ⊢;exact fh _ _ e
theorem Ext.own {F H:Hp}(fh:Same F H){p:Addr}{o:HO}(hp:H p=none):Ext F H F (upd H p o):=by
 have s:Same H (upd H p o):=fun b u e=>by rw [Yb (Jb e hp)];exact e
 exact ⟨s,.refl _,fun _ _ e=>.inl e,fh.trans s⟩
theorem Ext.frz {F H F' H':Hp}(e:Ext F H F' H'){p:Addr}{o:HO}(hp:H p=none)(h':H' p=some o)(f':F' p=none):Ext F H (upd F' p o) H':=by
 refine ⟨e.hh,fun b u q=>?_,fun b u q=>?_,fun b u q=>?_⟩
 ·rw [Yb (Jb (e.ff _ _ q) f')];exact e.ff _ _ q
 ·by_cases hb:b=p
  ·subst hb;exact .inr hp
  ·rw [Yb hb] at q;exact e.dm _ _ q
 ·by_cases hb:b=p
  ·subst hb;rw [Zb] at q;cases q;exact h'
  ·rw [Yb hb] at q;exact e.fh _ _ q
noncomputable def Jk (K:PySem.W.Frag) (F H:Hp):List (List D)→List Addr→Prop
 | [],as=>as=[]
 | r::rs,as=>∃ a t vs,as=a::t∧H a=some (.lst vs)∧Reps K F r vs∧Jk K F H rs t
theorem Jk.mono {K:PySem.W.Frag}{F H F' H':Hp}(ff:Same F F'):∀ {rs:List (List D)} {as:List Addr},(∀ a ∈ as,∀ o,H a=some o→H' a=some o)→Jk K F H rs as→Jk K F' H' rs as
 | [],_,_,h=>h
 | r::rs,_,hh,h=>by
  obtain ⟨a,t,vs,rfl,h1,h2,h3⟩:=h
  exact ⟨a,t,vs,rfl,hh a List.mem_cons_self _ h1,Reps.mono ff _ _ h2,Jk.mono ff (fun b hb=>hh b (List.mem_cons_of_mem _ hb)) h3⟩
theorem Jk.length {K:PySem.W.Frag}{F H:Hp}:∀ {rs:List (List D)} {as:List Addr},Jk K F H rs as→rs.length=as.length
 | [],_,h=>by have:_=[]:=h;rw [this];rfl
 | r::rs,_,h=>by obtain ⟨a,t,vs,rfl,_,_,h3⟩:=h;simp [h3.length]
theorem Jk.get {K:PySem.W.Frag}{F H:Hp}:∀ {rs:List (List D)} {as:List Addr} {j:Nat} {r:List D},Jk K F H rs as→rs[j]?=some r→∃ a vs,as[j]?=some a∧H a=some (.lst vs)∧Reps K F r vs
 | [],_,_,_,_,e=>by simp at e
 | r::rs,_,0,q,h,e=>by obtain ⟨a,t,vs,rfl,h1,h2,h3⟩:=h;simp at e;subst e;exact ⟨a,vs,rfl,h1,h2⟩
 | r::rs,_,j + 1,q,h,e=>by
  obtain ⟨a,t,vs,rfl,h1,h2,h3⟩:=h
  obtain ⟨b,ws,k1,k2,k3⟩:=Jk.get (j:=j) h3 (by simpa using e)
  exact ⟨b,ws,by simpa using k1,k2,k3⟩
theorem Jk.reps {K:PySem.W.Frag}{F H:Hp}(fh:Same F H):∀ {rs:List (List D)} {as:List Addr},Jk K F H rs as→Reps K H (rs.map .lst) (as.map .ref)
 | [],_,h=>by have e:_=[]:=h;subst e;exact Reps.nil
 | r::rs,_,h=>by
  obtain ⟨a,t,vs,rfl,h1,h2,h3⟩:=h
  exact Reps.cons (by simp only [Rep];exact ⟨a,vs,rfl,.inl (.inl h1),Reps.mono fh _ _ h2⟩) (h3.reps fh)
mutual
noncomputable def RepN (H:Hp):D→V→Prop
 | .non,v=>v=.non
 | .bl b,v=>v=.bl b
 | .int i,v=>v=.int i
 | .str x,v=>v=.str x
 | .lst ds,v=>∃ a vs,v=.ref a∧H a=some (.lst vs)∧Yh H ds vs
 | .tup ds,v=>∃ a vs,v=.ref a∧H a=some (.tup vs)∧Yh H ds vs
 | .dct kvs,v=>∃ a o,v=.ref a∧H a=some (.frz o (.dK (kvV kvs)))
noncomputable def Yh (H:Hp):List D→List V→Prop
 | [],vs=>vs=[]
 | d::ds,vs=>∃ v r,vs=v::r∧RepN H d v∧Yh H ds r
end
mutual
theorem RepN.rep {K:PySem.W.Frag}{H:Hp}:∀ (d:D) (v:V),RepN H d v→Rep K H d v
 | .non,_,h=>by simp only [Rep,RepN] at h ⊢;exact h
 | .bl _,_,h=>by simp only [Rep,RepN] at h ⊢;exact h
 | .int _,_,h=>by simp only [Rep,RepN] at h ⊢;exact h
 | .str _,_,h=>by simp only [Rep,RepN] at h ⊢;exact h
 | .lst ds,v,h=>by
  simp only [Rep,RepN] at h ⊢
  obtain ⟨a,vs,h1,h2,h3⟩:=h
  exact ⟨a,vs,h1,.inl (.inl h2),Yh.reps ds vs h3⟩
 | .tup ds,v,h=>by
  simp only [Rep,RepN] at h ⊢
  obtain ⟨a,vs,h1,h2,h3⟩:=h
  exact ⟨a,vs,h1,.inl (.inl h2),Yh.reps ds vs h3⟩
 | .dct kvs,v,h=>by simp only [Rep,RepN] at h ⊢;exact h
theorem Yh.reps {K:PySem.W.Frag}{H:Hp}:∀ (ds:List D) (vs:List V),Yh H ds vs→Reps K H ds vs
 | [],_,h=>by simp only [Reps,Yh] at h ⊢;exact h
 | d::ds,vs,h=>by
  simp only [Reps,Yh] at h ⊢
  obtain ⟨v,r,h1,h2,h3⟩:=h
  exact ⟨v,r,h1,RepN.rep d v h2,Yh.reps ds r h3⟩
end
mutual
theorem RepN.mono {H H':Hp}(e:Same H H'):∀ (d:D) (v:V),RepN H d v→RepN H' d v
 | .non,_,h=>by simp only [RepN] at h ⊢;exact h
 | .bl _,_,h=>by simp only [RepN] at h ⊢;exact h
 | .int _,_,h=>by simp only [RepN] at h ⊢;exact h
 | .str _,_,h=>by simp only [RepN] at h ⊢;exact h
 | .lst ds,v,h=>by
  simp only [RepN] at h ⊢
  obtain ⟨a,vs,h1,h2,h3⟩:=h
  exact ⟨a,vs,h1,e _ _ h2,Yh.mono e ds vs h3⟩
 | .tup ds,v,h=>by
  simp only [RepN] at h ⊢
  obtain ⟨a,vs,h1,h2,h3⟩:=h
  exact ⟨a,vs,h1,e _ _ h2,Yh.mono e ds vs h3⟩
 | .dct kvs,v,h=>by
  simp only [RepN] at h ⊢
  obtain ⟨a,o,h1,h2⟩:=h
  exact ⟨a,o,h1,e _ _ h2⟩
theorem Yh.mono {H H':Hp}(e:Same H H'):∀ (ds:List D) (vs:List V),Yh H ds vs→Yh H' ds vs
 | [],_,h=>by simp only [Yh] at h ⊢;exact h
 | d::ds,vs,h=>by
  simp only [Yh] at h ⊢
  obtain ⟨v,r,h1,h2,h3⟩:=h
  exact ⟨v,r,h1,RepN.mono e d v h2,Yh.mono e ds r h3⟩
end
noncomputable def hpL (H:Hp) (L:List Addr):Hp:=fun b=>if b ∈ L then H b else none
theorem ZgD {H H':Hp}{L:List Addr}(h:∀ a ∈ L,∀ o,H a=some o→H' a=some o):Same (hpL H L) (hpL H' L):=fun b o q=>by
 unfold hpL at q ⊢
 split at q
 ·rename_i hb;rw [if_pos hb];exact h b hb o q
 ·cases q
noncomputable def xName (c:Nat):Str:=(["NoTable","NoFolk","NoElement","NoPart","NotLoose","TooLarge","NoNote"]:List Str).getD c "FolkError"
noncomputable def CN (K:PySem.W.Frag) (c:Nat) (C:Addr):Prop:=PySem.W.nsIn K mainGlobals (xName c)=some (some (.ref C))
noncomputable def isX (a C:Addr) (h:Heap):Prop:=∃ o ws,h.get? a=some o∧o.cls=.ref C∧o.dict=none∧o.data=.fields ws
noncomputable def SlOk (K:PySem.W.Frag) (B F H:Hp):Sl→Option V→List Addr→Prop
 | .un,_,_=>True
 | .sh d,ov,_=>∃ v,ov=some v∧Rep K F d v
 | .fr d,ov,_=>∃ v,ov=some v∧RepN (cut F B) d v
 | .ow ds,ov,L=>∃ a vs,ov=some (.ref a)∧L=[a]∧H a=some (.lst vs)∧Reps K F ds vs
 | .tab rs,ov,L=>∃ a as,ov=some (.ref a)∧L=a::as∧(a::as).Nodup∧H a=some (.lst (as.map .ref))∧Jk K F H rs as
 | .dc kvs,ov,L=>∃ a,ov=some (.ref a)∧L=[a]∧H a=some (.dK (kvV kvs))
 | .nw ds,ov,L=>∃ a vs,ov=some (.ref a)∧L=[a]∧H a=some (.lst vs)∧Yh (cut F B) ds vs
 | .jk d,ov,L=>∃ v,ov=some v∧RepN (hpL H L) d v
 | .jl n,ov,L=>∃ a vs,ov=some (.ref a)∧a ∈ L∧H a=some (.lst vs)∧vs.length≤n
 | .xc c,ov,_=>∃ a C,ov=some (.ref a)∧CN K c C∧F a=some (.ext (isX a C))
structure SOk (K:PySem.W.Frag)(BF BH F H:Hp)(σ:L2.St)(env:Env)(L:Nat→List Addr):Prop where
 s0:Same BH H
 f0:Same BF F
 fh:Same F H
 fd:∀ a o,F a=some o→BF a=some o∨BH a=none
 ow:∀ i a,a ∈ L i→F a=none∧BH a=none∧H a≠none
 dj:∀ i j a,a ∈ L i→a ∈ L j→i=j
 len:σ.length=env.length
 sl:∀ i s,env[i]?=some s→∃ ov,σ[i]?=some ov∧SlOk K BH F H s ov (L i)
theorem Zad {F F' G:Hp}(h:Same F F'):Same (cut F G) (cut F' G):=fun b o q=>by
 unfold cut at q ⊢
 split at q
 ·exact h _ _ q
 ·cases q
theorem SlOk.ext {K:PySem.W.Frag}{B F H F' H':Hp}{s:Sl}{ov:Option V}{L:List Addr}(ff:Same F F')(hl:∀ a ∈ L,∀ o,H a=some o→H' a=some o)(h:SlOk K B F H s ov L):SlOk K B F' H' s ov L:=by
 cases s with
 | un=>trivial
 | sh d=>obtain ⟨v,e,r⟩:=h;exact ⟨v,e,Rep.mono ff _ _ r⟩
 | fr d=>obtain ⟨v,e,r⟩:=h;exact ⟨v,e,RepN.mono (Zad ff) _ _ r⟩
 | ow ds=>obtain ⟨a,vs,e,rfl,h1,r⟩:=h;exact ⟨a,vs,e,rfl,hl a (by simp) _ h1,Reps.mono ff _ _ r⟩
 | tab rs =>
  obtain ⟨a,as,e,rfl,nd,h1,r⟩:=h
  exact ⟨a,as,e,rfl,nd,hl a List.mem_cons_self _ h1,r.mono ff fun b hb=>hl b (List.mem_cons_of_mem _ hb)⟩
 | dc _=>obtain ⟨a,e,rfl,h1⟩:=h;exact ⟨a,e,rfl,hl a (by simp) _ h1⟩
 | nw ds=>obtain ⟨a,vs,e,rfl,h1,r⟩:=h;exact ⟨a,vs,e,rfl,hl a (by simp) _ h1,Yh.mono (Zad ff) _ _ r⟩
 | jk d=>obtain ⟨v,e,r⟩:=h;exact ⟨v,e,RepN.mono (ZgD hl) _ _ r⟩
 | jl n=>obtain ⟨a,vs,e,ha,h1,r⟩:=h;exact ⟨a,vs,e,ha,hl a ha _ h1,r⟩
 | xc c=>obtain ⟨a,C,e,hc,h1⟩:=h;exact ⟨a,C,e,hc,ff _ _ h1⟩
theorem SOk.ext {K:PySem.W.Frag}{BF BH F H F' H':Hp}{σ:L2.St}{env:Env}{L:Nat→List Addr}(S:SOk K BF BH F H σ env L)(e:Ext F H F' H'):SOk K BF BH F' H' σ env L where
 s0:=S.s0.trans e.hh
 f0:=S.f0.trans e.ff
 fh:=e.fh
 fd:=fun a o q=>(e.dm a o q).elim (S.fd a o) fun z=>.inr (S.s0.free z)
 ow:=fun i a q=>by
  obtain ⟨h1,h2,h3⟩:=S.ow i a q
  refine ⟨?_,h2,?_⟩
  ·cases z:F' a with
   | none=>rfl
   | some o =>
    rcases e.dm a o z with y | y
    ·rw [h1] at y;cases y
    ·exact absurd y h3
  ·intro z
   cases y:H a with
   | none=>exact h3 y
   | some o=>rw [e.hh _ _ y] at z;cases z
 dj:=S.dj
 len:=S.len
 sl:=fun i s q=>by
  obtain ⟨ov,h1,h2⟩:=S.sl i s q
  exact ⟨ov,h1,h2.ext e.ff fun a _ o z=>e.hh a o z⟩
inductive Md where
 | r | k | f
noncomputable def hpM (BH F H:Hp):Md→Hp
 | .r=>H
 | .k=>F
 | .f=>cut F BH
theorem YS {BH F H F' H':Hp}(e:Ext F H F' H'):∀ m:Md,Same (hpM BH F H m) (hpM BH F' H' m)
 | .r=>e.hh
 | .k=>e.ff
 | .f=>Zad e.ff
theorem Ze7 {BH F H:Hp}(fh:Same F H):∀ m:Md,Same (hpM BH F H m) H
 | .r=>.refl _
 | .k=>fh
 | .f=>Zap.trans fh
theorem Rep.scal {K:PySem.W.Frag}{H H':Hp}{d:D}{v:V}(hs:ZaF d=true)(h:Rep K H d v):Rep K H' d v:=by
 cases d <;> simp_all [Rep,ZaF]
noncomputable def tD (K:PySem.W.Frag) (m:Md) (f:Ex):TE:=fun σ H Q=>∃ BF BH F env L d,SOk K BF BH F H σ env L∧f env=some d ∧
 ∀ v F' H',Ext F H F' H'→Rep K (hpM BH F' H' m) d v→Q v H'
noncomputable def tTst (K:PySem.W.Frag) (t:Tx):TT:=fun σ H Q=>∃ BF BH F env L b,SOk K BF BH F H σ env L∧t env=some b ∧
 ∀ F' H',Ext F H F' H'→Q b H'
noncomputable def tO (K:PySem.W.Frag) (m:Md) (f:Ex):TE:=fun σ H Q=>∃ BF BH F env L ds,SOk K BF BH F H σ env L∧f env=some (.lst ds) ∧
 ∀ a vs F' H',Ext F H F' H'→H a=none→H' a=some (.lst vs)→F' a=none→Reps K (hpM BH F' H' m) ds vs→Q (.ref a) H'
structure PD (X:Cx)(m:Md)(e:Expr)(f:Ex):Prop where
 h:PE X e (tD X.K m f)
noncomputable def PDo (X:Cx) (m:Md) (e:Expr) (f:Ex):Prop:=PE X e (tO X.K m f)
noncomputable def PTd (X:Cx) (e:Expr) (t:Tx):Prop:=PT X e (tTst X.K t)
theorem PE.of {X:Cx}{e:Expr}{t t':TE}(h:PE X e t')(i:∀ σ H Q,t σ H Q→t' σ H Q):PE X e t:=fun pins s σ H Q I q=>h pins s σ H Q I (i σ H Q q)
theorem PT.of {X:Cx}{e:Expr}{t t':TT}(h:PT X e t')(i:∀ σ H Q,t σ H Q→t' σ H Q):PT X e t:=fun pins s σ H Q I q=>h pins s σ H Q I (i σ H Q q)
theorem PW.of {X:Cx}{e:Expr}{t t':TT}(h:PW X e t')(i:∀ σ H Q,t σ H Q→t' σ H Q):PW X e t:=fun wh pins s σ H Q I q=>h wh pins s σ H Q I (i σ H Q q)
theorem PS.of {X:Cx}{e:Stmt}{t t':TS}(h:PS X e t')(i:∀ D σ H,t D σ H→t' D σ H):PS X e t:=fun pins s σ H D I q=>h pins s σ H D I (i D σ H q)
theorem PSs.of {X:Cx}{e:List Stmt}{t t':TS}(h:PSs X e t')(i:∀ D σ H,t D σ H→t' D σ H):PSs X e t:=fun pins s σ H D I q=>h pins s σ H D I (i D σ H q)
section
variable {X:Cx} {m:Md} {a b c:Expr} {f g h:Ex} {pos:Pos}
theorem PD.r (h:PD X m a f):PD X .r a f:=PD.mk <| PE.of h.h fun σ H Q ⟨BF,BH,F,env,L,d,S,e,q⟩ =>
 ⟨BF,BH,F,env,L,d,S,e,fun v F' H' x r=>q v F' H' x (Rep.mono (Ze7 x.fh m) _ _ r)⟩
theorem PDo.d (h:PDo X m a f)(hf:∀ env d,f env=some d→∃ ds,d=.lst ds):PD X m a f:=PD.mk <| PE.of h fun σ H Q hh_=>el9 hh_ fun BF BH F env L d S e q=>by
 obtain ⟨ds,rfl⟩:=hf env d e
 refine ⟨BF,BH,F,env,L,ds,S,e,fun p vs F' H' x hp h1 h2 r=>?_⟩
 have x':=x.frz hp h1 h2
 refine q (.ref p) (upd F' p (.lst vs)) H' x' ?_
 have hB:BH p=none:=S.s0.free hp
 have s:Same (hpM BH F' H' m) (hpM BH (upd F' p (.lst vs)) H' m):=by
  have ss:Same F' (upd F' p (.lst vs)):=fun b u e=>by rw [Yb (Jb e h2)];exact e
  cases m with
  | r=>exact .refl _
  | k=>exact ss
  | f=>exact Zad ss
 simp only [Rep]
 refine ⟨p,vs,rfl,.inl (.inl ?_),Reps.mono s _ _ r⟩
 cases m with
 | r=>exact h1
 | k=>exact Zb
 | f=>show cut _ _ p=_;rw [Zau hB];exact Zb
noncomputable def nst:Expr→Bool
 | .Starred _ _=>false
 | _=>true
noncomputable def nsts:List Expr→Bool
 | []=>true
 | e::es=>nst e && nsts es
theorem Yd {e:Expr}{es:List Expr}{env:PySem.Env}(h:nst e=true):starEach (e::es) env=(false,eval e env)::starEach es env:=by
 cases e <;> first | rfl | (cases h)
theorem Yl {e:Expr}{env:PySem.Env}(h:nst e=true):starEach [e] env=[(false,eval e env)]:=(Yd h).trans rfl
theorem YJ {env:PySem.Env}{pos:Pos}:∀ {es:List Expr},nsts es=true→(backTo pos (starEach es env)).any (·.1)=false
 | [],_=>rfl
 | e::es,h=>by
  unfold nsts at h
  rw [Bool.and_eq_true] at h
  rw [Yd h.1]
  show (false || (backTo pos (starEach es env)).any (·.1))=false
  rw [YJ h.2];rfl
theorem ZK {env:PySem.Env}{pos:Pos}:∀ {es:List Expr},nsts es=true→(backTo pos (starEach es env)).all (fun x=>!x.1)=true
 | [],_=>rfl
 | e::es,h=>by
  unfold nsts at h
  rw [Bool.and_eq_true] at h
  rw [Yd h.1]
  show (true && (backTo pos (starEach es env)).all (fun x=>!x.1))=true
  rw [ZK h.2];rfl
theorem ZS {a:Expr}(h:nst a=true):nsts [a]=true:=by unfold nsts nsts;rw [h];rfl
noncomputable def visB (sc:Scope) (x:Str):Bool:=match sc.names.lookup x with
 | some .local=>true
 | some .cell=>true
 | some .free=>true
 | _=>false
theorem Z4 {sc:Scope}{x:Str}(h:visB sc x=true):L2.Vis sc x:=by
 unfold visB at h
 split at h
 ·rename_i e;exact .inl e
 ·rename_i e;exact .inr (.inl e)
 ·rename_i e;exact .inr (.inr e)
 ·cases h
noncomputable def locB (sc:Scope) (x:Str):Bool:=match sc.names.lookup x with
 | some .local=>true
 | some .cell=>true
 | _=>false
theorem Z5 {sc:Scope}{x:Str}(h:locB sc x=true):L2.Loc sc x:=by
 unfold locB at h
 split at h
 ·rename_i e;exact .inl e
 ·rename_i e;exact .inr e
 ·cases h
noncomputable def fnB (X:Cx) (x:Str):Bool:=X.fn x || (match X.env.scope.names.lookup x with
 | some .local=>true
 | _=>false)
theorem Zay {X:Cx}{x:Str}(h:fnB X x=true):X.fn x=true∨X.env.scope.names.lookup x=some .local:=by
 unfold fnB at h
 rw [Bool.or_eq_true] at h
 rcases h with h | h
 ·exact .inl h
 ·split at h
  ·rename_i e;exact .inr e
  ·cases h
theorem Zd {i j}:PD X m (.Constant (.int i) j pos) (eC (.int i)):=PD.mk <| PE.of L2.ZfP fun σ H Q hh_=>el9 hh_ fun BF BH F env L d S e q=>by
 cases e;exact q _ F H (.refl S.fh) (by simp [Rep])
theorem ZgZ {i j}:PD X m (.Constant (.bool i) j pos) (eC (.bl i)):=PD.mk <| PE.of L2.Zjq fun σ H Q hh_=>el9 hh_ fun BF BH F env L d S e q=>by
 cases e;exact q _ F H (.refl S.fh) (by simp [Rep])
theorem Yc {i j}:PD X m (.Constant (.str i) j pos) (eC (.str i)):=PD.mk <| PE.of L2.Zax fun σ H Q hh_=>el9 hh_ fun BF BH F env L d S e q=>by
 cases e;exact q _ F H (.refl S.fh) (by simp [Rep])
theorem Za0 {j}:PD X m (.Constant .none j pos) (eC .non):=PD.mk <| PE.of L2.ZiW fun σ H Q hh_=>el9 hh_ fun BF BH F env L d S e q=>by
 cases e;exact q _ F H (.refl S.fh) (by simp [Rep])
theorem Za (i:Nat) {x:Str} (hN:X.N[i]?=some x:=by kernel_rfl) (hv:visB X.env.scope x=true:=by kernel_rfl) (hd:(x == ("__debug__":Str))=false:=by kernel_rfl)
  (hcd:(x == ("__classdict__":Str))=false:=by kernel_rfl):PD X .k (.Name x pos) (eVar i):=PD.mk <| PE.of (L2.Zav hN (Z4 hv) hd hcd) fun σ H Q hh_=>el9 hh_ fun BF BH F env L d S e q=>by
 unfold eVar at e
 cases he:env[i]? with
 | none=>rw [he] at e;cases e
 | some s =>
  rw [he] at e
  obtain ⟨ov,h1,h2⟩:=S.sl i s he
  cases s with
  | sh d'=>cases e;obtain ⟨v,rfl,r⟩:=h2;exact ⟨v,h1,q v F H (.refl S.fh) r⟩
  | fr d'=>cases e;obtain ⟨v,rfl,r⟩:=h2;exact ⟨v,h1,q v F H (.refl S.fh) (RepN.rep _ _ (RepN.mono Zap _ _ r))⟩
  | un=>cases e
  | ow _=>cases e
  | tab _=>cases e
  | dc _=>cases e
  | nw _=>cases e
  | jk _=>cases e
  | jl _=>cases e
  | xc _=>cases e
theorem Zcw (i:Nat) {x:Str} (hN:X.N[i]?=some x:=by kernel_rfl) (hv:visB X.env.scope x=true:=by kernel_rfl) (hd:(x == ("__debug__":Str))=false:=by kernel_rfl)
  (hcd:(x == ("__classdict__":Str))=false:=by kernel_rfl):PD X .r (.Name x pos) (Zco i):=PD.mk <| PE.of (L2.Zav hN (Z4 hv) hd hcd) fun σ H Q hh_=>el9 hh_ fun BF BH F env L d S e q=>by
 unfold Zco at e
 cases he:env[i]? with
 | none=>rw [he] at e;cases e
 | some s =>
  rw [he] at e
  obtain ⟨ov,h1,h2⟩:=S.sl i s he
  cases s with
  | sh d'=>cases e;obtain ⟨v,rfl,r⟩:=h2;exact ⟨v,h1,q v F H (.refl S.fh) (Rep.mono S.fh _ _ r)⟩
  | fr d'=>cases e;obtain ⟨v,rfl,r⟩:=h2;exact ⟨v,h1,q v F H (.refl S.fh) (RepN.rep _ _ (RepN.mono (Zap.trans S.fh) _ _ r))⟩
  | un=>cases e
  | ow ds =>
   cases e
   obtain ⟨p,vs,rfl,_,h3,r⟩:=h2
   refine ⟨_,h1,q _ F H (.refl S.fh) ?_⟩
   simp only [Rep,hpM]
   exact ⟨p,vs,rfl,.inl (.inl h3),Reps.mono S.fh _ _ r⟩
  | tab rs =>
   cases e
   obtain ⟨p,as,rfl,_,_,h3,r⟩:=h2
   refine ⟨_,h1,q _ F H (.refl S.fh) ?_⟩
   simp only [Rep,hpM]
   exact ⟨p,_,rfl,.inl (.inl h3),r.reps S.fh⟩
  | dc _=>cases e
  | nw ds =>
   cases e
   obtain ⟨p,vs,rfl,_,h3,r⟩:=h2
   refine ⟨_,h1,q _ F H (.refl S.fh) ?_⟩
   simp only [Rep,hpM]
   exact ⟨p,vs,rfl,.inl (.inl h3),Yh.reps _ _ (Yh.mono (Zap.trans S.fh) _ _ r)⟩
  | jk _=>cases e
  | jl _=>cases e
  | xc _=>cases e
theorem Zf1 {x:Str} {i:Int} (hg:X.env.kindOf x=some .globalImplicit:=by kernel_rfl) (hm:∃ t,X.mg x=some (.int i t)) (hd:(x == ("__debug__":Str))=false:=by kernel_rfl):PD X m (.Name x pos) (eC (.int i)):=by
 obtain ⟨t,hm⟩:=hm
 exact PD.mk <| PE.of (L2.Zhx (v:=.int i) hg hm ⟨t,rfl⟩ hd) fun σ H Q hh_=>el9 hh_ fun BF BH F env L d S e q=>by
  cases e;exact q _ F H (.refl S.fh) (by simp [Rep])
theorem two {m1 m2:Md}{R:V→V→Hp→Prop}{σ:L2.St}{H BF BH F:Hp}{env:Env}{L:Nat→List Addr}{x y:D}(S:SOk X.K BF BH F H σ env L)(e1:f env=some x)(e2:g env=some y)
  (k:∀ v w F' H',Ext F H F' H'→Rep X.K (hpM BH F' H' m1) x v→Rep X.K (hpM BH F' H' m2) y w→R v w H') :
  tD X.K m1 f σ H fun v H1=>tD X.K m2 g σ H1 fun w H2=>R v w H2 :=
 ⟨BF,BH,F,env,L,x,S,e1,fun v F1 H1 x1 r1=>⟨BF,BH,F1,env,L,y,S.ext x1,e2,fun w F2 H2 x2 r2=>k v w F2 H2 (x1.trans x2) (Rep.mono (YS x2 m1) _ _ r1) r2⟩⟩
theorem Yp {K:PySem.W.Frag}{H:Hp}{i:Int}{v:V}(h:Rep K H (.int i) v):v=.int i:=by simpa [Rep] using h
theorem Zd0 {op:Operator}{C:Int→Int→Prop}{G:Int→Int→Int}{φ:Int→Int→Option D}(ho:L2.OpR X (binaryOp op) (L2.rI C fun i j=>.int (G i j)))
  (hφ:∀ i j d,φ i j=some d→C i j∧d=.int (G i j)) {m1 m2:Md} (ha:PD X m1 a f) (hb:PD X m2 b g):PD X m (.BinOp a op b pos) (e2I φ f g) :=
 PD.mk <| PE.of (L2.Zdj ho ha.h hb.h) fun σ H Q hh_=>el9 hh_ fun BF BH F env L d S e q=>by
  unfold e2I at e
  split at e
  ·rename_i i j h1 h2
   refine two S h1 h2 fun v w F' H' x r1 r2=>?_
   obtain ⟨hc,rfl⟩:=hφ i j d e
   exact ⟨i,j,Yp r1,Yp r2,hc,q _ F' H' x (by simp [Rep])⟩
  ·cases e
variable {m1 m2 m3:Md}
theorem Z2 (ha:PD X m1 a f)(hb:PD X m2 b g):PD X m (.BinOp a .Mult b pos) (e2I iMul f g):=Zd0 L2.Ziz (fun i j d h=>by
 unfold iMul at h;split at h
 ·rename_i hc;cases h;exact ⟨hc,rfl⟩
 ·cases h) ha hb
theorem Zq (ha:PD X m1 a f)(hb:PD X m2 b g):PD X m (.BinOp a .Mod b pos) (e2I iMod f g):=Zd0 L2.Zi1 (fun i j d h=>by
 unfold iMod at h;split at h
 ·rename_i hc;cases h;exact ⟨hc,rfl⟩
 ·cases h) ha hb
theorem ZcG (ha:PD X m1 a f)(hb:PD X m2 b g):PD X m (.BinOp a .FloorDiv b pos) (e2I iDiv f g):=Zd0 L2.ZhU (fun i j d h=>by
 unfold iDiv at h;split at h
 ·rename_i hc;cases h;exact ⟨hc,rfl⟩
 ·cases h) ha hb
end
end PV
set_option linter.all false
set_option Elab.async false
set_option maxRecDepth 100000
set_option maxHeartbeats 4000000
namespace PV
open PySem PySem.Spec PyProof.Rows
open L2 (V Hp HO Vals SqL SqT Same upd Cx PE PT PW PA PS PSs TE TT TA TS Inv RelV Zb Yb Jb)
mutual
noncomputable def Hr (s:Shared):D→Value→Prop
 | .non,u=>u=.none
 | .bl b,u=>u=.bool b
 | .int i,u=>∃ t,u=.int i t
 | .str x,u=>∃ t,u=.str x t
 | .lst ds,u=>∃ a its,u=.ref a∧s.heap.IsList a its.toArray∧Hrs s ds its
 | .tup ds,u=>∃ a its,u=.ref a∧s.heap.IsTuple a its.toArray∧Hrs s ds its
 | .dct _,_=>False
noncomputable def Hrs (s:Shared):List D→List Value→Prop
 | [],us=>us=[]
 | d::ds,us=>∃ u r,us=u::r∧Hr s d u∧Hrs s ds r
end
mutual
theorem Zy {X:Cx}{pins:List (Addr × Obj)}{σ:L2.St}{H:Hp}{s:Shared}(I:Inv X pins σ H s):∀ (d:D) (x:V) (u:Value),d.dep < 100→Rep X.K H d x→RelV x u→Hr s d u
 | .non,x,u,_,h,r=>by simp only [Rep] at h;subst h;simp only [Hr];exact r
 | .bl b,x,u,_,h,r=>by simp only [Rep] at h;subst h;simp only [Hr];exact r
 | .int i,x,u,_,h,r=>by simp only [Rep] at h;subst h;simp only [Hr];exact r
 | .str i,x,u,_,h,r=>by simp only [Rep] at h;subst h;simp only [Hr];exact r
 | .lst ds,x,u,hd,h,r=>by
  simp only [D.dep] at hd
  simp only [Rep] at h
  obtain ⟨a,vs,rfl,hs,t⟩:=h
  obtain ⟨its,rv,p,_⟩:=I.list hs
  cases r
  simp only [Hr]
  exact ⟨a,its,rfl,p.isList,ZbL I ds vs its (by omega) t rv⟩
 | .dct ds,x,u,hd,h,r=>by simp [D.dep] at hd
 | .tup ds,x,u,hd,h,r=>by
  simp only [D.dep] at hd
  simp only [Rep] at h
  obtain ⟨a,vs,rfl,hs,t⟩:=h
  obtain ⟨its,rv,p,_⟩:=I.tuple hs
  cases r
  simp only [Hr]
  exact ⟨a,its,rfl,p,ZbL I ds vs its (by omega) t rv⟩
theorem ZbL {X:Cx}{pins:List (Addr × Obj)}{σ:L2.St}{H:Hp}{s:Shared}(I:Inv X pins σ H s):∀ (ds:List D) (vs:List V) (us:List Value),D.deps ds < 100→Reps X.K H ds vs→Vals vs us→Hrs s ds us
 | [],vs,us,_,h,r=>by simp only [Reps] at h;subst h;cases r;simp [Hrs]
 | d::ds,vs,us,hd,h,r=>by
  simp only [D.deps] at hd
  simp only [Reps] at h
  obtain ⟨v,t,rfl,h1,h2⟩:=h
  cases r with
  | cons r1 r2 =>
   simp only [Hrs]
   exact ⟨_,_,rfl,Zy I d v _ (by omega) h1 r1,ZbL I ds t _ (by omega) h2 r2⟩
end
section
variable {s:Shared}
theorem Hrs.length:∀ {ds:List D} {us:List Value},Hrs s ds us→ds.length=us.length
 | [],us,h=>by simp only [Hrs] at h;subst h;rfl
 | d::ds,us,h=>by simp only [Hrs] at h;obtain ⟨u,r,rfl,_,t⟩:=h;simp [Hrs.length t]
theorem Hrs.get:∀ {ds:List D} {us:List Value} {j:Nat} (h1:j < ds.length) (h2:j < us.length),Hrs s ds us→Hr s ds[j] us[j]
 | [],us,j,h1,h2,h=>by simp at h1
 | d::ds,us,0,h1,h2,h=>by simp only [Hrs] at h;obtain ⟨u,r,rfl,x,t⟩:=h;exact x
 | d::ds,us,j + 1,h1,h2,h=>by simp only [Hrs] at h;obtain ⟨u,r,rfl,x,t⟩:=h;exact Hrs.get (j:=j) (by simpa using h1) (by simpa using h2) t
theorem Zb4 {h:Heap}{a:Addr}{xs ys:List Value}(h1:h.IsList a xs.toArray)(h2:h.IsList a ys.toArray):xs=ys:=by
 obtain ⟨o,e,c,n,d⟩:=h1
 obtain ⟨o',e',c',n',d'⟩:=h2
 rw [e] at e';cases e'
 rw [d] at d'
 injection d' with d1 _
 have:=congrArg Array.toList d1
 simpa using this
theorem ZbE {h:Heap}{a:Addr}{xs ys:List Value}(h1:h.IsTuple a xs.toArray)(h2:h.IsTuple a ys.toArray):xs=ys:=by
 obtain ⟨o,e,c,n,d⟩:=h1
 obtain ⟨o',e',c',n',d'⟩:=h2
 rw [e] at e';cases e'
 rw [d] at d'
 injection d' with d1 _
 have:=congrArg Array.toList d1
 simpa using this
mutual
theorem Hr.func:∀ (d e:D) (u:Value),Hr s d u→Hr s e u→d=e
 | .lst ds,.lst es,u,h1,h2=>by
  simp only [Hr] at h1 h2
  obtain ⟨a,its,rfl,l1,r1⟩:=h1
  obtain ⟨b,its2,e,l2,r2⟩:=h2
  cases e
  obtain rfl:=Zb4 l1 l2
  rw [Hrs.func ds es its r1 r2]
 | .tup ds,.tup es,u,h1,h2=>by
  simp only [Hr] at h1 h2
  obtain ⟨a,its,rfl,l1,r1⟩:=h1
  obtain ⟨b,its2,e,l2,r2⟩:=h2
  cases e
  obtain rfl:=ZbE l1 l2
  rw [Hrs.func ds es its r1 r2]
 | .lst ds,.tup es,u,h1,h2=>by
  simp only [Hr] at h1 h2
  obtain ⟨a,its,rfl,l1,r1⟩:=h1
  obtain ⟨b,its2,e,l2,r2⟩:=h2
  cases e
  exact absurd rfl (SeqAt.ne_of_list_tuple l1 l2)
 | .tup ds,.lst es,u,h1,h2=>by
  simp only [Hr] at h1 h2
  obtain ⟨a,its,rfl,l1,r1⟩:=h1
  obtain ⟨b,its2,e,l2,r2⟩:=h2
  cases e
  exact absurd rfl (SeqAt.ne_of_list_tuple l2 l1)
 | .non,e,u,h1,h2=>by simp only [Hr] at h1;subst h1;cases e <;> simp [Hr] at h2 <;> first | rfl | (obtain ⟨_,_,_,_⟩:=h2) | skip
 | .bl b,e,u,h1,h2=>by simp only [Hr] at h1;subst h1;cases e <;> simp [Hr] at h2 <;> first | (rw [h2]) | skip
 | .int i,e,u,h1,h2=>by simp only [Hr] at h1;obtain ⟨t,rfl⟩:=h1;cases e <;> simp [Hr] at h2 <;> first | (rw [h2]) | skip
 | .str i,e,u,h1,h2=>by simp only [Hr] at h1;obtain ⟨t,rfl⟩:=h1;cases e <;> simp [Hr] at h2 <;> first | (rw [h2]) | skip
 | .lst ds,.non,u,h1,h2=>by simp only [Hr] at h1 h2;obtain ⟨_,_,rfl,_⟩:=h1;cases h2
 | .lst ds,.bl _,u,h1,h2=>by simp only [Hr] at h1 h2;obtain ⟨_,_,rfl,_⟩:=h1;cases h2
 | .lst ds,.int _,u,h1,h2=>by simp only [Hr] at h1 h2;obtain ⟨_,_,rfl,_⟩:=h1;obtain ⟨_,h2⟩:=h2;cases h2
 | .lst ds,.str _,u,h1,h2=>by simp only [Hr] at h1 h2;obtain ⟨_,_,rfl,_⟩:=h1;obtain ⟨_,h2⟩:=h2;cases h2
 | .tup ds,.non,u,h1,h2=>by simp only [Hr] at h1 h2;obtain ⟨_,_,rfl,_⟩:=h1;cases h2
 | .tup ds,.bl _,u,h1,h2=>by simp only [Hr] at h1 h2;obtain ⟨_,_,rfl,_⟩:=h1;cases h2
 | .tup ds,.int _,u,h1,h2=>by simp only [Hr] at h1 h2;obtain ⟨_,_,rfl,_⟩:=h1;obtain ⟨_,h2⟩:=h2;cases h2
 | .dct _,e,u,h1,h2=>by cases h1
 | .lst _,.dct _,u,h1,h2=>by cases h2
 | .tup _,.dct _,u,h1,h2=>by cases h2
 | .tup ds,.str _,u,h1,h2=>by simp only [Hr] at h1 h2;obtain ⟨_,_,rfl,_⟩:=h1;obtain ⟨_,h2⟩:=h2;cases h2
theorem Hrs.func:∀ (ds es:List D) (us:List Value),Hrs s ds us→Hrs s es us→ds=es
 | [],[],_,_,_=>rfl
 | [],e::es,us,h1,h2=>by simp only [Hrs] at h1 h2;subst h1;obtain ⟨_,_,h,_⟩:=h2;cases h
 | d::ds,[],us,h1,h2=>by simp only [Hrs] at h1 h2;subst h2;obtain ⟨_,_,h,_⟩:=h1;cases h
 | d::ds,e::es,us,h1,h2=>by
  simp only [Hrs] at h1 h2
  obtain ⟨u,r,rfl,x,t⟩:=h1
  obtain ⟨u',r',e',x',t'⟩:=h2
  cases e'
  rw [Hr.func d e u x x',Hrs.func ds es r t t']
end
theorem YM:∀ (ds es:List D),ds.length=es.length→(List.range ds.length).all (fun j=>eqD (ds.getD j .non) (es.getD j .non))=eqDs ds es
 | [],[],_=>by simp [eqDs]
 | [],_::_,h=>by simp at h
 | _::_,[],h=>by simp at h
 | d::ds,e::es,h=>by
  have ih:=YM ds es (by simpa using h)
  rw [List.length_cons,List.range_succ_eq_map,List.all_cons,List.all_map]
  simp only [eqDs]
  rw [← ih]
  rfl
theorem Z9:∀ (ds es:List D),ds.length≠es.length→eqDs ds es=false
 | [],[],h=>absurd rfl h
 | [],_::_,_=>by simp [eqDs]
 | _::_,[],_=>by simp [eqDs]
 | d::ds,e::es,h=>by simp only [eqDs,Z9 ds es (by simpa using h),Bool.and_false]
theorem Zbf:∀ {ds:List D} {j:Nat} (h:j < ds.length),(ds[j]).dep≤D.deps ds
 | [],_,h=>by simp at h
 | d::ds,0,h=>by simp only [D.deps];exact Nat.le_max_left _ _
 | d::ds,j + 1,h=>by simp only [D.deps];exact Nat.le_trans (Zbf (j:=j) (by simpa using h)) (Nat.le_max_right _ _)
noncomputable def Ih (s:Shared) (A:Around) (x:List D):Prop:=∀ j (h:j < x.length) (e:D) (u v:Value),A.units + (x[j]).dep < cLine→Hr s x[j] u→Hr s e v→SeqAt.EqAt A s u v (eqD x[j] e)
theorem items {A:Around}{x y:List D}{xits yits:List Value}(ih:Ih s A.in1 x)(hu:A.units + D.deps x + 1 < cLine)(hl:x.length=y.length)(xr:Hrs s x xits)(yr:Hrs s y yits) :
  ∀ j (h1:j < xits.toArray.size) (h2:j < yits.toArray.size),SeqAt.EqAt A.in1 s xits.toArray[j] yits.toArray[j] (eqD (x.getD j .non) (y.getD j .non)):=fun j h1 h2=>by
 have k1:j < x.length:=by rw [xr.length];simpa using h1
 have k2:j < y.length:=by rw [← hl];exact k1
 have e1:x.getD j .non=x[j]:=by simp [List.getD,k1]
 have e2:y.getD j .non=y[j]:=by simp [List.getD,k2]
 rw [e1,e2]
 have hd:=Zbf (ds:=x) k1
 have a1:=xr.get k1 (by rw [← xr.length];exact k1)
 have a2:=yr.get k2 (by rw [← yr.length];exact k2)
 refine ih j k1 _ _ _ ?_ (by simpa using a1) (by simpa using a2)
 show A.units + 1 + _ < cLine
 omega
theorem Zci {A:Around}{xa ya:Addr}{xits yits:List Value}(x y:List D)(hu:A.units + D.deps x + 1 < cLine)(xl:s.heap.IsList xa xits.toArray)(yl:s.heap.IsList ya yits.toArray)(xr:Hrs s x xits)(yr:Hrs s y yits)(ih:Ih s A.in1 x) :
  SeqAt.RcAt A s (.ref xa) (.ref ya) (eqD (.lst x) (.lst y)):=by
 simp only [eqD]
 by_cases hl:x.length=y.length
 ·have e:=SeqAt.RcAt.lists (e:=fun j=>eqD (x.getD j .non) (y.getD j .non)) xl yl (by simp [← xr.length,← yr.length,hl]) (by omega) (items ih hu hl xr yr)
  rw [show xits.toArray.size=x.length by simp [xr.length],YM x y hl] at e
  exact e
 ·rw [Z9 x y hl]
  exact SeqAt.RcAt.lists_lengths xl yl (by simp [← xr.length,← yr.length,hl]) (by omega)
theorem Zby {A:Around}{xa ya:Addr}{xits yits:List Value}(x y:List D)(hu:A.units + D.deps x + 1 < cLine)(xl:s.heap.IsTuple xa xits.toArray)(yl:s.heap.IsTuple ya yits.toArray)(xr:Hrs s x xits)(yr:Hrs s y yits)(ih:Ih s A.in1 x) :
  SeqAt.RcAt A s (.ref xa) (.ref ya) (eqD (.tup x) (.tup y)):=by
 simp only [eqD]
 have e:=SeqAt.RcAt.tuples (A:=A) (e:=fun j=>eqD (x.getD j .non) (y.getD j .non)) xl yl (by omega) (fun j h1 h2=>by
  have k1:j < x.length:=by rw [xr.length];simpa using h1
  have k2:j < y.length:=by rw [yr.length];simpa using h2
  have e1:x.getD j .non=x[j]:=by simp [List.getD,k1]
  have e2:y.getD j .non=y[j]:=by simp [List.getD,k2]
  rw [e1,e2]
  have hd:=Zbf (ds:=x) k1
  have a1:=xr.get k1 (by rw [← xr.length];exact k1)
  have a2:=yr.get k2 (by rw [← yr.length];exact k2)
  refine ih j k1 _ _ _ ?_ (by simpa using a1) (by simpa using a2)
  show A.units + 1 + _ < cLine
  omega)
 have z:((List.range (min xits.toArray.size yits.toArray.size)).all (fun j=>eqD (x.getD j .non) (y.getD j .non)) && xits.toArray.size == yits.toArray.size)=eqDs x y:=by
  rw [show xits.toArray.size=x.length by simp [xr.length],show yits.toArray.size=y.length by simp [yr.length]]
  by_cases hl:x.length=y.length
  ·rw [← hl,Nat.min_self,YM x y hl];simp
  ·rw [Z9 x y hl,beq_eq_false_iff_ne.mpr hl,Bool.and_false]
 rw [z] at e
 exact e
theorem ZeO {A:Around}{xa ya:Addr}{xits yits:List Value}(x y:List D)(hu:A.units + D.deps x + 1 < cLine)(xl:s.heap.IsList xa xits.toArray)(yl:s.heap.IsList ya yits.toArray)(xr:Hrs s x xits)(yr:Hrs s y yits)(ih:Ih s A.in1 x) :
  SeqAt.EqAt A s (.ref xa) (.ref ya) (eqD (.lst x) (.lst y)):=by
 by_cases ha:xa=ya
 ·subst ha
  obtain rfl:=Zb4 xl yl
  obtain rfl:=Hrs.func _ _ _ xr yr
  rw [ZbF]
  exact SeqAt.EqAt.same _
 ·exact .of_refs ha (Zci x y hu xl yl xr yr ih)
theorem Zea {A:Around}{xa ya:Addr}{xits yits:List Value}(x y:List D)(hu:A.units + D.deps x + 1 < cLine)(xl:s.heap.IsTuple xa xits.toArray)(yl:s.heap.IsTuple ya yits.toArray)(xr:Hrs s x xits)(yr:Hrs s y yits)(ih:Ih s A.in1 x) :
  SeqAt.EqAt A s (.ref xa) (.ref ya) (eqD (.tup x) (.tup y)):=by
 by_cases ha:xa=ya
 ·subst ha
  obtain rfl:=ZbE xl yl
  obtain rfl:=Hrs.func _ _ _ xr yr
  rw [ZbF]
  exact SeqAt.EqAt.same _
 ·exact .of_refs ha (Zby x y hu xl yl xr yr ih)
theorem ZeM {A:Around}{xa ya:Addr}{xits yits:List Value}(x y:List D)(hu:A.units + D.deps x + 1 < cLine)(xl:s.heap.IsList xa xits.toArray)(yl:s.heap.IsList ya yits.toArray)(xr:Hrs s x xits)(yr:Hrs s y yits)(ih:Ih s A.in1 x) :
  SeqAt.RcNeAt A s (.ref xa) (.ref ya) (!eqD (.lst x) (.lst y)):=by
 simp only [eqD]
 by_cases hl:x.length=y.length
 ·have e:=SeqAt.RcNeAt.lists (e:=fun j=>eqD (x.getD j .non) (y.getD j .non)) xl yl (by simp [← xr.length,← yr.length,hl]) (by omega) (items ih hu hl xr yr)
  rw [show xits.toArray.size=x.length by simp [xr.length],YM x y hl] at e
  exact e
 ·rw [Z9 x y hl]
  exact SeqAt.RcNeAt.lists_lengths xl yl (by simp [← xr.length,← yr.length,hl]) (by omega)
theorem Zee {A:Around}{xa ya:Addr}{xits yits:List Value}(x y:List D)(hu:A.units + D.deps x + 1 < cLine)(xl:s.heap.IsTuple xa xits.toArray)(yl:s.heap.IsTuple ya yits.toArray)(xr:Hrs s x xits)(yr:Hrs s y yits)(ih:Ih s A.in1 x) :
  SeqAt.RcNeAt A s (.ref xa) (.ref ya) (!eqD (.tup x) (.tup y)):=by
 simp only [eqD]
 have e:=SeqAt.RcNeAt.tuples (A:=A) (e:=fun j=>eqD (x.getD j .non) (y.getD j .non)) xl yl (by omega) (fun j h1 h2=>by
  have k1:j < x.length:=by rw [xr.length];simpa using h1
  have k2:j < y.length:=by rw [yr.length];simpa using h2
  have e1:x.getD j .non=x[j]:=by simp [List.getD,k1]
  have e2:y.getD j .non=y[j]:=by simp [List.getD,k2]
  rw [e1,e2]
  have hd:=Zbf (ds:=x) k1
  have a1:=xr.get k1 (by rw [← xr.length];exact k1)
  have a2:=yr.get k2 (by rw [← yr.length];exact k2)
  refine ih j k1 _ _ _ ?_ (by simpa using a1) (by simpa using a2)
  show A.units + 1 + _ < cLine
  omega)
 have z:((List.range (min xits.toArray.size yits.toArray.size)).all (fun j=>eqD (x.getD j .non) (y.getD j .non)) && xits.toArray.size == yits.toArray.size)=eqDs x y:=by
  rw [show xits.toArray.size=x.length by simp [xr.length],show yits.toArray.size=y.length by simp [yr.length]]
  by_cases hl:x.length=y.length
  ·rw [← hl,Nat.min_self,YM x y hl];simp
  ·rw [Z9 x y hl,beq_eq_false_iff_ne.mpr hl,Bool.and_false]
 rw [z] at e
 exact e
noncomputable def D.kids:D→List D
 | .lst xs=>xs
 | .tup xs=>xs
 | _=>[]
theorem YT {A:Around}(d e:D)(u v:Value)(hu:A.units + d.dep < cLine)(h1:Hr s d u)(h2:Hr s e v)(ih:Ih s A.in1 d.kids):SeqAt.EqAt A s u v (eqD d e):=by
 have hu0:A.units < cLine:=by omega
 cases d with
 | dct x=>cases h1
 | non =>
  cases h1
  cases e with
  | dct y=>cases h2
  | non =>
   cases h2
   exact SeqAt.EqAt.same _
  | bl y =>
   cases h2
   exact SeqAt.EqAt.none_bool y
  | int y =>
   obtain ⟨yt,rfl⟩:=h2
   exact SeqAt.EqAt.none_int y yt
  | str y =>
   obtain ⟨yt,rfl⟩:=h2
   exact SeqAt.EqAt.none_str y yt
  | lst y =>
   obtain ⟨ya,yits,rfl,yl,yr⟩:=h2
   exact SeqAt.EqAt.none_list yl hu0
  | tup y =>
   obtain ⟨ya,yits,rfl,yl,yr⟩:=h2
   exact SeqAt.EqAt.none_tuple yl hu0
 | bl x =>
  cases h1
  cases e with
  | dct y=>cases h2
  | non =>
   cases h2
   exact SeqAt.EqAt.bool_none x
  | bl y =>
   cases h2
   exact SeqAt.EqAt.bool_bool x y
  | int y =>
   obtain ⟨yt,rfl⟩:=h2
   exact SeqAt.EqAt.bool_int x y yt
  | str y =>
   obtain ⟨yt,rfl⟩:=h2
   exact SeqAt.EqAt.bool_str x y yt
  | lst y =>
   obtain ⟨ya,yits,rfl,yl,yr⟩:=h2
   exact SeqAt.EqAt.bool_list x yl hu0
  | tup y =>
   obtain ⟨ya,yits,rfl,yl,yr⟩:=h2
   exact SeqAt.EqAt.bool_tuple x yl hu0
 | int x =>
  obtain ⟨xt,rfl⟩:=h1
  cases e with
  | dct y=>cases h2
  | non =>
   cases h2
   exact SeqAt.EqAt.int_none x xt
  | bl y =>
   cases h2
   exact SeqAt.EqAt.int_bool x xt y
  | int y =>
   obtain ⟨yt,rfl⟩:=h2
   exact SeqAt.EqAt.int_int x xt y yt
  | str y =>
   obtain ⟨yt,rfl⟩:=h2
   exact SeqAt.EqAt.int_str x xt y yt
  | lst y =>
   obtain ⟨ya,yits,rfl,yl,yr⟩:=h2
   exact SeqAt.EqAt.int_list x xt yl hu0
  | tup y =>
   obtain ⟨ya,yits,rfl,yl,yr⟩:=h2
   exact SeqAt.EqAt.int_tuple x xt yl hu0
 | str x =>
  obtain ⟨xt,rfl⟩:=h1
  cases e with
  | dct y=>cases h2
  | non =>
   cases h2
   exact SeqAt.EqAt.str_none x xt
  | bl y =>
   cases h2
   exact SeqAt.EqAt.str_bool x xt y
  | int y =>
   obtain ⟨yt,rfl⟩:=h2
   exact SeqAt.EqAt.str_int x xt y yt
  | str y =>
   obtain ⟨yt,rfl⟩:=h2
   exact SeqAt.EqAt.str_str x xt y yt
  | lst y =>
   obtain ⟨ya,yits,rfl,yl,yr⟩:=h2
   exact SeqAt.EqAt.str_list x xt yl hu0
  | tup y =>
   obtain ⟨ya,yits,rfl,yl,yr⟩:=h2
   exact SeqAt.EqAt.str_tuple x xt yl hu0
 | lst x =>
  obtain ⟨xa,xits,rfl,xl,xr⟩:=h1
  cases e with
  | dct y=>cases h2
  | non =>
   cases h2
   exact SeqAt.EqAt.list_none xl hu0
  | bl y =>
   cases h2
   exact SeqAt.EqAt.list_bool y xl hu0
  | int y =>
   obtain ⟨yt,rfl⟩:=h2
   exact SeqAt.EqAt.list_int y yt xl hu0
  | str y =>
   obtain ⟨yt,rfl⟩:=h2
   exact SeqAt.EqAt.list_str y yt xl hu0
  | lst y =>
   obtain ⟨ya,yits,rfl,yl,yr⟩:=h2
   exact ZeO x y hu xl yl xr yr ih
  | tup y =>
   obtain ⟨ya,yits,rfl,yl,yr⟩:=h2
   exact SeqAt.EqAt.list_tuple xl yl hu0
 | tup x =>
  obtain ⟨xa,xits,rfl,xl,xr⟩:=h1
  cases e with
  | dct y=>cases h2
  | non =>
   cases h2
   exact SeqAt.EqAt.tuple_none xl hu0
  | bl y =>
   cases h2
   exact SeqAt.EqAt.tuple_bool y xl hu0
  | int y =>
   obtain ⟨yt,rfl⟩:=h2
   exact SeqAt.EqAt.tuple_int y yt xl hu0
  | str y =>
   obtain ⟨yt,rfl⟩:=h2
   exact SeqAt.EqAt.tuple_str y yt xl hu0
  | lst y =>
   obtain ⟨ya,yits,rfl,yl,yr⟩:=h2
   exact SeqAt.EqAt.tuple_list xl yl hu0
  | tup y =>
   obtain ⟨ya,yits,rfl,yl,yr⟩:=h2
   exact Zea x y hu xl yl xr yr ih
theorem ZgE {A:Around}(d e:D)(u v:Value)(hu:A.units + d.dep < cLine)(h1:Hr s d u)(h2:Hr s e v)(ih:Ih s A.in1 d.kids):SeqAt.RcAt A s u v (eqD d e):=by
 have hu0:A.units < cLine:=by omega
 cases d with
 | dct x=>cases h1
 | non =>
  cases h1
  cases e with
  | dct y=>cases h2
  | non =>
   cases h2
   exact SeqAt.RcAt.none_none
  | bl y =>
   cases h2
   exact SeqAt.RcAt.none_bool y
  | int y =>
   obtain ⟨yt,rfl⟩:=h2
   exact SeqAt.RcAt.none_int y yt
  | str y =>
   obtain ⟨yt,rfl⟩:=h2
   exact SeqAt.RcAt.none_str y yt
  | lst y =>
   obtain ⟨ya,yits,rfl,yl,yr⟩:=h2
   exact SeqAt.RcAt.none_list yl hu0
  | tup y =>
   obtain ⟨ya,yits,rfl,yl,yr⟩:=h2
   exact SeqAt.RcAt.none_tuple yl hu0
 | bl x =>
  cases h1
  cases e with
  | dct y=>cases h2
  | non =>
   cases h2
   exact SeqAt.RcAt.bool_none x
  | bl y =>
   cases h2
   exact SeqAt.RcAt.bool_bool x y
  | int y =>
   obtain ⟨yt,rfl⟩:=h2
   exact SeqAt.RcAt.bool_int x y yt
  | str y =>
   obtain ⟨yt,rfl⟩:=h2
   exact SeqAt.RcAt.bool_str x y yt
  | lst y =>
   obtain ⟨ya,yits,rfl,yl,yr⟩:=h2
   exact SeqAt.RcAt.bool_list x yl hu0
  | tup y =>
   obtain ⟨ya,yits,rfl,yl,yr⟩:=h2
   exact SeqAt.RcAt.bool_tuple x yl hu0
 | int x =>
  obtain ⟨xt,rfl⟩:=h1
  cases e with
  | dct y=>cases h2
  | non =>
   cases h2
   exact SeqAt.RcAt.int_none x xt
  | bl y =>
   cases h2
   exact SeqAt.RcAt.int_bool x xt y
  | int y =>
   obtain ⟨yt,rfl⟩:=h2
   exact SeqAt.RcAt.int_int x xt y yt
  | str y =>
   obtain ⟨yt,rfl⟩:=h2
   exact SeqAt.RcAt.int_str x xt y yt
  | lst y =>
   obtain ⟨ya,yits,rfl,yl,yr⟩:=h2
   exact SeqAt.RcAt.int_list x xt yl hu0
  | tup y =>
   obtain ⟨ya,yits,rfl,yl,yr⟩:=h2
   exact SeqAt.RcAt.int_tuple x xt yl hu0
 | str x =>
  obtain ⟨xt,rfl⟩:=h1
  cases e with
  | dct y=>cases h2
  | non =>
   cases h2
   exact SeqAt.RcAt.str_none x xt
  | bl y =>
   cases h2
   exact SeqAt.RcAt.str_bool x xt y
  | int y =>
   obtain ⟨yt,rfl⟩:=h2
   exact SeqAt.RcAt.str_int x xt y yt
  | str y =>
   obtain ⟨yt,rfl⟩:=h2
   exact SeqAt.RcAt.str_str x xt y yt
  | lst y =>
   obtain ⟨ya,yits,rfl,yl,yr⟩:=h2
   exact SeqAt.RcAt.str_list x xt yl hu0
  | tup y =>
   obtain ⟨ya,yits,rfl,yl,yr⟩:=h2
   exact SeqAt.RcAt.str_tuple x xt yl hu0
 | lst x =>
  obtain ⟨xa,xits,rfl,xl,xr⟩:=h1
  cases e with
  | dct y=>cases h2
  | non =>
   cases h2
   exact SeqAt.RcAt.list_none xl hu0
  | bl y =>
   cases h2
   exact SeqAt.RcAt.list_bool y xl hu0
  | int y =>
   obtain ⟨yt,rfl⟩:=h2
   exact SeqAt.RcAt.list_int y yt xl hu0
  | str y =>
   obtain ⟨yt,rfl⟩:=h2
   exact SeqAt.RcAt.list_str y yt xl hu0
  | lst y =>
   obtain ⟨ya,yits,rfl,yl,yr⟩:=h2
   exact Zci x y hu xl yl xr yr ih
  | tup y =>
   obtain ⟨ya,yits,rfl,yl,yr⟩:=h2
   exact SeqAt.RcAt.list_tuple xl yl hu0
 | tup x =>
  obtain ⟨xa,xits,rfl,xl,xr⟩:=h1
  cases e with
  | dct y=>cases h2
  | non =>
   cases h2
   exact SeqAt.RcAt.tuple_none xl hu0
  | bl y =>
   cases h2
   exact SeqAt.RcAt.tuple_bool y xl hu0
  | int y =>
   obtain ⟨yt,rfl⟩:=h2
   exact SeqAt.RcAt.tuple_int y yt xl hu0
  | str y =>
   obtain ⟨yt,rfl⟩:=h2
   exact SeqAt.RcAt.tuple_str y yt xl hu0
  | lst y =>
   obtain ⟨ya,yits,rfl,yl,yr⟩:=h2
   exact SeqAt.RcAt.tuple_list xl yl hu0
  | tup y =>
   obtain ⟨ya,yits,rfl,yl,yr⟩:=h2
   exact Zby x y hu xl yl xr yr ih
theorem Zgo {A:Around}(d e:D)(u v:Value)(hu:A.units + d.dep < cLine)(h1:Hr s d u)(h2:Hr s e v)(ih:Ih s A.in1 d.kids):SeqAt.RcNeAt A s u v (!eqD d e):=by
 have hu0:A.units < cLine:=by omega
 cases d with
 | dct x=>cases h1
 | non =>
  cases h1
  cases e with
  | dct y=>cases h2
  | non =>
   cases h2
   exact SeqAt.RcNeAt.none_none
  | bl y =>
   cases h2
   exact SeqAt.RcNeAt.none_bool y
  | int y =>
   obtain ⟨yt,rfl⟩:=h2
   exact SeqAt.RcNeAt.none_int y yt
  | str y =>
   obtain ⟨yt,rfl⟩:=h2
   exact SeqAt.RcNeAt.none_str y yt
  | lst y =>
   obtain ⟨ya,yits,rfl,yl,yr⟩:=h2
   exact SeqAt.RcNeAt.none_list yl hu0
  | tup y =>
   obtain ⟨ya,yits,rfl,yl,yr⟩:=h2
   exact SeqAt.RcNeAt.none_tuple yl hu0
 | bl x =>
  cases h1
  cases e with
  | dct y=>cases h2
  | non =>
   cases h2
   exact SeqAt.RcNeAt.bool_none x
  | bl y =>
   cases h2
   exact SeqAt.RcNeAt.bool_bool x y
  | int y =>
   obtain ⟨yt,rfl⟩:=h2
   exact SeqAt.RcNeAt.bool_int x y yt
  | str y =>
   obtain ⟨yt,rfl⟩:=h2
   exact SeqAt.RcNeAt.bool_str x y yt
  | lst y =>
   obtain ⟨ya,yits,rfl,yl,yr⟩:=h2
   exact SeqAt.RcNeAt.bool_list x yl hu0
  | tup y =>
   obtain ⟨ya,yits,rfl,yl,yr⟩:=h2
   exact SeqAt.RcNeAt.bool_tuple x yl hu0
 | int x =>
  obtain ⟨xt,rfl⟩:=h1
  cases e with
  | dct y=>cases h2
  | non =>
   cases h2
   exact SeqAt.RcNeAt.int_none x xt
  | bl y =>
   cases h2
   exact SeqAt.RcNeAt.int_bool x xt y
  | int y =>
   obtain ⟨yt,rfl⟩:=h2
   exact SeqAt.RcNeAt.int_int x xt y yt
  | str y =>
   obtain ⟨yt,rfl⟩:=h2
   exact SeqAt.RcNeAt.int_str x xt y yt
  | lst y =>
   obtain ⟨ya,yits,rfl,yl,yr⟩:=h2
   exact SeqAt.RcNeAt.int_list x xt yl hu0
  | tup y =>
   obtain ⟨ya,yits,rfl,yl,yr⟩:=h2
   exact SeqAt.RcNeAt.int_tuple x xt yl hu0
 | str x =>
  obtain ⟨xt,rfl⟩:=h1
  cases e with
  | dct y=>cases h2
  | non =>
   cases h2
   exact SeqAt.RcNeAt.str_none x xt
  | bl y =>
   cases h2
   exact SeqAt.RcNeAt.str_bool x xt y
  | int y =>
   obtain ⟨yt,rfl⟩:=h2
   exact SeqAt.RcNeAt.str_int x xt y yt
  | str y =>
   obtain ⟨yt,rfl⟩:=h2
   exact SeqAt.RcNeAt.str_str x xt y yt
  | lst y =>
   obtain ⟨ya,yits,rfl,yl,yr⟩:=h2
   exact SeqAt.RcNeAt.str_list x xt yl hu0
  | tup y =>
   obtain ⟨ya,yits,rfl,yl,yr⟩:=h2
   exact SeqAt.RcNeAt.str_tuple x xt yl hu0
 | lst x =>
  obtain ⟨xa,xits,rfl,xl,xr⟩:=h1
  cases e with
  | dct y=>cases h2
  | non =>
   cases h2
   exact SeqAt.RcNeAt.list_none xl hu0
  | bl y =>
   cases h2
   exact SeqAt.RcNeAt.list_bool y xl hu0
  | int y =>
   obtain ⟨yt,rfl⟩:=h2
   exact SeqAt.RcNeAt.list_int y yt xl hu0
  | str y =>
   obtain ⟨yt,rfl⟩:=h2
   exact SeqAt.RcNeAt.list_str y yt xl hu0
  | lst y =>
   obtain ⟨ya,yits,rfl,yl,yr⟩:=h2
   exact ZeM x y hu xl yl xr yr ih
  | tup y =>
   obtain ⟨ya,yits,rfl,yl,yr⟩:=h2
   exact SeqAt.RcNeAt.list_tuple xl yl hu0
 | tup x =>
  obtain ⟨xa,xits,rfl,xl,xr⟩:=h1
  cases e with
  | dct y=>cases h2
  | non =>
   cases h2
   exact SeqAt.RcNeAt.tuple_none xl hu0
  | bl y =>
   cases h2
   exact SeqAt.RcNeAt.tuple_bool y xl hu0
  | int y =>
   obtain ⟨yt,rfl⟩:=h2
   exact SeqAt.RcNeAt.tuple_int y yt xl hu0
  | str y =>
   obtain ⟨yt,rfl⟩:=h2
   exact SeqAt.RcNeAt.tuple_str y yt xl hu0
  | lst y =>
   obtain ⟨ya,yits,rfl,yl,yr⟩:=h2
   exact SeqAt.RcNeAt.tuple_list xl yl hu0
  | tup y =>
   obtain ⟨ya,yits,rfl,yl,yr⟩:=h2
   exact Zee x y hu xl yl xr yr ih
mutual
theorem Zf3:∀ (d:D) {A:Around} (e:D) (u v:Value),A.units + d.dep < cLine→Hr s d u→Hr s e v→SeqAt.EqAt A s u v (eqD d e)
 | .lst xs,_,e,u,v,hu,h1,h2=>YT (.lst xs) e u v hu h1 h2 (Zaw xs)
 | .dct xs,_,e,u,v,hu,h1,h2=>by cases h1
 | .tup xs,_,e,u,v,hu,h1,h2=>YT (.tup xs) e u v hu h1 h2 (Zaw xs)
 | .non,_,e,u,v,hu,h1,h2=>YT .non e u v hu h1 h2 (fun j h=>by simp [D.kids] at h)
 | .bl b,_,e,u,v,hu,h1,h2=>YT (.bl b) e u v hu h1 h2 (fun j h=>by simp [D.kids] at h)
 | .int b,_,e,u,v,hu,h1,h2=>YT (.int b) e u v hu h1 h2 (fun j h=>by simp [D.kids] at h)
 | .str b,_,e,u,v,hu,h1,h2=>YT (.str b) e u v hu h1 h2 (fun j h=>by simp [D.kids] at h)
theorem Zaw:∀ (xs:List D) {A:Around},Ih s A xs
 | [],_=>fun j h=>by simp at h
 | x::xs,_=>fun j h=>match j,h with
  | 0,h=>fun e u v hu h1 h2=>Zf3 x e u v hu h1 h2
  | j + 1,h=>fun e u v hu h1 h2=>Zaw xs j (by simpa using h) e u v hu h1 h2
end
theorem Zid (d:D){A:Around}(e:D)(u v:Value)(hu:A.units + d.dep < cLine)(h1:Hr s d u)(h2:Hr s e v):SeqAt.RcAt A s u v (eqD d e):=ZgE d e u v hu h1 h2 (Zaw _)
theorem ZiA (d:D){A:Around}(e:D)(u v:Value)(hu:A.units + d.dep < cLine)(h1:Hr s d u)(h2:Hr s e v):SeqAt.RcNeAt A s u v (!eqD d e):=Zgo d e u v hu h1 h2 (Zaw _)
end
end PV
set_option linter.all false
set_option Elab.async false
set_option maxRecDepth 100000
set_option maxHeartbeats 4000000
namespace PV
open PySem PySem.Spec PyProof.Rows
open L2 (V Hp HO Vals SqL SqT Same upd Cx PE PT PW PA PS PSs TE TT TA TS Inv RelV Zb Yb Jb)
theorem Zcl {K:PySem.W.Frag}{H:Hp}{i:Bool}{v:V}(h:Rep K H (.bl i) v):v=.bl i:=by simpa [Rep] using h
section
variable {X:Cx} {m m1 m2 m3:Md} {a b c:Expr} {f g h:Ex} {t u:Tx} {pos:Pos} {rest:List Expr}
theorem ZgR (ha:PD X m a f)(he:∀ whole,isTrue a X.env whole=(do let v ← whole;standAt a.pos;holding [v] (truthy v)):=by intro _;rfl):PTd X a (tB f) :=
 PT.of (L2.ZiV ha.h he) fun σ H Q hh_=>el9 hh_ fun BF BH F env L d S e q=>by
  unfold tB at e
  split at e
  ·rename_i k hk
   cases e
   exact ⟨BF,BH,F,env,L,_,S,hk,fun v F' H' x r=>⟨d,Zcl r,q F' H' x⟩⟩
  ·cases e
theorem Zjn (ha:PD X m a f):PD X m a (eB (tB f)):=PD.mk <| PE.of ha.h fun σ H Q hh_=>el9 hh_ fun BF BH F env L d S e q=>by
 unfold eB tB at e
 split at e
 ·rename_i k hk
  split at hk
  ·rename_i k' hk'
   cases e;cases hk
   exact ⟨BF,BH,F,env,L,_,S,hk',q⟩
  ·cases hk
 ·cases e
structure ZaJ (X:Cx)(r:L2.R2)(f g:Ex)(t:Tx):Prop where
 ok:∀ env k,t env=some k→∃ x y,f env=some x∧g env=some y∧∀ v w H' (Q:V→Hp→Prop),Rep X.K H' x v→Rep X.K H' y w→Q (.bl k) H'→r v w H' Q
theorem Zdk {op:CmpOp}{r:L2.R2}(ho:L2.OpR X (compareOp op) r)(hc:ZaJ X r f g t)(hm:behindInMarks op b=false)(ha:PD X m1 a f)(hb:PD X m2 b g):PD X m (.Compare a [op] [b] pos) (eB t) :=
 PD.mk <| PE.of (L2.ZhW ho ha.r.h hb.r.h hm) fun σ H Q hh_=>el9 hh_ fun BF BH F env L d S e q=>by
  unfold eB at e
  split at e
  ·rename_i k hk
   cases e
   obtain ⟨x,y,hx,hy,hr⟩:=hc.ok env k hk
   exact two S hx hy fun v w F' H' z r1 r2=>hr v w H' Q r1 r2 (q _ F' H' z (by simp [Rep]))
  ·cases e
theorem JX {op:CmpOp}{r:L2.R2}(ho:L2.OpR X (compareOp op) r)(hc:ZaJ X r f g t)(hm:behindInMarks op b=false)(ha:PD X m1 a f)(hb:PD X m2 b g):PTd X (.Compare a [op] [b] pos) t :=
 PT.of (L2.Zh0 ho ha.r.h hb.r.h hm) fun σ H Q hh_=>el9 hh_ fun BF BH F env L k S e q=>by
  obtain ⟨x,y,hx,hy,hr⟩:=hc.ok env k e
  exact two S hx hy fun v w F' H' z r1 r2=>hr v w H' _ r1 r2 ⟨k,rfl,q F' H' z⟩
theorem Zba {p:Int→Int→Bool}{G:Int→Int→V}(hG:∀ i j,G i j=.bl (p i j)):ZaJ X (L2.rI0 G) f g (t2I p f g):=⟨fun env k e=>by
 unfold t2I at e
 split at e
 ·rename_i i j h1 h2
  cases e
  exact ⟨_,_,h1,h2,fun v w H' Q r1 r2 q=>⟨i,j,Yp r1,Yp r2,by rw [hG];exact q⟩⟩
 ·cases e⟩
theorem Ze5 (ha:PD X m1 a f)(hb:PD X m2 b g):PTd X (.Compare a [.Lt] [b] pos) (t2I pLt f g):=JX L2.Zg1 (Zba fun _ _=>rfl) (L2.ZR _) ha hb
theorem Zbk (ha:PD X m1 a f)(hb:PD X m2 b g):PTd X (.Compare a [.Gt] [b] pos) (t2I pGt f g):=JX L2.Zjj (Zba fun _ _=>rfl) (L2.ZR _) ha hb
theorem Zja (ha:PD X m1 a f)(hb:PD X m2 b g):PTd X (.Compare a [.GtE] [b] pos) (t2I pGe f g):=JX L2.Zg4 (Zba fun _ _=>rfl) (L2.ZR _) ha hb
theorem Zi8 (ha:PD X m1 a f)(hb:PD X m2 b g):PD X m (.Compare a [.Lt] [b] pos) (eB (t2I pLt f g)):=Zdk L2.Zg1 (Zba fun _ _=>rfl) (L2.ZR _) ha hb
theorem Zjf (ha:PD X m1 a f)(hb:PD X m2 b g):PD X m (.Compare a [.GtE] [b] pos) (eB (t2I pGe f g)):=Zdk L2.Zg4 (Zba fun _ _=>rfl) (L2.ZR _) ha hb
noncomputable def rEqD (K:PySem.W.Frag) (neg:Bool):L2.R2:=fun x y H Q=>∃ dx dy,Rep K H dx x∧Rep K H dy y∧(dx.dep≤8∧dy.dep≤8)∧Q (.bl (if neg then !eqD dx dy else eqD dx dy)) H
theorem Zfn (hu:X.A.units + 64 < cLine):L2.OpR X (compareOp .Eq) (rEqD X.K false):=by
 intro pins s σ H x y v u Q I rx ry h
 obtain ⟨dx,dy,h1,h2,hd,q⟩:=h
 exact Zid dx dy v u (by omega) (Zy I _ _ _ (by omega) h1 rx) (Zy I _ _ _ (by omega) h2 ry) X.prog X.w X.xe _ ⟨.bl _,H,I,rfl,q⟩
theorem ZiX (hu:X.A.units + 64 < cLine):L2.OpR X (compareOp .NotEq) (rEqD X.K true):=by
 intro pins s σ H x y v u Q I rx ry h
 obtain ⟨dx,dy,h1,h2,hd,q⟩:=h
 exact ZiA dx dy v u (by omega) (Zy I _ _ _ (by omega) h1 rx) (Zy I _ _ _ (by omega) h2 ry) X.prog X.w X.xe _ ⟨.bl _,H,I,rfl,q⟩
theorem Zfs:ZaJ X (rEqD X.K false) f g (tEq f g):=⟨fun env k e=>by
 unfold tEq at e
 split at e
 ·rename_i x y h1 h2
  split at e
  ·rename_i hd
   cases e
   exact ⟨x,y,h1,h2,fun v w H' Q r1 r2 q=>⟨x,y,r1,r2,hd,q⟩⟩
  ·cases e
 ·cases e⟩
theorem Zi3:ZaJ X (rEqD X.K true) f g (tNe f g):=⟨fun env k e=>by
 unfold tNe at e
 split at e
 ·rename_i x y h1 h2
  split at e
  ·rename_i hd
   cases e
   exact ⟨x,y,h1,h2,fun v w H' Q r1 r2 q=>⟨x,y,r1,r2,hd,q⟩⟩
  ·cases e
 ·cases e⟩
variable (hu:X.A.units + 64 < cLine)
include hu
theorem Zbq (ha:PD X m1 a f)(hb:PD X m2 b g):PTd X (.Compare a [.Eq] [b] pos) (tEq f g):=JX (Zfn hu) Zfs (L2.ZR _) ha hb
theorem ZeS (ha:PD X m1 a f)(hb:PD X m2 b g):PTd X (.Compare a [.NotEq] [b] pos) (tNe f g):=JX (ZiX hu) Zi3 (L2.ZR _) ha hb
theorem ZgY (ha:PD X m1 a f)(hb:PD X m2 b g):PD X m (.Compare a [.Eq] [b] pos) (eB (tEq f g)):=Zdk (Zfn hu) Zfs (L2.ZR _) ha hb
omit hu
open Classical in
noncomputable def eqH (s:Shared) (x:D) (u:Value):Bool:=if ∃ d,Hr s d u∧eqD d x=true then true else false
theorem Za6 {s:Shared}{x d:D}{u:Value}(h:Hr s d u):eqH s x u=eqD d x:=by
 unfold eqH
 cases e:eqD d x with
 | true=>rw [if_pos ⟨d,h,e⟩]
 | false=>rw [if_neg];rintro ⟨d',h',e'⟩;rw [Hr.func _ _ _ h' h,e] at e';cases e'
theorem Zcz {s:Shared}{x:D}:∀ {ys:List D} {us:List Value},Hrs s ys us→us.any (eqH s x)=ys.any fun y=>eqD y x
 | [],us,h=>by simp only [Hrs] at h;subst h;rfl
 | y::ys,us,h=>by
  simp only [Hrs] at h
  obtain ⟨u,r,rfl,h1,h2⟩:=h
  rw [List.any_cons,List.any_cons,Za6 h1,Zcz h2]
theorem Zal {A:Around}{s:Shared}{x:D}{v:Value}(hx:Hr s x v):∀ {ys:List D} {us:List Value},A.units + D.deps ys < cLine→Hrs s ys us→∀ u ∈ us,SeqAt.EqAt A s u v (eqH s x u)
 | [],us,_,h=>by simp only [Hrs] at h;subst h;intro u hu;cases hu
 | y::ys,us,hd,h=>by
  simp only [Hrs] at h
  obtain ⟨u,r,rfl,h1,h2⟩:=h
  simp only [D.deps] at hd
  intro u' hu'
  rcases List.mem_cons.mp hu' with rfl | hu'
  ·rw [Za6 h1];exact Zf3 y x _ v (by omega) h1 hx
  ·exact Zal hx (by omega) h2 u' hu'
noncomputable def rInD (K:PySem.W.Frag) (neg:Bool):L2.R2:=fun x y H Q=>∃ dx ys,Rep K H dx x∧(Rep K H (.lst ys) y∨Rep K H (.tup ys) y)∧(D.deps ys≤8∧dx.dep≤8)∧Q (.bl (if neg then !inD dx ys else inD dx ys)) H
include hu
theorem ZiS:L2.OpR X (compareOp .NotIn) (rInD X.K true):=by
 intro pins s σ H x y v u Q I rx ry h
 obtain ⟨dx,ys,h1,h2,hd,q⟩:=h
 have hx:=Zy I _ _ _ (by omega) h1 rx
 have hin:X.A.in1.units + D.deps ys < cLine:=by show X.A.units + 1 + _ < _;omega
 rcases h2 with h2 | h2
 ·have hy:=Zy I _ _ _ (by simp only [D.dep];omega) h2 ry
  simp only [Hr] at hy
  obtain ⟨p,its,rfl,hl,hr⟩:=hy
  refine SeqAt.notIn_listAt (eqH s dx) hl (fun w hw=>Zal hx hin hr w (by simpa using hw)) ⟨.bl _,H,I,rfl,?_⟩
  rw [show its.toArray.any (eqH s dx)=its.any (eqH s dx) by simp,Zcz hr]
  exact q
 ·have hy:=Zy I _ _ _ (by simp only [D.dep];omega) h2 ry
  simp only [Hr] at hy
  obtain ⟨p,its,rfl,hl,hr⟩:=hy
  refine SeqAt.notIn_tupleAt (eqH s dx) hl (fun w hw=>Zal hx hin hr w (by simpa using hw)) ⟨.bl _,H,I,rfl,?_⟩
  rw [show its.toArray.any (eqH s dx)=its.any (eqH s dx) by simp,Zcz hr]
  exact q
omit hu
theorem ZiH:ZaJ X (rInD X.K true) f g (tNi f g):=⟨fun env k e=>by
 unfold tNi at e
 split at e
 ·rename_i k' e'
  cases e
  unfold tIn at e'
  split at e'
  ·rename_i x ys h1 h2
   split at e'
   ·rename_i hd;cases e';exact ⟨x,_,h1,h2,fun v w H' Q r1 r2 q=>⟨x,ys,r1,.inl r2,hd,q⟩⟩
   ·cases e'
  ·rename_i x ys h1 h2
   split at e'
   ·rename_i hd;cases e';exact ⟨x,_,h1,h2,fun v w H' Q r1 r2 q=>⟨x,ys,r1,.inr r2,hd,q⟩⟩
   ·cases e'
  ·cases e'
 ·cases e⟩
include hu
theorem Zjo (ha:PD X m1 a f)(hb:PD X m2 b g)(hm:behindInMarks .NotIn b=false:=by with_unfolding_all rfl):PTd X (.Compare a [.NotIn] [b] pos) (tNi f g):=JX (ZiS hu) ZiH hm ha hb
omit hu
theorem ZhV {K:PySem.W.Frag}{H:Hp}{d:D}{v:V}(h:Rep K H d v):decide (v=.non)=d.isN:=by
 cases d <;> simp only [Rep,D.isN] at h ⊢
 ·subst h;simp
 ·subst h;simp
 ·subst h;simp
 ·subst h;simp
 ·obtain ⟨a,vs,rfl,_⟩:=h;simp
 ·obtain ⟨a,vs,rfl,_⟩:=h;simp
 ·obtain ⟨a,o,rfl,_⟩:=h;simp
theorem ZhK:ZaJ X (fun x y H Q=>y=.non∧Q (.bl (decide (x=.non))) H) f (eC .non) (tIsN f):=⟨fun env k e=>by
 unfold tIsN at e
 split at e
 ·rename_i x h1
  cases e
  exact ⟨x,.non,h1,rfl,fun v w H' Q r1 r2 q=>⟨by simpa [Rep] using r2,by rw [ZhV r1];exact q⟩⟩
 ·cases e⟩
theorem ZiD {j p2}(ha:PD X m1 a f):PTd X (.Compare a [.Is] [.Constant .none j p2] pos) (tIsN f):=JX L2.Zin ZhK (L2.ZR _) ha (Za0 (m:=.r))
noncomputable def PWd (X:Cx) (e:Expr) (t:Tx):Prop:=PW X e (tTst X.K t)
theorem pw_t (h:PWd X a t):PTd X a t:=h _
theorem ZfA (ha:PTd X a t):PWd X (.BoolOp .And [a] pos) t:=L2.ZhS ha
theorem ZaO (ha:PTd X a t):PWd X (.BoolOp .Or [a] pos) t:=L2.Ziw ha
theorem ZiY (ha:PTd X a t)(hb:PWd X (.BoolOp .And (b::rest) pos) u):PWd X (.BoolOp .And (a::b::rest) pos) (tAnd t u):=PW.of (L2.Zif ha hb) fun σ H Q hh_=>el9 hh_ fun BF BH F env L k S e q=>by
 unfold tAnd at e
 split at e
 ·rename_i h1
  exact ⟨BF,BH,F,env,L,true,S,h1,fun F' H' z=>L2.iteT (⟨BF,BH,F',env,L,k,S.ext z,e,fun F2 H2 z2=>q F2 H2 (z.trans z2)⟩)⟩
 ·rename_i h1
  cases e
  exact ⟨BF,BH,F,env,L,false,S,h1,fun F' H' z=>L2.iteF (q F' H' z)⟩
 ·cases e
theorem Zcp (ha:PTd X a t)(hb:PWd X (.BoolOp .Or (b::rest) pos) u):PWd X (.BoolOp .Or (a::b::rest) pos) (tOr t u):=PW.of (L2.Zi7 ha hb) fun σ H Q hh_=>el9 hh_ fun BF BH F env L k S e q=>by
 unfold tOr at e
 split at e
 ·rename_i h1
  cases e
  exact ⟨BF,BH,F,env,L,true,S,h1,fun F' H' z=>L2.iteT (q F' H' z)⟩
 ·rename_i h1
  exact ⟨BF,BH,F,env,L,false,S,h1,fun F' H' z=>L2.iteF (⟨BF,BH,F',env,L,k,S.ext z,e,fun F2 H2 z2=>q F2 H2 (z.trans z2)⟩)⟩
 ·cases e
theorem Zb0 (ha:PTd X a t):PTd X (.UnaryOp .Not a pos) (tNot t):=PT.of (L2.Zb0 ha) fun σ H Q hh_=>el9 hh_ fun BF BH F env L k S e q=>by
 unfold tNot at e
 split at e
 ·rename_i k' h1
  cases e
  exact ⟨BF,BH,F,env,L,k',S,h1,fun F' H' z=>q F' H' z⟩
 ·cases e
theorem ZcW (ha:PD X m a (eB t)):PD X m (.BoolOp .And [a] pos) (eB t):=PD.mk <| L2.Zi4 ha.h
theorem ZiE {env:Env}{d:D}(h:eB t env=some d):∃ k,t env=some k∧d=.bl k:=by
 unfold eB at h
 split at h
 ·rename_i k hk;cases h;exact ⟨k,hk,rfl⟩
 ·cases h
theorem Zfb {env:Env}{k:Bool}(h:t env=some k):eB t env=some (.bl k):=by unfold eB;rw [h]
theorem Zf2 (ha:PD X m1 a (eB t))(hb:PD X m2 (.BoolOp .And (b::rest) pos) (eB u)):PD X m (.BoolOp .And (a::b::rest) pos) (eB (tAnd t u)):=PD.mk <| PE.of (L2.Zix ha.h hb.h) fun σ H Q hh_=>el9 hh_ fun BF BH F env L d S e q=>by
 obtain ⟨k,hk,rfl⟩:=ZiE e
 unfold tAnd at hk
 split at hk
 ·rename_i h1
  exact ⟨BF,BH,F,env,L,_,S,Zfb h1,fun v F' H' z r=>⟨true,Zcl r,L2.iteT (⟨BF,BH,F',env,L,_,S.ext z,Zfb hk,fun w F2 H2 z2 r2=>q w F2 H2 (z.trans z2) (r2.scal rfl)⟩)⟩⟩
 ·rename_i h1
  cases hk
  exact ⟨BF,BH,F,env,L,_,S,Zfb h1,fun v F' H' z r=>⟨false,Zcl r,L2.iteF (q _ F' H' z (by simp [Rep]))⟩⟩
 ·cases hk
end
end PV
set_option linter.all false
set_option Elab.async false
set_option maxRecDepth 100000
set_option maxHeartbeats 4000000
namespace PV
open PySem PySem.Spec PyProof.Rows
open L2 (V Hp HO Vals SqL SqT Same upd Cx PE PT PW PA PS PSs TE TT TA TS Inv RelV Zb Yb Jb)
structure Bt (mg:Str→Option Value):Prop where
 len:mg "len"=none
 range:mg "range"=none
 list:mg "list"=none
 all:mg "all"=none
 isinstance:mg "isinstance"=none
 max:mg "max"=none
 int:mg "int"=none
 bool:mg "bool"=none
 str:mg "str"=none
 tuple:mg "tuple"=none
 sorted:mg "sorted"=none
 set:mg "set"=none
 any:mg "any"=none
 enumerate:mg "enumerate"=none
 dict:mg "dict"=none
theorem Zb1:lim≤sizeLine:=by rw [sizeLine_eq];decide
theorem Zfl:lim < sizeLine:=by rw [sizeLine_eq];decide
section
variable {X:Cx} {m m1 m2 m3:Md} {a b c e:Expr} {es:List Expr} {f g h:Ex} {fs:List Ex} {t u:Tx} {pos:Pos}
noncomputable def tAs (K:PySem.W.Frag) (m:Md) (fs:List Ex):TA:=fun σ H Q=>∃ BF BH F env L ds,SOk K BF BH F H σ env L∧evs fs env=some ds ∧
 ∀ vs F' H',Ext F H F' H'→Reps K (hpM BH F' H' m) ds vs→Q vs H'
structure PAd (X:Cx)(m:Md)(es:List Expr)(fs:List Ex):Prop where
 h:PA X es (tAs X.K m fs)
theorem PA.of {X:Cx}{e:List Expr}{t t':TA}(h:PA X e t')(i:∀ σ H Q,t σ H Q→t' σ H Q):PA X e t:=fun pos pins s σ H Q I q=>h pos pins s σ H Q I (i σ H Q q)
theorem Yi:PAd X m [] []:=PAd.mk <| PA.of L2.Jp fun σ H Q hh_=>el9 hh_ fun BF BH F env L ds S e q=>by
 cases e;exact q [] F H (.refl S.fh) Reps.nil
theorem Ja (ha:PD X m e f)(hr:PAd X m es fs)(hs:nst e=true:=by rfl):PAd X m (e::es) (f::fs) :=
 PAd.mk <| PA.of (L2.Zj ha.h hr.h (Yd hs)) fun σ H Q hh_=>el9 hh_ fun BF BH F env L ds S e q=>by
  simp only [evs] at e
  split at e
  ·rename_i d ds' h1 h2
   cases e
   exact ⟨BF,BH,F,env,L,d,S,h1,fun v F1 H1 x1 r1=>⟨BF,BH,F1,env,L,ds',S.ext x1,h2,fun vs F2 H2 x2 r2=>q (v::vs) F2 H2 (x1.trans x2) (Reps.cons (Rep.mono (YS x2 m) _ _ r1) r2)⟩⟩
  ·cases e
theorem Zeg {env:Env}:∀ {fs:List Ex} {ds:List D},evs fs env=some ds→ds.length=fs.length
 | [],ds,h=>by cases h;rfl
 | f::fs,ds,h=>by
  simp only [evs] at h
  split at h
  ·rename_i d ds' h1 h2;cases h;simp [Zeg h2]
  ·cases h
theorem Zet {K:PySem.W.Frag}{BF BH F F1 H H1:Hp}{σ:L2.St}{env:Env}{L:Nat→List Addr}(S:SOk K BF BH F H σ env L)(x:Ext F H F1 H1){p:Addr}(hp:H1 p=none)(o:HO) :
  Ext F H F1 (upd H1 p o)∧H p=none∧F1 p=none∧Same (hpM BH F1 H1 m) (hpM BH F1 (upd H1 p o) m) :=
 ⟨x.trans (Ext.own x.fh hp),x.hh.free hp,x.fh.free hp,YS (Ext.own x.fh hp) m⟩
theorem Za7 (ha:PAd X m es fs)(hl:fs.length≤1000:=by decide):PDo X m (.List es pos) (eLst fs):=PE.of (L2.ZiU ha.h) fun σ H Q hh_=>el9 hh_ fun BF BH F env L ds S e q=>by
 unfold eLst at e
 split at e
 ·rename_i ds' h1
  cases e
  refine ⟨BF,BH,F,env,L,ds,S,h1,fun vs F' H' x r=>⟨?_,fun p hp=>?_⟩⟩
  ·rw [← r.length,Zeg h1];exact Nat.le_trans hl (by rw [sizeLine_eq];decide)
  ·obtain ⟨y,h0,h2,s⟩:=Zet (m:=m) S x hp (HO.lst vs)
   exact q p vs F' _ y h0 Zb h2 (Reps.mono s _ _ r)
 ·cases e
theorem Zgm {env:Env}{d:D}(h:eLst fs env=some d):∃ ds,d=.lst ds:=by
 unfold eLst at h
 split at h
 ·cases h;exact ⟨_,rfl⟩
 ·cases h
theorem Zac (ha:PAd X m es fs)(hl:fs.length≤1000:=by decide):PD X m (.List es pos) (eLst fs):=(Za7 ha hl).d fun env d h=>Zgm h
theorem Zfc {prog:Program}{w:World}{A:Around}{E:Value→Shared→Prop}{s:Shared}{l b:Addr}{its its2:Array Value}{Q:Value→Shared→Prop}(hl:s.heap.IsList l its)(hb:s.heap.IsList b its2)
  (h:Q (.ref s.heap.objs.size) { s with heap:=s.heap.push { cls:=.type "list",data:=.seq (its++its2) } }) (hsz:its.size + its2.size≤sizeLine):wpAny (model prog w) A (binaryOp .Add (.ref l) (.ref b)) Q E s:=by
 obtain ⟨⟨cls,dd,data,sl⟩,ho,hc,n,hd⟩:=id hl
 obtain ⟨⟨cls2,dd2,data2,sl2⟩,ho2,hc2,n2,hd2⟩:=id hb
 simp only at hc hd hc2 hd2
 subst hc hd hc2 hd2
 exact concat_meets ⟨_,ho,rfl⟩ ⟨_,ho2,rfl⟩ noFill_list_add seq_list_add PySem.F.slot_list_add PySem.F.entry_list_add (PySem.F.args_list_add_2 _ _) (list_addW l b its its2 n n2 dd dd2 sl sl2 hsz) ⟨ho,ho2,h⟩
theorem Zhg:L2.OpR X (binaryOp .Add) (fun x y H Q=>∃ l b xs zs,x=.ref l∧y=.ref b∧SqL X.K H l xs∧SqL X.K H b zs∧xs.length + zs.length≤sizeLine∧∀ p,H p=none→Q (.ref p) (upd H p (.lst (xs++zs)))):=by
 intro pins s σ H x y v u Q I rx ry h
 obtain ⟨l,b,xs,zs,rfl,rfl,hH,hB,hz,q⟩:=h
 cases rx
 cases ry
 obtain ⟨its,r,p,z⟩:=I.list hH
 obtain ⟨its2,r2,p2,z2⟩:=I.list hB
 have hl:=r.length
 have hl2:=r2.length
 have ea:its.toArray++its2.toArray=(its++its2).toArray:=by simp
 refine Zfc p.isList p2.isList ?_ (by rw [List.size_toArray,List.size_toArray];omega)
 rw [ea]
 exact ⟨.ref _,_,I.lnew (t':=s.toks) (r.append r2) (by rw [List.length_append];omega),rfl,q _ I.fresh⟩
theorem Jy (ha:PD X m a f)(hb:PD X m b g):PD X m (.BinOp a .Add b pos) (eAdd f g):=PD.mk <| PE.of (L2.Zdj (L2.OpR.or L2.ZiJ Zhg) ha.h hb.h) fun σ H Q hh_=>el9 hh_ fun BF BH F env L d S e q=>by
 unfold eAdd eF2 at e
 split at e
 ·rename_i x y h1 h2
  unfold fAdd at e
  split at e
  ·cases e
   exact two S h1 h2 fun v w F' H' z r1 r2=>.inl ⟨_,_,Yp r1,Yp r2,q _ F' H' z (by simp [Rep])⟩
  ·split at e
   ·rename_i xs ys hl
    cases e
    refine two S h1 h2 fun v w F' H' z r1 r2=>.inr ?_
    simp only [Rep] at r1 r2
    obtain ⟨p1,vs,rfl,s1,t1⟩:=r1
    obtain ⟨p2,ws,rfl,s2,t2⟩:=r2
    have hh:=Ze7 (BH:=BH) z.fh m
    refine ⟨p1,p2,vs,ws,rfl,rfl,hh.seq s1,hh.seq s2,?_,fun p hp=>?_⟩
    ·rw [← t1.length,← t2.length];exact Nat.le_trans hl Zb1
    ·have y:=Ext.laid (o:=HO.lst (vs++ws)) z.fh hp
     refine q (.ref p) _ _ (z.trans y) ?_
     simp only [Rep]
     refine ⟨p,_,rfl,.inl (.inl ?_),Reps.mono (YS y m) _ _ (t1.append t2)⟩
     cases m with
     | r=>exact Zb
     | k=>exact Zb
     | f=>show cut _ _ p=_;rw [Zau (S.s0.free (z.hh.free hp))];exact Zb
   ·cases e
  ·cases e
 ·cases e
theorem ZfV {K:PySem.W.Frag}{H:Hp}{ds:List D}{vs:List V}{i:Int}{d:D}(r:Reps K H ds vs)(h:atD ds i=some d):∃ v,L2.atI vs i=some v∧Rep K H d v:=by
 unfold atD at h
 unfold L2.atI
 rw [← r.length]
 show ∃ v,((ixN ds.length i).bind fun j=>vs[j]?)=some v∧_
 cases e:ixN ds.length i with
 | none=>rw [e] at h;cases h
 | some j =>
  rw [e] at h
  obtain ⟨v,h1,h2⟩:=r.get (i:=j) h
  exact ⟨v,h1,h2⟩
theorem Zde (ha:PD X m a f)(hb:PD X m1 b g)(hs:L2.Zep b:=by exact fun _ _=>rfl):PD X m (.Subscript a b pos) (eIx f g):=PD.mk <| PE.of (L2.Zjg L2.Zib ha.h hb.h hs) fun σ H Q hh_=>el9 hh_ fun BF BH F env L d S e q=>by
 unfold eIx eF2 at e
 split at e
 ·rename_i x y h1 h2
  refine two S h1 h2 fun v w F' H' z r1 r2=>?_
  have hh:=Ze7 (BH:=BH) z.fh m
  unfold fIx at e
  split at e
  ·simp only [Rep] at r1
   obtain ⟨p,vs,rfl,s1,t1⟩:=r1
   obtain ⟨v',k1,k2⟩:=ZfV t1 e
   exact .inl ⟨p,vs,_,v',rfl,Yp r2,hh.seq s1,k1,q _ F' H' z k2⟩
  ·simp only [Rep] at r1
   obtain ⟨p,vs,rfl,s1,t1⟩:=r1
   obtain ⟨v',k1,k2⟩:=ZfV t1 e
   exact .inr (.inl ⟨p,vs,_,v',rfl,Yp r2,seqT hh s1,k1,q _ F' H' z k2⟩)
  ·cases e
 ·cases e
noncomputable def tOo (K:PySem.W.Frag) (o:Env→Option (Option Int)):L2.TO:=fun σ H Q=>∃ BF BH F env L i,SOk K BF BH F H σ env L∧o env=some i∧∀ F' H',Ext F H F' H'→Q i H'
noncomputable def POd (X:Cx) (e:Option Expr) (o:Env→Option (Option Int)):Prop:=L2.PO X e (tOo X.K o)
theorem Zbp:POd X none oNo:=fun pins s σ H Q I ⟨BF,BH,F,env,L,i,S,e,q⟩=>L2.ZhR pins s σ H Q I (by cases e;exact q F H (.refl S.fh))
theorem Zbl (ha:PD X m a f):POd X (some a) (oAt f):=fun pins s σ H Q I ⟨BF,BH,F,env,L,i,S,e,q⟩=>L2.ZhY ha.h pins s σ H Q I (by
 unfold oAt at e
 split at e
 ·rename_i k hk
  cases e
  exact ⟨BF,BH,F,env,L,_,S,hk,fun v F' H' x r=>⟨k,Yp r,q F' H' x⟩⟩
 ·cases e)
theorem Zdf {x:Str}{id:String}{p:Pos}{r:List V→Hp→L2.VK→Prop}{φ:D→Option D}(hc:L2.Yu X (.builtin id) r)(hm:X.mg x=none)(hv:bootBuiltins x=some (.builtin id))
  (hφ:∀ d y H' v (Q:V→Hp→Prop),φ d=some y→Rep X.K H' d v→(∀ w,Rep X.K H' y w→Q w H')→r [v] H' Q∧ZaF y=true)
  (ha:PD X m1 a f) (hg:X.env.kindOf x=some .globalImplicit:=by kernel_rfl) (hn:x≠"__name__":=by decide) (hdb:(x == ("__debug__":Str))=false:=by kernel_rfl) (hs:nst a=true:=by rfl):PD X m (.Call (.Name x p) [a] [] pos) (eF1 φ f) :=
 PD.mk <| PE.of (L2.ZaI hc hg hm hv (L2.Zj ha.r.h L2.Jp (Yl hs)) hn hdb (Yd hs) rfl) fun σ H Q hh_=>el9 hh_ fun BF BH F env L d S e q=>by
  unfold eF1 at e
  split at e
  ·rename_i y h1
   refine ⟨BF,BH,F,env,L,y,S,h1,fun v F' H' z r1=>?_⟩
   have sc:=(hφ y d H' v (fun _ _=>True) e r1 (fun _ _=>trivial)).2
   exact (hφ y d H' v Q e r1 fun w rw=>q w F' H' z (rw.scal sc)).1
  ·cases e
theorem Y8 {p:Pos} (T:Bt X.mg) (ha:PD X m1 a f) (hg:X.env.kindOf "len"=some .globalImplicit:=by kernel_rfl) (hs:nst a=true:=by rfl):PD X m (.Call (.Name "len" p) [a] [] pos) (eF1 fLen f) :=
 Zdf L2.ZdY T.len PySem.boot_len (fun d y H' v Q e r k=>by
  unfold fLen at e
  split at e
  ·cases e
   simp only [Rep] at r
   obtain ⟨p,vs,rfl,s1,t1⟩:=r
   exact ⟨⟨p,vs,rfl,.inl s1,k _ (by simp [Rep,t1.length])⟩,rfl⟩
  ·cases e
   simp only [Rep] at r
   obtain ⟨p,vs,rfl,s1,t1⟩:=r
   exact ⟨⟨p,vs,rfl,.inr s1,k _ (by simp [Rep,t1.length])⟩,rfl⟩
  ·cases e) ha hg (by decide) (by decide) hs
theorem ZfJ (hc : X.calm = true) : L2.Yu X (.builtin "all") (fun xs H Q => ∃ (p : Addr) (bs : List Bool), xs = [.ref p] ∧ SqL X.K H p (bs.map V.bl) ∧ Q (.bl (bs.all fun b => b)) H) := by
  intro pins s σ H xs us Q I r h
  obtain ⟨p, bs, rfl, hq, q⟩ := h
  obtain ⟨u, rfl, ru⟩ := r.one
  cases ru
  obtain ⟨its, rv, pl, hz⟩ := I.list hq
  have hlt : p < s.heap.objs.size := by obtain ⟨o, e, _⟩ := pl.isList; exact Heap.lt_size e
  refine call_all_walk (wpAny_pyIter_list pl.isList ?_)
  have hlen : its.length = bs.length := by have := rv.length; rw [List.length_map] at this; exact this.symm
  have tru : ∀ (j : Nat) (v : Value), its[j]? = some v → v = .bool (bs.getD j true) := fun j v hj => by
    have hjl : j < bs.length := by rw [← hlen]; exact (List.getElem?_eq_some_iff.mp hj).1
    obtain ⟨w, h1, h2⟩ := rv.get (i := j) (x := V.bl bs[j]) (by simp [hjl])
    rw [hj] at h1; cases h1
    have : v = .bool bs[j] := h2
    rw [this]; simp [List.getD, hjl]
  refine ⟨s.heap.objs.size, _, _, _, _, _, fun j => bs.getD j true, rfl, Walks.list (show (X.A.in1).handled = none from I.ok.hd hc) s.heap.objs.size p (Nat.ne_of_lt hlt) its.toArray, ⟨⟨_, Heap.get?_push_size _ rfl, rfl, rfl⟩, pl.isList.push _⟩, ?_, fun h' tk hk => ?_⟩
  · intro i v s' Q' E' hP hq'
    have e := tru i v (by simpa using hP)
    subst e
    exact wpAny_truthy_bool hq'
  · have e : (List.range its.toArray.size).all (fun j => bs.getD j true) = bs.all fun b => b := by
      rw [List.size_toArray, hlen]
      clear tru hlen rv hq q hz
      induction bs with
      | nil => rfl
      | cons b bs ih => rw [List.length_cons, List.range_succ_eq_map, List.all_cons, List.all_map]; rw [List.all_cons]; congr 1
    rw [e]
    refine ⟨.bl _, H, I.kept (h' := h') (t' := tk) fun b o eo => ?_, rfl, q⟩
    exact hk b o (by simp; exact Nat.ne_of_lt (Heap.lt_size eo)) (Heap.get?_push_of_some _ eo)
theorem ZdP {K:PySem.W.Frag}{H:Hp}:∀ {xs:List D} {vs:List V} {b:Bool},allB xs=some b→Reps K H xs vs→∃ bs:List Bool,vs=bs.map V.bl∧(bs.all fun b=>b)=b
 | [],vs,b,h,r=>by simp only [Reps] at r;subst r;cases h;exact ⟨[],rfl,rfl⟩
 | .bl c::xs,vs,b,h,r=>by
  simp only [Reps] at r
  obtain ⟨v,t,rfl,h1,h2⟩:=r
  simp only [allB] at h
  cases e:allB xs with
  | none=>rw [e] at h;cases h
  | some d =>
   rw [e] at h
   cases h
   obtain ⟨bs,rfl,rfl⟩:=ZdP e h2
   obtain rfl:=Zcl h1
   exact ⟨c::bs,rfl,rfl⟩
 | .non::_,_,_,h,_=>by simp [allB] at h
 | .int _::_,_,_,h,_=>by simp [allB] at h
 | .str _::_,_,_,h,_=>by simp [allB] at h
 | .lst _::_,_,_,h,_=>by simp [allB] at h
 | .tup _::_,_,_,h,_=>by simp [allB] at h
theorem Zir {p:Pos} (T:Bt X.mg) (ha:PD X m1 a f) (hc:X.calm=true:=by rfl) (hg:X.env.kindOf "all"=some .globalImplicit:=by kernel_rfl) (hs:nst a=true:=by rfl):PD X m (.Call (.Name "all" p) [a] [] pos) (eF1 fAll f) :=
 Zdf (ZfJ hc) T.all boot_all (fun d y H' v Q e r k=>by
  unfold fAll at e
  split at e
  ·split at e
   ·rename_i b hb
    cases e
    simp only [Rep] at r
    obtain ⟨p,vs,rfl,s1,t1⟩:=r
    obtain ⟨bs,rfl,rfl⟩:=ZdP hb t1
    exact ⟨⟨p,bs,rfl,s1,k _ (by simp [Rep])⟩,rfl⟩
   ·cases e
  ·cases e) ha hg (by decide) (by decide) hs
noncomputable def tyN:Ty→String
 | .int=>"int" | .bool=>"bool" | .str=>"str" | .list=>"list" | .tuple=>"tuple"
theorem Zhv {K:PySem.W.Frag}(t:Ty):PySem.W.kitOne K (.type "int") (.type (tyN t))=some (match t with | .int=>true | _=>false):=by cases t <;> with_unfolding_all rfl
theorem Zgz {K:PySem.W.Frag}(t:Ty):PySem.W.kitOne K (.type "bool") (.type (tyN t))=some (match t with | .int=>true | .bool=>true | _=>false):=by cases t <;> with_unfolding_all rfl
theorem Zhm {K:PySem.W.Frag}(t:Ty):PySem.W.kitOne K (.type "str") (.type (tyN t))=some (match t with | .str=>true | _=>false):=by cases t <;> with_unfolding_all rfl
theorem ZgP {K:PySem.W.Frag}(t:Ty):PySem.W.kitOne K (.type "NoneType") (.type (tyN t))=some false:=by cases t <;> with_unfolding_all rfl
theorem Zgt {K:PySem.W.Frag}(t:Ty):PySem.W.kitOne K (.type "list") (.type (tyN t))=some (match t with | .list=>true | _=>false):=by cases t <;> with_unfolding_all rfl
theorem kit_tuple {K:PySem.W.Frag}(t:Ty):PySem.W.kitOne K (.type "tuple") (.type (tyN t))=some (match t with | .tuple=>true | _=>false):=by cases t <;> with_unfolding_all rfl
end
end PV
set_option linter.all false
set_option Elab.async false
set_option maxRecDepth 100000
set_option maxHeartbeats 4000000
namespace PV
open PySem PySem.Spec PyProof.Rows
open L2 (V Hp HO Vals SqL SqT Same upd Cx PE PT PW PA PS PSs TE TT TA TS Inv RelV Zb Yb Jb)
section
variable {X:Cx} {m m1 m2 m3:Md} {a b c e:Expr} {es:List Expr} {f g h:Ex} {fs:List Ex} {t u:Tx} {pos:Pos}
theorem Zgb (t:Ty):L2.Yu X (.builtin "isinstance") (fun xs H Q=>∃ (d:D) (v:V),xs=[v,.ty (tyN t)]∧Rep X.K H d v∧fIs t d=some (.bl (isTy t d))∧Q (.bl (isTy t d)) H):=by
 intro pins s σ H xs us Q I r h
 obtain ⟨d,v,rfl,hd,hk,q⟩:=h
 obtain ⟨u,w,rfl,ru,rw'⟩:=r.two
 obtain rfl:w=Value.type (tyN t):=rw'
 have fin:∀ {k:Bool},k=isTy t d→∀ tk,L2.EP X pins σ Q (.bool k) { s with toks:=tk }:=fun {k} e tk=>⟨.bl k,H,I.tok tk,rfl,by rw [e];exact q⟩
 cases d with
 | dct _=>cases hk
 | non =>
  simp only [Rep] at hd;subst hd;cases ru
  exact PySem.W.kia_one PySem.W.kitx_none I.kIn True.intro (ZgP t) (fun z=>nomatch z) (fin (by cases t <;> rfl))
 | bl b =>
  simp only [Rep] at hd;subst hd;cases ru
  exact PySem.W.kia_one PySem.W.kitx_bool I.kIn True.intro (Zgz t) (fun z=>nomatch z) (fin (by cases t <;> rfl))
 | int i =>
  simp only [Rep] at hd;subst hd;obtain ⟨tk,rfl⟩:=ru
  exact PySem.W.kia_one PySem.W.kitx_int I.kIn True.intro (Zhv t) (fun z=>nomatch z) (fin (by cases t <;> rfl))
 | str i =>
  simp only [Rep] at hd;subst hd;obtain ⟨tk,rfl⟩:=ru
  exact PySem.W.kia_one PySem.W.kitx_str I.kIn True.intro (Zhm t) (fun z=>nomatch z) (fin (by cases t <;> rfl))
 | lst ds =>
  simp only [Rep] at hd
  obtain ⟨p,vs,rfl,hs,_⟩:=hd
  cases ru
  obtain ⟨its,_,pl,_⟩:=I.list hs
  obtain ⟨o,n,h1,h2,_⟩:=pl
  exact PySem.W.kia_one PySem.W.kitx_list I.kIn ⟨o,h1,h2⟩ (Zgt t) (fun z=>nomatch z) (fin (by cases t <;> rfl))
 | tup ds =>
  simp only [Rep] at hd
  obtain ⟨p,vs,rfl,hs,_⟩:=hd
  cases ru
  obtain ⟨its,_,pl,_⟩:=I.tuple hs
  obtain ⟨o,h1,h2,_⟩:=pl
  exact PySem.W.kia_one PySem.W.kitx_tuple I.kIn ⟨o,h1,h2⟩ (kit_tuple t) (fun z=>nomatch z) (fin (by cases t <;> rfl))
theorem Zh6 (t:Ty) {p p2:Pos} {x:Str} (T:Bt X.mg) (hx:X.mg x=none) (hb:bootBuiltins x=some (.type (tyN t))) (ha:PD X m1 a f) (hg:X.env.kindOf "isinstance"=some .globalImplicit:=by kernel_rfl) (hg2:X.env.kindOf x=some .globalImplicit:=by kernel_rfl)
  (hn:x≠"__name__":=by decide) (hd:(x == ("__debug__":Str))=false:=by kernel_rfl)
  (hs:nst a=true:=by rfl):PD X m (.Call (.Name "isinstance" p) [a,.Name x p2] [] pos) (eF1 (fIs t) f) :=
 PD.mk <| PE.of (L2.ZaI (Zgb t) hg T.isinstance boot_isinstance (L2.Zj ha.r.h (L2.Zj (L2.ZeH (v:=.ty (tyN t)) hg2 hx hb rfl hn hd) L2.Jp (Yl rfl)) (Yd hs)) (by decide) (by decide) (Yd hs) rfl) fun σ H Q hh_=>el9 hh_ fun BF BH F env L d S e q=>by
  unfold eF1 at e
  split at e
  ·rename_i y h1
   have hk:fIs t y=some (.bl (isTy t y)):=by
    cases y with
    | dct _=>cases e
    | _=>rfl
   rw [hk] at e
   cases e
   exact ⟨BF,BH,F,env,L,y,S,h1,fun v F' H' z r1=>⟨y,v,rfl,r1,hk,q _ F' H' z (by simp [Rep])⟩⟩
  ·cases e
theorem Ze4 {p p2:Pos} (T:Bt X.mg) (ha:PD X m1 a f) (hg:X.env.kindOf "isinstance"=some .globalImplicit:=by kernel_rfl) (hg2:X.env.kindOf "list"=some .globalImplicit:=by kernel_rfl) (hs:nst a=true:=by rfl):PD X m (.Call (.Name "isinstance" p) [a,.Name "list" p2] [] pos) (eF1 (fIs .list) f) :=
 Zh6 .list T T.list (by decide +kernel) ha hg hg2 (by decide) (by decide) hs
theorem ZdS {x:D}:∀ {ys:List D} {j:Nat},idxD x ys=some j→j < ys.length∧(∀ h:j < ys.length,eqD ys[j] x=true)∧∀ i (h:i < ys.length),i < j→eqD ys[i] x=false
 | [],j,h=>by simp [idxD] at h
 | y::ys,j,h=>by
  simp only [idxD] at h
  split at h
  ·rename_i hy
   cases h
   exact ⟨by simp,fun _=>hy,fun i _ hi=>by omega⟩
  ·rename_i hy
   cases e:idxD x ys with
   | none=>rw [e] at h;cases h
   | some k =>
    rw [e] at h
    cases h
    obtain ⟨h1,h2,h3⟩:=ZdS e
    refine ⟨by simpa using h1,fun _=>by simpa using h2 h1,fun i hi hik=>?_⟩
    cases i with
    | zero=>simpa using hy
    | succ i=>simpa using h3 i (by simpa using hi) (by omega)
theorem ZfG (hu:X.A.units + 64 < cLine):L2.MtR X "list.index" (fun x xs H Q=>∃ (dx:D) (y:V) (ys:List D) (j:Nat),xs=[y]∧Rep X.K H (.lst ys) x∧Rep X.K H dx y∧(D.deps ys≤8∧dx.dep≤8)∧idxD dx ys=some j∧Q (.int j) H):=by
 intro pins s σ H x xs v us Q I rx rv h
 obtain ⟨dx,y,ys,j,rfl,h1,h2,hd,hj,q⟩:=h
 obtain ⟨u,rfl,ru⟩:=rv.one
 have hx:=Zy I _ _ _ (by omega) h2 ru
 have hz:ys.length≤sizeLine:=by
  simp only [Rep] at h1
  obtain ⟨p,vs,rfl,hs,t⟩:=h1
  obtain ⟨_,_,_,z⟩:=I.list hs
  rw [t.length];exact z
 have hy:=Zy I _ _ _ (by simp only [D.dep];omega) h1 rx
 simp only [Hr] at hy
 obtain ⟨p,its,rfl,hl,hr⟩:=hy
 have hin:X.A.in1.units + D.deps ys < cLine:=by show X.A.units + 1 + _ < _;omega
 have hlen:=hr.length
 obtain ⟨j1,j2,j3⟩:=ZdS hj
 have js:(j:Int) < 2 ^ 63 - 1:=by rw [sizeLine_eq] at hz;omega
 obtain ⟨⟨cls,dd,data,sl⟩,ho,hc,n,hdt⟩:=id hl
 simp only at hc hdt
 subst hc hdt
 refine call_meets PySem.F.slot_list_index ⟨_,ho,rfl⟩ PySem.F.entry_list_index (PySem.F.args_list_index_2 _ _)
  (SeqAt.list_indexAt p its.toArray n dd sl u (eqH s dx) j (by simp;omega) js ?_ ?_) ⟨ho,fun y hy=>Zal hx hin hr y (by simpa using hy),?_⟩
 all_goals first
  | exact ⟨.int j,H,I.tok _,⟨_,rfl⟩,q⟩
  | skip
 ·have e:=hr.get j1 (by omega)
  have:=Za6 (x:=dx) e
  simp only [List.getElem_toArray]
  rw [this]
  exact j2 j1
 ·intro i hi hij
  have i1:i < ys.length:=by rw [hlen];simpa using hi
  have e:=hr.get i1 (by omega)
  have:=Za6 (x:=dx) e
  simp only [List.getElem_toArray]
  rw [this]
  exact j3 i i1 hij
end
end PV
set_option linter.all false
set_option Elab.async false
set_option maxRecDepth 100000
set_option maxHeartbeats 4000000
namespace PV
open PySem PySem.Spec PyProof.Rows
open L2 (V Hp HO Vals SqL SqT Same upd Cx PE PT PW PA PS PSs TE TT TA TS Inv RelV Zb Yb Jb)
noncomputable def putL (L:Nat→List Addr) (i:Nat) (l:List Addr):Nat→List Addr:=fun j=>if j=i then l else L j
theorem Yw {L:Nat→List Addr}{i:Nat}{l:List Addr}:putL L i l i=l:=by unfold putL;rw [if_pos rfl]
theorem JG {L:Nat→List Addr}{i j:Nat}{l:List Addr}(h:j≠i):putL L i l j=L j:=by unfold putL;rw [if_neg h]
section
variable {K:PySem.W.Frag} {BF BH F H:Hp} {σ:L2.St} {env:Env} {L:Nat→List Addr}
theorem SOk.Zbj (S:SOk K BF BH F H σ env L):Ext BF BH F H:=⟨S.s0,S.f0,S.fd,S.fh⟩
theorem SOk.set (S:SOk K BF BH F H σ env L)(i:Nat){s:Sl}{v:V}{l:List Addr}(hs:SlOk K BH F H s (some v) l)(ho:∀ a ∈ l,F a=none∧BH a=none∧H a≠none)(hd:∀ a ∈ l,∀ j,j≠i→a ∉ L j) :
  SOk K BF BH F H (σ.set i (some v)) (env.set i s) (putL L i l) where
 s0:=S.s0
 f0:=S.f0
 fh:=S.fh
 fd:=S.fd
 ow:=fun j a h=>by
  by_cases hj:j=i
  ·subst hj;rw [Yw] at h;exact ho a h
  ·rw [JG hj] at h;exact S.ow j a h
 dj:=fun j k a h1 h2=>by
  by_cases hj:j=i
  ·subst hj
   rw [Yw] at h1
   by_cases hk:k=j
   ·exact hk.symm
   ·rw [JG hk] at h2;exact absurd h2 (hd a h1 k hk)
  ·rw [JG hj] at h1
   by_cases hk:k=i
   ·subst hk;rw [Yw] at h2;exact absurd h1 (hd a h2 j hj)
   ·rw [JG hk] at h2;exact S.dj j k a h1 h2
 len:=by rw [List.length_set,List.length_set];exact S.len
 sl:=fun j s' h=>by
  by_cases hj:i=j
  ·subst hj
   have hlt:i < env.length:=by have:=(List.getElem?_eq_some_iff.mp h).1;rwa [List.length_set] at this
   rw [List.getElem?_set_self hlt] at h
   cases h
   exact ⟨some v,List.getElem?_set_self (by rw [S.len];exact hlt),by rw [Yw];exact hs⟩
  ·rw [List.getElem?_set_ne hj] at h
   obtain ⟨ov,h1,h2⟩:=S.sl j s' h
   exact ⟨ov,by rw [List.getElem?_set_ne hj];exact h1,by rw [JG (Ne.symm hj)];exact h2⟩
theorem SOk.Zbs (S:SOk K BF BH F H σ env L)(i:Nat){d:D}{v:V}(r:Rep K F d v):SOk K BF BH F H (σ.set i (some v)) (env.set i (.sh d)) (putL L i []) :=
 S.set i ⟨v,rfl,r⟩ (fun a h=>by cases h) (fun a h=>by cases h)
noncomputable def frzH (F H:Hp) (l:List Addr):Hp:=fun b=>if b ∈ l then H b else F b
theorem JL {F H:Hp}{l:List Addr}{b:Addr}(h:b ∈ l):frzH F H l b=H b:=by unfold frzH;rw [if_pos h]
theorem JK {F H:Hp}{l:List Addr}{b:Addr}(h:b ∉ l):frzH F H l b=F b:=by unfold frzH;rw [if_neg h]
theorem SOk.frz (S:SOk K BF BH F H σ env L)(i:Nat){s s':Sl}(he:env[i]?=some s)(hs:∀ ov,σ[i]?=some ov→SlOk K BH F H s ov (L i)→Same F (frzH F H (L i))→SlOk K BH (frzH F H (L i)) H s' ov []) :
  SOk K BF BH (frzH F H (L i)) H σ (env.set i s') (putL L i []):=by
 have ff:Same F (frzH F H (L i)):=fun b o h=>by
  by_cases hb:b ∈ L i
  ·rw [(S.ow i b hb).1] at h;cases h
  ·rw [JK hb];exact h
 refine ⟨S.s0,S.f0.trans ff,fun b o h=>?_,fun b o h=>?_,fun j a h=>?_,fun j k a h1 h2=>?_,by rw [List.length_set];exact S.len,fun j t h=>?_⟩
 ·by_cases hb:b ∈ L i
  ·rw [JL hb] at h;exact h
  ·rw [JK hb] at h;exact S.fh _ _ h
 ·by_cases hb:b ∈ L i
  ·exact .inr (S.ow i b hb).2.1
  ·rw [JK hb] at h;exact S.fd _ _ h
 ·by_cases hj:j=i
  ·subst hj;rw [Yw] at h;cases h
  ·rw [JG hj] at h
   obtain ⟨h1,h2,h3⟩:=S.ow j a h
   exact ⟨by rw [JK fun z=>hj (S.dj j i a h z)];exact h1,h2,h3⟩
 ·by_cases hj:j=i
  ·subst hj;rw [Yw] at h1;cases h1
  ·by_cases hk:k=i
   ·subst hk;rw [Yw] at h2;cases h2
   ·rw [JG hj] at h1;rw [JG hk] at h2;exact S.dj j k a h1 h2
 ·by_cases hj:i=j
  ·subst hj
   have hlt:i < env.length:=(List.getElem?_eq_some_iff.mp he).1
   rw [List.getElem?_set_self hlt] at h
   cases h
   obtain ⟨ov,h1,h2⟩:=S.sl i s he
   exact ⟨ov,h1,by rw [Yw];exact hs ov h1 h2 ff⟩
  ·rw [List.getElem?_set_ne hj] at h
   obtain ⟨ov,h1,h2⟩:=S.sl j t h
   exact ⟨ov,h1,by rw [JG (Ne.symm hj)];exact h2.ext ff fun a _ o z=>z⟩
theorem SOk.Zbu (S:SOk K BF BH F H σ env L)(i:Nat):Same F (frzH F H (L i)):=fun b o h=>by
 by_cases hb:b ∈ L i
 ·rw [(S.ow i b hb).1] at h;cases h
 ·rw [JK hb];exact h
theorem SOk.own (S:SOk K BF BH F H σ env L){i:Nat}{a:Addr}(ha:a ∈ L i)(o:HO){s':Sl}(hs:∀ s ov,env[i]?=some s→σ[i]?=some ov→SlOk K BH F H s ov (L i)→SlOk K BH F (upd H a o) s' ov (L i)) :
  SOk K BF BH F (upd H a o) σ (env.set i s') L:=by
 obtain ⟨fa,ba,ha'⟩:=S.ow i a ha
 refine ⟨fun b u h=>?_,S.f0,fun b u h=>?_,S.fd,fun j c h=>?_,S.dj,by rw [List.length_set];exact S.len,fun j t h=>?_⟩
 ·rw [Yb (Jb h ba)];exact S.s0 _ _ h
 ·rw [Yb (Jb h fa)];exact S.fh _ _ h
 ·obtain ⟨h1,h2,h3⟩:=S.ow j c h
  refine ⟨h1,h2,?_⟩
  by_cases hc:c=a
  ·subst hc;rw [Zb];simp
  ·rw [Yb hc];exact h3
 ·by_cases hj:i=j
  ·subst hj
   have hlt:i < env.length:=by have:=(List.getElem?_eq_some_iff.mp h).1;rwa [List.length_set] at this
   rw [List.getElem?_set_self hlt] at h
   cases h
   obtain ⟨ov,h1,h2⟩:=S.sl i env[i] (by simp [hlt])
   exact ⟨ov,h1,hs _ _ (by simp [hlt]) h1 h2⟩
  ·rw [List.getElem?_set_ne hj] at h
   obtain ⟨ov,h1,h2⟩:=S.sl j t h
   refine ⟨ov,h1,h2.ext (.refl _) fun c hc u z=>?_⟩
   have hca:c≠a:=fun e=>by subst e;exact hj (S.dj i j c ha hc)
   rw [Yb hca]
   exact z
end
noncomputable abbrev RetP:=Hp→Hp→Hp→D→V→Prop
noncomputable def rk (K:PySem.W.Frag) (m:Md):RetP:=fun BH F' H' d v=>Rep K (hpM BH F' H' m) d v
noncomputable def rT (K:PySem.W.Frag):RetP:=fun BH F' H' d v=>∃ a as rs,d=.lst (rs.map .lst)∧v=.ref a∧H' a=some (.lst (as.map .ref))∧Jk K F' H' rs as∧(a::as).Nodup∧∀ b ∈ a::as,BH b=none∧F' b=none
noncomputable def After (D0:L2.Ends) (m:RetP) (BH F' H':Hp) (σ':L2.St):Out→Prop
 | .nx=>D0.nx σ' H'
 | .bk=>D0.bk σ' H'
 | .ct=>D0.ct σ' H'
 | .rt d=>∀ v,m BH F' H' d v→D0.rt v H'
noncomputable def tS (K:PySem.W.Frag) (m:RetP) (g:St):TS:=fun D0 σ H=>∃ BF BH F env L o env',SOk K BF BH F H σ env L∧g env=some (o,env') ∧
 ∀ F' H' σ' L',SOk K BF BH F' H' σ' env' L'→Same F F'→After D0 m BH F' H' σ' o
structure PSd (X:Cx)(m:RetP)(st:List Stmt)(g:St):Prop where
 h:PSs X st (tS X.K m g)
structure PS1 (X:Cx)(m:RetP)(st:Stmt)(g:St):Prop where
 h:PS X st (tS X.K m g)
section
variable {X:Cx} {m:RetP} {m1 m2:Md} {st:Stmt} {rest:List Stmt} {g g2:St} {e a b:Expr} {f fa fb:Ex} {t:Tx} {pos pos':Pos}
theorem Jw:PSd X m [] Jg:=PSd.mk <| PSs.of L2.Zha fun D0 σ H hh_=>el10 hh_ fun BF BH F env L o env' S e k=>by
 cases e;exact k F H σ L S (.refl _)
theorem Ze (h:PS1 X m st g):PSd X m [st] g:=⟨L2.Zhj h.h⟩
theorem Jc (h1:PS1 X m st g)(h2:PSd X m rest g2):PSd X m (st::rest) (sSeq g g2):=PSd.mk <| PSs.of (L2.Zgd h1.h h2.h) fun D0 σ H hh_=>el10 hh_ fun BF BH F env L o env' S e k=>by
 unfold sSeq at e
 split at e
 ·rename_i env1 h1
  exact ⟨BF,BH,F,env,L,.nx,env1,S,h1,fun F' H' σ' L' S' s'=>⟨BF,BH,F',env1,L',o,env',S',e,fun F2 H2 σ2 L2 S2 s2=>k F2 H2 σ2 L2 S2 (s'.trans s2)⟩⟩
 ·rename_i r hne
  cases hr:g env with
  | none=>rw [hr] at e;cases e
  | some p =>
   obtain ⟨o1,e1⟩:=p
   rw [hr] at e
   cases e
   refine ⟨BF,BH,F,env,L,o,env',S,hr,fun F' H' σ' L' S' s'=>?_⟩
   have kk:=k F' H' σ' L' S' s'
   cases o with
   | nx=>exact absurd hr (hne _)
   | bk=>exact kk
   | ct=>exact kk
   | rt d=>exact kk
theorem ZgN {pins:List (Addr × Obj)}{σ:L2.St}{H:Hp}{s:Shared}{a:Addr}{kvs:List (L2.Key × V)}(I:Inv X pins σ H s)(h:H a=some (.dK kvs)):∃ o,Inv X pins σ (upd H a (.frz o (.dK kvs))) s:=by
 have ok:=I.hok a _ h
 obtain ⟨z,y,vs,r,ob,es,ep,e,c⟩:=ok
 refine ⟨ob,?_⟩
 have hne:∀ b o,H b=some o→(∀ kv,o≠.dK kv)→upd H a (.frz ob (.dK kvs)) b=some o:=fun b o hb hn=>by
  have:b≠a:=fun q=>by subst q;rw [h] at hb;cases hb;exact hn _ rfl
  rw [Yb this];exact hb
 have res:=I.un (t':=s.toks) (h':=s.heap) (H':=upd H a (.frz ob (.dK kvs))) ⟨fun b o q _ _ _=>q,fun b o q _ _ _=>⟨o.slots,q⟩,fun b o q n _=>by
  have:b≠a:=fun q=>by subst q;rw [h] at n;cases n
  rw [Yb this];exact n,fun b o q _=>⟨o,q⟩,fun b xs q=>hne b _ q (fun _ z=>by cases z),fun b o u q=>hne b _ q (fun _ z=>by cases z),fun b ps q=>⟨#[],by rw [hne b _ q (fun _ z=>by cases z)];simp⟩⟩ fun b u q=>by
   by_cases hb:b=a
   ·subst hb
    rw [Zb] at q
    cases q
    refine ⟨e,?_⟩
    exact L2.Ju.stay (I.hok b _ h) (fun _ _ _ q=>q) (fun c q=>hne c _ q (fun _ z=>by cases z)) fun c xs q=>hne c _ q (fun _ z=>by cases z)
   ·rw [Yb hb] at q
    exact L2.Ju.stay (I.hok b _ q) (fun _ _ _ q=>q) (fun c q=>hne c _ q (fun _ z=>by cases z)) fun c xs q=>hne c _ q (fun _ z=>by cases z)
 exact res
theorem ZaZ (i:Nat){sts:List Stmt}(h2:PSd X m sts g2):PSd X m sts (sSeq (sFrz i) g2):=PSd.mk fun pins s0 σ H D0 I hh_=>el10 hh_ fun BF BH F env L o env' S e k=>by
 unfold sSeq sFrz at e
 cases he:env[i]? with
 | none=>rw [he] at e;cases e
 | some s =>
  rw [he] at e
  cases s with
  | un=>cases e
  | dc kvs =>
   obtain ⟨ov,hσ,hso⟩:=S.sl i _ he
   obtain ⟨p,rfl,hl,h3⟩:=hso
   obtain ⟨ob,I'⟩:=ZgN I h3
   have S1:=S.own (i:=i) (a:=p) (by rw [hl];simp) (HO.frz ob (.dK (kvV kvs))) (s':=.un) fun s ov e1 e2 e3=>trivial
   have hlt:i < env.length:=(List.getElem?_eq_some_iff.mp he).1
   have S2:=S1.frz i (s:=.un) (s':=.sh (.dct kvs)) (List.getElem?_set_self hlt) fun ov h1 h ff=>by
    rw [hσ] at h1;cases h1
    refine ⟨_,rfl,?_⟩
    simp only [Rep]
    exact ⟨p,ob,rfl,by rw [JL (by rw [hl];simp)];exact Zb⟩
   rw [List.set_set] at S2
   exact h2.h pins s0 σ _ D0 I' ⟨BF,BH,_,_,_,o,env',S2,e,fun F2 H2 σ2 L2 S2' s2=>k F2 H2 σ2 L2 S2' ((S1.Zbu i).trans s2)⟩
  | jk _=>cases e
  | jl _=>cases e
  | xc _=>cases e
  | nw ds =>
   have S':=S.frz i (s':=.fr (.lst ds)) he fun ov _ h ff=>by
    obtain ⟨p,vs,rfl,hl,h3,r⟩:=h
    refine ⟨_,rfl,?_⟩
    simp only [RepN]
    refine ⟨p,vs,rfl,?_,Yh.mono (Zad ff) _ _ r⟩
    rw [Zau ((S.ow i p (by rw [hl];simp)).2.1),JL (by rw [hl];simp)];exact h3
   exact h2.h pins s0 σ H D0 I ⟨BF,BH,_,_,_,o,env',S',e,fun F2 H2 σ2 L2 S2 s2=>k F2 H2 σ2 L2 S2 ((S.Zbu i).trans s2)⟩
  | sh d=>exact h2.h pins s0 σ H D0 I ⟨BF,BH,F,env,L,o,env',S,e,k⟩
  | fr d=>exact h2.h pins s0 σ H D0 I ⟨BF,BH,F,env,L,o,env',S,e,k⟩
  | ow ds =>
   have S':=S.frz i (s':=.sh (.lst ds)) he fun ov _ h ff=>by
    obtain ⟨p,vs,rfl,hl,h3,r⟩:=h
    refine ⟨_,rfl,?_⟩
    simp only [Rep]
    exact ⟨p,vs,rfl,.inl (.inl (by rw [JL (by rw [hl];simp)];exact h3)),Reps.mono ff _ _ r⟩
   exact h2.h pins s0 σ H D0 I ⟨BF,BH,_,_,_,o,env',S',e,fun F2 H2 σ2 L2 S2 s2=>k F2 H2 σ2 L2 S2 ((S.Zbu i).trans s2)⟩
  | tab rs =>
   have S':=S.frz i (s':=.sh (.lst (rs.map .lst))) he fun ov _ h ff=>by
    obtain ⟨p,as,rfl,hl,nd,h3,r⟩:=h
    refine ⟨_,rfl,?_⟩
    simp only [Rep]
    refine ⟨p,_,rfl,.inl (.inl (by rw [JL (by rw [hl];simp)];exact h3)),?_⟩
    have r':Jk X.K (frzH F H (L i)) (frzH F H (L i)) rs as:=r.mono ff fun b hb o z=>by rw [JL (by rw [hl];exact List.mem_cons_of_mem _ hb)];exact z
    exact r'.reps (.refl _)
   exact h2.h pins s0 σ H D0 I ⟨BF,BH,_,_,_,o,env',S',e,fun F2 H2 σ2 L2 S2 s2=>k F2 H2 σ2 L2 S2 ((S.Zbu i).trans s2)⟩
theorem Zi (ha:PD X m1 e f):PS1 X (rk X.K m1) (.Return (some e) pos) (sRet f):=PS1.mk <| PS.of (L2.Ziy ha.h) fun D0 σ H hh_=>el10 hh_ fun BF BH F env L o env' S e k=>by
 unfold sRet at e
 split at e
 ·rename_i d h1
  cases e
  exact ⟨BF,BH,F,env,L,d,S,h1,fun v F' H' z r=>k F' H' σ L (S.ext z) z.ff v r⟩
 ·cases e
theorem Yx {A B:List Stmt}(hc:PTd X e t)(ha:PSd X m A g)(hb:PSd X m B g2):PS1 X m (.If e A B pos) (sIf t g g2):=PS1.mk <| PS.of (L2.Zjs hc ha.h hb.h) fun D0 σ H hh_=>el10 hh_ fun BF BH F env L o env' S e k=>by
 unfold sIf at e
 split at e
 ·rename_i h1
  exact ⟨BF,BH,F,env,L,true,S,h1,fun F' H' z=>L2.iteT ⟨BF,BH,F',env,L,o,env',S.ext z,e,fun F2 H2 σ2 L2 S2 s2=>k F2 H2 σ2 L2 S2 (z.ff.trans s2)⟩⟩
 ·rename_i h1
  exact ⟨BF,BH,F,env,L,false,S,h1,fun F' H' z=>L2.iteF ⟨BF,BH,F',env,L,o,env',S.ext z,e,fun F2 H2 σ2 L2 S2 s2=>k F2 H2 σ2 L2 S2 (z.ff.trans s2)⟩⟩
 ·cases e
theorem Jf (nd:X.N.Nodup)(i:Nat){x:Str}(ha:PD X .k e f)(hi:X.N[i]?=some x:=by kernel_rfl)(hx:locB X.env.scope x=true:=by kernel_rfl)(hs:swapsWith e (some (.Name x pos')) pos.line X.env=pure false:=by rfl)
  (hf:fnB X x=true:=by kernel_rfl):PS1 X m (.Assign [.Name x pos'] e pos) (sSet i f) :=
 PS1.mk <| PS.of (L2.Zfo nd hi (Z5 hx) ha.h hs (Zay hf)) fun D0 σ H hh_=>el10 hh_ fun BF BH F env L o env' S e k=>by
  unfold sSet at e
  split at e
  ·rename_i d h1
   cases e
   exact ⟨BF,BH,F,env,L,d,S,h1,fun v F' H' z r=>k F' H' _ _ ((S.ext z).Zbs i r) z.ff⟩
  ·cases e
theorem Zhs {K:PySem.W.Frag}{BF BH F F' H H':Hp}{σ:L2.St}{env:Env}{L:Nat→List Addr}(S:SOk K BF BH F H σ env L)(z:Ext F H F' H')(i:Nat){p:Addr}{vs:List V}{ds:List D}(h0:H p=none)(h1:H' p=some (.lst vs))(h2:F' p=none)(r:Reps K F' ds vs) :
  SOk K BF BH F' H' (σ.set i (some (.ref p))) (env.set i (.ow ds)) (putL L i [p]) :=
 (S.ext z).set i ⟨p,vs,rfl,rfl,h1,r⟩ (fun a h=>by
  rw [List.mem_singleton] at h;subst h
  exact ⟨h2,S.s0.free h0,by rw [h1];simp⟩) (fun a h j hj hm=>by
  rw [List.mem_singleton] at h;subst h
  exact (S.ow j a hm).2.2 h0)
theorem Zf4 (nd:X.N.Nodup)(i:Nat){x:Str}(ha:PDo X .k e f)(hi:X.N[i]?=some x:=by kernel_rfl)(hx:locB X.env.scope x=true:=by kernel_rfl)(hs:swapsWith e (some (.Name x pos')) pos.line X.env=pure false:=by rfl)
  (hf:fnB X x=true:=by kernel_rfl):PS1 X m (.Assign [.Name x pos'] e pos) (sOwn i f) :=
 PS1.mk <| PS.of (L2.Zfo nd hi (Z5 hx) ha hs (Zay hf)) fun D0 σ H hh_=>el10 hh_ fun BF BH F env L o env' S e k=>by
  unfold sOwn at e
  split at e
  ·rename_i ds h1
   cases e
   exact ⟨BF,BH,F,env,L,ds,S,h1,fun p vs F' H' z h0 h2 h3 r=>k F' H' _ _ (Zhs S z i h0 h2 h3 r) z.ff⟩
  ·cases e
theorem Zi5 {K:PySem.W.Frag}{H:Hp}{p:Addr}{vs:List V}(h:H p=some (.lst vs)):L2.tyV K "list" (.ref p) H:=.inl ⟨rfl,vs,.inl (.inl h)⟩
theorem Zjp {K:PySem.W.Frag}{BF BH F H:Hp}{σ:L2.St}{env:Env}{L:Nat→List Addr}(S:SOk K BF BH F H σ env L){i:Nat}{ds:List D}(h:env[i]?=some (.ow ds)):∃ p vs,σ[i]?=some (some (.ref p))∧L i=[p]∧H p=some (.lst vs)∧Reps K F ds vs:=by
 obtain ⟨ov,h1,h2⟩:=S.sl i _ h
 obtain ⟨p,vs,rfl,h3,h4,h5⟩:=h2
 exact ⟨p,vs,h1,h3,h4,h5⟩
theorem ZiR {K:PySem.W.Frag}{BF BH F H:Hp}{σ:L2.St}{env:Env}{L:Nat→List Addr}(S:SOk K BF BH F H σ env L){i:Nat}{ds ds':List D}{p:Addr}{vs':List V}(he:env[i]?=some (.ow ds))(hl:L i=[p])(hσ:σ[i]?=some (some (.ref p)))(r:Reps K F ds' vs') :
  SOk K BF BH F (upd H p (.lst vs')) σ (env.set i (.ow ds')) L :=
 S.own (i:=i) (a:=p) (by rw [hl];simp) _ fun s ov h1 h2 h3=>by
  rw [hσ] at h2;cases h2
  exact ⟨p,vs',rfl,hl,Zb,r⟩
theorem ZfM (i:Nat) {x:Str} {p1 p2 p3 p4:Pos} (ha:PD X .k e f) (hN:X.N[i]?=some x:=by kernel_rfl) (hv:visB X.env.scope x=true:=by kernel_rfl) (hd:(x == ("__debug__":Str))=false:=by kernel_rfl)
  (hcd:(x == ("__classdict__":Str))=false:=by kernel_rfl) (hst:nst e=true:=by rfl)
  (hbase:attributeBase (.Name x p1) "append" X.env (eval (.Name x p1) X.env)=eval (.Name x p1) X.env:=by rfl)
  (hline:(p2.endLine == p3.line)=true:=by rfl)
  (hsw:swapsWith (.Call (.Attribute (.Name x p1) "append" p2) [e] [] p3) none p4.line X.env=pure false:=by rfl) :
  PS1 X m (.Expr (.Call (.Attribute (.Name x p1) "append" p2) [e] [] p3) p4) (sApp i f) :=
 PS1.mk <| PS.of (L2.Zhk (L2.Zbi PySem.F.plainAttrs_list PySem.F.slot_list_append PySem.F.type_list_append L2.ZaT (L2.Zav hN (Z4 hv) hd hcd) (L2.Zj ha.h L2.Jp (Yl hst)) hbase (by rw [ZK (ZS hst)];rfl) hline (Yd hst) rfl) hsw) fun D0 σ H hh_=>el10 hh_ fun BF BH F env L o env' S e k=>by
  unfold sApp at e
  split at e
  ·rename_i ds d he h1
   split at e
   ·rename_i hlen
    cases e
    obtain ⟨p,vs,hσ,hl,hp,r⟩:=Zjp S he
    refine ⟨_,hσ,Zi5 hp,BF,BH,F,env,L,d,S,h1,fun v F' H' z rv=>?_⟩
    have S':=S.ext z
    have r':Reps X.K F' (ds++[d]) (vs++[v]):=(Reps.mono z.ff _ _ r).append (Reps.cons rv Reps.nil)
    refine ⟨p,vs,v,rfl,rfl,z.hh _ _ hp,by rw [← r.length];exact Nat.lt_of_lt_of_le hlen Zb1,?_⟩
    exact k F' _ σ L (ZiR S' he hl hσ r') z.ff
   ·cases e
  ·cases e
end
end PV
set_option linter.all false
set_option Elab.async false
set_option maxRecDepth 100000
set_option maxHeartbeats 4000000
namespace PV
open PySem PySem.Spec PyProof.Rows
open L2 (V Hp HO Vals SqL SqT Same upd Cx PE PT PW PA PS PSs TE TT TA TS Inv RelV Zb Yb Jb)
section
variable {X:Cx} {m:RetP} {m1 m2 m3:Md} {st:Stmt} {rest:List Stmt} {g g2 b:St} {e a c:Expr} {f fa fb fc:Ex} {t:Tx} {pos pos' p1 p2 p3:Pos}
theorem Jk.set {K:PySem.W.Frag}{F H:Hp}:∀ {rs:List (List D)} {as:List Addr} {j:Nat} {r:List D} {a:Addr} {vs':List V},as.Nodup→Jk K F H rs as→as[j]?=some a→Reps K F r vs'→Jk K F (upd H a (.lst vs')) (rs.set j r) as
 | [],as,j,r,a,vs',_,h,e,_=>by have z:as=[]:=h;subst z;simp at e
 | r0::rs,as,0,r,a,vs',nd,h,e,h'=>by
  obtain ⟨b,t,vs,rfl,h1,h2,h3⟩:=h
  have e':b=a:=by simpa using e
  subst e'
  obtain ⟨n1,n2⟩:=List.nodup_cons.mp nd
  exact ⟨b,t,vs',rfl,Zb,h',h3.mono (.refl _) fun c hc o z=>by rw [Yb (fun q=>n1 (by rw [← q];exact hc))];exact z⟩
 | r0::rs,as,j + 1,r,a,vs',nd,h,e,h'=>by
  obtain ⟨b,t,vs,rfl,h1,h2,h3⟩:=h
  obtain ⟨n1,n2⟩:=List.nodup_cons.mp nd
  have e':t[j]?=some a:=by simpa using e
  exact ⟨b,t,vs,rfl,by rw [Yb (fun q=>n1 (by rw [q];exact List.mem_of_getElem? e'))];exact h1,h2,Jk.set n2 h3 e' h'⟩
structure ItOk (K:PySem.W.Frag)(J:L2.It)(F:Hp)(ds:List D):Prop where
 stop:∀ H,Same F H→J.stop ds.length H
 go:∀ i H,Same F H→i < ds.length→J.go i H
 yld:∀ i H x H' F0,Same F F0→Same F0 H→i < ds.length→J.yld i H x H'→∃ d F2,ds[i]?=some d∧Ext F0 H F2 H'∧Rep K F2 d x
noncomputable def tIt (K:PySem.W.Frag) (lx:Lx):L2.TI:=fun σ H R=>∃ BF BH F env L ds,SOk K BF BH F H σ env L∧lx env=some ds∧∀ J F' H',Ext F H F' H'→ItOk K J F' ds→R J H'
noncomputable def PId (X:Cx) (tg iter:Expr) (lx:Lx):Prop:=L2.PI X tg iter (tIt X.K lx)
theorem PI.of {tg iter:Expr}{w w':L2.TI}(h:L2.PI X tg iter w')(i:∀ σ H R,w σ H R→w' σ H R):L2.PI X tg iter w:=fun pins s σ H R I q=>h pins s σ H R I (i σ H R q)
noncomputable def iSeq (K:PySem.W.Frag) (tl:TE):L2.TI:=fun σ H R=>tl σ H fun x H1=>∃ p,x=.ref p∧(((∃ xs,SqL K H1 p xs)∧R (L2.Itl K p) H1)∨((∃ xs,SqT K H1 p xs)∧R (L2.Itt K p) H1))
theorem Zia {tg l:Expr}{tl:TE}(hl:PE X l tl):L2.PI X tg l (iSeq X.K tl):=by
 intro pins s σ H R I h
 refine L2.thn (hl pins s σ H _ I h) fun v s1 ⟨x,H1,I1,r1,q1⟩=>?_
 obtain ⟨p,e,q1⟩:=q1
 subst e
 cases r1
 rcases q1 with ⟨⟨xs,hq⟩,q⟩ | ⟨⟨xs,hq⟩,q⟩
 ·obtain ⟨its,rv,pl,hz⟩:=I1.list hq
  refine wpAny_pyIter_list pl.isList ?_
  refine ⟨s1.heap.objs.size,[s1.heap.objs.size],_,_,H1,rfl,I1.kept (t':=s1.toks) fun b o e=>Heap.get?_push_of_some _ e,L2.Zfz p _,⟨_,Heap.get?_push_size _ rfl,rfl,rfl⟩,fun b hb=>?_,q⟩
  have e:b=s1.heap.objs.size:=by simpa using hb
  subst e
  exact I1.fpOk (Nat.le_refl _) (I1.hok.fresh (Nat.le_refl _))
 ·obtain ⟨its,rv,pl,hz⟩:=I1.tuple hq
  refine wpAny_pyIter_tuple (show s1.heap.IsTuple p its.toArray from pl) ?_
  refine ⟨s1.heap.objs.size,[s1.heap.objs.size],_,_,H1,rfl,I1.kept (t':=s1.toks) fun b o e=>Heap.get?_push_of_some _ e,L2.Ze3 p _,⟨_,Heap.get?_push_size _ rfl,rfl,rfl⟩,fun b hb=>?_,q⟩
  have e:b=s1.heap.objs.size:=by simpa using hb
  subst e
  exact I1.fpOk (Nat.le_refl _) (I1.hok.fresh (Nat.le_refl _))
theorem Z1 {tg:Expr}(ha:PD X .k a f):PId X tg a (iOf f):=PI.of (Zia ha.h) fun σ H R hh_=>el9 hh_ fun BF BH F env L ds S e q=>by
 unfold iOf at e
 split at e
 ·rename_i xs h1
  cases e
  refine ⟨BF,BH,F,env,L,_,S,h1,fun v F' H' z r=>?_⟩
  simp only [Rep] at r
  obtain ⟨p,vs,rfl,hs,t⟩:=r
  refine ⟨p,rfl,.inl ⟨⟨vs,z.fh.seq hs⟩,q _ F' H' z ⟨fun H2 s2=>⟨vs,s2.seq hs,by rw [t.length];exact Nat.le_refl _⟩,fun i H2 s2 hi=>?_,fun i H2 x H3 F0 s1 s2 hi hy=>?_⟩⟩⟩
  ·exact ⟨vs,vs[i]'(by rw [← t.length];exact hi),s2.seq hs,by simp [← t.length,hi]⟩
  ·obtain ⟨rfl,hy⟩:=hy
   obtain ⟨d,k1,k2⟩:=t.getV (hy vs ((s1.trans s2).seq hs))
   exact ⟨d,F0,k1,.refl s2,Rep.mono s1 _ _ k2⟩
 ·rename_i xs h1
  cases e
  refine ⟨BF,BH,F,env,L,_,S,h1,fun v F' H' z r=>?_⟩
  simp only [Rep] at r
  obtain ⟨p,vs,rfl,hs,t⟩:=r
  refine ⟨p,rfl,.inr ⟨⟨vs,seqT z.fh hs⟩,q _ F' H' z ⟨fun H2 s2=>⟨vs,seqT s2 hs,by rw [t.length];exact Nat.le_refl _⟩,fun i H2 s2 hi=>?_,fun i H2 x H3 F0 s1 s2 hi hy=>?_⟩⟩⟩
  ·exact ⟨vs,vs[i]'(by rw [← t.length];exact hi),seqT s2 hs,by simp [← t.length,hi]⟩
  ·obtain ⟨rfl,hy⟩:=hy
   obtain ⟨d,k1,k2⟩:=t.getV (hy vs (seqT (s1.trans s2) hs))
   exact ⟨d,F0,k1,.refl s2,Rep.mono s1 _ _ k2⟩
 ·cases e
theorem Zgs {K:PySem.W.Frag}{F:Hp}{lo:Int}{n:Nat}:ItOk K (L2.Itr lo n) F (ZC lo n) where
 stop:=fun H _=>by show n≤(ZC lo n).length;rw [YZ];exact Nat.le_refl _
 go:=fun i H _ h=>by show i < n;rw [YZ] at h;exact h
 yld:=fun i H x H' F0 _ s2 hi hy=>by
  obtain ⟨rfl,rfl⟩:=hy
  rw [YZ] at hi
  exact ⟨_,F0,ZeW hi,.refl s2,by simp [Rep]⟩
theorem Zb2 {tg:Expr} (T:Bt X.mg) (ha:PD X m1 a f) (hg:X.env.kindOf "range"=some .globalImplicit:=by kernel_rfl) (hs:nst a=true:=by rfl):PId X tg (.Call (.Name "range" p1) [a] [] pos) (iRng f) :=
 PI.of (L2.ZfI hg T.range (L2.Zj ha.h L2.Jp (Yl hs)) (Yl hs)) fun σ H R hh_=>el9 hh_ fun BF BH F env L ds S e q=>by
  unfold iRng at e
  split at e
  ·rename_i j h1
   split at e
   ·rename_i hj
    cases e
    refine ⟨BF,BH,F,env,L,_,S,h1,fun v F' H' z r=>?_⟩
    obtain rfl:=Yp r
    have hl:(lim:Int)=100000:=rfl
    exact ⟨j,rfl,by omega,by omega,q _ F' H' z Zgs⟩
   ·cases e
  ·cases e
noncomputable def tTg (K:PySem.W.Frag) (g:Tg):L2.TG:=fun v σ H Q=>∃ BF BH F env L d env1,SOk K BF BH F H σ env L∧Rep K F d v∧g d env=some env1∧∀ F' H' σ' L',SOk K BF BH F' H' σ' env1 L'→Same F F'→Q σ' H'
noncomputable def PGd (X:Cx) (tg:Expr) (g:Tg):Prop:=L2.PG X tg (tTg X.K g)
theorem pg_n (nd:X.N.Nodup)(i:Nat){x:Str}(hi:X.N[i]?=some x:=by kernel_rfl)(hx:locB X.env.scope x=true:=by kernel_rfl)(hf:fnB X x=true:=by kernel_rfl):PGd X (.Name x pos) (gN i) :=
 fun pins s σ H v u Q I r ⟨BF,BH,F,env,L,d,env1,S,rd,e,k⟩=>L2.Zcr nd hi (Z5 hx) (Zay hf) pins s σ H v u Q I r (by
  cases e
  exact k F H _ _ (S.Zbs i rd) (.refl _))
theorem Zbe {tg iter:Expr}{lx:Lx}{tg':Tg}{body:List Stmt}(hi:PId X tg iter lx)(hg:PGd X tg tg')(hb:PSd X m body b)(hp:PassesOwn (model X.prog X.w) X.A X.env X.xe:=by exact PassesOwn.never)(hc:X.calm=true:=by rfl)
  (hs:∀ x,foldedSetIterable iter X.env x=pure x:=by intro _;rfl):PS1 X m (.For tg iter body [] pos) (sFor tg' lx b):=PS1.mk <| PS.of (L2.Zig hp hc hi hg hb.h hs) fun D0 σ H hh_=>el10 hh_ fun BF BH F env L o env' S e k=>by
 unfold sFor at e
 split at e
 ·rename_i ds h1
  refine ⟨BF,BH,F,env,L,ds,S,h1,fun J F1 H1 z1 J1=>?_⟩
  refine ⟨fun i mm σ H=>mm=ds.length - i∧i≤ds.length∧∃ F env L,SOk X.K BF BH F H σ env L∧Same F1 F∧forL tg' b (ds.drop i) env=some (o,env'),⟨ds.length,by simp,Nat.zero_le _,F1,env,L,S.ext z1,.refl _,e⟩,?_⟩
  rintro i mm σ H ⟨rfl,hi,F,env,L,S,s1,e⟩
  by_cases hlt:i < ds.length
  ·refine .inr ⟨J1.go i H (s1.trans S.fh) hlt,fun σ' H'=>∃ F env L,SOk X.K BF BH F H' σ' env L∧Same F1 F∧forL tg' b (ds.drop (i + 1)) env=some (o,env'),fun σ' H' ⟨F,env,L,q1,q2,q3⟩=>⟨ds.length - (i + 1),by omega,rfl,hlt,F,env,L,q1,q2,q3⟩,fun x H' hy=>?_⟩
   obtain ⟨d,F2,hd,z2,r2⟩:=J1.yld i H x H' F s1 S.fh hlt hy
   rw [List.drop_eq_getElem_cons hlt] at e
   have hd':ds[i]=d:=by rw [List.getElem?_eq_getElem hlt] at hd;exact Option.some.inj hd
   rw [hd'] at e
   simp only [forL] at e
   split at e
   ·rename_i env0 hg0
    refine ⟨BF,BH,F2,env,L,d,env0,S.ext z2,r2,hg0,fun F3 H3 σ3 L3 S3 s3=>?_⟩
    have s13:Same F1 F3:=(s1.trans z2.ff).trans s3
    split at e
    ·rename_i e1 hb1
     exact ⟨BF,BH,F3,env0,L3,.nx,e1,S3,hb1,fun F4 H4 σ4 L4 S4 s4=>⟨F4,e1,L4,S4,s13.trans s4,e⟩⟩
    ·rename_i e1 hb1
     exact ⟨BF,BH,F3,env0,L3,.ct,e1,S3,hb1,fun F4 H4 σ4 L4 S4 s4=>⟨F4,e1,L4,S4,s13.trans s4,e⟩⟩
    ·rename_i e1 hb1
     cases e
     exact ⟨BF,BH,F3,env0,L3,.bk,env',S3,hb1,fun F4 H4 σ4 L4 S4 s4=>k F4 H4 σ4 L4 S4 ((z1.ff.trans s13).trans s4)⟩
    ·rename_i r e1 hb1
     cases e
     exact ⟨BF,BH,F3,env0,L3,.rt r,env',S3,hb1,fun F4 H4 σ4 L4 S4 s4=>k F4 H4 σ4 L4 S4 ((z1.ff.trans s13).trans s4)⟩
    ·cases e
   ·cases e
  ·have ei:i=ds.length:=by omega
   subst ei
   rw [List.drop_length] at e
   cases e
   exact .inl ⟨J1.stop H (s1.trans S.fh),k F H σ L S (z1.ff.trans s1)⟩
 ·cases e
end
end PV
set_option linter.all false
set_option Elab.async false
set_option maxRecDepth 100000
set_option maxHeartbeats 4000000
namespace PV
open PySem PySem.Spec PyProof.Rows
open L2 (V Hp HO Vals SqL SqT Same upd Cx PE PT PW PA PS PSs TE TT TA TS Inv RelV Zb Yb Jb)
section
variable {X:Cx} {m:RetP} {m1 m2 m3:Md} {st:Stmt} {rest:List Stmt} {g g2 b:St} {e a c:Expr} {es:List Expr} {f fa fb fc:Ex} {fs:List Ex} {t:Tx} {pos pos' p p1 p2 p3:Pos}
noncomputable def spR (K:PySem.W.Frag) (m:RetP) (φ:List D→Option D):L2.Sp:=fun vs H Q _=>∃ F ds d,Same F H∧Reps K F ds vs∧φ ds=some d∧∀ v F' H',Ext F H F' H'→m H F' H' d v→Q v H'
structure Cal (P:Program)(w:World)(K:PySem.W.Frag)(mg:Str→Option Value)(base:Heap)(k:Nat)(x:Str)(m:RetP)(φ:List D→Option D):Prop where
 ex:∃ (fa:Addr) (fd:FuncData) (ps:List Str),mg x=some (.ref fa)∧PySem.W.keepIn K (.ref fa)=true∧L2.FnOk P w K mg base L2.CX0 k fa fd ps (spR K m φ)∧L2.Binds K fd ps []
theorem Cal.mono {P:Program}{w:World}{K:PySem.W.Frag}{mg:Str→Option Value}{base:Heap}{j k:Nat}{x:Str}{m:RetP}{φ:List D→Option D}(h:Cal P w K mg base j x m φ)(hk:j≤k):Cal P w K mg base k x m φ:=by
 obtain ⟨fa,fd,ps,h1,h2,h3,h4⟩:=h.ex
 exact ⟨⟨fa,fd,ps,h1,h2,h3.mono hk,h4⟩⟩
theorem ZdT {BH H F2 H2:Hp}(s:Same BH H):∀ m:Md,Same (hpM H F2 H2 m) (hpM BH F2 H2 m)
 | .r=>.refl _
 | .k=>.refl _
 | .f=>fun b o h=>by
  show cut F2 BH b=some o
  have h':cut F2 H b=some o:=h
  unfold cut at h' ⊢
  split at h'
  ·rename_i hn
   rw [s.free hn]
   exact h'
  ·cases h'
theorem ZgM {k:Nat} {x:Str} {φ:List D→Option D} (G:Cal X.prog X.w X.K X.mg X.base k x m φ) (hr:L2.Room k X.A) (ha:PAd X .k (e::es) fs) (hg:L2.Gl X x) (hdb:(x == ("__debug__":Str))=false)
  (he:starEach (e::es) X.env=(false,eval e X.env)::starEach es X.env) (hpl:(backTo pos (starEach es X.env)).any (·.1)=false) :
  PE X (.Call (.Name x p) (e::es) [] pos) (fun σ H Q=>∃ BF BH F env L d,SOk X.K BF BH F H σ env L∧Jh φ fs env=some d∧∀ v F' H' H0,Same BH H0→Same H H0→Ext F H F' H'→m H0 F' H' d v→Q v H'):=by
 obtain ⟨fa,fd,ps,h1,h2,h3,h4⟩:=G.ex
 exact PE.of (L2.ZhX h3 hr hg h1 h2 h4 .nil L2.Zjd ha.h hdb he hpl) fun σ H Q hh_=>el9 hh_ fun BF BH F env L d S e q=>by
  unfold Jh at e
  split at e
  ·rename_i ds h5
   refine ⟨BF,BH,F,env,L,ds,S,h5,fun vs F' H' z r=>?_⟩
   show spR X.K m φ (vs++[]) H' Q L2.E0
   rw [List.append_nil]
   exact ⟨F',ds,d,z.fh,r,e,fun v F2 H2 z2 r2=>q v F2 H2 H' (S.s0.trans z.hh) z.hh (z.trans z2) r2⟩
  ·cases e
theorem Js {k:Nat} {x:Str} {φ:List D→Option D} (G:Cal X.prog X.w X.K X.mg X.base k x (rk X.K m1) φ) (hr:L2.Room k X.A) (ha:PAd X .k (e::es) fs) (hg:X.env.kindOf x=some .globalImplicit:=by kernel_rfl) (hdb:(x == ("__debug__":Str))=false:=by kernel_rfl)
  (hn:nst e=true:=by rfl) (hns:nsts es=true:=by rfl):PD X m1 (.Call (.Name x p) (e::es) [] pos) (Jh φ fs) :=
 PD.mk <| PE.of (ZgM G hr ha hg hdb (Yd hn) (YJ hns)) fun σ H Q ⟨BF,BH,F,env,L,d,S,e,q⟩ =>
  ⟨BF,BH,F,env,L,d,S,e,fun v F' H' H0 s0 s1 z r=>q v F' H' z (Rep.mono (ZdT s0 m1) _ _ r)⟩
noncomputable def tT (K:PySem.W.Frag) (f:Ex):TE:=fun σ H Q=>∃ BF BH F env L d,SOk K BF BH F H σ env L∧f env=some d∧∀ v F' H',Ext F H F' H'→rT K H F' H' d v→Q v H'
noncomputable def PDt (X:Cx) (e:Expr) (f:Ex):Prop:=PE X e (tT X.K f)
theorem PDt.k (h:PDt X e f):PD X .k e f:=PD.mk <| PE.of h fun σ H Q hh_=>el9 hh_ fun BF BH F env L d S e q=>by
 refine ⟨BF,BH,F,env,L,d,S,e,fun v F' H' z r=>?_⟩
 obtain ⟨a,as,rs,rfl,rfl,h3,h4,h5,h6⟩:=r
 have ff:Same F' (frzH F' H' (a::as)):=fun b o hb=>by
  by_cases hm:b ∈ a::as
  ·rw [(h6 b hm).2] at hb;cases hb
  ·rw [JK hm];exact hb
 have z':Ext F H (frzH F' H' (a::as)) H':=⟨z.hh,z.ff.trans ff,fun b o hb=>by
  by_cases hm:b ∈ a::as
  ·exact .inr (h6 b hm).1
  ·rw [JK hm] at hb;exact z.dm b o hb,fun b o hb=>by
  by_cases hm:b ∈ a::as
  ·rw [JL hm] at hb;exact hb
  ·rw [JK hm] at hb;exact z.fh b o hb⟩
 refine q _ _ H' z' ?_
 simp only [Rep,hpM]
 refine ⟨a,_,rfl,.inl (.inl (by rw [JL List.mem_cons_self];exact h3)),?_⟩
 have r':Jk X.K (frzH F' H' (a::as)) (frzH F' H' (a::as)) rs as:=h4.mono ff fun b hb o z=>by rw [JL (List.mem_cons_of_mem _ hb)];exact z
 exact r'.reps (.refl _)
theorem Zf8 {n:Nat}{ds:List D}(h:ds.length≤n):(enter n ds).length=n:=by
 unfold enter
 rw [List.length_append,List.length_map,List.length_replicate]
 omega
theorem ZcU {K:PySem.W.Frag}{F H:Hp}{N:List Str}{ds:List D}{vs:List V}(fh:Same F H)(r:Reps K F ds vs)(hl:ds.length≤N.length):SOk K F H F H (L2.start N vs) (enter N.length ds) (fun _=>[]) where
 s0:=.refl _
 f0:=.refl _
 fh:=fh
 fd:=fun a o h=>.inl h
 ow:=fun i a h=>by cases h
 dj:=fun i j a h=>by cases h
 len:=by
  rw [Zf8 hl]
  unfold L2.start
  rw [List.length_append,List.length_map,List.length_replicate]
  have:=r.length
  omega
 sl:=fun i s h=>by
  unfold enter at h
  unfold L2.start
  by_cases hi:i < ds.length
  ·rw [List.getElem?_append_left (by rw [List.length_map];exact hi),List.getElem?_map,List.getElem?_eq_getElem hi] at h
   cases h
   obtain ⟨v,h1,h2⟩:=r.get (i:=i) (d:=ds[i]) (by simp [hi])
   refine ⟨some v,?_,v,rfl,h2⟩
   rw [List.getElem?_append_left (by rw [List.length_map,← r.length];exact hi),List.getElem?_map,h1];rfl
  ·rw [List.getElem?_append_right (by rw [List.length_map];omega),List.length_map,List.getElem?_replicate] at h
   split at h
   ·rename_i hlt
    cases h
    refine ⟨none,?_,trivial⟩
    rw [List.getElem?_append_right (by rw [List.length_map,← r.length];omega),List.length_map,List.getElem?_replicate,if_pos (by rw [← r.length];exact hlt)]
   ·cases h
theorem Zez {p n:Nat}{g:St}{ds:List D}{d:D}(h:run p n g ds=some d):ds.length=p∧((∃ env',g (enter n ds)=some (.rt d,env'))∨(d=.non∧∃ env',g (enter n ds)=some (.nx,env'))):=by
 unfold run at h
 split at h
 ·rename_i hl
  split at h
  ·rename_i d' e1 hg;cases h;exact ⟨hl,.inl ⟨e1,hg⟩⟩
  ·rename_i e1 hg;cases h;exact ⟨hl,.inr ⟨rfl,e1,hg⟩⟩
  ·cases h
 ·cases h
theorem ZaN {P:Program}{w:World}{K:PySem.W.Frag}{mg:Str→Option Value}{base:Heap}{x qual:Str}{st:Stmt}{f:Addr}{fd:FuncData}{N ps:List Str}{k:Nat}{m:RetP}{g:St}(F:L2.Fun K x qual st f fd)(S:L2.Jj N ps (L2.Zc st))
  (hm:(∀ BH F' H',m BH F' H' .non .non)∨∀ env env',g env≠some (.nx,env')) (hb:∀ (cdv:Value) (A:Around) (outer:List PySem.Env) (s:Shared) (H:Hp) (E:L2.XK),L2.Room k (A.deeper (envOfC qual (L2.Zc st) s.heap.objs.size f cdv)) →
   PSd (L2.cxOf L2.CX0 P w K mg base N qual (L2.Zc st) f cdv A outer s H E).nox m (L2.Ye st) g):L2.FnOk P w K mg base L2.CX0 (k + 1) f fd ps (spR K m (run ps.length N.length g)):=by
 have hpl:ps.length≤N.length:=by have:=congrArg List.length S.pre;rw [List.length_take] at this;omega
 refine F.ok S (fun vs H Q E h=>?_) (fun cdv A outer s H vs Q E hr h=>?_)
 ·obtain ⟨F0,ds,d,h1,h2,h3,h4⟩:=h
  rw [← h2.length]
  exact (Zez h3).1
 ·obtain ⟨F0,ds,d,h1,h2,h3,h4⟩:=h
  obtain ⟨hl,h3⟩:=Zez h3
  refine ⟨_,(hb cdv A outer s H E hr).h,?_⟩
  have S0:=ZcU (N:=N) h1 h2 (by omega)
  rcases h3 with ⟨env',hg⟩ | ⟨rfl,env',hg⟩
  ·exact ⟨F0,H,F0,_,_,.rt d,env',S0,hg,fun F' H' σ' L' S' s' v r=>h4 v F' H' S'.Zbj r⟩
  ·rcases hm with hm | hm
   ·exact ⟨F0,H,F0,_,_,.nx,env',S0,hg,fun F' H' σ' L' S' s'=>h4 .non F' H' S'.Zbj (hm _ _ _)⟩
   ·exact absurd hg (hm _ _)
theorem JB {K:PySem.W.Frag}(m1:Md):∀ BH F' H',rk K m1 BH F' H' .non .non:=fun _ _ _=>by simp [rk,Rep]
end
end PV
set_option linter.all false
set_option Elab.async false
set_option maxRecDepth 100000
set_option maxHeartbeats 4000000
namespace PV
open PySem PySem.Spec PyProof.Rows
open L2 (V Hp HO Vals SqL SqT Same upd Cx PE PT PW PA PS PSs TE TT TA TS Inv RelV Zb Yb Jb Un)
noncomputable def Yq (sc osc:Scope):Scope :=
 { sc with names:=sc.names.map fun (n,k)=>if (k == .free && osc.kind == .function && osc.names.lookup n == some .cell) then (n,.cell) else (n,k) }
noncomputable def blk (X:Cx) (osc sc:Scope) (cs:List (Str × Addr)) (C:Addr) (s0:Shared) (H0:Hp) (fp:List Addr) (pins:List (Addr × Obj)):Cx :=
 { X with
  env:={ scope:=Yq sc osc,locals:=C,globals:=X.env.globals,cells:=cs,qual:=X.env.qual,func:=none,code:=X.env.code,frame:=X.env.frame,builtins:=X.env.builtins }
  s₀:=s0,H₀:=H0,outer:=X.stack,stack:=X.stack,ex:=fp,fn:=fun y=>decide (sc.names.lookup y=some .cell),pn:=X.pn++pins }
structure YL (N:List Str)(osc sc:Scope)(x:Str):Prop where
 kind:sc.kind=.function
 loc:∀ y ∈ sc.names,y.2=.local→sc.names.lookup y.1=some .local
 free:∀ y ∈ sc.names,y.2=.free→osc.names.lookup y.1=some .cell∨osc.names.lookup y.1=some .free
 var:sc.names.lookup x=some .local∨sc.names.lookup x=some .cell
 own:∀ y ∈ sc.names,(y.2=.local∨y.2=.cell)→y.1=x∨y.1 ∉ N
 cell:∀ y ∈ sc.names,y.2=.cell→y.1=x
 once:(sc.names.filter fun y=>y.2 == .cell).length≤1
noncomputable def J0 (N:List Str) (osc sc:Scope) (x:Str):Bool :=
 (sc.kind == .function) && (sc.names.all fun y=>!(y.2 == .local) || sc.names.lookup y.1 == some .local) && (sc.names.all fun y=>!(y.2 == .free) || (osc.names.lookup y.1 == some .cell || osc.names.lookup y.1 == some .free)) &&
 (sc.names.lookup x == some .local || sc.names.lookup x == some .cell) && (sc.names.all fun y=>!(y.2 == .local || y.2 == .cell) || (y.1 == x || !N.contains y.1)) && (sc.names.all fun y=>!(y.2 == .cell) || y.1 == x) && decide ((sc.names.filter fun y=>y.2 == .cell).length≤1)
theorem Y9 {N:List Str}{osc sc:Scope}{x:Str}(h:J0 N osc sc x=true):YL N osc sc x:=by
 unfold J0 at h
 simp only [Bool.and_eq_true,List.all_eq_true,Bool.or_eq_true,Bool.not_eq_true',decide_eq_true_eq] at h
 obtain ⟨⟨⟨⟨⟨⟨h1,h2⟩,h3⟩,h4⟩,h5⟩,h6⟩,h7⟩:=h
 refine ⟨by simpa using h1,fun y hy e=>?_,fun y hy e=>?_,?_,fun y hy e=>?_,fun y hy e=>?_,h7⟩
 ·rcases h2 y hy with z | z
  ·rw [e] at z;simp at z
  ·simpa using z
 ·rcases h3 y hy with z | z
  ·rw [e] at z;simp at z
  ·rcases z with z | z
   ·exact .inl (by simpa using z)
   ·exact .inr (by simpa using z)
 ·rcases h4 with z | z
  ·exact .inl (by simpa using z)
  ·exact .inr (by simpa using z)
 ·rcases h5 y hy with z | z
  ·rcases e with e | e <;> (rw [e] at z;simp at z)
  ·rcases z with z | z
   ·exact .inl (by simpa using z)
   ·exact .inr (by simpa using z)
 ·rcases h6 y hy with z | z
  ·rw [e] at z;simp at z
  ·simpa using z
theorem ZaK {env : PySem.Env}{sc : Scope}(h : ∀ y ∈ sc.names, y.2 = .free → ∃ c, env.cells.lookup y.1 = some c) :
    ∃ cl, closureFor sc env = pure cl ∧ (∀ n c, cl.lookup n = some c → env.cells.lookup n = some c) ∧ (∀ y ∈ sc.names, y.2 = .free → ∃ c, cl.lookup y.1 = some c) ∧ (∀ n c, cl.lookup n = some c → (n, NameKind.free) ∈ sc.names) := by
  have go : ∀ (names : List (Str × NameKind)) (acc : List (Str × Addr)), (∀ y ∈ names, y.2 = .free → ∃ c, env.cells.lookup y.1 = some c) → (∀ n c, acc.lookup n = some c → env.cells.lookup n = some c) →
      ∃ cl, (forIn names acc (fun (p : Str × NameKind) (cs : List (Str × Addr)) => (match p with | (name, kind) => if (kind == .free) = true then (do let a ← cellOf env name; pure (ForInStep.yield ((name, a) :: cs))) else pure (ForInStep.yield cs) : Sem (ForInStep (List (Str × Addr))))) : Sem (List (Str × Addr))) = pure cl ∧
        (∀ n c, cl.lookup n = some c → env.cells.lookup n = some c) ∧ (∀ n c, acc.lookup n = some c → ∃ c', cl.lookup n = some c') ∧ (∀ y ∈ names, y.2 = .free → ∃ c, cl.lookup y.1 = some c) ∧ (∀ n c, cl.lookup n = some c → acc.lookup n = some c ∨ (n, NameKind.free) ∈ names) := by
    intro names
    induction names with
    | nil => intro acc _ ha; exact ⟨acc, rfl, ha, fun n c e => ⟨c, e⟩, (fun y hy => nomatch hy), fun n c e => .inl e⟩
    | cons p r ih =>
      obtain ⟨n, k⟩ := p
      intro acc hf ha
      have hr : ∀ y ∈ r, y.2 = .free → ∃ c, env.cells.lookup y.1 = some c := fun y hy => hf y (List.mem_cons_of_mem _ hy)
      rw [List.forIn_cons]
      by_cases hk : k = .free
      · obtain ⟨c, hc⟩ := hf (n, k) List.mem_cons_self hk
        have ha' : ∀ n' c', ((n, c) :: acc).lookup n' = some c' → env.cells.lookup n' = some c' := fun n' c' e => by
          rw [List.lookup_cons] at e
          cases hb : n' == n with
          | true => rw [hb] at e; cases e; rw [beq_iff_eq.mp hb]; exact hc
          | false => rw [hb] at e; exact ha n' c' e
        obtain ⟨cl, e1, e2, e3, e4, e5⟩ := ih ((n, c) :: acc) hr ha'
        have step : (if (k == NameKind.free) = true then (do let a ← cellOf env n; pure (ForInStep.yield ((n, a) :: acc))) else pure (ForInStep.yield acc) : Sem (ForInStep (List (Str × Addr)))) = pure (ForInStep.yield ((n, c) :: acc)) := by
          rw [if_pos (by simp [hk])]
          unfold cellOf
          rw [show env.cells.lookup n = some c from hc]
          rfl
        refine ⟨cl, ?_, e2, fun n' c' e => ?_, fun y hy hy2 => ?_, fun n' c' e => ?_⟩
        · dsimp only
          rw [step]
          exact e1
        · by_cases hb : n' == n
          · exact e3 n' c (by rw [List.lookup_cons, hb])
          · exact e3 n' c' (by rw [List.lookup_cons]; simp only [Bool.not_eq_true] at hb; rw [hb]; exact e)
        · rcases List.mem_cons.mp hy with rfl | hy
          · exact e3 n c (by rw [List.lookup_cons]; simp)
          · exact e4 y hy hy2
        · rcases e5 n' c' e with z | z
          · rw [List.lookup_cons] at z
            cases hb : n' == n with
            | true => rw [beq_iff_eq.mp hb, ← hk]; exact .inr List.mem_cons_self
            | false => rw [hb] at z; exact .inl z
          · exact .inr (List.mem_cons_of_mem _ z)
      · obtain ⟨cl, e1, e2, e3, e4, e5⟩ := ih acc hr ha
        have step : (if (k == NameKind.free) = true then (do let a ← cellOf env n; pure (ForInStep.yield ((n, a) :: acc))) else pure (ForInStep.yield acc) : Sem (ForInStep (List (Str × Addr)))) = pure (ForInStep.yield acc) := by
          rw [if_neg (by simpa using hk)]
        refine ⟨cl, ?_, e2, e3, fun y hy hy2 => ?_, fun n' c' e => ?_⟩
        · dsimp only
          rw [step]
          exact e1
        · rcases List.mem_cons.mp hy with rfl | hy
          · exact absurd hy2 hk
          · exact e4 y hy hy2
        · rcases e5 n' c' e with z | z
          · exact .inl z
          · exact .inr (List.mem_cons_of_mem _ z)
  obtain ⟨cl, e1, e2, _, e4, e5⟩ := go sc.names [] h (fun n c e => by simp at e)
  refine ⟨cl, ?_, e2, e4, fun n c e => (e5 n c e).elim (fun z => by simp at z) id⟩
  unfold closureFor
  exact (congrArg (fun (t : Sem (List (Str × Addr))) => t >>= fun cs => pure cs) e1)
theorem Y0:∀ (names:List (Str × NameKind)) (n:Nat) (acc:List (Str × Addr)) (h:Heap),(∀ y ∈ names,y.2≠.cell)→cellsFrom n names acc=acc∧pushCells h names=h
 | [],_,_,_,_=>⟨rfl,rfl⟩
 | (x,k)::r,n,acc,h,hc=>by
  have hk:(k == NameKind.cell)=false:=by simpa using hc (x,k) List.mem_cons_self
  unfold cellsFrom pushCells
  rw [if_neg (by rw [hk];simp),if_neg (by rw [hk];simp)]
  exact Y0 r n acc h fun y hy=>hc y (List.mem_cons_of_mem _ hy)
theorem Zc1:∀ (names:List (Str × NameKind)) (n:Nat) (acc:List (Str × Addr)) (h:Heap) (x:Str),(∀ y ∈ names,y.2=.cell→y.1=x)→(names.filter fun y=>y.2 == .cell).length=1 →
  cellsFrom n names acc=(x,n)::acc∧pushCells h names=h.push { cls:=.type "cell",data:=.cell none }
 | [],_,_,_,_,_,hl=>by simp at hl
 | (y,k)::r,n,acc,h,x,hx,hl=>by
  by_cases hk:k=.cell
  ·subst hk
   have hr:∀ y ∈ r,y.2≠.cell:=fun z hz e=>by
    rw [List.filter_cons_of_pos (by simp)] at hl
    have hlen:(r.filter fun y=>y.2 == .cell).length=0:=by simpa using hl
    have hmem:z ∈ r.filter fun y=>y.2 == .cell:=List.mem_filter.mpr ⟨hz,by simp [e]⟩
    rw [List.length_eq_zero_iff.mp hlen] at hmem
    cases hmem
   have hyx:y=x:=hx (y,.cell) List.mem_cons_self rfl
   subst hyx
   unfold cellsFrom pushCells
   rw [if_pos (by simp),if_pos (by simp)]
   exact ⟨(Y0 r _ _ h hr).1,(Y0 r n acc _ hr).2⟩
  ·have hk':(k == NameKind.cell)=false:=by simpa using hk
   unfold cellsFrom pushCells
   rw [if_neg (by rw [hk'];simp),if_neg (by rw [hk'];simp)]
   exact Zc1 r n acc h x (fun z hz=>hx z (List.mem_cons_of_mem _ hz)) (by rw [List.filter_cons_of_neg (by rw [hk'];simp)] at hl;exact hl)
theorem ZbB {M:Model}{A:Around}{E:Value→Shared→Prop}{s:Shared}{sc:Scope}{g:Addr}{cl:List (Str × Addr)}{q:Str}{outer:PySem.Env}{Q:PySem.Env→Shared→Prop}
  (h:Q { scope:=sc,locals:=s.heap.objs.size,globals:=g,cells:=cellsFrom (s.heap.objs.size + 1) sc.names cl,qual:=q,func:=none,code:=outer.code,frame:=outer.frame,builtins:=outer.builtins }
   { s with heap:=pushCells (s.heap.push { cls:=.type "dict",data:=.dict #[] }) sc.names }):wpAny M A (newFunctionEnv sc g cl [] q none .none (some outer)) Q E s:=by
 simp only [newFunctionEnv,Option.isSome_some,if_true]
 refine wpAny_bind (wpAny_alloc ?_)
 refine wpAny_bind (wpAny_layCells _ (fun name kind cells=>by cases hkc:kind == NameKind.cell <;> simp [hkc]) _ _ _ _ ?_)
 rw [show ({ s with heap:=s.heap.push { cls:=.type "dict",data:=.dict #[] } }:Shared).heap.objs.size=s.heap.objs.size + 1 from Heap.size_push ..]
 exact wpAny_bind (wpAny_pure (wpAny_pure h))
end PV
set_option linter.all false
set_option Elab.async false
set_option maxRecDepth 100000
set_option maxHeartbeats 4000000
namespace PV
open PySem PySem.Spec PyProof.Rows
open L2 (V Hp HO Vals SqL SqT Same upd Cx PE PT PW PA PS PSs TE TT TA TS Inv RelV Zb Yb Jb Un)
noncomputable def rkd (osc:Scope) (n:Str) (k:NameKind):NameKind:=if (k == NameKind.free && osc.kind == .function && osc.names.lookup n == some .cell)=true then NameKind.cell else k
theorem ZbT (f:Str→NameKind→NameKind):∀ (names:List (Str × NameKind)) (y:Str),(names.map fun p=>(p.1,f p.1 p.2)).lookup y=(names.lookup y).map (f y)
 | [],y=>rfl
 | (n,k)::r,y=>by
  rw [List.map_cons,List.lookup_cons,List.lookup_cons]
  cases hy:y == n with
  | true =>
   have e:y=n:=beq_iff_eq.mp hy
   subst e
   rfl
  | false=>exact ZbT f r y
theorem JN {osc:Scope}(names:List (Str × NameKind))(y:Str):(names.map fun (n,k)=>if (k == NameKind.free && osc.kind == .function && osc.names.lookup n == some .cell) then (n,NameKind.cell) else (n,k)).lookup y =
  (names.lookup y).map (rkd osc y):=by
 rw [← ZbT (rkd osc)]
 congr 1
 refine List.map_congr_left fun p _=>?_
 obtain ⟨n,k⟩:=p
 unfold rkd
 dsimp only
 split <;> rfl
theorem JQ {sc osc:Scope}{y:Str}{k:NameKind}(h:(Yq sc osc).names.lookup y=some k):∃ k0,sc.names.lookup y=some k0∧(k=k0∨(k0=.free∧k=.cell)):=by
 have h':=h
 unfold Yq at h'
 dsimp only at h'
 rw [JN] at h'
 cases e:sc.names.lookup y with
 | none=>rw [e] at h';cases h'
 | some k0 =>
  rw [e] at h'
  refine ⟨k0,rfl,?_⟩
  have h2:rkd osc y k0=k:=Option.some.inj h'
  unfold rkd at h2
  split at h2
  ·rename_i hc
   simp only [Bool.and_eq_true,beq_iff_eq] at hc
   exact .inr ⟨hc.1.1,h2.symm⟩
  ·exact .inl h2.symm
theorem JW {sc osc:Scope}{y:Str}(h:sc.names.lookup y=some .local):(Yq sc osc).names.lookup y=some .local:=by
 unfold Yq;dsimp only;rw [JN,h];rfl
theorem Zcn {sc osc:Scope}{y:Str}(h:sc.names.lookup y=some .cell):(Yq sc osc).names.lookup y=some .cell:=by
 unfold Yq;dsimp only;rw [JN,h];rfl
theorem Ze6 {sc osc:Scope}{y:Str}(h:sc.names.lookup y=some .free):(Yq sc osc).names.lookup y=some .cell∨(Yq sc osc).names.lookup y=some .free:=by
 unfold Yq;dsimp only;rw [JN,h]
 show some (rkd osc y .free)=some _∨some (rkd osc y .free)=some _
 unfold rkd
 split
 ·exact .inl rfl
 ·exact .inr rfl
section
variable {X:Cx} {osc sc:Scope} {x:Str} {i:Nat} {pins:List (Addr × Obj)} {σ:L2.St} {H:Hp} {s:Shared} {cl:List (Str × Addr)} {fp:List Addr}
theorem ZM (CO : YL X.N osc sc x)(h0 : Heap)(n : Nat) :
    (∀ y ∈ sc.names, y.2 ≠ .cell) ∧ cellsFrom n sc.names cl = cl ∧ pushCells h0 sc.names = h0 ∨
    (x, NameKind.cell) ∈ sc.names ∧ cellsFrom n sc.names cl = (x, n) :: cl ∧ pushCells h0 sc.names = h0.push { cls := .type "cell", data := .cell none } := by
  by_cases h : ∀ y ∈ sc.names, y.2 ≠ .cell
  · exact .inl ⟨h, Y0 sc.names n cl h0 h⟩
  · have h' : ∃ y ∈ sc.names, y.2 = .cell := by
      refine Classical.byContradiction fun z => h fun y hy e => z ⟨y, hy, e⟩
    obtain ⟨⟨y, k⟩, hy, e⟩ := h'
    have e' : k = .cell := e
    subst e'
    have hyx : y = x := CO.cell (y, .cell) hy rfl
    subst hyx
    have hl : (sc.names.filter fun y => y.2 == .cell).length = 1 := by
      have h1 := CO.once
      have hm : (y, NameKind.cell) ∈ sc.names.filter fun y => y.2 == .cell := List.mem_filter.mpr ⟨hy, by simp⟩
      have h2 := List.length_pos_of_mem hm
      omega
    exact .inr ⟨hy, Zc1 sc.names n cl h0 y CO.cell hl⟩
theorem Zel (I : Inv X pins σ H s)(CO : YL X.N osc sc x)(hosc : X.env.scope = osc)(nd : X.N.Nodup)(hi : X.N[i]? = some x)
    (c1 : ∀ n c, cl.lookup n = some c → X.env.cells.lookup n = some c) (c2 : ∀ y ∈ sc.names, y.2 = .free → ∃ c, cl.lookup y.1 = some c) (c3 : ∀ n c, cl.lookup n = some c → (n, NameKind.free) ∈ sc.names)
    (hf : ∀ b ∈ fp, L2.FpOk X pins H b) (hl : ∀ b ∈ fp, b < s.heap.objs.size) :
    Inv (blk X osc sc (cellsFrom (s.heap.objs.size + 1) sc.names cl) s.heap.objs.size s H fp pins) [] (σ.set i none) H { s with heap := pushCells (s.heap.push { cls := .type "dict", data := .dict #[] }) sc.names } := by
  have keep : ∀ b o, s.heap.get? b = some o → (pushCells (s.heap.push { cls := .type "dict", data := .dict #[] }) sc.names).get? b = some o := fun b o e => pushCells_keeps _ _ b o (Heap.get?_push_of_some _ e)
  have hsz : (s.heap.push { cls := .type "dict", data := .dict #[] }).objs.size = s.heap.objs.size + 1 := Heap.size_push ..
  have hns : (pushCells (s.heap.push { cls := .type "dict", data := .dict #[] }) sc.names).Ns s.heap.objs.size (fun _ => none) := (Heap.Ns.new s.heap (.type "dict")).keeps (pushCells_keeps _ _)
  have F1 : ∀ y c, (cellsFrom (s.heap.objs.size + 1) sc.names cl).lookup y = some c → (X.env.cells.lookup y = some c ∧ c < s.heap.objs.size) ∨ (y = x ∧ c = s.heap.objs.size + 1 ∧ (pushCells (s.heap.push { cls := .type "dict", data := .dict #[] }) sc.names).IsCell c none) := fun y c e => by
    have old : cl.lookup y = some c → X.env.cells.lookup y = some c ∧ c < s.heap.objs.size := fun z => by
      have z1 := c1 y c z
      obtain ⟨v, q⟩ := I.cell y c z1
      exact ⟨z1, q.lt⟩
    rcases ZM (cl := cl) CO (s.heap.push { cls := .type "dict", data := .dict #[] }) (s.heap.objs.size + 1) with ⟨_, e1, _⟩ | ⟨_, e1, e2⟩
    · rw [e1] at e; exact .inl (old e)
    · rw [e1, List.lookup_cons] at e
      cases hy : y == x with
      | true =>
        rw [hy] at e
        cases e
        refine .inr ⟨beq_iff_eq.mp hy, rfl, ?_⟩
        rw [e2]
        exact ⟨_, by rw [← hsz]; exact Heap.get?_push_size _ rfl, rfl⟩
      | false => rw [hy] at e; exact .inl (old e)
  have F2 : ∀ y c, y ≠ x → cl.lookup y = some c → (cellsFrom (s.heap.objs.size + 1) sc.names cl).lookup y = some c := fun y c hy e => by
    rcases ZM (cl := cl) CO (s.heap.push { cls := .type "dict", data := .dict #[] }) (s.heap.objs.size + 1) with ⟨_, e1, _⟩ | ⟨_, e1, _⟩
    · rw [e1]; exact e
    · rw [e1, List.lookup_cons, beq_false_of_ne hy]; exact e
  have fresh : ∀ a, s.heap.objs.size ≤ a → H a = none := fun a ha => I.hok.fresh ha
  refine ⟨⟨I.ok.mod, CO.kind, I.ok.glob, I.ok.blt, Nat.le_refl _, fun y z c h1 h2 => ?_, fun y hy => ?_, fun y c hy e => ?_, I.ok.hd, I.ok.frames, .inl rfl, fun b hb => ⟨?_, fun y c e z => ?_⟩, I.bs, Nat.le_trans I.ok.bsz I.sz, fun b o e hb => ?_, fun b hb z => ?_, I.stack, I.ZcI⟩,
    rfl, I.bare, Un.kept keep, ⟨_, hns, fun j y v h1 h2 h3 => ?_⟩, fun y c e => ?_, fresh _ (Nat.le_refl _), fun y c e => ?_, fun p hp => ?_, I.hok.kept keep, by rw [List.length_set]; exact I.len⟩
  · -- inj
    rcases F1 y c h1 with ⟨a1, a2⟩ | ⟨a1, a2, _⟩
    · rcases F1 z c h2 with ⟨b1, b2⟩ | ⟨b1, b2, _⟩
      · exact I.ok.inj y z c a1 b1
      · rw [b2] at a2; exact absurd a2 (Nat.not_lt.mpr (Nat.le_succ _))
    · rcases F1 z c h2 with ⟨b1, b2⟩ | ⟨b1, b2, _⟩
      · rw [a2] at b2; exact absurd b2 (Nat.not_lt.mpr (Nat.le_succ _))
      · rw [a1, b1]
  · -- has
    have hy' : (Yq sc osc).names.lookup y = some .cell ∨ (Yq sc osc).names.lookup y = some .free := hy
    have hk : sc.names.lookup y = some .cell ∨ sc.names.lookup y = some .free := by
      rcases hy' with z | z
      · obtain ⟨k0, e0, e1⟩ := JQ z
        rcases e1 with e1 | ⟨e1, _⟩
        · rw [← e1] at e0; exact .inl e0
        · rw [e1] at e0; exact .inr e0
      · obtain ⟨k0, e0, e1⟩ := JQ z
        rcases e1 with e1 | ⟨_, e1⟩
        · rw [← e1] at e0; exact .inr e0
        · cases e1
    rcases hk with z | z
    · have hm := PySem.mem_of_lookup z
      have hyx : y = x := CO.cell (y, .cell) hm rfl
      subst hyx
      rcases ZM (cl := cl) CO (s.heap.push { cls := .type "dict", data := .dict #[] }) (s.heap.objs.size + 1) with ⟨n1, _, _⟩ | ⟨_, e1, _⟩
      · exact absurd rfl (n1 _ hm)
      · exact ⟨s.heap.objs.size + 1, by show (cellsFrom _ _ _).lookup y = _; rw [e1, List.lookup_cons]; simp⟩
    · obtain ⟨c, hc⟩ := c2 (y, .free) (PySem.mem_of_lookup z) rfl
      have hc' : cl.lookup y = some c := hc
      rcases ZM (cl := cl) CO (s.heap.push { cls := .type "dict", data := .dict #[] }) (s.heap.objs.size + 1) with ⟨_, e1, _⟩ | ⟨_, e1, _⟩
      · exact ⟨c, by show (cellsFrom _ _ _).lookup y = _; rw [e1]; exact hc'⟩
      · cases hy : y == x with
        | true => exact ⟨_, by show (cellsFrom _ _ _).lookup y = _; rw [e1, List.lookup_cons, hy]⟩
        | false => exact ⟨c, by show (cellsFrom _ _ _).lookup y = _; rw [e1, List.lookup_cons, hy]; exact hc'⟩
  · -- cab
    have hy' : sc.names.lookup y = some .cell := of_decide_eq_true hy
    have hm := PySem.mem_of_lookup hy'
    have hyx : y = x := CO.cell (y, .cell) hm rfl
    subst hyx
    have e' : (cellsFrom (s.heap.objs.size + 1) sc.names cl).lookup y = some c := e
    rcases ZM (cl := cl) CO (s.heap.push { cls := .type "dict", data := .dict #[] }) (s.heap.objs.size + 1) with ⟨n1, _, _⟩ | ⟨_, e1, _⟩
    · exact absurd rfl (n1 _ hm)
    · rw [e1, List.lookup_cons] at e'
      simp at e'
      show s.heap.objs.size ≤ c
      rw [← e']
      exact Nat.le_succ _
  · exact Nat.ne_of_lt (hl b hb)
  · rcases F1 y c e with ⟨a1, a2⟩ | ⟨_, a2, _⟩
    · obtain ⟨_, _, _, _, f5, _⟩ := hf b hb
      exact f5 y c a1 z
    · have h3 := hl b hb
      rw [← z, a2] at h3
      exact absurd h3 (Nat.not_lt.mpr (Nat.le_succ _))
  · obtain ⟨_, _, _, f4, _⟩ := hf b hb
    rcases f4 with z | z
    · exact I.ok.noex b o e z
    · exact absurd (Nat.lt_of_lt_of_le (Heap.lt_size e) I.ok.bsz) (Nat.not_lt.mpr z)
  · obtain ⟨_, f2, f3, _⟩ := hf b hb
    rcases List.mem_cons.mp (I.YX b z) with q | q
    · exact f2 q
    · exact f3 q
  · -- loc
    have hji : j ≠ i := fun e => by
      subst e
      by_cases hlt : j < σ.length
      · rw [List.getElem?_set_self hlt] at h2; cases h2
      · rw [List.getElem?_eq_none (by rw [List.length_set]; omega)] at h2; cases h2
    rw [List.getElem?_set_ne (Ne.symm hji)] at h2
    have hyx : y ≠ x := fun e => hji (L2.ZbJ nd (by rw [← e]; exact h1) hi)
    have hmemN : y ∈ X.N := List.mem_of_getElem? h1
    have hk : sc.names.lookup y = some .free := by
      have h3' : (Yq sc osc).names.lookup y = some .local ∨ (Yq sc osc).names.lookup y = some .cell ∨ (Yq sc osc).names.lookup y = some .free := h3
      have own : ∀ k, sc.names.lookup y = some k → (k = .local ∨ k = .cell) → False := fun k e hk => by
        rcases CO.own (y, k) (PySem.mem_of_lookup e) hk with z | z
        · exact hyx z
        · exact z hmemN
      rcases h3' with z | z | z
      · obtain ⟨k0, e0, e1⟩ := JQ z
        rcases e1 with e1 | ⟨_, e1⟩
        · exact (own k0 e0 (.inl e1.symm)).elim
        · cases e1
      · obtain ⟨k0, e0, e1⟩ := JQ z
        rcases e1 with e1 | ⟨e1, _⟩
        · exact (own k0 e0 (.inr e1.symm)).elim
        · rw [e1] at e0; exact e0
      · obtain ⟨k0, e0, e1⟩ := JQ z
        rcases e1 with e1 | ⟨_, e1⟩
        · rw [← e1] at e0; exact e0
        · cases e1
    have hm := PySem.mem_of_lookup hk
    have ho := CO.free (y, .free) hm rfl
    obtain ⟨m, hn, hloc⟩ := I.loc
    obtain ⟨u, ru, lk⟩ := hloc j y v h1 h2 (by rw [hosc]; rcases ho with z | z; exact .inr (.inl z); exact .inr (.inr z))
    refine ⟨u, ru, .inr ⟨Ze6 hk, ?_⟩⟩
    rcases lk with ⟨k1, _⟩ | ⟨_, c, hc, hcell⟩
    · have k1' : X.env.scope.names.lookup y = some .local := k1
      rw [hosc] at k1'
      rcases ho with z | z <;> (rw [k1'] at z; cases z)
    · obtain ⟨c', hc'⟩ := c2 (y, .free) hm rfl
      have e1 := c1 y c' hc'
      rw [hc] at e1; cases e1
      exact ⟨c, F2 y c hyx hc', hcell.keeps keep⟩
  · rcases F1 y c e with ⟨a1, _⟩ | ⟨_, _, a3⟩
    · obtain ⟨v, q⟩ := I.cell y c a1
      exact ⟨v, q.keeps keep⟩
    · exact ⟨none, a3⟩
  · rcases F1 y c e with ⟨a1, _⟩ | ⟨_, a2, _⟩
    · exact I.freeC y c a1
    · exact fresh c (by rw [a2]; exact Nat.le_succ _)
  · have hp' : p ∈ X.pn ++ pins := by
      have : p ∈ (X.pn ++ pins) ++ [] := hp
      simpa using this
    obtain ⟨q1, q2, q3, q4, q5⟩ := I.pin p hp'
    refine ⟨keep _ _ q1, q2, Nat.ne_of_lt (Heap.lt_size q1), fun z => ?_, q5⟩
    rcases List.mem_cons.mp (I.YX _ z) with w | w
    · exact q3 w
    · exact q4 w
theorem Zdz {cs:List (Str × Addr)}{C:Addr}{pinsB:List (Addr × Obj)}{σb:L2.St}{Hb:Hp}{s1:Shared}(I:Inv X pins σ H s)(hf:∀ b ∈ fp,L2.FpOk X pins H b)(Ib:Inv (blk X osc sc cs C s H fp pins) pinsB σb Hb s1):Inv X pins σ Hb s1 :=
 I.call' (ch:=fp) Ib.os Ib.base Ib.hok Ib.bare fun b hb=>by
  obtain ⟨_,f2,_,f4,f5,f6⟩:=hf b hb
  exact ⟨f4,f2,f5,f6⟩
end
section
variable {prog:Program} {w:World} {A:Around} {R:Result→Shared→Prop} {s:Shared}
theorem ZdE {elt target iter : Expr}{ifs : List Expr}{scope : Scope}{pos : Pos}{it acc : Value}{env : PySem.Env}(I : Nat → Shared → Prop)
    (turn : ∀ n s, I n s → wpAny (model prog w) A (pyNext it) (fun r s₁ => match r with
      | none => R (.ok .next) s₁
      | some v => wpAny (model prog w) A (letOwnedTupleGo target it v) (fun _ s₁' => wpAny (model prog w) A (assign target env v) (fun _ s₂ =>
          wpAny (model prog w) A (forIn ifs true fun c r => if r = true then do let ok ← isTrue c env (eval c env); pure (ForInStep.yield ok) else pure (ForInStep.yield r)) (fun ok s₃ =>
            if ok = true then wpAny (model prog w) A (eval elt env) (fun x s₄ =>
              wpAny (model prog w) A (call (.builtin "list.append") [acc, x]) (fun _ s₅ => ∃ m, m < n ∧ I m s₅) (fun _ _ => False) s₄) (fun _ _ => False) s₃
            else ∃ m, m < n ∧ I m s₃) (fun _ _ => False) s₂) (fun _ _ => False) s₁') (fun _ _ => False) s₁) (fun _ _ => False) s)
    (n : Nat) (h : I n s) :
    codeAny (model prog w) A (.compLoop (.ListComp elt [⟨target, iter, ifs, 0⟩] scope pos) 0 it acc env) R s := by
  refine codeAny_loop rfl I (fun n s hI => ?_) n h
  show wpAny _ A ((compTurn (.ListComp elt [⟨target, iter, ifs, 0⟩] scope pos) 0 it acc env).onRaise (fun x => do noteFrame x env; theTreesLotGoes x)) _ _ s
  refine wpAny_noted ?_
  rw [compTurn_list]
  refine wpAny_bind (wpAny_standAt (wpAny_bind (wpAny_mono (turn n s hI) (fun r s₁ h₁ => ?_) fun _ _ h' => h'.elim)))
  cases r with
  | none => exact wpAny_pure h₁
  | some v =>
    refine wpAny_bind (wpAny_mono h₁ (fun _ s₁' h₁' => ?_) fun _ _ h' => h'.elim)
    refine wpAny_bind (wpAny_mono h₁' (fun _ s₂ h₂ => wpAny_bind (wpAny_mono h₂ (fun ok s₃ h₃ => ?_) fun _ _ h' => h'.elim)) fun _ _ h' => h'.elim)
    cases ok with
    | false => exact wpAny_pure ⟨rfl, h₃⟩
    | true =>
      exact wpAny_bind (wpAny_bind (wpAny_mono h₃ (fun x s₄ h₄ => wpAny_bind (wpAny_mono h₄ (fun _ s₅ h₅ => wpAny_pure (wpAny_pure ⟨rfl, h₅⟩)) fun _ _ h' => h'.elim)) fun _ _ h' => h'.elim))
end
end PV
set_option linter.all false
set_option Elab.async false
set_option maxRecDepth 100000
set_option maxHeartbeats 4000000
namespace PV
open PySem PySem.Spec PyProof.Rows
open L2 (V Hp HO Vals SqL SqT Same upd Cx PE PT PW PA PS PSs TE TT TA TS Inv RelV Zb Yb Jb Un)
noncomputable def Y4 (X:Cx) (ifs:List Expr) (tc:TT):Prop:=∀ (pins:List (Addr × Obj)) (s:Shared) (σ:L2.St) (H:Hp) (Q:Bool→Hp→Prop),Inv X pins σ H s→tc σ H Q →
 wpAny (model X.prog X.w) X.A (forIn ifs true fun c r=>if r=true then do let ok ← isTrue c X.env (eval c X.env);pure (ForInStep.yield ok) else pure (ForInStep.yield r)) (L2.TP X pins σ Q) X.xe s
theorem ZcT {X:Cx}:Y4 X [] (fun _ H Q=>Q true H):=fun pins s σ H Q I h=>wpAny_tests_nil ⟨H,I,h⟩
theorem Zfi {X:Cx}{c:Expr}{tc:TT}(h:PT X c tc):Y4 X [c] tc:=fun pins s σ H Q I q=>wpAny_tests_one (h pins s σ H Q I q)
noncomputable def Za1 (J:L2.It) (i:Nat) (tc:TT) (te:TE) (σ:L2.St) (p:Addr) (Q:L2.VK) (H1:Hp):Prop :=
 ∃ W:Nat→Nat→Hp→List V→Prop,(∃ m,W 0 m (upd H1 p (.lst [])) [])∧∀ k m H2 acc,W k m H2 acc→H2 p=some (.lst acc)∧acc.length < sizeLine ∧
  ((J.stop k H2∧Q (.ref p) H2)∨(J.go k H2∧∀ v H3,J.yld k H2 v H3→tc (σ.set i (some v)) H3 fun b H4=>if b=true then te (σ.set i (some v)) H4 fun w H5=>H5 p=some (.lst acc)∧∃ m',m' < m∧W (k + 1) m' (upd H5 p (.lst (acc++[w]))) (acc++[w])
   else ∃ m',m' < m∧W (k + 1) m' H4 acc))
noncomputable def ZeX (wi:L2.TI) (i:Nat) (tc:TT) (te:TE):TE:=fun σ H Q=>wi σ H fun J H1=>∀ p,H1 p=none→Za1 J i tc te σ p Q H1
section
variable {X:Cx} {sc:Scope} {x:Str} {i:Nat} {px pos:Pos} {iter elt:Expr} {ifs:List Expr} {wi:L2.TI} {tc:TT} {te:TE}
theorem Zcd (nox : ∀ e s, X.xe e s → False)(hc : X.calm = true)(nd : X.N.Nodup)(CO : YL X.N X.env.scope sc x)(hi : X.N[i]? = some x)
    (hT : ∀ cs C s0 H0 fp pn, Y4 (blk X X.env.scope sc cs C s0 H0 fp pn) ifs tc) (hE : ∀ cs C s0 H0 fp pn, PE (blk X X.env.scope sc cs C s0 H0 fp pn) elt te)
    {pins : List (Addr × Obj)} {σ : L2.St} {H : Hp} {s : Shared} {E : Value → Shared → Prop} {Q : L2.VK} {it : Addr} {fp : List Addr} {tn : Nat → Heap → Prop} {J : L2.It} {cl : List (Str × Addr)} {RR : Value → Addr → Result → Shared → Prop}
    (I : Inv X pins σ H s) (T : L2.Turn X.prog X.w X.K (.Name x px) J fp it tn) (st : tn 0 s.heap) (hf : ∀ b ∈ fp, L2.FpOk X pins H b) (hq : ∀ p, H p = none → Za1 J i tc te σ p Q H)
    (c1 : ∀ n c, cl.lookup n = some c → X.env.cells.lookup n = some c) (c2 : ∀ y ∈ sc.names, y.2 = .free → ∃ c, cl.lookup y.1 = some c) (c3 : ∀ n c, cl.lookup n = some c → (n, NameKind.free) ∈ sc.names)
    (hRR : ∀ (p C : Addr) (Hb : Hp) (m : Str → Option Value) (s1 : Shared), Inv X pins σ Hb s1 → Q (.ref p) Hb → s1.heap.Ns C m → Hb C = none → C ≠ X.env.locals → X.s₀.heap.objs.size ≤ C → (∀ y c, X.env.cells.lookup y = some c → c ≠ C) → (∀ q ∈ X.pn ++ pins, q.1 ≠ C) → C ∉ X.fs → RR (.ref p) C (.ok .next) s1) :
    wpAny (model X.prog X.w) X.A (newList []) (fun acc s₃ => wpAny (model X.prog X.w) X.A (newFunctionEnv sc X.env.globals cl [] X.env.qual none .none (some X.env)) (fun cenv s₄ =>
      codeAny (model X.prog X.w) X.A (.compStart (.ListComp elt [⟨.Name x px, iter, ifs, 0⟩] sc pos) 0 (.ref it) acc { cenv with scope := relabel sc X.env }) (RR acc cenv.locals) s₄) E s₃) E s := by
  refine wpAny_newObj_type (ZbB ?_)
  have hp : H s.heap.objs.size = none := I.fresh
  have I3 : Inv X pins σ (upd H s.heap.objs.size (.lst [])) { s with heap := s.heap.push { cls := .type "list", data := .seq ([] : List Value).toArray } } := I.lnew (t' := s.toks) (its := []) (ys := []) .nil (Nat.zero_le _)
  obtain ⟨W, ⟨m0, w0⟩, turn⟩ := hq _ hp
  generalize hs3 : ({ s with heap := s.heap.push { cls := .type "list", data := .seq ([] : List Value).toArray } } : Shared) = s3 at I3
  generalize hH3 : upd H s.heap.objs.size (.lst []) = H3 at I3 w0
  have hlt : ∀ b ∈ fp, b < s.heap.objs.size := fun b hb => by obtain ⟨o, e, _⟩ := T.obj 0 s.heap st b hb; exact Heap.lt_size e
  have hk3 : ∀ b o, s.heap.get? b = some o → s3.heap.get? b = some o := fun b o e => by rw [← hs3]; exact Heap.get?_push_of_some _ e
  have hf3 : ∀ b ∈ fp, L2.FpOk X pins H3 b := fun b hb => by
    obtain ⟨f1, f2⟩ := hf b hb
    refine ⟨?_, f2⟩
    rw [← hH3, Yb (Nat.ne_of_lt (hlt b hb))]
    exact f1
  have st3 : tn 0 s3.heap := T.keep 0 _ _ st fun b hb o e => hk3 b o e
  have hl3 : ∀ b ∈ fp, b < s3.heap.objs.size := fun b hb => by obtain ⟨o, e, _⟩ := T.obj 0 s3.heap st3 b hb; exact Heap.lt_size e
  have Ib := Zel (i := i) (fp := fp) I3 CO rfl nd hi c1 c2 c3 hf3 hl3
  let Xb := blk X X.env.scope sc (cellsFrom (s3.heap.objs.size + 1) sc.names cl) s3.heap.objs.size s3 H3 fp pins
  have hTb : Y4 Xb ifs tc := hT _ _ _ _ _ _
  have hEb : PE Xb elt te := hE _ _ _ _ _ _
  have stk : ∀ b, b ∈ L2.frs X.stack → b < s3.heap.objs.size := fun b hb => by
    refine Nat.lt_of_not_le fun hle => ?_
    rcases List.mem_cons.mp (I3.YX b hb) with z | z
    · rw [z] at hle; exact absurd I3.lt (Nat.not_lt.mpr hle)
    · exact I3.nofs hle z
  have st4 : tn 0 (pushCells (s3.heap.push { cls := .type "dict", data := .dict #[] }) sc.names) := T.keep 0 _ _ st3 fun b hb o e => pushCells_keeps _ _ b o (Heap.get?_push_of_some _ e)
  have xf : ∀ {α : Type} {t : Sem α} {Q : α → Shared → Prop} {s : Shared}, wpAny (model X.prog X.w) X.A t Q X.xe s → wpAny (model X.prog X.w) X.A t Q (fun _ _ => False) s := fun h => wpAny_mono h (fun _ _ q => q) fun e s q => nox e s q
  have pgx : L2.PG Xb (.Name x px) (L2.Zbo i) := by
    refine L2.Zcr nd hi ?_ ?_
    · rcases CO.var with z | z
      · exact .inl (JW z)
      · exact .inr (Zcn z)
    · rcases CO.var with z | z
      · exact .inr (JW z)
      · exact .inl (decide_eq_true z)
  have loop : ∀ s4 : Shared, s4 = { s3 with heap := pushCells (s3.heap.push { cls := .type "dict", data := .dict #[] }) sc.names } →
      codeAny (model X.prog X.w) X.A (.compLoop (.ListComp elt [⟨.Name x px, iter, ifs, 0⟩] sc pos) 0 (.ref it) (.ref s.heap.objs.size) Xb.env) (RR (.ref s.heap.objs.size) s3.heap.objs.size) s4 := by
    rintro s4 rfl
    have stat : ∀ {Hc : Hp}, (∀ b ∈ fp, Hc b = none) → ∀ b ∈ fp, L2.FpOk Xb [] Hc b := fun {Hc} hn b hb => by
      obtain ⟨_, f2, f3, f4, f5, f6⟩ := hf3 b hb
      refine ⟨hn b hb, Nat.ne_of_lt (hl3 b hb), fun z => ?_, .inl hb, Ib.ok.exf b hb |>.2, fun q hq' => ?_⟩
      · rcases List.mem_cons.mp (I3.YX b z) with w | w
        · exact f2 w
        · exact f3 w
      · have hq2 : q ∈ (X.pn ++ pins) ++ [] := hq'
        exact f6 q (by simpa using hq2)
    refine ZdE (fun n s' => ∃ k ov Hc acc, Inv Xb [] (σ.set i ov) Hc s' ∧ tn k s'.heap ∧ (∀ b ∈ fp, Hc b = none) ∧ W k n Hc acc) ?_ m0 ⟨0, none, H3, [], Ib, st4, fun b hb => (hf3 b hb).1, w0⟩
    rintro n s5 ⟨k, ov, Hc, acc, I5, st5, fr5, w5⟩
    obtain ⟨hacc, hlen, hcase⟩ := turn k n Hc acc w5
    rcases hcase with ⟨stop, qn⟩ | ⟨go, step⟩
    · refine xf (L2.thn (T.done Xb rfl rfl rfl hc k [] s5 (σ.set i ov) Hc X.xe I5 (stat fr5) st5 stop) fun r s6 ⟨hr, I6⟩ => ?_)
      subst hr
      obtain ⟨mm, hn6, _⟩ := I6.loc
      refine hRR _ _ Hc mm s6 (Zdz (osc := X.env.scope) (sc := sc) I3 hf3 I6) qn hn6 I6.free (Ne.symm (Nat.ne_of_lt I3.lt)) I3.sz (fun y c e z => ?_) (fun q hq' z => ?_) fun z => ?_
      · obtain ⟨v, q⟩ := I3.cell y c e
        exact absurd q.lt (by rw [z]; exact Nat.lt_irrefl _)
      · exact absurd (Heap.lt_size (I3.pin q hq').1) (by rw [z]; exact Nat.lt_irrefl _)
      · exact I3.nofs (Nat.le_refl _) z
    · refine xf (L2.thn (T.item Xb rfl rfl rfl hc k [] s5 (σ.set i ov) Hc X.xe I5 (stat fr5) st5 go) fun r s6 ⟨u, hr, h6⟩ => ?_)
      subst hr
      refine xf (L2.thn h6 fun _ s7 ⟨v, H7, I7, r7, y7, st7, fr7⟩ => ?_)
      have I7' := I7.pinned (stat fr7) (T.obj _ _ st7)
      have hv := step v H7 y7
      refine xf (L2.thn (pgx _ s7 (σ.set i ov) H7 v u (fun σ' H' => σ' = σ.set i (some v) ∧ H' = H7) I7' r7 ⟨by rw [List.set_set], rfl⟩) fun _ s8 ⟨σ8, H8, I8, e8, e8'⟩ => ?_)
      subst e8 e8'
      refine xf (L2.thn (hTb _ s8 _ H8 _ I8 hv) fun ok s9 ⟨H9, I9, q9⟩ => ?_)
      have again : ∀ {σ10 : L2.St} {H10 : Hp} {acc' : List V} {s10 : Shared}, Inv Xb ([] ++ L2.JC fp s7.heap) σ10 H10 s10 → σ10 = σ.set i (some v) → (∃ m', m' < n ∧ W (k + 1) m' H10 acc') →
          ∃ m, m < n ∧ ∃ k ov Hc acc, Inv Xb [] (σ.set i ov) Hc s10 ∧ tn k s10.heap ∧ (∀ b ∈ fp, Hc b = none) ∧ W k m Hc acc := fun {σ10 H10 acc' s10} I10 e10 ⟨m', hm, w10⟩ => by
        subst e10
        refine ⟨m', hm, k + 1, some v, H10, acc', I10.Zn, T.keep _ _ _ st7 fun b hb o e => (I10.pin (b, o) (List.mem_append_right _ (List.mem_append_right _ (L2.Ys hb e)))).1, fun b hb => ?_, w10⟩
        obtain ⟨o, e, d⟩ := T.obj _ _ st7 b hb
        exact (I10.pin (b, o) (List.mem_append_right _ (List.mem_append_right _ (L2.Ys hb e)))).2.1
      cases ok with
      | false =>
        show ∃ m, m < n ∧ _
        rw [if_neg Bool.false_ne_true] at q9
        exact again I9 rfl q9
      | true =>
        rw [if_pos rfl] at q9
        show wpAny _ _ _ _ _ _
        refine xf (L2.thn (hEb _ s9 _ H9 _ I9 q9) fun ww s10 ⟨x10, H10, I10, r10, q10, m', hm, w10⟩ => ?_)
        refine xf (L2.thn (L2.ZaT (X := Xb) _ s10 _ H10 (.ref s.heap.objs.size) [x10] (.ref s.heap.objs.size) [ww] (fun _ H' => H' = upd H10 s.heap.objs.size (.lst (acc ++ [x10]))) I10 rfl (.cons r10 .nil) ⟨_, acc, x10, rfl, rfl, q10, hlen, rfl⟩) fun _ s11 ⟨_, H11, I11, _, e11⟩ => ?_)
        subst e11
        exact again I11 rfl ⟨m', hm, w10⟩
  subst hs3
  have l := loop _ rfl
  exact codeAny_compStart_list l (T.self _ 0 _ _ _ st4 l)
theorem ZcA {pins:List (Addr × Obj)}{σ:L2.St}{H:Hp}{s:Shared}(I:Inv X pins σ H s)(CO:YL X.N X.env.scope sc x):∀ y ∈ sc.names,y.2=.free→∃ c,X.env.cells.lookup y.1=some c:=fun y hy e =>
 I.ok.has y.1 (CO.free y hy e)
theorem Zey (nox:∀ e s,X.xe e s→False)(hc:X.calm=true)(nd:X.N.Nodup)(CO:YL X.N X.env.scope sc x)(hi:X.N[i]?=some x)(hI:L2.PI X (.Name x px) iter wi)
  (hT:∀ cs C s0 H0 fp pn,Y4 (blk X X.env.scope sc cs C s0 H0 fp pn) ifs tc) (hE:∀ cs C s0 H0 fp pn,PE (blk X X.env.scope sc cs C s0 H0 fp pn) elt te)
  (hs:∀ x,foldedSetIterable iter X.env x=pure x):PE X (.ListComp elt [⟨.Name x px,iter,ifs,0⟩] sc pos) (ZeX wi i tc te):=by
 intro pins s σ H Q I h
 obtain ⟨cl,hcl,c1,c2,c3⟩:=ZaK (ZcA I CO)
 rw [eval_ListComp]
 refine wpAny_comprehension_free (use:=none) rfl hs hcl CO.kind CO.loc (L2.thn (hI pins s σ H _ I h) fun v s1 h1=>L2.thn h1 fun itv s2 h2=>?_)
 obtain ⟨it,fp,tn,J,H2,rfl,I2,T,st,hf,hq⟩:=h2
 refine Zcd (RR:=fun acc C=>compPost (model X.prog X.w) X.A X.xe none (L2.EP X pins σ Q) acc C) nox hc nd CO hi hT hE I2 T st hf hq c1 c2 c3 ?_
 intro p C Hb m s1' I' q hns hC hL hsz hcell hpin hfs
 refine ⟨m,hns,fun h' hs'=>?_⟩
 have I'':=I'.turned (h':=h') (t':=s1'.toks) (it:=C) (fun b o hb e=>hs'.extBut b o hb e) hC hL (.inr hsz) hcell hpin
 exact ⟨.ref p,Hb,I'',rfl,q⟩
theorem Ze0 {j:Nat}{y:Str}{py spos:Pos}(nox:∀ e s,X.xe e s→False)(hc:X.calm=true)(nd:X.N.Nodup)(CO:YL X.N X.env.scope sc x)(hi:X.N[i]?=some x)(hI:L2.PI X (.Name x px) iter wi)
  (hT:∀ cs C s0 H0 fp pn,Y4 (blk X X.env.scope sc cs C s0 H0 fp pn) ifs tc) (hE:∀ cs C s0 H0 fp pn,PE (blk X X.env.scope sc cs C s0 H0 fp pn) elt te)
  (hs:∀ x,foldedSetIterable iter X.env x=pure x) (hj:X.N[j]?=some y) (hy:L2.Loc X.env.scope y) (hfn:X.fn y=true∨X.env.scope.names.lookup y=some .local)
  (hsw:swapsWith (.ListComp elt [⟨.Name x px,iter,ifs,0⟩] sc pos) (some (.Name y py)) spos.line X.env=pure true) :
  PS X (.Assign [.Name y py] (.ListComp elt [⟨.Name x px,iter,ifs,0⟩] sc pos) spos) (L2.tAsg (ZeX wi i tc te) (L2.Zbo j)):=by
 intro pins s σ H D0 I h
 obtain ⟨cl,hcl,c1,c2,c3⟩:=ZaK (ZcA I CO)
 rw [exec_Assign_Name_used _ _ _ _ hsw]
 refine wpAny_bind (wpAny_standAt (wpAny_bind ?_))
 show wpAny _ X.A (do let _ ← comprehension (.ListComp elt [⟨.Name x px,iter,ifs,0⟩] sc pos) sc X.env _ (newList []) false (eval iter X.env) (some (assign (.Name y py) X.env))) _ _ s
 refine wpAny_bind (wpAny_mono (wpAny_comprehension_free (use:=some (assign (.Name y py) X.env)) (Q:=fun _ s'=>L2.SP X pins D0 .next s') rfl hs hcl CO.kind CO.loc
  (L2.thn (hI pins s σ H _ I h) fun v s1 h1=>L2.thn h1 fun itv s2 h2=>?_)) (fun _ s' hq=>wpAny_pure (wpAny_pure hq)) fun _ _ e=>e)
 obtain ⟨it,fp,tn,J,H2,rfl,I2,T,st,hf,hq⟩:=h2
 refine Zcd (RR:=fun acc C=>compPost (model X.prog X.w) X.A X.xe (some (assign (.Name y py) X.env)) (fun _ s'=>L2.SP X pins D0 .next s') acc C) nox hc nd CO hi hT hE I2 T st hf hq c1 c2 c3 ?_
 intro p C Hb m s1' I' q hns hC hL hsz hcell hpin hfs
 show wpAny _ X.A (assign (.Name y py) X.env (.ref p)) _ _ _
 obtain ⟨oC,es,ep,hoC,hdC,rest⟩:=id hns
 have Ip:Inv X (pins++[(C,oC)]) σ Hb s1':=I'.ZaA fun q hq'=>(List.mem_append.mp hq').elim (fun z=>I'.pin q (List.mem_append_right _ z)) fun z=>by
  have e:q=(C,oC):=by simpa using z
  subst e
  exact ⟨hoC,hC,hL,hfs,fun v e=>by rw [hdC] at e;cases e⟩
 refine wpAny_assign_Name (L2.Y6 Ip nd hj hy (v:=.ref p) rfl (fun s2' I2'=>?_) hfn)
 have hC2:=(I2'.pin (C,oC) (List.mem_append_right _ (List.mem_append_right _ (by simp)))).1
 refine ⟨m,⟨oC,es,ep,hC2,hdC,rest⟩,fun h' hs'=>?_⟩
 have I3':Inv X pins (σ.set j (some (.ref p))) Hb s2':=I2'.Zn
 have I4':=I3'.turned (h':=h') (t':=s2'.toks) (it:=C) (fun b o hb e=>hs'.extBut b o hb e) hC hL (.inr hsz) hcell hpin
 exact ⟨_,Hb,I4',q⟩
end
end PV
set_option linter.all false
set_option Elab.async false
set_option maxRecDepth 100000
set_option maxHeartbeats 4000000
namespace PV
open PySem PySem.Spec PyProof.Rows
open L2 (V Hp HO Vals SqL SqT Same upd Cx PE PT PW PA PS PSs TE TT TA TS Inv RelV Zb Yb Jb Un)
section
variable {X:Cx} {sc:Scope} {x:Str} {i:Nat} {px pos:Pos} {iter elt c:Expr} {lx:Lx} {t:Tx} {f:Ex} {m:Md} {r:RetP}
theorem Ext.Zev {F H F2 H2 F5 H5:Hp}(e:Ext F H F2 H2)(e5:Ext F2 H2 F5 H5){p:Addr}(hp:H p=none)(f2:F2 p=none)(h2:H2 p≠none)(o:HO):Ext F H F5 (upd H5 p o)∧F5 p=none:=by
 have f5:F5 p=none:=by
  cases z:F5 p with
  | none=>rfl
  | some u =>
   rcases e5.dm p u z with y | y
   ·rw [f2] at y;cases y
   ·exact absurd y h2
 have e':=e.trans e5
 refine ⟨⟨fun b u h=>by rw [Yb (Jb h hp)];exact e'.hh b u h,e'.ff,e'.dm,fun b u h=>by rw [Yb (Jb h f5)];exact e'.fh b u h⟩,f5⟩
theorem ZhL {BH F H:Hp}{p:Addr}{o:HO}(hm:m≠.r):Same (hpM BH F H m) (hpM BH F (upd H p o) m):=by
 cases m with
 | r=>exact absurd rfl hm
 | k=>exact .refl _
 | f=>exact .refl _
theorem ZeR {K:PySem.W.Frag}{tc:TT}(htc:∀ σ H Q,tTst K t σ H Q→tc σ H Q)(hm:m≠.r){BF BH F F1 H H1:Hp}{σ:L2.St}{env:Env}{L:Nat→List Addr}{ds xs:List D}{J:L2.It}{p:Addr}{Q:L2.VK}(S:SOk K BF BH F H σ env L)(z1:Ext F H F1 H1)(J1:ItOk K J F1 ds)
  (hl:ds.length≤lim) (hx:Jz i t f env ds=some xs) (hp:H1 p=none) (q:∀ vs F' H',Ext F H F' H'→H p=none→H' p=some (.lst vs)→F' p=none→Reps K (hpM BH F' H' m) xs vs→Q (.ref p) H') :
  Za1 J i tc (tD K m f) σ p Q H1:=by
 have hp0:H p=none:=z1.hh.free hp
 have hpF:F1 p=none:=z1.fh.free hp
 refine ⟨fun k mm H2 acc=>mm=ds.length - k∧k≤ds.length∧H2 p=some (.lst acc)∧∃ F2 ys zs,Ext F H F2 H2∧Same F1 F2∧F2 p=none∧ys.length≤k∧Reps K (hpM BH F2 H2 m) ys acc∧Jz i t f env (ds.drop k)=some zs∧xs=ys++zs,
  ⟨ds.length,by simp,Nat.zero_le _,Zb,F1,[],xs,z1.trans (Ext.own z1.fh hp),.refl _,hpF,Nat.zero_le _,Reps.nil,hx,rfl⟩,?_⟩
 rintro k mm H2 acc ⟨rfl,hk,hacc,F2,ys,zs,z2,s12,f2,hy,ra,hz,hxs⟩
 have hal:acc.length≤lim:=by rw [← ra.length];omega
 refine ⟨hacc,Nat.lt_of_le_of_lt hal Zfl,?_⟩
 by_cases hlt:k < ds.length
 ·refine .inr ⟨J1.go k H2 (s12.trans z2.fh) hlt,fun v H3 hy3=>?_⟩
  obtain ⟨d,F3,hd,z3,r3⟩:=J1.yld k H2 v H3 F2 s12 z2.fh hlt hy3
  have hd':ds[k]=d:=by rw [List.getElem?_eq_getElem hlt] at hd;exact Option.some.inj hd
  rw [List.drop_eq_getElem_cons hlt,hd'] at hz
  simp only [Jz] at hz
  have z13:=z2.trans z3
  have S3:=(S.ext z13).Zbs i r3
  have h2p:H2 p≠none:=by rw [hacc];simp
  split at hz
  ·rename_i ht
   refine htc _ _ _ ⟨BF,BH,F3,_,_,true,S3,ht,fun F4 H4 z4=>L2.iteT ?_⟩
   split at hz
   ·rename_i e1 zs' he hz'
    cases hz
    refine ⟨BF,BH,F4,_,_,e1,S3.ext z4,he,fun w F5 H5 z5 r5=>?_⟩
    have z25:=(z3.trans z4).trans z5
    obtain ⟨zz,f5⟩:=z2.Zev z25 hp0 f2 h2p (.lst (acc++[w]))
    refine ⟨z25.hh _ _ hacc,ds.length - (k + 1),by omega,rfl,hlt,Zb,F5,ys++[e1],zs',zz,s12.trans z25.ff,f5,by rw [List.length_append,List.length_singleton];omega,?_,hz',by rw [hxs,List.append_assoc];rfl⟩
    exact Reps.mono (ZhL hm) _ _ ((Reps.mono (YS z25 m) _ _ ra).append (Reps.cons r5 Reps.nil))
   ·cases hz
  ·rename_i ht
   refine htc _ _ _ ⟨BF,BH,F3,_,_,false,S3,ht,fun F4 H4 z4=>L2.iteF ?_⟩
   have z24:=z3.trans z4
   have f4:F4 p=none:=by
    cases q4:F4 p with
    | none=>rfl
    | some u =>
     rcases z24.dm p u q4 with y | y
     ·rw [f2] at y;cases y
     ·exact absurd y h2p
   exact ⟨ds.length - (k + 1),by omega,rfl,hlt,z24.hh _ _ hacc,F4,ys,zs,z2.trans z24,s12.trans z24.ff,f4,by omega,Reps.mono (YS z24 m) _ _ ra,hz,hxs⟩
  ·cases hz
 ·have ek:k=ds.length:=by omega
  subst ek
  rw [List.drop_length] at hz
  have hz0:zs=[]:=by simp only [Jz] at hz;exact (Option.some.inj hz).symm
  subst hz0
  rw [List.append_nil] at hxs
  subst hxs
  exact .inl ⟨J1.stop H2 (s12.trans z2.fh),q acc F2 H2 z2 hp0 hacc f2 ra⟩
theorem Zaf {env:Env}{d:D}(h:Yg i lx t f env=some d):∃ ds xs,lx env=some ds∧ds.length≤lim∧Jz i t f env ds=some xs∧d=.lst xs:=by
 unfold Yg at h
 split at h
 ·rename_i ds h1
  split at h
  ·rename_i hl
   split at h
   ·rename_i xs h2
    cases h
    exact ⟨ds,xs,h1,hl,h2,rfl⟩
   ·cases h
  ·cases h
 ·cases h
theorem ZcH {tc:TT}(htc:∀ σ H Q,tTst X.K t σ H Q→tc σ H Q)(hm:m≠.r)(σ:L2.St)(H:Hp)(Q:L2.VK)(h:tO X.K m (Yg i lx t f) σ H Q):ZeX (tIt X.K lx) i tc (tD X.K m f) σ H Q:=by
 obtain ⟨BF,BH,F,env,L,ds0,S,e,q⟩:=h
 obtain ⟨ds,xs,h1,hl,h2,e2⟩:=Zaf e
 cases e2
 exact ⟨BF,BH,F,env,L,ds,S,h1,fun J F1 H1 z1 J1 p hp=>ZeR htc hm S z1 J1 hl h2 hp fun vs F' H' z a b c d=>q p vs F' H' z a b c d⟩
theorem ZfQ {K:PySem.W.Frag}:∀ σ H Q,tTst K Yj σ H Q→(fun (_:L2.St) (H:Hp) (Q:Bool→Hp→Prop)=>Q true H) σ H Q:=fun σ H Q hh_=>el9 hh_ fun BF BH F env L b S e q=>by
 cases e;exact q F H (.refl S.fh)
variable (nox:∀ e s,X.xe e s→False) (nd:X.N.Nodup)
include nox nd
theorem ZhJ (i:Nat)(hI:PId X (.Name x px) iter lx)(hE:∀ cs C s0 H0 fp pn,PD (blk X X.env.scope sc cs C s0 H0 fp pn) m elt f)(hm:m≠.r:=by exact fun h=>nomatch h)(hc:X.calm=true:=by rfl)(hco:J0 X.N X.env.scope sc x=true:=by kernel_rfl)(hi:X.N[i]?=some x:=by kernel_rfl)
  (hs:∀ x,foldedSetIterable iter X.env x=pure x:=by intro _;rfl):PDo X m (.ListComp elt [⟨.Name x px,iter,[],0⟩] sc pos) (Yg i lx Yj f) :=
 PE.of (Zey (te:=tD X.K m f) nox hc nd (Y9 hco) hi hI (fun _ _ _ _ _ _=>ZcT) (fun cs C s0 H0 fp pn=>(hE cs C s0 H0 fp pn).h) hs) fun σ H Q h=>ZcH ZfQ hm σ H Q h
theorem Zgx (i:Nat)(hI:PId X (.Name x px) iter lx)(hT:∀ cs C s0 H0 fp pn,PTd (blk X X.env.scope sc cs C s0 H0 fp pn) c t)(hE:∀ cs C s0 H0 fp pn,PD (blk X X.env.scope sc cs C s0 H0 fp pn) m elt f)(hm:m≠.r:=by exact fun h=>nomatch h)(hc:X.calm=true:=by rfl)
  (hco:J0 X.N X.env.scope sc x=true:=by kernel_rfl) (hi:X.N[i]?=some x:=by kernel_rfl) (hs:∀ x,foldedSetIterable iter X.env x=pure x:=by intro _;rfl):PDo X m (.ListComp elt [⟨.Name x px,iter,[c],0⟩] sc pos) (Yg i lx t f) :=
 PE.of (Zey (tc:=tTst X.K t) (te:=tD X.K m f) nox hc nd (Y9 hco) hi hI (fun cs C s0 H0 fp pn=>Zfi (hT cs C s0 H0 fp pn)) (fun cs C s0 H0 fp pn=>(hE cs C s0 H0 fp pn).h) hs) fun σ H Q h=>ZcH (fun _ _ _ q=>q) hm σ H Q h
theorem Zbh (i:Nat)(hI:PId X (.Name x px) iter lx)(hE:∀ cs C s0 H0 fp pn,PD (blk X X.env.scope sc cs C s0 H0 fp pn) m elt f)(hm:m≠.r:=by exact fun h=>nomatch h)(hc:X.calm=true:=by rfl)(hco:J0 X.N X.env.scope sc x=true:=by kernel_rfl)(hi:X.N[i]?=some x:=by kernel_rfl)
  (hs:∀ x,foldedSetIterable iter X.env x=pure x:=by intro _;rfl):PD X m (.ListComp elt [⟨.Name x px,iter,[],0⟩] sc pos) (Yg i lx Yj f) :=
 (ZhJ nox nd i hI hE hm hc hco hi hs).d fun env d h=>by obtain ⟨_,xs,_,_,_,e⟩:=Zaf h;exact ⟨xs,e⟩
theorem Zgl (i:Nat)(hI:PId X (.Name x px) iter lx)(hT:∀ cs C s0 H0 fp pn,PTd (blk X X.env.scope sc cs C s0 H0 fp pn) c t)(hE:∀ cs C s0 H0 fp pn,PD (blk X X.env.scope sc cs C s0 H0 fp pn) m elt f)(hm:m≠.r:=by exact fun h=>nomatch h)(hc:X.calm=true:=by rfl)
  (hco:J0 X.N X.env.scope sc x=true:=by kernel_rfl) (hi:X.N[i]?=some x:=by kernel_rfl) (hs:∀ x,foldedSetIterable iter X.env x=pure x:=by intro _;rfl):PD X m (.ListComp elt [⟨.Name x px,iter,[c],0⟩] sc pos) (Yg i lx t f) :=
 (Zgx nox nd i hI hT hE hm hc hco hi hs).d fun env d h=>by obtain ⟨_,xs,_,_,_,e⟩:=Zaf h;exact ⟨xs,e⟩
omit nox nd
theorem Zhy {te:TE}{j:Nat}(D0:L2.Ends)(σ:L2.St)(H:Hp)(h:tS X.K r (sSet j f) D0 σ H)(hf:∀ env d,f env=some d→∃ ds,d=.lst ds)(hte:∀ Q,tO X.K .k f σ H Q→te σ H Q):L2.tAsg te (L2.Zbo j) D0 σ H:=by
 obtain ⟨BF,BH,F,env,L,o,env',S,e,k⟩:=h
 unfold sSet at e
 split at e
 ·rename_i d h1
  cases e
  obtain ⟨ds,rfl⟩:=hf env d h1
  refine hte _ ⟨BF,BH,F,env,L,ds,S,h1,fun p vs F' H' z h0 h2 h3 rr=>?_⟩
  have z':=z.frz h0 h2 h3
  have rp:Rep X.K (upd F' p (.lst vs)) (.lst ds) (.ref p):=by
   simp only [Rep]
   exact ⟨p,vs,rfl,.inl (.inl Zb),Reps.mono (fun b u e=>by rw [Yb (Jb e h3)];exact e) _ _ rr⟩
  exact k _ H' _ _ ((S.ext z').Zbs j rp) z'.ff
 ·cases e
include nox nd
theorem Zdv (j i:Nat){y:Str}{py spos:Pos}(hI:PId X (.Name x px) iter lx)(hE:∀ cs C s0 H0 fp pn,PD (blk X X.env.scope sc cs C s0 H0 fp pn) .k elt f)(hc:X.calm=true:=by rfl)(hco:J0 X.N X.env.scope sc x=true:=by kernel_rfl)(hi:X.N[i]?=some x:=by kernel_rfl)
  (hs:∀ x,foldedSetIterable iter X.env x=pure x:=by intro _;rfl) (hj:X.N[j]?=some y:=by kernel_rfl) (hy:locB X.env.scope y=true:=by kernel_rfl) (hfn:fnB X y=true:=by kernel_rfl)
  (hsw:swapsWith (.ListComp elt [⟨.Name x px,iter,[],0⟩] sc pos) (some (.Name y py)) spos.line X.env=pure true:=by rfl):PS1 X r (.Assign [.Name y py] (.ListComp elt [⟨.Name x px,iter,[],0⟩] sc pos) spos) (sSet j (Yg i lx Yj f)) :=
 PS1.mk <| PS.of (Ze0 (te:=tD X.K .k f) nox hc nd (Y9 hco) hi hI (fun _ _ _ _ _ _=>ZcT) (fun cs C s0 H0 fp pn=>(hE cs C s0 H0 fp pn).h) hs hj (Z5 hy) (Zay hfn) hsw) fun D0 σ H h=>Zhy D0 σ H h (fun env d h=>by obtain ⟨_,xs,_,_,_,e⟩:=Zaf h;exact ⟨xs,e⟩) fun Q q=>ZcH (m:=.k) ZfQ (fun h=>nomatch h) σ H Q q
omit nox nd
include nox nd
end
end PV
set_option linter.all false
set_option Elab.async false
set_option maxRecDepth 100000
set_option maxHeartbeats 4000000
namespace PV
open PySem PySem.Spec PyProof.Rows
open L2 (V Hp HO Vals SqL SqT Same upd Cx PE PT PW PA PS PSs TE TT TA TS Inv RelV Zb Yb Jb Un)
section
variable {X:Cx} {m m1 m2:Md} {a b:Expr} {f g:Ex} {pos p p2:Pos}
theorem ZdO (hu:X.A.units + 64 < cLine){p3:Pos}(ha:PD X m1 a f)(hb:PD X m2 b g)(hst:nst b=true:=by rfl)
  (hbase:attributeBase a "index" X.env (eval a X.env)=eval a X.env:=by rfl) (hline:(p2.endLine == p3.line)=true:=by rfl) :
  PD X m (.Call (.Attribute a "index" p2) [b] [] p3) (eF2 Zcb f g) :=
 PD.mk <| PE.of (L2.Zbi PySem.F.plainAttrs_list PySem.F.slot_list_index PySem.F.type_list_index (ZfG hu) ha.r.h (L2.Zj hb.r.h L2.Jp (Yl hst)) hbase (by rw [ZK (ZS hst)];rfl) hline (Yd hst) rfl) fun σ H Q hh_=>el9 hh_ fun BF BH F env L d S e q=>by
  unfold eF2 at e
  split at e
  ·rename_i x y h1 h2
   unfold Zcb at e
   split at e
   ·rename_i ys
    split at e
    ·rename_i hd
     split at e
     ·rename_i j hj
      cases e
      refine ⟨BF,BH,F,env,L,_,S,h1,fun v F1 H1 z1 r1=>⟨?_,BF,BH,F1,env,L,y,S.ext z1,h2,fun w F2 H2 z2 r2=>⟨y,w,ys,j,rfl,Rep.mono z2.hh _ _ r1,r2,hd,hj,q _ F2 H2 (z1.trans z2) (by simp [Rep])⟩⟩⟩
      have r1':=r1
      simp only [Rep,hpM] at r1'
      obtain ⟨p,vs,rfl,hs,_⟩:=r1'
      exact .inl ⟨rfl,vs,hs⟩
     ·cases e
    ·cases e
   ·cases e
  ·cases e
end
end PV
set_option linter.all false
set_option Elab.async false
set_option maxRecDepth 100000
set_option maxHeartbeats 4000000
namespace PV
open PySem
noncomputable def Ris (xs:Array Nat):Prop:=∀ i j (hi:i < xs.size) (hj:j < xs.size),i < j→xs[i] < xs[j]
theorem Zgi {xs:Array Nat}{j:Nat}(hr:Ris xs):∀ (fuel lo hi:Nat),hi≤xs.size→hi - lo < 2 ^ fuel→lo≤hi →
  (∀ i (h:i < xs.size),i < lo→xs[i] < j)→(∀ i (h:i < xs.size),hi≤i→j≤xs[i]) →
  SetTable.below.go xs j fuel lo hi≤xs.size∧(∀ i (h:i < xs.size),i < SetTable.below.go xs j fuel lo hi→xs[i] < j)∧(∀ i (h:i < xs.size),SetTable.below.go xs j fuel lo hi≤i→j≤xs[i]):=by
 intro fuel
 induction fuel with
 | zero =>
  intro lo hi h1 h2 h3 a b
  have:hi=lo:=by simp at h2;omega
  subst this
  unfold SetTable.below.go
  exact ⟨h1,a,b⟩
 | succ fuel ih =>
  intro lo hi h1 h2 h3 a b
  unfold SetTable.below.go
  by_cases hlt:lo < hi
  ·rw [if_pos hlt]
   have hm:(lo + hi) / 2 < xs.size:=by omega
   have e:xs.getD ((lo + hi) / 2) j=xs[(lo + hi) / 2]:=by simp [Array.getD,hm]
   dsimp only
   rw [e]
   have hp:2 ^ (fuel + 1)=2 ^ fuel * 2:=Nat.pow_succ ..
   by_cases hc:xs[(lo + hi) / 2] < j
   ·rw [if_pos hc]
    refine ih _ hi h1 (by omega) (by omega) (fun i h hi'=>?_) b
    rcases Nat.lt_or_ge i ((lo + hi) / 2) with h5 | h5
    ·exact Nat.lt_trans (hr i _ h hm h5) hc
    ·have:i=(lo + hi) / 2:=by omega
     subst this;exact hc
   ·rw [if_neg hc]
    refine ih lo _ (by omega) (by omega) (by omega) a (fun i h hi'=>?_)
    rcases Nat.lt_or_ge ((lo + hi) / 2) i with h5 | h5
    ·have:=hr _ i hm h h5;omega
    ·have:i=(lo + hi) / 2:=by omega
     subst this;omega
  ·rw [if_neg hlt]
   have:lo=hi:=by omega
   subst this
   exact ⟨h1,a,b⟩
theorem ZdH {xs:Array Nat}(hr:Ris xs)(j:Nat):SetTable.below xs j≤xs.size∧(∀ i (h:i < xs.size),i < SetTable.below xs j→xs[i] < j)∧(∀ i (h:i < xs.size),SetTable.below xs j≤i→j≤xs[i]):=by
 unfold SetTable.below
 refine Zgi hr xs.size 0 xs.size (Nat.le_refl _) ?_ (Nat.zero_le _) (fun i h h'=>by omega) (fun i h h'=>by omega)
 have:=Nat.lt_two_pow_self (n:=xs.size)
 omega
theorem ZeQ {xs:Array Nat}(hr:Ris xs){k:Nat}(hk:k < xs.size):SetTable.below xs (xs[k] + 1)=k + 1:=by
 obtain ⟨h1,h2,h3⟩:=ZdH hr (xs[k] + 1)
 generalize SetTable.below xs (xs[k] + 1)=p at h1 h2 h3
 rcases Nat.lt_trichotomy p (k + 1) with h | h | h
 ·have:=h3 k hk (by omega);omega
 ·exact h
 ·have h4:=h2 (k + 1) (by omega) h
  have:=hr k (k + 1) hk (by omega) (by omega)
  omega
theorem ZeN {xs:Array Nat}(hr:Ris xs):SetTable.below xs 0=0:=by
 obtain ⟨h1,h2,h3⟩:=ZdH hr 0
 generalize SetTable.below xs 0=p at h1 h2 h3
 rcases Nat.eq_zero_or_pos p with h | h
 ·exact h
 ·have:=h2 0 (by omega) h;omega
structure TabOk (led:Bool)(t:SetTable):Prop where
 led:t.led=led
 ris:t.plain=true→Ris t.place
end PV
set_option linter.all false
set_option Elab.async false
set_option maxRecDepth 100000
set_option maxHeartbeats 4000000
namespace PV
open PySem PyProof.Rows
noncomputable def valI:Value→Int
 | .int i _=>i
 | _=>0
noncomputable def isI:Value→Prop
 | .int _ _=>True
 | _=>False
theorem Zdx {vs:List Value}{ns:List Int}:IntsAre vs ns↔(∀ v ∈ vs,isI v)∧ns=vs.map valI:=by
 constructor
 ·intro h
  induction h with
  | nil=>simp
  | cons n t _ ih=>exact ⟨fun v hv=>(List.mem_cons.mp hv).elim (fun e=>e ▸ trivial) (ih.1 v),by simp [valI,ih.2]⟩
 ·rintro ⟨h,rfl⟩
  induction vs with
  | nil=>exact .nil
  | cons v vs ih =>
   have h1:=h v List.mem_cons_self
   cases v with
   | int i t=>exact .cons i t (ih fun v hv=>h v (List.mem_cons_of_mem _ hv))
   | _=>exact h1.elim
theorem Zgp {vs:List Value}{ns:List Int}(h:IntsAre vs ns){k:Int}:k ∈ ns↔∃ v ∈ vs,Value.isInt k v=true:=by
 rw [Zdx] at h
 rw [h.2,List.mem_map]
 constructor
 ·rintro ⟨v,hv,e⟩
  have:=h.1 v hv
  cases v with
  | int i t=>exact ⟨_,hv,by simp [valI] at e;simp [Value.isInt,e]⟩
  | _=>exact this.elim
 ·rintro ⟨v,hv,e⟩
  obtain ⟨t,rfl⟩:=Value.isInt_shape e
  exact ⟨_,hv,rfl⟩
section
variable {prog:Program} {w:World} {A:Around} {E:Value→Shared→Prop} {s:Shared}
structure SetO (prog:Program)(w:World)(led:Bool)(ks:List Int)(o:Obj)(es:Array (Int × Value))(ep:Nat)(t:SetTable):Prop where
 ex:o.ExactSet
 dat:o.data=.set es ep t
 el:ElemsOf (intKind prog w) es.toList
 ks:∃ js,IntsAre (es.toList.map (·.2)) js∧js.Perm ks
 few:es.size < scanBound
 fit:t.fits es.size=true
 ok:TabOk led t
noncomputable def SetX (prog:Program) (w:World) (h:Heap) (a:Addr) (led:Bool) (ks:List Int):Prop:=∃ o es ep t,h.get? a=some o∧SetO prog w led ks o es ep t
theorem SetO.len {led:Bool}{ks:List Int}{o:Obj}{es:Array (Int × Value)}{ep:Nat}{t:SetTable}(h:SetO prog w led ks o es ep t):es.size=ks.length:=by
 obtain ⟨js,h1,h2⟩:=h.ks
 have:=(Zdx.mp h1).2
 rw [← h2.length_eq,this];simp
theorem SetO.mem {led:Bool}{ks:List Int}{o:Obj}{es:Array (Int × Value)}{ep:Nat}{t:SetTable}(h:SetO prog w led ks o es ep t){k:Int}:k ∈ ks↔∃ e ∈ es.toList,(intKind prog w).is k e.2=true:=by
 obtain ⟨js,h1,h2⟩:=h.ks
 rw [← h2.mem_iff,Zgp h1]
 constructor
 ·rintro ⟨v,hv,e⟩
  obtain ⟨p,hp,rfl⟩:=List.mem_map.mp hv
  exact ⟨p,hp,e⟩
 ·rintro ⟨p,hp,e⟩
  exact ⟨p.2,List.mem_map.mpr ⟨p,hp,rfl⟩,e⟩
end
end PV
set_option linter.all false
set_option Elab.async false
set_option maxRecDepth 100000
set_option maxHeartbeats 4000000
namespace PV
open PySem PyProof.Rows
noncomputable def byT (w:World):Bool:=w.params.followText "set-order"
inductive Wk (w : World) (h : Heap) (a : Addr) (es : Array (Int × Value)) (ep : Nat) (t : SetTable) : List Value → (Nat → Value) → List Addr → Prop
  | text (hb : byT w = true) : Wk w h a es ep t ((pickOrder (w.params.setOrder a ep) es).toList.map (·.2)) (fun _ => rawInt 0) []
  | plain (hb : byT w = false) (hd : (!t.plain && decide (es.size > 1)) = false) (hl : t.led = true) (hr : Ris t.place) : Wk w h a es ep t (es.toList.map (·.2)) (fun i => rawInt (((if i = 0 then 0 else t.place.getD (i - 1) 0 + 1) : Nat) : Int)) []
  | drawn (hb : byT w = false) (p : Addr) (c : Nat) (pl : List Nat) (hp : pl.Perm (List.range es.size)) (o : Obj) (ho : h.get? p = some o) (hd : o.data = .seq (pl.map fun (j : Nat) => rawInt j).toArray c) :
      Wk w h a es ep t (pl.map fun j => (es.getD j (0, .none)).2) (fun _ => .ref p) [p]
theorem Wk.mono {w:World}{h h':Heap}{a:Addr}{es:Array (Int × Value)}{ep:Nat}{t:SetTable}{ord:List Value}{fst:Nat→Value}{ps:List Addr}(k:Wk w h a es ep t ord fst ps)(hk:∀ b ∈ ps,∀ o,h.get? b=some o→h'.get? b=some o):Wk w h' a es ep t ord fst ps:=by
 cases k with
 | text hb=>exact .text hb
 | plain hb hd hl hr=>exact .plain hb hd hl hr
 | drawn hb p c pl hp o ho hd=>exact .drawn hb p c pl hp o (hk p (by simp) o ho) hd
noncomputable def SIt (h:Heap) (I a:Addr) (f:Value) (i n ep:Nat):Prop:=∃ o,h.get? I=some o∧o.cls=.type "set_iterator"∧o.data=.fields #[f,rawInt (i:Nat),.ref a,rawInt (n:Nat),rawInt (ep:Nat)]
theorem SIt.ty {s:Shared}{I a:Addr}{f:Value}{i n ep:Nat}(h:SIt s.heap I a f i n ep):s.TypeIs (.ref I) "set_iterator":=let ⟨o,ho,hc,_⟩:=h;⟨o,ho,hc⟩
section
variable {prog:Program} {w:World} {A:Around} {E:Value→Shared→Prop} {s:Shared}
theorem Wk.next {a:Addr}{es:Array (Int × Value)}{ep:Nat}{t:SetTable}{ord:List Value}{o:Obj}{i:Nat}{zi:Nat}
  (ho:s.heap.get? a=some o) (hd:o.data=.set es ep t) (hf:t.fits es.size=true) {Q:Option (Value × Nat)→Shared→Prop} (fst:Nat→Value) (k:Wk w s.heap a es ep t ord fst []) (hz:fst i=rawInt (zi:Nat)) (hi:i≤es.size)
  (h:∀ zn:Nat,(i < es.size→rawInt zn=fst (i + 1))→Q (ord[i]?.map fun v=>(v,zn)) s):wpAny (model prog w) A (setNext a zi i ep) Q E s:=by
 have hfit:t.place.size=es.size:=by simp only [SetTable.fits,Bool.and_eq_true,beq_iff_eq] at hf;exact hf.1
 unfold setNext
 refine wpAny_bind (wpAny_setState_of ho hd hf ?_)
 dsimp only
 cases k with
 | text hb =>
  refine wpAny_bind (m:=setsByText) (wpAny_bind (wpAny_askSetting (wpAny_pure ?_)))
  rw [if_pos (show (model prog w).w.params.followText "set-order"=true from hb)]
  rw [if_neg (by simp)]
  unfold setWalk
  refine wpAny_bind (wpAny_bind (wpAny_setState_of ho hd hf ?_))
  dsimp only
  refine wpAny_bind (m:=setsByText) (wpAny_bind (wpAny_askSetting (wpAny_pure ?_)))
  rw [if_pos (show (model prog w).w.params.followText "set-order"=true from hb)]
  refine wpAny_bind (wpAny_askSetting (wpAny_pure (wpAny_pure ?_)))
  have:=h zi fun _=>hz.symm
  rw [List.getElem?_map] at this
  show Q (Option.map (fun e=>(e.snd,zi)) (pickOrder (w.params.setOrder a ep) es)[i]?) s
  simpa [Option.map_map,Function.comp_def] using this
 | plain hb hdr hl hr =>
  refine wpAny_bind (m:=setsByText) (wpAny_bind (wpAny_askSetting (wpAny_pure ?_)))
  rw [if_neg (show ¬ (model prog w).w.params.followText "set-order"=true from by rw [show (model prog w).w.params.followText "set-order"=false from hb];simp)]
  show wpAny _ _ (if (!t.plain && decide (es.size > 1))=true then _ else _) _ _ _
  rw [if_neg (by rw [hdr];simp)]
  refine wpAny_bind (m:=_) (show wpAny _ _ (if (!t.led && !es.isEmpty)=true then _ else _) _ _ _ from ?_)
  rw [if_neg (by rw [hl];simp)]
  refine wpAny_pure ?_
  have hz':zi=if i=0 then 0 else t.place.getD (i - 1) 0 + 1:=by
   have:((if i=0 then 0 else t.place.getD (i - 1) 0 + 1:Nat):Int)=zi:=by simpa [rawInt] using hz
   omega
  have hbl:SetTable.below t.place zi=i:=by
   rw [hz']
   by_cases h0:i=0
   ·subst h0;simpa using ZeN hr
   ·have hlt:i - 1 < t.place.size:=by omega
    rw [if_neg h0,show t.place.getD (i - 1) 0=t.place[i - 1] by simp [Array.getD,hlt],ZeQ hr hlt]
    omega
  rw [hbl]
  rcases Nat.lt_or_ge i es.size with hlt | hge
  ·have hlt':i < t.place.size:=by omega
   rw [Array.getElem?_eq_getElem hlt,Array.getElem?_eq_getElem hlt']
   have:=h (t.place[i] + 1) fun _=>by simp [rawInt,Array.getD,hlt']
   rw [List.getElem?_map,List.getElem?_eq_getElem (by simpa using hlt)] at this
   exact wpAny_pure (by simpa using this)
  ·rw [Array.getElem?_eq_none hge]
   have:=h 0 fun hh=>by omega
   rw [List.getElem?_eq_none (by simpa using hge)] at this
   exact wpAny_pure (by simpa using this)
end
end PV
set_option linter.all false
set_option Elab.async false
set_option maxRecDepth 100000
set_option maxHeartbeats 4000000
namespace PV
open PySem PyProof.Rows
section
variable {prog:Program} {w:World} {A:Around} {E:Value→Shared→Prop} {s:Shared}
end
end PV
set_option linter.all false
set_option Elab.async false
set_option maxRecDepth 100000
set_option maxHeartbeats 4000000
namespace PV
open PySem PyProof.Rows
section
variable {prog:Program} {w:World} {A:Around} {E:Value→Shared→Prop} {s:Shared}
end
end PV
set_option linter.all false
set_option Elab.async false
set_option maxRecDepth 100000
set_option maxHeartbeats 4000000
namespace PV
open PySem PyProof.Rows
section
variable {prog:Program} {w:World} {A:Around} {E:Value→Shared→Prop} {s:Shared}
end
end PV
set_option linter.all false
set_option Elab.async false
set_option maxRecDepth 100000
set_option maxHeartbeats 4000000
namespace PV
open PySem PyProof.Rows PySem.Spec
section
variable {prog:Program} {w:World} {A:Around} {E:Value→Shared→Prop} {s:Shared}
theorem SetX.keep {h h':Heap}{a:Addr}{led:Bool}{ks:List Int}(x:SetX prog w h a led ks)(hk:∀ o,h.get? a=some o→h'.get? a=some o):SetX prog w h' a led ks:=by
 obtain ⟨o,es,ep,t,ho,S⟩:=x
 exact ⟨o,es,ep,t,hk o ho,S⟩
end
end PV
set_option linter.all false
set_option Elab.async false
set_option maxRecDepth 100000
set_option maxHeartbeats 4000000
namespace PV
open PySem PySem.Spec PyProof.Rows
open L2 (V Hp HO Vals SqL SqT Same upd Cx PE PT PW PA PS PSs TE TT TA TS Inv RelV Zb Yb Jb Un)
theorem Zej {K:PySem.W.Frag}{H H':Hp}:∀ {ds:List D} {vs:List V},ds.all ZaF=true→Reps K H ds vs→Yh H' ds vs
 | [],vs,_,h=>by simp only [Reps,Yh] at h ⊢;exact h
 | d::ds,vs,hs,h=>by
  simp only [Reps,Yh] at h ⊢
  rw [List.all_cons,Bool.and_eq_true] at hs
  obtain ⟨v,r,rfl,h2,h3⟩:=h
  refine ⟨v,r,rfl,?_,Zej hs.2 h3⟩
  have h1:=hs.1
  cases d <;> simp_all [Rep,RepN,ZaF]
noncomputable def tN (K:PySem.W.Frag) (f:Ex):TE:=fun σ H Q=>∃ BF BH F env L d,SOk K BF BH F H σ env L∧f env=some d∧∀ v F' H',Ext F H F' H'→RepN (cut F' BH) d v→Q v H'
noncomputable def tW (K:PySem.W.Frag) (f:Ex):TE:=fun σ H Q=>∃ BF BH F env L d,SOk K BF BH F H σ env L∧f env=some d∧∀ v F' H',Ext F H F' H'→RepN (cut F' H) d v→Q v H'
structure PDn (X:Cx)(e:Expr)(f:Ex):Prop where
 h:PE X e (tN X.K f)
structure PDw (X:Cx)(e:Expr)(f:Ex):Prop where
 h:PE X e (tW X.K f)
section
variable {X:Cx} {m m1 m2:Md} {r:RetP} {a b e:Expr} {es:List Expr} {f g:Ex} {fs:List Ex} {pos pos' p p2:Pos}
theorem PDn.d (h:PDn X e f):PD X .k e f:=PD.mk <| PE.of h.h fun σ H Q ⟨BF,BH,F,env,L,d,S,e,q⟩=>⟨BF,BH,F,env,L,d,S,e,fun v F' H' z r=>q v F' H' z (RepN.rep _ _ (RepN.mono Zap _ _ r))⟩
theorem PDo.w (h:PDo X m e f)(hf:∀ env d,f env=some d→∃ ds,d=.lst ds∧ds.all ZaF=true):PDw X e f:=⟨PE.of h fun σ H Q hh_=>el9 hh_ fun BF BH F env L d S e q=>by
 obtain ⟨ds,rfl,hs⟩:=hf env d e
 refine ⟨BF,BH,F,env,L,ds,S,e,fun a vs F' H' z h0 h1 h2 r=>?_⟩
 have y:Ext F H (upd F' a (.lst vs)) H':=z.frz h0 h1 h2
 refine q _ _ H' y ?_
 simp only [RepN]
 exact ⟨a,vs,rfl,by rw [Zau h0];exact Zb,Zej hs r⟩⟩
theorem Zag:∀ {ns:List Int} {us:List Value},Vals (ns.map V.int) us→IntsAre us ns
 | [],_,h=>by cases h;exact .nil
 | n::ns,_,h=>by
  cases h with
  | cons h1 h2=>obtain ⟨t,rfl⟩:=h1;exact .cons n t (Zag h2)
theorem ints_of:∀ {xs:List D} {ns:List Int},YF xs=some ns→xs=ns.map D.int
 | [],ns,h=>by simp only [YF] at h;cases h;rfl
 | .int i::xs,ns,h=>by
  simp only [YF] at h
  split at h
  ·rename_i r hr;cases h;rw [ints_of hr];rfl
  ·cases h
 | .non::_,_,h=>by simp [YF] at h
 | .bl _::_,_,h=>by simp [YF] at h
 | .str _::_,_,h=>by simp [YF] at h
 | .lst _::_,_,h=>by simp [YF] at h
 | .tup _::_,_,h=>by simp [YF] at h
 | .dct _::_,_,h=>by simp [YF] at h
theorem Zcf {K:PySem.W.Frag}{H:Hp}:∀ {ns:List Int} {vs:List V},Reps K H (ns.map D.int) vs→vs=ns.map V.int
 | [],vs,h=>by simpa [Reps] using h
 | n::ns,vs,h=>by
  simp only [List.map_cons,Reps] at h
  obtain ⟨v,r,rfl,h2,h3⟩:=h
  rw [Yp h2,Zcf h3,List.map_cons]
end
end PV
set_option linter.all false
set_option Elab.async false
set_option maxRecDepth 100000
set_option maxHeartbeats 4000000
namespace PV
open PySem PySem.W PyProof.Rows
section
variable {n:Nat} {key:Nat→List Int}
structure Val (n:Nat)(p:Array Nat):Prop where
 sz:p.size=n
 pm:p.toList.Perm (List.range n)
theorem Val.lt (h:Val n p){i:Nat}(hi:i < n):p.getD i 0 < n:=by
 have hs:i < p.size:=by rw [h.sz];exact hi
 rw [show p.getD i 0=p[i] by simp [Array.getD,hs]]
 have:=h.pm.mem_iff.mp (Array.getElem_mem_toList hs)
 simpa using this
end
section
variable {n:Nat} {key:Nat→List Int} {cmp:Nat→Nat→(Bool→Shared→Prop)→Shared→Prop} {P:Shared→Prop}
variable (hc:∀ i j,i < n→j < n→∀ (C:Bool→Shared→Prop) s,P s→(∀ s',P s'→C (ltL (key i) (key j)) s')→cmp i j C s)
include hc
end
end PV
set_option linter.all false
set_option Elab.async false
set_option maxRecDepth 100000
set_option maxHeartbeats 4000000
namespace PV
open PySem PySem.W PyProof.Rows PySem.MeetsSeq PySem.MeetsSeq3
section
variable {prog:Program} {w:World} {A:Around} {E:Value→Shared→Prop} {s:Shared}
noncomputable def Zcq (h:Heap) (a:Addr) (ns:List Int):Prop:=∃ vs,h.IsList a vs∧IntsAre vs.toList ns
theorem Zcq.keep {h h':Heap}{a:Addr}{ns:List Int}(x:Zcq h a ns)(k:∀ o,h.get? a=some o→h'.get? a=some o):Zcq h' a ns:=by
 obtain ⟨vs,⟨o,ho,r⟩,hi⟩:=x
 exact ⟨vs,⟨o,k o ho,r⟩,hi⟩
end
end PV
set_option linter.all false
set_option Elab.async false
set_option maxRecDepth 100000
set_option maxHeartbeats 4000000
namespace PV
open PySem PySem.W PyProof.Rows
section
variable {prog:Program} {w:World} {A:Around} {E:Value→Shared→Prop} {s:Shared}
noncomputable def ZdF (h:Heap) (vs:List Value) (rs:List (List Int)):Prop:=vs.length=rs.length∧∀ i,i < vs.length→∃ b,vs.getD i .none=.ref b∧Zcq h b (rs.getD i [])
theorem ZdF.keep {h h':Heap}{vs:List Value}{rs:List (List Int)}(x:ZdF h vs rs)(k:∀ b r,Zcq h b r→∀ o,h.get? b=some o→h'.get? b=some o):ZdF h' vs rs :=
 ⟨x.1,fun i hi=>let ⟨b,e,r⟩:=x.2 i hi;⟨b,e,r.keep (k b _ r)⟩⟩
end
end PV
set_option linter.all false
set_option Elab.async false
set_option maxRecDepth 100000
set_option maxHeartbeats 4000000
namespace PV
open PySem PySem.Spec PyProof.Rows
open L2 (V Hp HO Vals SqL SqT Same upd Cx PE PT PW PA PS PSs TE TT TA TS Inv RelV Zb Yb Jb Un)
section
variable {X:Cx} {m m1 m2:Md} {r:RetP} {a b e:Expr} {es:List Expr} {f g:Ex} {fs:List Ex} {t:Tx} {pos pos' p p2:Pos}
theorem Yh.len {H:Hp}:∀ {ds:List D} {vs:List V},Yh H ds vs→ds.length=vs.length
 | [],vs,h=>by simp only [Yh] at h;subst h;rfl
 | d::ds,vs,h=>by
  simp only [Yh] at h
  obtain ⟨v,r,rfl,h2,h3⟩:=h
  simp [h3.len]
end
end PV
set_option linter.all false
set_option Elab.async false
set_option maxRecDepth 100000
set_option maxHeartbeats 4000000
namespace PV
open PySem PySem.Spec PyProof.Rows
open L2 (V Hp HO Vals SqL SqT Same upd Cx PE PT PW PA PS PSs TE TT TA TS Inv RelV Zb Yb Jb Un)
section
variable {X:Cx} {m m1 m2:Md} {r:RetP} {a b e:Expr} {es:List Expr} {f g:Ex} {fs:List Ex} {t:Tx} {pos pos' p p2:Pos}
end
end PV
set_option linter.all false
set_option Elab.async false
namespace PV
open PySem (Str)
noncomputable def fCat:D→D→Option D
 | .str a,.str b=>if a.length + b.length≤lim then some (.str (a++b)) else none
 | _,_=>none
noncomputable def eCat (a b:Ex):Ex:=eF2 fCat a b
noncomputable def strs?:List D→Option (List Str)
 | []=>some []
 | .str x::xs=>match strs? xs with
  | some r=>some (x::r)
  | none=>none
 | _::_=>none
noncomputable def Yr (sep:Str):D→Option D
 | .lst xs=>match strs? xs with
  | some l=>if PySem.JoinOk sep l=true then some (.str (PySem.Txt.join sep l)) else none
  | none=>none
 | _=>none
noncomputable def Zv (c:Nat):D→Option D
 | .str x=>if x.length≤lim∧(PySem.Txt.split x ⟨#[c]⟩).length≤lim then some (.lst ((PySem.Txt.split x ⟨#[c]⟩).map .str)) else none
 | _=>none
noncomputable def fStr:D→Option D
 | .int i=>if i.natAbs.log2 < 1920 then some (.str (toString i)) else none
 | _=>none
noncomputable def JH:D→Option D
 | .str x=>if x.length≤lim then some (.int x.length) else none
 | _=>none
noncomputable def fIxS:D→D→Option D
 | .str z,.int i=>if 0≤i∧i < z.length∧z.length≤lim then (match z.cps[i.toNat]? with
  | some c=>some (.str ⟨#[c]⟩)
  | none=>none) else none
 | _,_=>none
noncomputable def eIxS (a b:Ex):Ex:=eF2 fIxS a b
noncomputable def Ze2 (x:D) (lo hi:Option Int):Option D:=match x with
 | .str z=>if z.length≤lim then some (.str (PySem.Txt.slice z lo hi)) else none
 | _=>none
noncomputable def Jr (a:Ex) (lo hi:Env→Option (Option Int)):Ex:=fun env=>match a env,lo env,hi env with
 | some x,some l,some h=>Ze2 x l h
 | _,_,_=>none
noncomputable def ZaH (y:Str):D→Option D
 | .str z=>some (.int (PySem.Txt.find y z))
 | _=>none
noncomputable def iStr (a:Ex):Lx:=fun env=>match a env with
 | some (.str z)=>if z.cps.all (· < 128)=true∧z.length≤lim then some (z.cps.toList.map fun c=>.str ⟨#[c]⟩) else none
 | _=>none
noncomputable def Zbd:D→Option D
 | .str x=>if x.length≤640 then (match PySem.intText? x with
  | some n=>some (.int n)
  | none=>none) else none
 | _=>none
noncomputable def maxL:List Int→Int
 | []=>0
 | [n]=>n
 | n::ns=>max n (maxL ns)
noncomputable def ZbU:D→Option D
 | .lst xs=>match YF xs with
  | some ns=>if 0 < ns.length then some (.int (maxL ns)) else none
  | none=>none
 | _=>none
noncomputable def fRep:D→D→Option D
 | .lst xs,.int n=>if 0≤n∧n≤1000∧xs.length * n.toNat≤lim∧0 < xs.length then some (.lst (List.replicate n.toNat xs).flatten) else none
 | _,_=>none
noncomputable def eRep (a b:Ex):Ex:=eF2 fRep a b
end PV
set_option linter.all false
set_option Elab.async false
set_option maxRecDepth 100000
set_option maxHeartbeats 4000000
namespace PV
open PySem PySem.Spec PyProof.Rows
open L2 (V Hp HO Vals SqL SqT Same upd Cx PE PT PW PA PS PSs TE TT TA TS Inv RelV Zb Yb Jb Un)
theorem Zeq:∀ {xs:List D} {l:List Str},strs? xs=some l→xs=l.map D.str
 | [],l,h=>by simp only [strs?] at h;cases h;rfl
 | .str x::xs,l,h=>by
  simp only [strs?] at h
  split at h
  ·rename_i r hr;cases h;rw [Zeq hr];rfl
  ·cases h
 | .non::_,_,h=>by simp [strs?] at h
 | .bl _::_,_,h=>by simp [strs?] at h
 | .int _::_,_,h=>by simp [strs?] at h
 | .lst _::_,_,h=>by simp [strs?] at h
 | .tup _::_,_,h=>by simp [strs?] at h
 | .dct _::_,_,h=>by simp [strs?] at h
theorem Zz {K:PySem.W.Frag}{H:Hp}{x:Str}{v:V}(h:Rep K H (.str x) v):v=.str x:=by simp only [Rep] at h;exact h
theorem ZcR {K:PySem.W.Frag}{H:Hp}:∀ {l:List Str} {vs:List V},Reps K H (l.map D.str) vs→vs=l.map V.str
 | [],vs,h=>by simp only [List.map_nil,Reps] at h;exact h
 | x::l,vs,h=>by
  simp only [List.map_cons,Reps] at h
  obtain ⟨v,r,rfl,h2,h3⟩:=h
  rw [Zz h2,ZcR h3];rfl
theorem Reps.strs {K:PySem.W.Frag}{H:Hp}:∀ (l:List Str),Reps K H (l.map D.str) (l.map V.str)
 | []=>Reps.nil
 | x::l=>Reps.cons (by simp [Rep]) (Reps.strs l)
theorem ZcS:∀ {l:List Str} {us:List Value},Vals (l.map V.str) us→∃ q:List (Str × Tok),us=strValues q∧q.map (·.1)=l
 | [],_,.nil=>⟨[],rfl,rfl⟩
 | x::l,_,.cons h r=>by
  obtain ⟨t,rfl⟩:=h
  obtain ⟨q,rfl,rfl⟩:=ZcS r
  exact ⟨(x,t)::q,rfl,rfl⟩
theorem ZcV:∀ (q:List (Str × Tok)),Vals ((q.map (·.1)).map V.str) (strValues q)
 | []=>.nil
 | (x,t)::q=>.cons ⟨t,rfl⟩ (ZcV q)
section
variable {X:Cx} {m m1 m2:Md} {r:RetP} {a b e:Expr} {f g:Ex} {pos p p2:Pos}
noncomputable def rJoin (K:PySem.W.Frag):V→List V→Hp→L2.VK→Prop:=fun x vs H Q=>∃ (sep:Str) (l:Addr) (ss:List Str),x=.str sep∧vs=[.ref l]∧SqL K H l (ss.map V.str)∧JoinOk sep ss=true∧Q (.str (Txt.join sep ss)) H
theorem ZhP:L2.MtR X "str.join" (rJoin X.K):=by
 intro pins s σ H x vs v us Q I rx rv h
 obtain ⟨sep,l,ss,rfl,rfl,hS,hok,q⟩:=h
 obtain ⟨t,rfl⟩:=rx
 obtain ⟨u,rfl,ru⟩:=rv.one
 cases ru
 obtain ⟨its,r,pl,z⟩:=I.list hS
 obtain ⟨q',rfl,e⟩:=ZcS r
 exact SC.join pl.isList e hok fun t' k=>⟨.str _,H,I.tok k,⟨t',rfl⟩,q⟩
noncomputable def Zh7:V→List V→Hp→L2.VK→Prop:=fun x vs H Q=>∃ (a:Str) (c:Nat),x=.str a∧vs=[.str ⟨#[c]⟩]∧a.length≤lim∧(Txt.split a ⟨#[c]⟩).length≤lim∧∀ q,H q=none→Q (.ref q) (upd H q (.lst ((Txt.split a ⟨#[c]⟩).map V.str)))
theorem Zgw:L2.MtR X "str.split" Zh7:=by
 intro pins s σ H x vs v us Q I rx rv h
 obtain ⟨a,c,rfl,rfl,ha,hn,q⟩:=h
 obtain ⟨t,rfl⟩:=rx
 obtain ⟨u0,rfl,ru⟩:=rv.one
 obtain ⟨u,rfl⟩:=ru
 have hsl:=sizeLine_eq
 have hlm:lim=100000:=rfl
 have hy:((⟨#[c]⟩:Str).length == 0)=false:=rfl
 have fin:∀ (l:List (Str × Tok)) (k:Nat),l.map (·.1)=Txt.split a ⟨#[c]⟩→L2.EP X pins σ Q (.ref s.heap.objs.size) { s with heap:=s.heap.push { cls:=.type "list",data:=.seq (strValues l).toArray },toks:=k }:=fun l k e=>by
  have I2:=I.laid (a:=s.heap.objs.size) (o:=.lst ((Txt.split a ⟨#[c]⟩).map V.str)) (h':=s.heap.push { cls:=.type "list",data:=.seq (strValues l).toArray }) (t':=k) (fun b u e=>Heap.get?_push_of_some _ e) (Nat.le_refl _) ⟨by rw [List.length_map];omega,strValues l,_,e ▸ ZcV l,Heap.get?_push_size _ rfl⟩
  exact ⟨.ref _,_,I2,rfl,q _ (I.hok.fresh (Nat.le_refl _))⟩
 unfold Txt.split at fin hn
 cases h1:(decide (a.length < (⟨#[c]⟩:Str).length) || decide (Builtin.Str.strKind a < Builtin.Str.strKind ⟨#[c]⟩)) with
 | true =>
  rw [h1] at fin
  exact call_meets F.slot_str_split (typeIs_str _ _ _) F.entry_str_split (F.args_str_split_2 _ _) (meets_str_split_cannot_occur a _ t u h1) (fin [(a,t)] s.toks rfl)
 | false =>
  rw [h1] at fin hn
  simp only [Bool.false_eq_true,if_false] at fin hn
  cases hf:(Builtin.Str.occurrences a ⟨#[c]⟩ 0 a.length (a.length + 1)).isEmpty with
  | true =>
   rw [hf] at fin
   exact call_meets F.slot_str_split (typeIs_str _ _ _) F.entry_str_split (F.args_str_split_2 _ _) (meets_str_split_not_found a _ t u h1 hy hf) (fin [(a,t)] s.toks rfl)
  | false =>
   rw [hf] at fin hn
   simp only [Bool.false_eq_true,if_false] at fin hn
   refine call_meets F.slot_str_split (typeIs_str _ _ _) F.entry_str_split (F.args_str_split_2 _ _) (meets_str_split_sep a _ t u h1 hy hf (by omega) (by omega)) ?_
   show wants _ _ _ { s with toks:=_,heap:=s.heap.push { cls:=.type "list",data:=.seq (strsFrom s.toks _).toArray } }
   rw [strsFrom_eq]
   exact fin _ _ (numbered_texts _ _)
theorem Zbv {sep:Str}{j}{p1 p3 p4:Pos}(ha:PD X m1 a f)(hst:nst a=true:=by rfl)
  (hbase:attributeBase (.Constant (.str sep) j p1) "join" X.env (eval (.Constant (.str sep) j p1) X.env)=eval (.Constant (.str sep) j p1) X.env:=by rfl)
  (hline:(p3.endLine == p4.line)=true:=by rfl):PD X m (.Call (.Attribute (.Constant (.str sep) j p1) "join" p3) [a] [] p4) (eF1 (Yr sep) f) :=
 PD.mk <| PE.of (L2.Zbi F.plainAttrs_str F.slot_str_join F.type_str_join ZhP L2.Zax (L2.Zj ha.r.h L2.Jp (Yl hst)) hbase (by rw [ZK (ZS hst)];rfl) hline (Yd hst) rfl) fun σ H Q hh_=>el9 hh_ fun BF BH F env L d S e q=>by
  unfold eF1 at e
  split at e
  ·rename_i x hx
   refine ⟨rfl,BF,BH,F,env,L,x,S,hx,fun v F' H' z rx=>?_⟩
   unfold Yr at e
   split at e
   ·split at e
    ·rename_i xs l hl
     split at e
     ·rename_i hok
      cases e
      have ex:=Zeq hl
      subst ex
      simp only [Rep] at rx
      obtain ⟨p,vs,rfl,hS,hr⟩:=rx
      have ev:=ZcR hr
      subst ev
      exact ⟨sep,p,l,rfl,rfl,hS,hok,q _ F' H' z (by simp [Rep])⟩
     ·cases e
    ·cases e
   ·cases e
  ·cases e
theorem Zgv {c:Nat}{j}{p1 p3 p4:Pos}{sep:Str}(hsep:sep=⟨#[c]⟩)(ha:PD X m1 a f)
  (hbase:attributeBase a "split" X.env (eval a X.env)=eval a X.env:=by rfl)
  (hline:(p3.endLine == p4.line)=true:=by rfl):PDo X m (.Call (.Attribute a "split" p3) [.Constant (.str sep) j p1] [] p4) (eF1 (Zv c) f) :=
 PE.of (L2.Zbi F.plainAttrs_str F.slot_str_split F.type_str_split Zgw ha.r.h (L2.Zj L2.Zax L2.Jp (Yl rfl)) hbase (by rw [ZK (ZS rfl)];rfl) hline (Yd rfl) rfl) fun σ H Q hh_=>el9 hh_ fun BF BH F env L ds S e q=>by
  unfold eF1 at e
  split at e
  ·rename_i x hx
   refine ⟨BF,BH,F,env,L,x,S,hx,fun v F' H' z rx=>?_⟩
   unfold Zv at e
   split at e
   ·split at e
    ·rename_i a0 hc
     cases e
     have ev:=Zz rx
     subst ev
     refine ⟨rfl,a0,c,rfl,by rw [hsep],hc.1,hc.2,fun p hp=>?_⟩
     obtain ⟨y2,h0,h2,s⟩:=Zet (m:=m) S z hp (HO.lst ((Txt.split a0 ⟨#[c]⟩).map V.str))
     exact q p _ F' _ y2 h0 Zb h2 (Reps.strs _)
    ·cases e
   ·cases e
  ·cases e
theorem ZeV {c:Nat}{env:Env}{d:D}(h:eF1 (Zv c) f env=some d):∃ ds,d=.lst ds:=by
 unfold eF1 at h
 split at h
 ·unfold Zv at h
  split at h
  ·split at h
   ·cases h;exact ⟨_,rfl⟩
   ·cases h
  ·cases h
 ·cases h
theorem ZaG {c:Nat}{j}{p1 p3 p4:Pos}{sep:Str}(hsep:sep=⟨#[c]⟩)(ha:PD X m1 a f)
  (hbase:attributeBase a "split" X.env (eval a X.env)=eval a X.env:=by rfl)
  (hline:(p3.endLine == p4.line)=true:=by rfl):PD X m (.Call (.Attribute a "split" p3) [.Constant (.str sep) j p1] [] p4) (eF1 (Zv c) f):=(Zgv hsep ha hbase hline).d fun env d h=>ZeV h
theorem Zg0 {x:Str}{id:String}{p:Pos}{r:List V→Hp→L2.VK→Prop}{φ:D→Option D}(hc:L2.Yu X (.type id) r)(hm:X.mg x=none)(hv:bootBuiltins x=some (.type id))
  (hφ:∀ d y H' v (Q:V→Hp→Prop),φ d=some y→Rep X.K H' d v→(∀ w,Rep X.K H' y w→Q w H')→r [v] H' Q∧ZaF y=true)
  (ha:PD X m1 a f) (hg:X.env.kindOf x=some .globalImplicit:=by kernel_rfl) (hn:x≠"__name__":=by decide) (hdb:(x == ("__debug__":Str))=false:=by kernel_rfl) (hs:nst a=true:=by rfl):PD X m (.Call (.Name x p) [a] [] pos) (eF1 φ f) :=
 PD.mk <| PE.of (L2.ZfH hc hg hm hv (L2.Zj ha.r.h L2.Jp (Yl hs)) hn hdb (Yd hs) rfl) fun σ H Q hh_=>el9 hh_ fun BF BH F env L d S e q=>by
  unfold eF1 at e
  split at e
  ·rename_i y h1
   refine ⟨BF,BH,F,env,L,y,S,h1,fun v F' H' z r1=>?_⟩
   have sc:=(hφ y d H' v (fun _ _=>True) e r1 (fun _ _=>trivial)).2
   exact (hφ y d H' v Q e r1 fun w rw=>q w F' H' z (rw.scal sc)).1
  ·cases e
theorem Zeo {p:Pos} (T:Bt X.mg) (ha:PD X m1 a f) (hg:X.env.kindOf "str"=some .globalImplicit:=by kernel_rfl) (hs:nst a=true:=by rfl):PD X m (.Call (.Name "str" p) [a] [] pos) (eF1 fStr f) :=
 Zg0 L2.Zdq T.str (by decide +kernel) (fun d y H' v Q e r k=>by
  unfold fStr at e
  split at e
  ·split at e
   ·rename_i i hi
    cases e
    exact ⟨⟨i,by rw [Yp r],hi,k _ (by simp [Rep])⟩,rfl⟩
   ·cases e
  ·cases e) ha hg (by decide) (by decide) hs
theorem ZaX (ha:PD X m1 a f)(hb:PD X m2 b g):PD X m (.BinOp a .Add b pos) (eCat f g):=PD.mk <| PE.of (L2.Zdj L2.Zfd ha.h hb.h) fun σ H Q hh_=>el9 hh_ fun BF BH F env L d S e q=>by
 unfold eCat eF2 at e
 split at e
 ·rename_i x y h1 h2
  unfold fCat at e
  split at e
  ·split at e
   ·rename_i a0 b0 hc
    cases e
    exact ⟨BF,BH,F,env,L,_,S,h1,fun v F1 H1 x1 r1=>⟨BF,BH,F1,env,L,_,S.ext x1,h2,fun w F2 H2 x2 r2=>⟨a0,b0,Zz r1,Zz r2,Nat.le_trans hc Zb1,q _ F2 H2 (x1.trans x2) (by simp [Rep])⟩⟩⟩
   ·cases e
  ·cases e
 ·cases e
end
end PV
set_option linter.all false
set_option Elab.async false
set_option maxRecDepth 100000
set_option maxHeartbeats 4000000
namespace PV
open PySem PySem.Spec PyProof.Rows
open L2 (V Hp HO Vals SqL SqT Same upd Cx PE PT PW PA PS PSs TE TT TA TS Inv RelV Zb Yb Jb Un)
section
variable {X:Cx} {m m1 m2:Md} {r:RetP} {a b e:Expr} {f g fa:Ex} {pos p p2:Pos}
end
end PV
set_option linter.all false
set_option Elab.async false
namespace PV
open PySem (Str)
inductive XO where
 | ok (o:Out) | ex (c:Nat)
noncomputable abbrev Sx:=Env→Option (XO × Env)
noncomputable abbrev Fx:=List D→Option (D ⊕ Nat)
noncomputable def xOf (g:St):Sx:=fun env=>match g env with
 | some (o,e)=>some (.ok o,e)
 | none=>none
noncomputable def xSeq (a b:Sx):Sx:=fun env=>match a env with
 | some (.ok .nx,e)=>b e
 | r=>r
noncomputable def xIf (t:Tx) (a b:Sx):Sx:=fun env=>match t env with
 | some true=>a env
 | some false=>b env
 | none=>none
noncomputable def ZX (c:Nat):Sx:=fun env=>some (.ex c,env)
noncomputable def YH (φ:Fx) (es:List Ex):Env→Option (D ⊕ Nat):=fun env=>match evs es env with
 | some ds=>φ ds
 | none=>none
noncomputable def xDo (φ:Fx) (es:List Ex):Sx:=fun env=>match YH φ es env with
 | some (.inl _)=>some (.ok .nx,env)
 | some (.inr c)=>some (.ex c,env)
 | none=>none
noncomputable def xRet (φ:Fx) (es:List Ex):Sx:=fun env=>match YH φ es env with
 | some (.inl d)=>some (.ok (.rt d),env)
 | some (.inr c)=>some (.ex c,env)
 | none=>none
noncomputable def runX (p n:Nat) (g:Sx):Fx:=fun ds=>if ds.length=p then (match g (enter n ds) with
  | some (.ok (.rt d),_)=>some (.inl d)
  | some (.ok .nx,_)=>some (.inl .non)
  | some (.ex c,_)=>some (.inr c)
  | _=>none) else none
noncomputable def YQ (g:Tg) (b:Sx):List D→Sx
 | [],env=>some (.ok .nx,env)
 | d::ds,env=>match g d env with
  | some e0=>match b e0 with
   | some (.ok .nx,e1)=>YQ g b ds e1
   | some (.ok .ct,e1)=>YQ g b ds e1
   | some (.ok .bk,e1)=>some (.ok .nx,e1)
   | some (.ok (.rt r),e1)=>some (.ok (.rt r),e1)
   | some (.ex c,e1)=>some (.ex c,e1)
   | none=>none
  | none=>none
noncomputable def xFor (g:Tg) (it:Lx) (b:Sx):Sx:=fun env=>match it env with
 | some ds=>YQ g b ds env
 | none=>none
noncomputable def Yz (i:Nat) (fx:Env→Option (D ⊕ Nat)) (env:Env):List D→Option (List D ⊕ Nat)
 | []=>some (.inl [])
 | d::ds=>match fx (env.set i (.sh d)) with
  | some (.inl x)=>match Yz i fx env ds with
   | some (.inl xs)=>some (.inl (x::xs))
   | some (.inr c)=>some (.inr c)
   | none=>none
  | some (.inr c)=>some (.inr c)
  | none=>none
noncomputable def JM (i:Nat) (it:Lx) (fx:Env→Option (D ⊕ Nat)):Env→Option (D ⊕ Nat):=fun env=>match it env with
 | some ds=>if ds.length≤lim then (match Yz i fx env ds with
  | some (.inl xs)=>some (.inl (.lst xs))
  | some (.inr c)=>some (.inr c)
  | none=>none) else none
 | none=>none
noncomputable def Zbt (f:Env→Option (D ⊕ Nat)):Sx:=fun env=>match f env with
 | some (.inl d)=>some (.ok (.rt d),env)
 | some (.inr c)=>some (.ex c,env)
 | none=>none
noncomputable def Zbr (j:Nat) (f:Env→Option (D ⊕ Nat)):Sx:=fun env=>match f env with
 | some (.inl d)=>some (.ok .nx,env.set j (.sh d))
 | some (.inr c)=>some (.ex c,env)
 | none=>none
noncomputable def Zcm (g:Sx) (c0 c1:Nat):Sx:=fun env=>match g env with
 | some (.ok o,e)=>some (.ok o,e)
 | some (.ex c,e)=>if c=c0 then some (.ex c1,e) else none
 | none=>none
noncomputable def eIsX (cs:List Nat) (i c':Nat):Ex:=fun env=>match env[i]? with
 | some (.xc c)=>if c ∈ cs then some (.bl (decide (c=c'))) else none
 | _=>none
noncomputable def eIsV (cs:List Nat) (i:Nat):Ex:=fun env=>match env[i]? with
 | some (.xc c)=>if c ∈ cs then some (.bl true) else none
 | _=>none
noncomputable def runW (n:Nat) (g:St) (c:Nat):Option D:=match g (.xc c::List.replicate (n - 1) .un) with
 | some (.rt d,_)=>some d
 | _=>none
noncomputable def sTry (g:Sx) (φ:Nat→Option D):St:=fun env=>match g env with
 | some (.ok o,e)=>some (o,e)
 | some (.ex c,e)=>match φ c with
  | some (.str w)=>some (.rt (.str w),e.map fun _=>.un)
  | _=>none
 | none=>none
noncomputable def ZdW:D→D→Option D
 | .lst ys,x=>if D.deps ys≤8∧x.dep≤8 then some (.int ((ys.countP fun y=>eqD y x:Nat))) else none
 | _,_=>none
end PV
set_option linter.all false
set_option Elab.async false
set_option maxRecDepth 100000
set_option maxHeartbeats 4000000
namespace PV
open PySem PySem.Spec PyProof.Rows
section
variable {M:Model} {A:Around} {E:Value→Shared→Prop} {s:Shared} {B h h':Heap} {env:PySem.Env} {outer l:List PySem.Env} {L e C:Addr} {fl:Value} {n2:Prop}
noncomputable def Tr (n2:Prop) (B h:Heap) (e C:Addr) (fl:Value):Prop :=
 ∃ xo ws T to tw,(h.get? e=some xo∧xo.cls=.ref C∧xo.dict=none∧xo.data=.fields ws)∧(ws[1]?=some (.ref T)∧(n2→ws[2]?=some .none))∧B.get? T=none∧T≠e∧h.get? T=some to∧to.data=.fields tw∧tw[3]?=some fl
structure Fl (n2:Prop)(B:Heap)(l:List PySem.Env)(e C:Addr)(fl:Value)(h:Heap):Prop where
 st:B.StaysIn h
 no:B.get? e=none
 ff:h.FunFrames B l
 tr:Tr n2 B h e C fl
theorem Zca (x:h.UpToSlots h')(f:h.FunFrames B l):h'.FunFrames B l:=f.of_keeps fun b o q n=>let ⟨sl,z⟩:=x b o q n;⟨_,z,rfl⟩
theorem Zhh (o:Obj)(g:Array Value→Array Value):(Obj.mapFields g o).dict=o.dict:=by
 obtain ⟨_,_,dt,_⟩:=o
 cases dt <;> rfl
theorem Za8 {xo:Obj}{ws:Array Value}{hd:Value}{nx:Bool}{Q:Unit→Shared→Prop}(fr:A.frames=some (env::outer))(ff:s.heap.FunFrames B (env::outer))(hf:env.frame=some L)
  (st:B.StaysIn s.heap) (no:B.get? e=none) (xe:s.heap.get? e=some xo) (xc:xo.cls=.ref C) (xd:xo.dict=none) (xw:xo.data=.fields ws) (x1:1 < ws.size) (x2:n2→ws[2]?=some .none)
  (k:∀ g,Fl n2 B (env::outer) e C (rawInt L) g→s.heap.UpToSlots g→Q () { s with heap:=g }) :
  wpAny M A (do let a ← frameOf env;let pl ← entryPlaceOf L nx;let b ← EntryCells.newEntry hd a .none (rawInt L) .none pl;setField (.ref e) 1 b) Q E s:=by
 have nfr:e ∉ (env::outer).filterMap (·.frame):=fun z=>by
  obtain ⟨-,o,q,n⟩:=ff.mem z
  rw [xe] at q;cases q;exact n ws xw
 refine wpAny_bind (wpAny_frameOf_fun fr ff hf fun g so=>wpAny_bind (wpAny_entryPlaceOf fun pl ip=>?_))
 unfold EntryCells.newEntry newFields
 refine wpAny_bind (wpAny_newObj_type ?_ (ip.sizeOk5 _ _ _ _ _))
 have ge:g.get? e=some xo:=(so.2.1 e nfr).trans xe
 have gB:B.StaysIn g:=fun b o q=>(so.2.1 b fun z=>by rw [(ff.mem z).1] at q;cases q).trans (st b o q)
 generalize hto:({ cls:=.type "traceback",dict:=none,data:=.fields ([hd,.ref L,.none,rawInt L,.none]++(if pl.isEmpty then List.replicate 6 Value.none else pl)).toArray }:Obj)=to
 have td:to.data=.fields ([hd,.ref L,.none,rawInt L,.none]++(if pl.isEmpty then List.replicate 6 Value.none else pl)).toArray:=by rw [← hto]
 have tf:to.isFreed=false:=Obj.isFreed_of_fields td
 have pe:(g.push to).get? e=some xo:=Heap.get?_push_of_some _ ge
 refine wpAny_setField pe xw x1 ?_
 have Te:g.objs.size≠e:=Nat.ne_of_gt (Heap.lt_size ge)
 have ud:=Obj.data_mapFields xw (·.setIfInBounds 1 (Value.ref g.objs.size))
 have ue:=Heap.get?_update_self (Obj.mapFields (·.setIfInBounds 1 (Value.ref g.objs.size))) pe (Obj.isFreed_of_fields ud)
 have uT:((g.push to).update e (Obj.mapFields (·.setIfInBounds 1 (Value.ref g.objs.size)))).get? g.objs.size=some to:=(Heap.get?_update_other _ _ (Ne.symm Te)).trans (Heap.get?_push_size g tf)
 have kp:∀ b o,b≠e→g.get? b=some o→((g.push to).update e (Obj.mapFields (·.setIfInBounds 1 (Value.ref g.objs.size)))).get? b=some o:=fun b o n q =>
  (Heap.get?_update_other _ _ (Ne.symm n)).trans (Heap.get?_push_of_some _ q)
 have up:s.heap.UpToSlots ((g.push to).update e (Obj.mapFields (·.setIfInBounds 1 (Value.ref g.objs.size)))):=fun b o q n=>by
  obtain ⟨sl,z⟩:=so.2.2 b o q
  exact ⟨sl,kp b _ (fun y=>by subst y;rw [xe] at q;cases q;exact n ws xw) z⟩
 refine k _ ⟨fun b o q=>kp b o (fun y=>by rw [y,no] at q;cases q) (gB b o q),no,Zca up ff,?_⟩ up
 refine ⟨_,_,g.objs.size,to,_,⟨ue,(Obj.cls_mapFields _ _).trans xc,(Zhh _ _).trans xd,ud⟩,⟨by simp [x1],fun z=>by rw [Array.getElem?_setIfInBounds_ne (by decide)];exact x2 z⟩,gB.fresh,Te,uT,td,?_⟩
 simp
theorem land {Q:Unit→Shared→Prop}(f:Fl n2 B l e C fl s.heap)(k:∀ g,Fl n2 B l e C .none g→s.heap.UpToSlots g→Q () { s with heap:=g }):wpAny M A (setFlight (.ref e) none) Q E s:=by
 obtain ⟨st,no,ff,xo,ws,T,to,tw,⟨xe,xc,xd,xw⟩,⟨w1,w2⟩,nT,Te,tg,td,t3⟩:=f
 have t3':=(Array.getElem?_eq_some_iff.mp t3).1
 unfold setFlight
 refine wpAny_bind (wpAny_field xe xw w1 ?_)
 rw [if_pos (by simp)]
 have ot:∀ b,b≠T→(s.heap.update T (Obj.mapFields (·.setIfInBounds 3 Value.none))).get? b=s.heap.get? b:=fun b n=>Heap.get?_update_other _ _ (Ne.symm n)
 have up:s.heap.UpToSlots (s.heap.update T (Obj.mapFields (·.setIfInBounds 3 Value.none))):=fun b o q n=>⟨o.slots,(ot b fun y=>by subst y;rw [tg] at q;cases q;exact n tw td).trans q⟩
 refine wpAny_setField tg td t3' (k _ ⟨fun b o q=>(ot b fun y=>by rw [y,nT] at q;cases q).trans (st b o q),no,Zca up ff,?_⟩ up)
 exact ⟨xo,ws,T,_,_,⟨(ot e (Ne.symm Te)).trans xe,xc,xd,xw⟩,⟨w1,w2⟩,nT,Te,Heap.get?_update_self _ tg (Obj.isFreed_of_fields (Obj.data_mapFields td _)),Obj.data_mapFields td _,by simp [t3']⟩
theorem Zex {Q:Unit→Shared→Prop}(fr:A.frames=some (env::outer))(hf:env.frame=some L)(hfl:(fl == rawInt L)=false)(f:Fl n2 B (env::outer) e C fl s.heap)
  (k:∀ g,Fl n2 B (env::outer) e C (rawInt L) g→s.heap.UpToSlots g→Q () { s with heap:=g }):wpAny M A (noteFrame (.ref e) env) Q E s:=by
 obtain ⟨st,no,ff,xo,ws,T,to,tw,⟨xe,xc,xd,xw⟩,⟨w1,w2⟩,nT,Te,tg,td,t3⟩:=f
 unfold noteFrame
 simp only [hf]
 refine wpAny_bind (wpAny_field xe xw w1 ?_)
 rw [if_pos (by simp)]
 refine wpAny_bind (wpAny_field tg td t3 ?_)
 rw [if_neg (by rw [hfl];decide)]
 have ot:∀ b,b≠T→(s.heap.update T (Obj.mapFields (·.setIfInBounds 3 Value.none))).get? b=s.heap.get? b:=fun b n=>Heap.get?_update_other _ _ (Ne.symm n)
 have up:s.heap.UpToSlots (s.heap.update T (Obj.mapFields (·.setIfInBounds 3 Value.none))):=fun b o q n=>⟨o.slots,(ot b fun y=>by subst y;rw [tg] at q;cases q;exact n tw td).trans q⟩
 refine wpAny_bind (wpAny_setField tg td (Array.getElem?_eq_some_iff.mp t3).1 ?_)
 exact Za8 fr (Zca up ff) hf (fun b o q=>(ot b fun y=>by rw [y,nT] at q;cases q).trans (st b o q)) no ((ot e (Ne.symm Te)).trans xe) xc xd xw (Array.getElem?_eq_some_iff.mp w1).1 w2 fun g f' u=>k g f' (up.trans u)
theorem ZcX {Q:Unit→Shared→Prop}(hf:env.frame=some L)(f:Fl n2 B (env::outer) e C (rawInt L) s.heap)(k:Q () s):wpAny M A (noteFrame (.ref e) env) Q E s:=by
 obtain ⟨st,no,ff,xo,ws,T,to,tw,⟨xe,xc,xd,xw⟩,⟨w1,w2⟩,nT,Te,tg,td,t3⟩:=f
 unfold noteFrame
 simp only [hf]
 refine wpAny_bind (wpAny_field xe xw w1 ?_)
 rw [if_pos (by simp)]
 refine wpAny_bind (wpAny_field tg td t3 ?_)
 rw [if_pos (by simp [rawInt])]
 exact wpAny_pure k
theorem Zds {o:Option Addr}{Q:Unit→Shared→Prop}(f:Fl n2 B l e C fl s.heap)(k:∀ g,Fl n2 B l e C (o.elim .none fun f=>rawInt f) g→s.heap.UpToSlots g→Q () { s with heap:=g }):wpAny M A (setFlight (.ref e) o) Q E s:=by
 obtain ⟨st,no,ff,xo,ws,T,to,tw,⟨xe,xc,xd,xw⟩,⟨w1,w2⟩,nT,Te,tg,td,t3⟩:=f
 have t3':=(Array.getElem?_eq_some_iff.mp t3).1
 unfold setFlight
 refine wpAny_bind (wpAny_field xe xw w1 ?_)
 rw [if_pos (by simp)]
 have ot:∀ b,b≠T→(s.heap.update T (Obj.mapFields (·.setIfInBounds 3 (o.elim Value.none fun f=>rawInt f)))).get? b=s.heap.get? b:=fun b n=>Heap.get?_update_other _ _ (Ne.symm n)
 have up:s.heap.UpToSlots (s.heap.update T (Obj.mapFields (·.setIfInBounds 3 (o.elim Value.none fun f=>rawInt f)))):=fun b o q n=>⟨o.slots,(ot b fun y=>by subst y;rw [tg] at q;cases q;exact n tw td).trans q⟩
 refine wpAny_setField tg td t3' (k _ ⟨fun b o q=>(ot b fun y=>by rw [y,nT] at q;cases q).trans (st b o q),no,Zca up ff,?_⟩ up)
 exact ⟨xo,ws,T,_,_,⟨(ot e (Ne.symm Te)).trans xe,xc,xd,xw⟩,⟨w1,w2⟩,nT,Te,Heap.get?_update_self _ tg (Obj.isFreed_of_fields (Obj.data_mapFields td _)),Obj.data_mapFields td _,by simp [t3']⟩
theorem leave_new {xo:Obj}{ws:Array Value}{Q:Unit→Shared→Prop}(fr:A.frames=some (env::outer))(hf:env.frame=some L)(ff:s.heap.FunFrames B (env::outer))
  (st:B.StaysIn s.heap) (no:B.get? e=none) (xe:s.heap.get? e=some xo) (xc:xo.cls=.ref C) (xd:xo.dict=none) (xw:xo.data=.fields ws) (x1:ws[1]?=some .none) (x2:n2→ws[2]?=some .none)
  (k:∀ g,Fl n2 B outer e C .none g→s.heap.UpToSlots g→Q () { s with heap:=g }):wpAny M A (leaving env (.ref e)) Q E s:=by
 unfold leaving noteFrame
 simp only [hf]
 refine wpAny_bind (wpAny_bind (wpAny_field xe xw x1 ?_))
 rw [if_neg (by decide)]
 refine Za8 fr ff hf st no xe xc xd xw (Array.getElem?_eq_some_iff.mp x1).1 x2 fun g f u=>land f fun g2 f2 u2=>k g2 ⟨f2.st,f2.no,f2.ff.2.2,f2.tr⟩ (u.trans u2)
theorem Zgk {Q:Unit→Shared→Prop}(fr:A.frames=some (env::outer))(hf:env.frame=some L)(hfl:(fl == rawInt L)=false)(f:Fl n2 B (env::outer) e C fl s.heap)
  (k:∀ g,Fl n2 B outer e C .none g→s.heap.UpToSlots g→Q () { s with heap:=g }):wpAny M A (leaving env (.ref e)) Q E s:=by
 unfold leaving
 exact wpAny_bind (Zex fr hf hfl f fun g f1 u=>land f1 fun g2 f2 u2=>k g2 ⟨f2.st,f2.no,f2.ff.2.2,f2.tr⟩ (u.trans u2))
theorem ZeL {Q:Unit→Shared→Prop}(hf:env.frame=some L)(f:Fl n2 B (env::outer) e C (rawInt L) s.heap)
  (k:∀ g,Fl n2 B outer e C .none g→s.heap.UpToSlots g→Q () { s with heap:=g }):wpAny M A (leaving env (.ref e)) Q E s:=by
 unfold leaving
 exact wpAny_bind (ZcX hf f (land f fun g2 f2 u2=>k g2 ⟨f2.st,f2.no,f2.ff.2.2,f2.tr⟩ u2))
end
end PV
set_option linter.all false
set_option Elab.async false
set_option maxRecDepth 100000
set_option maxHeartbeats 4000000
namespace PV
open PySem PySem.Spec PyProof.Rows
open L2 (V Hp HO Vals SqL SqT Same upd Cx PE PT PW PA PS PSs TE TT TA TS Inv RelV Zb Yb Jb Un HOk frs)
noncomputable def Cov (B:Heap) (fs:List Addr) (h0:Heap) (H:Hp):Prop:=∀ b,b ∉ fs→((∃ o,h0.get? b=some o)∨H b≠none)→∃ o,B.get? b=some o
noncomputable def CXe (P:Program) (w:World) (K:PySem.W.Frag):L2.CXT:=fun outer H s E e s'=>∃ a C H' B,e=.ref a∧s'.os=s.os∧AllBare s'.gens∧Un (frs outer) [] H H' s.heap s'.heap∧HOk P w H' s'.heap ∧
 Cov B (frs outer) s.heap H'∧Fl (¬ CN K 6 C) B outer a C .none s'.heap∧E (.ref C) none H'
noncomputable def Ned (X:Cx) (pins:List (Addr × Obj)) (H:Hp) (b:Addr):Prop :=
 ((∃ o,X.s₀.heap.get? b=some o)∧b ∉ X.ex)∨H b≠none∨(∃ p ∈ X.pn++pins,p.1=b)∨∃ x,X.env.cells.lookup x=some b
structure XSt (X:Cx)(pins:List (Addr × Obj))(H:Hp)(s:Shared)(a C:Addr)(B:Heap):Prop where
 st:B.StaysIn s.heap
 no:B.get? a=none
 ff:s.heap.FunFrames B X.stack
 cov:∀ b,b ∉ frs X.stack→Ned X pins H b→∃ o,B.get? b=some o
 it:(∃ xo ws,(s.heap.get? a=some xo∧xo.cls=.ref C∧xo.dict=none∧xo.data=.fields ws)∧ws[1]?=some .none∧(¬ CN X.K 6 C→ws[2]?=some .none))∨∃ fl,Tr (¬ CN X.K 6 C) B s.heap a C fl
section
variable {P:Program} {w:World} {X:Cx} {pins:List (Addr × Obj)} {σ:L2.St} {H H':Hp} {s s':Shared} {a C:Addr} {B g h:Heap}
theorem ZeZ {o:HO}(x:L2.Ju P w H h a o):∃ v,h.get? a=some v:=by
 cases o with
 | lst xs=>obtain ⟨_,_,_,_,e⟩:=x;exact ⟨_,e⟩
 | tup xs=>obtain ⟨_,_,_,o,e,_⟩:=x;exact ⟨_,e⟩
 | dK kvs=>obtain ⟨_,_,_,_,o,_,_,e,_⟩:=x;exact ⟨_,e⟩
 | dT kvs=>obtain ⟨_,_,_,_,o,_,_,e,_⟩:=x;exact ⟨_,e⟩
 | set S n=>obtain ⟨o,_,_,_,e,_⟩:=x;exact ⟨_,e⟩
 | ins C dx fs=>obtain ⟨_,_,_,e,_⟩:=x;exact ⟨_,e⟩
 | own y=>obtain ⟨_,e⟩:=x;exact ⟨_,e⟩
 | xd fs=>obtain ⟨_,⟨_,_,_,e,_⟩,_⟩:=x;exact ⟨_,e⟩
 | rng lo hi=>obtain ⟨_,_,_,e⟩:=x;exact ⟨_,e⟩
 | frz ob u=>obtain ⟨e,_⟩:=x;exact ⟨_,e⟩
 | tbl ps=>exact ⟨_,x⟩
 | met f y=>exact ⟨_,x⟩
 | ext φ=>obtain ⟨_,⟨_,e⟩,_⟩:=x;exact ⟨_,e⟩
theorem Zek (I:Inv X pins σ H s)(cov:∀ b,b ∉ frs X.stack→H b≠none→∃ o,B.get? b=some o)(st:B.StaysIn s.heap)(sg:B.StaysIn g):HOk X.prog X.w H g:=fun b u q=>by
 refine (I.hok b u q).stay (fun c v hc z=>?_) (fun _ z=>z) fun _ _ z=>z
 have ht:H c≠none:=by
  rcases hc with rfl | hc
  ·rw [q];simp
  ·rw [hc];simp
 obtain ⟨o,ho⟩:=cov c (fun m=>ht (I.ZcI c m)) ht
 have:=st c o ho
 rw [z] at this
 cases this
 exact sg c v ho
theorem ZaE (hs:X.stack=X.env::X.outer)(hf:X.env.frame=some X.env.locals):frs X.stack=X.env.locals::frs X.outer:=by
 rw [hs];unfold frs;rw [List.filterMap_cons,hf]
theorem leaves {E:L2.XK}(hs:X.stack=X.env::X.outer)(hf:X.env.frame=some X.env.locals)(hex:X.ex=[])(I:Inv X pins σ H s)(x:XSt X pins H s a C B)(hE:E (.ref C) none H) :
  wpAny (model X.prog X.w) X.A (leaving X.env (.ref a)) (fun _ s''=>CXe X.prog X.w X.K X.outer X.H₀ X.s₀ E (.ref a) s'') (fun e' s''=>CXe X.prog X.w X.K X.outer X.H₀ X.s₀ E e' s'') s:=by
 have fc:=ZaE hs hf
 have neL:∀ b o,X.s₀.heap.get? b=some o→b≠X.env.locals:=fun b o e=>Nat.ne_of_lt (Nat.lt_of_lt_of_le (Heap.lt_size e) I.ok.above)
 have inB:∀ b o,X.s₀.heap.get? b=some o→b ∉ frs X.outer→∃ u,B.get? b=some u:=fun b o e n=>x.cov b (fun m=>by
  rw [fc] at m
  rcases List.mem_cons.mp m with m | m
  ·exact neL b o e m
  ·exact n m) (.inl ⟨⟨o,e⟩,by rw [hex];simp⟩)
 have key:∀ g,Fl (¬ CN X.K 6 C) B X.outer a C .none g→s.heap.UpToSlots g→CXe X.prog X.w X.K X.outer X.H₀ X.s₀ E (.ref a) { s with heap:=g }:=fun g f up=>by
  have fru:∀ b o,b ∈ frs X.outer→s.heap.get? b=some o→∃ sl,g.get? b=some { o with slots:=sl }:=fun b o m q=>by
   have mm:b ∈ frs X.stack:=by rw [fc];exact List.mem_cons_of_mem _ m
   obtain ⟨-,o',q',n⟩:=x.ff.mem mm
   rw [q] at q';cases q'
   exact up b o q n
  refine ⟨a,C,H,B,rfl,I.os,I.bare,⟨fun b o e n hb hx=>?_,fun b o e n hb hx=>?_,fun b o e n hx=>?_,fun b o e hx=>?_,I.base.tups,I.base.frzs,I.base.tbls⟩,Zek I (fun b n t=>x.cov b n (.inr (.inl t))) x.st f.st,fun b n t=>?_,f,hE⟩
  ·have q:=I.base.keep b o e n hb (by rw [hex];simp)
   obtain ⟨u,hu⟩:=inB b o e hb
   have:=x.st b u hu
   rw [q] at this;cases this
   exact f.st b o hu
  ·obtain ⟨sl,q⟩:=I.base.slot b o e n hb (by rw [hex];simp)
   obtain ⟨sl',q'⟩:=fru b _ hb q
   exact ⟨sl',q'⟩
  ·exact I.base.free b o e n (by rw [hex];simp)
  ·obtain ⟨o',q⟩:=I.base.there b o e (by rw [hex];simp)
   by_cases hb:b ∈ frs X.outer
   ·obtain ⟨sl',q'⟩:=fru b _ hb q
    exact ⟨_,q'⟩
   ·obtain ⟨u,hu⟩:=inB b o e hb
    exact ⟨u,f.st b u hu⟩
  ·by_cases hb:b=X.env.locals
   ·subst hb
    rcases t with ⟨o,e⟩ | t
    ·exact absurd rfl (neL _ o e)
    ·exact absurd I.free t
   ·refine x.cov b (fun m=>?_) (t.elim (fun t=>.inl ⟨t,by rw [hex];simp⟩) fun t=>.inr (.inl t))
    rw [fc] at m
    rcases List.mem_cons.mp m with m | m
    ·exact hb m
    ·exact n m
 have fr:X.A.frames=some (X.env::X.outer):=I.ok.frames.trans (congrArg some hs)
 have ff:=x.ff
 rw [hs] at ff
 rcases x.it with ⟨xo,ws,⟨q1,q2,q3,q4⟩,q5,q6⟩ | ⟨fl,tr⟩
 ·exact leave_new fr hf ff x.st x.no q1 q2 q3 q4 q5 q6 key
 ·cases hfl:(fl == rawInt X.env.locals) with
  | false=>exact Zgk fr hf hfl ⟨x.st,x.no,ff,tr⟩ key
  | true=>rw [beq_iff_eq.mp hfl] at tr;exact ZeL hf ⟨x.st,x.no,ff,tr⟩ key
theorem XSt.ZhM {E:L2.XK}{e:Value}(I:Inv X pins σ H s)(h:CXe X.prog X.w X.K X.stack H s E e s'):∃ a C H' B,e=.ref a∧Inv X pins σ H' s'∧XSt X pins H' s' a C B∧E (.ref C) none H':=by
 obtain ⟨a,C,H',B,rfl,os,bare,un,hok,cov,f,hE⟩:=h
 obtain ⟨hh,gg,d,t,os'⟩:=s'
 obtain rfl:os'=s.os:=os
 have I':Inv X pins σ H' ⟨hh,gg,d,t,s.os⟩:=I.call (h':=hh) (g':=gg) (d':=d) (t':=t) (ch:=[]) un hok bare (fun b z=>absurd z (by simp))
 refine ⟨a,C,H',B,rfl,I',⟨f.st,f.no,f.ff,fun b n t=>?_,.inr ⟨_,f.tr⟩⟩,hE⟩
 rcases t with ⟨⟨o,q⟩,hx⟩ | t | ⟨p,hp,rfl⟩ | ⟨x,hx⟩
 ·obtain ⟨o',q'⟩:=I.base.there b o q hx
  exact cov b n (.inl ⟨o',q'⟩)
 ·exact cov b n (.inr t)
 ·exact cov _ n (.inl ⟨_,(I.pin p hp).1⟩)
 ·obtain ⟨v,o,ho,_⟩:=I.cell x b hx
  exact cov b n (.inl ⟨o,ho⟩)
end
end PV
set_option linter.all false
set_option Elab.async false
set_option maxRecDepth 100000
set_option maxHeartbeats 4000000
namespace PV
open PySem PySem.Spec PyProof.Rows
open L2 (V Hp HO Vals SqL SqT Same upd Cx PE PT PW PA PS PSs TE TT TA TS Inv RelV Zb Yb Jb Un HOk frs)
noncomputable def AfX (X:Cx) (pins:List (Addr × Obj)) (D0:L2.Ends) (m:RetP) (BF BH F:Hp) (env':Env):XO→Prop
 | .ok o=>∀ F' H' σ' L',SOk X.K BF BH F' H' σ' env' L'→Same F F'→After D0 m BH F' H' σ' o
 | .ex c=>∀ F' H' σ' L' s' a C B,SOk X.K BF BH F' H' σ' env' L'→Same F F'→Inv X pins σ' H' s'→XSt X pins H' s' a C B→CN X.K c C→X.xe (.ref a) s'
noncomputable def tX (X:Cx) (pins:List (Addr × Obj)) (m:RetP) (g:Sx) (D0:L2.Ends) (σ:L2.St) (H:Hp):Prop :=
 ∃ BF BH F env L o env',SOk X.K BF BH F H σ env L∧g env=some (o,env')∧AfX X pins D0 m BF BH F env' o
structure PX (X:Cx)(m:RetP)(st:List Stmt)(g:Sx):Prop where
 h:∀ pins s σ H D0,Inv X pins σ H s→tX X pins m g D0 σ H→wpAny (model X.prog X.w) X.A (execs st X.env) (L2.SP X pins D0) X.xe s
structure PX1 (X:Cx)(m:RetP)(st:Stmt)(g:Sx):Prop where
 h:∀ pins s σ H D0,Inv X pins σ H s→tX X pins m g D0 σ H→wpAny (model X.prog X.w) X.A (exec st X.env) (L2.SP X pins D0) X.xe s
theorem PS.nox {X:Cx}{st:Stmt}{t:TS}(h:PS X.nox st t):PS X st t:=fun pins s σ H D I hw =>
 wpAny_mono (h pins s σ H D (I.wish _) hw) (fun _ _ q=>q.Zh) fun _ _ z=>False.elim z
theorem PA.nox {X:Cx}{es:List Expr}{t:TA}(h:PA X.nox es t):PA X es t:=fun pos pins s σ H Q I hw =>
 wpAny_mono (h pos pins s σ H Q (I.wish _) hw) (fun _ _ ⟨vs,H',I',r,q⟩=>⟨vs,H',I'.Zh,r,q⟩) fun _ _ z=>False.elim z
section
variable {X:Cx} {m:RetP} {st:Stmt} {rest body orelse:List Stmt} {g:St} {ga gb:Sx} {c:Expr} {t:Tx} {pos:Pos}
theorem ZeD {env env':Env}{o:XO}(h:xOf g env=some (o,env')):∃ o',o=.ok o'∧g env=some (o',env'):=by
 unfold xOf at h
 split at h
 ·rename_i o' e h1;cases h;exact ⟨o',rfl,h1⟩
 ·cases h
theorem ZeT (h:PSd X.nox m rest g):PX X m rest (xOf g):=⟨fun pins s σ H D0 I hh_=>el10 hh_ fun BF BH F env L o env' S e k=>by
 obtain ⟨o,rfl,e1⟩:=ZeD e
 exact L2.PSs.nox h.h pins s σ H D0 I ⟨BF,BH,F,env,L,o,env',S,e1,k⟩⟩
theorem Zfu (h:PS1 X.nox m st g):PX1 X m st (xOf g):=⟨fun pins s σ H D0 I hh_=>el10 hh_ fun BF BH F env L o env' S e k=>by
 obtain ⟨o,rfl,e1⟩:=ZeD e
 exact PS.nox h.h pins s σ H D0 I ⟨BF,BH,F,env,L,o,env',S,e1,k⟩⟩
theorem AfX.after {pins:List (Addr × Obj)}{D0:L2.Ends}{BF BH F F1:Hp}{env':Env}{o:XO}(k:AfX X pins D0 m BF BH F env' o)(s:Same F F1):AfX X pins D0 m BF BH F1 env' o:=by
 cases o with
 | ok o=>exact fun F' H' σ' L' S z=>k F' H' σ' L' S (s.trans z)
 | ex c=>exact fun F' H' σ' L' s' a C B S z=>k F' H' σ' L' s' a C B S (s.trans z)
theorem ZG (h:PX1 X m st ga):PX X m [st] ga:=⟨fun pins s σ H D0 I q=>by
 refine wpAny_execs_cons (L2.thn (h.h pins s σ H D0 I q) fun f s1 q=>?_)
 cases f with
 | next=>exact wpAny_execs_nil q
 | ret v=>exact q
 | brk=>exact q
 | cont=>exact q⟩
theorem ZW (h1 : PX1 X m st ga)(h2 : PX X m rest gb) : PX X m (st :: rest) (xSeq ga gb) := ⟨fun pins s σ H D0 I hh_ => el10 hh_ fun BF BH F env L o env' S e k => by
  unfold xSeq at e
  have go : ∀ (D1 : L2.Ends), tX X pins m ga D1 σ H → (∀ f s1, L2.SP X pins D1 f s1 → match f with | .next => wpAny (model X.prog X.w) X.A (execs rest X.env) (L2.SP X pins D0) X.xe s1 | f => L2.SP X pins D0 f s1) →
      wpAny (model X.prog X.w) X.A (execs (st :: rest) X.env) (L2.SP X pins D0) X.xe s := fun D1 q z => by
    refine wpAny_execs_cons (L2.thn (h1.h pins s σ H D1 I q) fun f s1 q => ?_)
    have := z f s1 q
    cases f <;> exact this
  split at e
  · rename_i e1 h1'
    refine go { D0 with nx := fun σ' H' => ∃ F' L', SOk X.K BF BH F' H' σ' e1 L' ∧ Same F F' } ⟨BF, BH, F, env, L, _, e1, S, h1', fun F' H' σ' L' S' z => ⟨F', L', S', z⟩⟩ fun f s1 q => ?_
    cases f with
    | next =>
      obtain ⟨σ', H', I', F', L', S', z⟩ := q
      exact h2.h pins s1 σ' H' D0 I' ⟨BF, BH, F', e1, L', o, env', S', e, k.after z⟩
    | ret v => exact q
    | brk => exact q
    | cont => exact q
  · rename_i r hne
    cases hr : ga env with
    | none => rw [hr] at e; cases e
    | some p =>
      obtain ⟨o1, e1⟩ := p
      rw [hr] at e
      cases e
      refine go { D0 with nx := fun _ _ => False } ⟨BF, BH, F, env, L, o, env', S, hr, ?_⟩ fun f s1 q => ?_
      · cases o with
        | ex c => exact k
        | ok o =>
          cases o with
          | nx => exact absurd hr (hne _)
          | bk => exact k
          | ct => exact k
          | rt d => exact k
      · cases f with
        | next => obtain ⟨_, _, _, q⟩ := q; exact q.elim
        | ret v => exact q
        | brk => exact q
        | cont => exact q⟩
theorem Zb6:PX X m [] (xOf Jg):=ZeT Jw
theorem Zcj (hc:PTd X.nox c t)(ha:PX X m body ga)(hb:PX X m orelse gb):PX1 X m (.If c body orelse pos) (xIf t ga gb):=⟨fun pins s σ H D0 I hh_=>el10 hh_ fun BF BH F env L o env' S e k=>by
 unfold xIf at e
 have go:∀ b:Bool,t env=some b→(match b with | true=>ga env | false=>gb env)=some (o,env')→wpAny (model X.prog X.w) X.A (exec (.If c body orelse pos) X.env) (L2.SP X pins D0) X.xe s:=fun b hb' he=>by
  refine wpAny_If (L2.thn (L2.PT.nox hc pins s σ H (fun b' H1=>b'=b∧∃ F1,SOk X.K BF BH F1 H1 σ env L∧Same F F1) I ⟨BF,BH,F,env,L,b,S,hb',fun F' H' z=>⟨rfl,F',S.ext z,z.ff⟩⟩) fun d s1 q=>?_)
  obtain ⟨H1,I1,rfl,F1,S1,z⟩:=q
  cases d with
  | true=>exact ha.h pins s1 σ H1 D0 I1 ⟨BF,BH,F1,env,L,o,env',S1,he,k.after z⟩
  | false=>exact hb.h pins s1 σ H1 D0 I1 ⟨BF,BH,F1,env,L,o,env',S1,he,k.after z⟩
 split at e
 ·rename_i h1;exact go true h1 e
 ·rename_i h1;exact go false h1 e
 ·cases e⟩
theorem ZeE {h h1 base:Heap}{fs:List Addr}(k:∀ b o,h.get? b=some o→h1.get? b=some o):∀ {l:List PySem.Env},(∀ b ∈ frs l,b ∈ fs)→h.FunFrames base l→h1.FunFrames (PySem.W.hideAll h fs) l
 | [],_,_=>trivial
 | env::r,hs,⟨h1,⟨L,o,hf,hn,ho,hd⟩,hr⟩=>by
  have hL:L ∈ frs (env::r):=by unfold frs;rw [List.filterMap_cons,hf];exact List.mem_cons_self
  refine ⟨h1,⟨L,o,hf,PySem.W.hideAll_none _ (hs L hL),k _ _ ho,hd⟩,ZeE k (fun b hb=>hs b ?_) hr⟩
  unfold frs at hb ⊢
  rw [List.filterMap_cons,hf];exact List.mem_cons_of_mem _ hb
theorem XSt.made {pins:List (Addr × Obj)}{σ:L2.St}{H:Hp}{s:Shared}{a C:Addr}{h1:Heap}{vs:List Value}(I:Inv X pins σ H s)(hm:Heap.MadeExcOf s.heap h1 a (.ref C) vs) :
  Inv X pins σ H { s with heap:=h1 }∧XSt X pins H { s with heap:=h1 } a C (PySem.W.hideAll s.heap (frs X.stack)):=by
 have here:∀ b,Ned X pins H b→∃ o,s.heap.get? b=some o:=fun b t=>by
  rcases t with ⟨⟨o,q⟩,hx⟩ | t | ⟨p,hp,rfl⟩ | ⟨x,hx⟩
  ·exact I.base.there b o q hx
  ·cases q:H b with
   | none=>exact absurd q t
   | some o=>exact ZeZ (I.hok b o q)
  ·exact ⟨_,(I.pin p hp).1⟩
  ·obtain ⟨v,o,ho,_⟩:=I.cell x b hx
   exact ⟨o,ho⟩
 obtain ⟨t,h2,h3,h4⟩:=hm.there
 refine ⟨I.kept (t':=s.toks) hm.keeps,fun b o q=>hm.keeps b o (PySem.W.of_hideAll _ q),?_,ZeE hm.keeps (fun _ z=>z) I.stack,fun b n t=>?_,.inl ⟨_,_,⟨h2,rfl,rfl,rfl⟩,rfl,fun _=>rfl⟩⟩
 ·cases q:(PySem.W.hideAll s.heap (frs X.stack)).get? a with
  | none=>rfl
  | some o=>have:=PySem.W.of_hideAll _ q;rw [hm.new] at this;cases this
 ·obtain ⟨o,q⟩:=here b t
  exact ⟨o,PySem.W.hideAll_get _ q n⟩
structure XCl (K:PySem.W.Frag)(c:Nat):Prop where
 ex:∃ C,CN K c C∧PySem.W.excIn K C [.type "ValueError",.type "Exception",.type "BaseException",.type "object"] "ValueError.__new__"=true
theorem Zc5 {K:PySem.W.Frag}{h:Heap}{C:Addr}{bmB:List Value}{newId:String}(X:K.In h)(q:PySem.W.excIn K C bmB newId=true) :
  ∃ bm N nm qn bs hd sn sub ab col dd k0 k1 k2 k3 k5 mN,h.get? C=some (excClassObj nm qn C N bs bm hd sn sub ab col dd k0 k1 k2 k3 k5 newId)∧h.Ns N mN∧mN "__init__"=none∧OwnTail h bmB bm:=by
 unfold PySem.W.excIn at q
 split at q
 ·rename_i dd cd sl ho
  split at q
  ·rename_i C' bm k0 k1 k2 k3 n k5 hm hs
   simp only [Bool.and_eq_true,beq_iff_eq,Bool.not_eq_true'] at q
   obtain ⟨⟨⟨⟨⟨rfl,rfl⟩,z1⟩,z2⟩,z3⟩,z4⟩:=q
   obtain ⟨nm,bs,mro,ns,qn,hd,sn,sub,ab,col,del⟩:=cd
   dsimp only at hm z1 z3 z4
   subst hm z1
   obtain ⟨l⟩:=sl
   simp only at hs
   subst hs
   exact ⟨bm,ns,nm,qn,bs,hd,sn,sub,ab,col,dd,k0,k1,k2,k3,k5,_,X _ _ ho,.of_isNs (PySem.W.isNs_of_in X z3),PySem.W.nsMap_none_of_in X z3 z4,PySem.W.tail_of_in X z2⟩
  ·cases q
 ·cases q
theorem Zai (n:Nat) {x msg:Str} {np cp cpos:Pos} {j} (hcl:XCl X.K n) (hc:X.calm=true) (hx:xName n=x) (hg:X.env.kindOf x=some .globalImplicit:=by kernel_rfl) (hdb:(x == ("__debug__":Str))=false:=by kernel_rfl) :
  PX1 X m (.Raise (some (.Call (.Name x np) [.Constant (.str msg) j cp] [] cpos)) none pos) (ZX n):=⟨fun pins s σ H D0 I hh_=>el10 hh_ fun BF BH F env L o env' S e k=>by
 cases e
 obtain ⟨C,hC,hex⟩:=hcl.ex
 subst hx
 obtain ⟨bm,N,nm,qn,bs,hd,sn,sub,ab,col,dd,k0,k1,k2,k3,k5,mN,c1,c2,c3,c4⟩:=Zc5 I.mod.kin hex
 have hmg:X.mg (xName n)=some (.ref C):=PySem.W.mg_of I.mod.kin I.mod.glob hC
 refine wpAny_Raise_call_subT (C:=C) (nm:=nm) (q:=qn) (N:=N) (bs:=bs) (bm:=bm) (hdct:=hd) (sn:=sn) (sub:=sub) (ab:=ab) (col:=col) (dd:=dd) (k0:=k0) (k1:=k1) (k2:=k2) (k3:=k3) (k5:=k5) PySem.F.excBase_ValueError (mN:=mN)
  (c4.hasType PySem.F.excBase_ValueError.hasBase) (I.ok.hd hc) rfl c3 (L2.JD I hg hmg ⟨rfl,?_⟩ hdb)
 show wpAny _ _ (evalArgs (.ref C) true ((false,eval (.Constant (.str msg) j cp) X.env)::backTo cpos (starEach [] X.env)) []) _ _ s
 refine Calls.evalArgs_plain ?_
 have pa:PA X [.Constant (.str msg) j cp] _:=L2.Zj L2.Zax L2.Jp rfl
 refine L2.thn (pa cpos pins s σ H (fun vs H1=>vs=[.str msg]∧H1=H) I ⟨rfl,rfl⟩) fun us s1 q=>?_
 obtain ⟨vs,H1,I1,r,rfl,rfl⟩:=q
 refine ⟨rfl,?_,I1.bk _ _ c1,c2.keeps I1.bk,c4.keeps I1.bk,fun h' a hm=>?_⟩
 ·rw [← r.length];show 1≤sizeLine;decide
 ·obtain ⟨I2,x2⟩:=XSt.made I1 hm
  exact k F _ σ L _ a C _ S (.refl _) I2 x2 hC⟩
end
noncomputable def spX (K:PySem.W.Frag) (m:RetP) (φ:Fx):L2.Sp:=fun vs H Q E=>∃ F ds,Same F H∧Reps K F ds vs ∧
 ((∃ d,φ ds=some (.inl d)∧∀ v F' H',Ext F H F' H'→m H F' H' d v→Q v H')∨∃ c,φ ds=some (.inr c)∧∀ C F' H',CN K c C→Ext F H F' H'→E (.ref C) none H')
structure CalX (P:Program)(w:World)(K:PySem.W.Frag)(mg:Str→Option Value)(base:Heap)(k:Nat)(x:Str)(m:RetP)(φ:Fx):Prop where
 ex:∃ (fa:Addr) (fd:FuncData) (ps:List Str),mg x=some (.ref fa)∧PySem.W.keepIn K (.ref fa)=true∧L2.FnOk P w K mg base (CXe P w K) k fa fd ps (spX K m φ)∧L2.Binds K fd ps []
theorem CalX.mono {P:Program}{w:World}{K:PySem.W.Frag}{mg:Str→Option Value}{base:Heap}{j k:Nat}{x:Str}{m:RetP}{φ:Fx}(h:CalX P w K mg base j x m φ)(hk:j≤k):CalX P w K mg base k x m φ:=by
 obtain ⟨fa,fd,ps,h1,h2,h3,h4⟩:=h.ex
 exact ⟨⟨fa,fd,ps,h1,h2,h3.mono hk,h4⟩⟩
section
variable {X:Cx} {m m1:RetP} {e:Expr} {es:List Expr} {fs:List Ex} {x:Str} {p pos pos':Pos} {k:Nat} {φ:Fx}
theorem ZaV {pins:List (Addr × Obj)} {σ:L2.St} {H BF BH F:Hp} {s:Shared} {env:Env} {L:Nat→List Addr} {r:D ⊕ Nat} {Q:L2.VK} (G:CalX X.prog X.w X.K X.mg X.base k x m1 φ) (hr:L2.Room k X.A) (ha:PAd X.nox .k (e::es) fs) (hg:L2.Gl X x) (hdb:(x == ("__debug__":Str))=false)
  (he:starEach (e::es) X.env=(false,eval e X.env)::starEach es X.env) (hpl:(backTo pos (starEach es X.env)).any (·.1)=false) (I:Inv X pins σ H s) (S:SOk X.K BF BH F H σ env L) (hφ:YH φ fs env=some r)
  (ok:∀ d,r=.inl d→∀ v F' H' H0,Same BH H0→Same H H0→Ext F H F' H'→m1 H0 F' H' d v→Q v H')
  (ex:∀ c,r=.inr c→∀ F' H' s' a C B,Ext F H F' H'→Inv X pins σ H' s'→XSt X pins H' s' a C B→CN X.K c C→X.xe (.ref a) s') :
  wpAny (model X.prog X.w) X.A (eval (.Call (.Name x p) (e::es) [] pos) X.env) (L2.EP X pins σ Q) X.xe s:=by
 obtain ⟨fa,fd,ps,h1,h2,h3,h4⟩:=G.ex
 unfold YH at hφ
 split at hφ
 ·rename_i ds h5
  refine wpAny_Call_Name_kw (L2.JD I hg h1 ?_ hdb)
  refine PySem.W.callWith_K (h₀:=X.base) I.ok.mod.kin h2 (L2.thn (PA.nox ha.h pos pins s σ H (fun vs H1=>∃ F1,Ext F H F1 H1∧Reps X.K F1 ds vs) I ⟨BF,BH,F,env,L,ds,S,h5,fun vs F' H' z r=>⟨F',z,r⟩⟩) fun us s1 ⟨vs,H1,I1,rv,F1,z,rp⟩=>⟨I1.kIn,?_⟩) he hpl
  have sp:spX X.K m1 φ (vs++[]) H1 Q (fun cls _ H2=>∃ C F2 c,cls=.ref C∧Ext F1 H1 F2 H2∧r=.inr c∧CN X.K c C):=by
   rw [List.append_nil]
   refine ⟨F1,ds,z.fh,rp,?_⟩
   cases r with
   | inl d=>exact .inl ⟨d,hφ,fun v F2 H2 z2 r2=>ok d rfl v F2 H2 H1 (S.s0.trans z.hh) z.hh (z.trans z2) r2⟩
   | inr c=>exact .inr ⟨c,hφ,fun C F2 H2 hc z2=>⟨C,F2,c,rfl,z2,rfl,hc⟩⟩
  have r2:Vals (vs++[]) (us++[]):=rv.append .nil
  have hl:(us++[]).length=ps.length:=by rw [← r2.length];exact h3.len _ _ _ _ sp
  refine wpAny_call (codeAny_mono (h3.run X.A X.stack s1 H1 ⟨us,[]⟩ (us++[]) (vs++[]) Q _ hr I1.env0 (h4 s1 us I1.kIn hl) r2 sp) fun rr s' hq=>?_)
  cases rr with
  | error v =>
   have hq:CXe X.prog X.w X.K X.stack H1 s1 (fun cls _ H2=>∃ C F2 c,cls=.ref C∧Ext F1 H1 F2 H2∧r=.inr c∧CN X.K c C) v s':=hq
   obtain ⟨a,C,H',B,rfl,I',x',C',F2,c,hcc,z2,hc,hcn⟩:=XSt.ZhM I1 hq
   cases hcc
   exact ex c hc F2 H' s' a C B (z.trans z2) I' x' hcn
  | ok fl =>
   cases fl with
   | ret u=>exact I1.after hq
   | next=>exact False.elim hq
   | brk=>exact False.elim hq
   | cont=>exact False.elim hq
 ·cases hφ
theorem Zg9 (hm:∀ A B F' H' d v,Same A B→m B F' H' d v→m A F' H' d v) (G:CalX X.prog X.w X.K X.mg X.base k x m φ) (hr:L2.Room k X.A) (ha:PAd X.nox .k (e::es) fs) (hg:X.env.kindOf x=some .globalImplicit:=by kernel_rfl) (hdb:(x == ("__debug__":Str))=false:=by kernel_rfl)
  (hn:nst e=true:=by rfl) (hns:nsts es=true:=by rfl):PX1 X m (.Return (some (.Call (.Name x p) (e::es) [] pos)) pos') (xRet φ fs):=⟨fun pins s σ H D0 I hh_=>el10 hh_ fun BF BH F env L o env' S e k=>by
 unfold xRet at e
 refine wpAny_Return_some (L2.thn (Q:=L2.EP X pins σ fun v H'=>D0.rt v H') ?_ fun v s1 ⟨x,H1,I1,r1,q1⟩=>⟨x,σ,H1,I1,r1,q1⟩)
 split at e
 ·rename_i d h1
  cases e
  exact ZaV G hr ha hg hdb (Yd hn) (YJ hns) I S h1 (fun d' hd v F' H' H0 s0 s1 z r=>by cases hd;exact k F' H' σ L (S.ext z) z.ff v (hm _ _ _ _ _ _ s0 r)) (fun c hc=>by cases hc)
 ·rename_i c h1
  cases e
  exact ZaV G hr ha hg hdb (Yd hn) (YJ hns) I S h1 (fun d' hd=>by cases hd) (fun c' hc F' H' s' a C B z I' x' hcn=>by cases hc;exact k F' H' σ L s' a C B (S.ext z) z.ff I' x' hcn)
 ·cases e⟩
theorem Zit (G:CalX X.prog X.w X.K X.mg X.base k x m1 φ) (hr:L2.Room k X.A) (ha:PAd X.nox .k (e::es) fs) (hg:X.env.kindOf x=some .globalImplicit:=by kernel_rfl) (hdb:(x == ("__debug__":Str))=false:=by kernel_rfl)
  (hn:nst e=true:=by rfl) (hns:nsts es=true:=by rfl) (hs:swapsWith (.Call (.Name x p) (e::es) [] pos) none pos'.line X.env=pure false:=by rfl):PX1 X m (.Expr (.Call (.Name x p) (e::es) [] pos) pos') (xDo φ fs):=⟨fun pins s σ H D0 I hh_=>el10 hh_ fun BF BH F env L o env' S e k=>by
 unfold xDo at e
 refine wpAny_Expr_any (L2.thn (Q:=L2.EP X pins σ fun v H'=>D0.nx σ H') ?_ fun v s1 ⟨x,H1,I1,r1,q1⟩=>⟨σ,H1,I1,q1⟩) I.quiet hs
 split at e
 ·rename_i d h1
  cases e
  exact ZaV G hr ha hg hdb (Yd hn) (YJ hns) I S h1 (fun d' hd v F' H' H0 s0 s1 z r=>k F' H' σ L (S.ext z) z.ff) (fun c hc=>by cases hc)
 ·rename_i c h1
  cases e
  exact ZaV G hr ha hg hdb (Yd hn) (YJ hns) I S h1 (fun d' hd=>by cases hd) (fun c' hc F' H' s' a C B z I' x' hcn=>by cases hc;exact k F' H' σ L s' a C B (S.ext z) z.ff I' x' hcn)
 ·cases e⟩
theorem Zho {K:PySem.W.Frag}(m1:Md):∀ A B F' H' d v,Same A B→rk K m1 B F' H' d v→rk K m1 A F' H' d v:=fun _ _ _ _ _ _ s r=>Rep.mono (ZdT s m1) _ _ r
end
theorem ZbK {p n:Nat}{g:Sx}{ds:List D}{r:D ⊕ Nat}(h:runX p n g ds=some r):ds.length=p ∧
  ((∃ d env',r=.inl d∧g (enter n ds)=some (.ok (.rt d),env'))∨(r=.inl .non∧∃ env',g (enter n ds)=some (.ok .nx,env'))∨∃ c env',r=.inr c∧g (enter n ds)=some (.ex c,env')):=by
 unfold runX at h
 split at h
 ·rename_i hl
  split at h
  ·rename_i d e1 hg;cases h;exact ⟨hl,.inl ⟨d,e1,rfl,hg⟩⟩
  ·rename_i e1 hg;cases h;exact ⟨hl,.inr (.inl ⟨rfl,e1,hg⟩)⟩
  ·rename_i c e1 hg;cases h;exact ⟨hl,.inr (.inr ⟨c,e1,rfl,hg⟩)⟩
  ·cases h
 ·cases h
theorem ZbY {P : Program}{w : World}{K : PySem.W.Frag}{mg : Str → Option Value}{base : Heap}{x qual : Str}{st : Stmt}{f : Addr}{fd : FuncData}{N ps : List Str}{k : Nat}{m : RetP}{g : Sx}(F : L2.Fun K x qual st f fd)(S : L2.Jj N ps (L2.Zc st))
    (hm : (∀ BH F' H', m BH F' H' .non .non) ∨ ∀ env env', g env ≠ some (.ok .nx, env')) (hb : ∀ (cdv : Value) (A : Around) (outer : List PySem.Env) (s : Shared) (H : Hp) (E : L2.XK), L2.Room k (A.deeper (envOfC qual (L2.Zc st) s.heap.objs.size f cdv)) →
      PX (L2.cxOf (CXe P w K) P w K mg base N qual (L2.Zc st) f cdv A outer s H E) m (L2.Ye st) g) : L2.FnOk P w K mg base (CXe P w K) (k + 1) f fd ps (spX K m (runX ps.length N.length g)) := by
  have hpl : ps.length ≤ N.length := by have := congrArg List.length S.pre; rw [List.length_take] at this; omega
  obtain ⟨oc, od, kV, doc, pm, an, cdv, ct, osl, rfl, lk, hcd⟩ := F.ex
  refine L2.ZgV lk hcd S (fun vs H Q E h => ?_) (fun A outer s H vs Q E hr h => ?_)
  · obtain ⟨F0, ds, h1, h2, h3⟩ := h
    rw [← h2.length]
    rcases h3 with ⟨d, h3, _⟩ | ⟨c, h3, _⟩
    · exact (ZbK h3).1
    · exact (ZbK h3).1
  · obtain ⟨F0, ds, h1, h2, h3⟩ := h
    refine ⟨fun D0 σ H => ∀ pins, tX _ pins m g D0 σ H, fun pins s1 σ H1 D0 I q => (hb cdv A outer s H E hr).h pins s1 σ H1 D0 I (q pins), fun pins => ?_⟩
    have fin : ∀ (r : D ⊕ Nat), runX ps.length N.length g ds = some r → (∀ d, r = .inl d → ∀ v F' H', Ext F0 H F' H' → m H F' H' d v → Q v H') → (∀ c, r = .inr c → ∀ C F' H', CN K c C → Ext F0 H F' H' → E (.ref C) none H') →
        tX (L2.cxOf (CXe P w K) P w K mg base N qual (L2.Zc st) f cdv A outer s H E) pins m g { nx := fun _ H' => Q .non H', rt := Q } (L2.start N vs) H := fun r hr ok ex => by
      obtain ⟨hl, h3⟩ := ZbK hr
      have S0 := ZcU (N := N) h1 h2 (by omega)
      rcases h3 with ⟨d, env', rfl, hg⟩ | ⟨rfl, env', hg⟩ | ⟨c, env', rfl, hg⟩
      · exact ⟨F0, H, F0, _, _, _, env', S0, hg, fun F' H' σ' L' S' s' v r => ok d rfl v F' H' S'.Zbj r⟩
      · rcases hm with hm | hm
        · exact ⟨F0, H, F0, _, _, _, env', S0, hg, fun F' H' σ' L' S' s' => ok .non rfl .non F' H' S'.Zbj (hm _ _ _)⟩
        · exact absurd hg (hm _ _)
      · exact ⟨F0, H, F0, _, _, _, env', S0, hg, fun F' H' σ' L' s' a C B S' z I' x' hc => leaves rfl rfl rfl I' x' (ex c rfl C F' H' hc S'.Zbj)⟩
    rcases h3 with ⟨d, h3, h4⟩ | ⟨c, h3, h4⟩
    · exact fin _ h3 (fun d' hd => by cases hd; exact h4) (fun c hc => by cases hc)
    · exact fin _ h3 (fun d' hd => by cases hd) (fun c' hc => by cases hc; exact h4)
end PV
set_option linter.all false
set_option Elab.async false
set_option maxRecDepth 100000
set_option maxHeartbeats 4000000
namespace PV
open PySem PySem.Spec PyProof.Rows
section
variable {prog:Program} {w:World} {A:Around} {E:Value→Shared→Prop} {s:Shared} {K:PySem.W.Frag} {a C:Addr} {o:Obj}
theorem ZbQ {tk:Tok} {Q:Fin→Shared→Prop} (X:K.In s.heap) (I:PySem.W.InstAt s.heap a o C none) (hf:PySem.W.findObj K C none "__class__"=some (.bind (.builtin "getset_descriptor.__get__") (.builtin "object.__class__")))
  (hm:PySem.W.mroIn K C (.type "object")=some true) (hq:Q (.done (.ret (.ref C))) s):wpAny (model prog w) A (Builtin.«object.__getattribute__» ⟨[.ref a,.str "__class__" tk],[]⟩) Q E s:=by
 have L0:=I.type (M:=model prog w)
 have L1:=PySem.W.looks_find (M:=model prog w) X I hf
 unfold Builtin.«object.__getattribute__»
 refine wpAny_bind (wpAny_pure ?_)
 refine wpAny_bind (wpAny_pure (wpAny_bind (L0.at (wpAny_bind (L1.at ?_)))))
 show wpAny _ _ (holding [.builtin "object.__class__"] (call (.builtin "getset_descriptor.__get__") [.builtin "object.__class__",.ref a,.ref C]) >>= ret) _ _ _
 exact wpAny_bind (wpAny_holding (wpAny_call (PySem.W.class_get (ox:=o) (od:=none) X I hm (wpAny_pure hq))))
theorem Zfv {tk:Tok} {R:Result→Shared→Prop} (X:K.In s.heap) (I:PySem.W.InstAt s.heap a o C none) (hf:PySem.W.findObj K C none "__class__"=some (.bind (.builtin "getset_descriptor.__get__") (.builtin "object.__class__")))
  (hm:PySem.W.mroIn K C (.type "object")=some true) (hb:PySem.W.mroIn K C (.type "BaseException")=some true) (hq:R (.ok (.ret (.ref C))) s):codeAny (model prog w) A (.call (.builtin "BaseException.__getattribute__") ⟨[.ref a,.str "__class__" tk],[]⟩) R s:=by
 refine codeAny_call_builtin F.excAttr_ValueError.ga.plain F.entry_bexc_ga ?_
 have hk:builtinKind "BaseException.__getattribute__"=some .slot:=by decide +kernel
 have hsplit:splitId "BaseException.__getattribute__"=some ("BaseException","__getattribute__"):=by decide +kernel
 have ha:=F.args_bexc_ga (.ref a) (.str "__class__" tk)
 have L0:=I.type (M:=model prog w)
 have L1:=PySem.W.looks_mroIn (M:=model prog w) X hb
 simp only [checkBuiltinCall,hk,hsplit]
 refine wpAny_bind ?_
 unfold isInstance
 refine wpAny_bind (L0.at ?_)
 refine L1.at ?_
 rw [if_neg (by decide)]
 unfold argsOk at ha
 generalize Manifest.signature? "BaseException.__getattribute__"=sg at ha ⊢
 cases sg with
 | none=>exact wpAny_pure (ZbQ X I hf hm hq)
 | some sig =>
  dsimp only at ha ⊢
  rw [ha]
  exact wpAny_pure (ZbQ X I hf hm hq)
theorem xcls {Q:Option Value→Shared→Prop} (X:K.In s.heap) (I:PySem.W.InstAt s.heap a o C none) (hga:PySem.W.findIn K (.ref C) "__getattribute__"=some (some (.builtin "BaseException.__getattribute__"))) (hgx:PySem.W.findIn K (.ref C) "__getattr__"=some none)
  (hf:PySem.W.findObj K C none "__class__"=some (.bind (.builtin "getset_descriptor.__get__") (.builtin "object.__class__"))) (hm:PySem.W.mroIn K C (.type "object")=some true) (hb:PySem.W.mroIn K C (.type "BaseException")=some true)
  (h:Q (some (.ref C)) { s with toks:=s.toks + 1 }):wpAny (model prog w) A (getAttr? (.ref a) "__class__") Q E s:=by
 obtain ⟨hh,g,d,t,os⟩:=s
 have L0:=I.type (M:=model prog w)
 have L1:=PySem.W.looks_findIn (M:=model prog w) X hga
 have L2:=PySem.W.looks_findIn (M:=model prog w) X hgx
 unfold getAttr? getAttrBy? getAttrBy
 refine wpAny_bind (wpAny_mkText (wpAny_bind (wpAny_attempt (wpAny_holding (wpAny_bind (L0.at (wpAny_bind (L1.at ?_))))))))
 have hx2:(Value.builtin "BaseException.__getattribute__" == Value.builtin "object.__getattribute__")=false:=by decide +kernel
 dsimp only
 rw [hx2,Bool.and_false,if_neg (by decide)]
 unfold getAttrByItsOwn hookBefore
 rw [if_pos (by rfl)]
 refine wpAny_bind (L2.at ?_)
 refine wpAny_bind (wpAny_attempt (wpAny_holding ?_))
 unfold callGetattribute boundAndCalled
 rw [if_neg (by decide),F.excAttr_ValueError.ga.bind (.ref a)]
 refine wpAny_bind (wpAny_pure ?_)
 refine wpAny_call (Zfv (s:=⟨hh,g,d,t + 1,os⟩) X I hf hm hb ?_)
 exact PySem.W.handed_on rfl (wpAny_pure h)
end
end PV
set_option linter.all false
set_option Elab.async false
set_option maxRecDepth 100000
set_option maxHeartbeats 4000000
namespace PV
open PySem PySem.Spec PyProof.Rows
open L2 (V Hp HO Vals SqL SqT Same upd Cx PE PT PW PA PS PSs TE TT TA TS Inv RelV Zb Yb Jb Un HOk frs)
structure Zdh (K:PySem.W.Frag)(C:Addr):Prop where
 ga:PySem.W.findIn K (.ref C) "__getattribute__"=some (some (.builtin "BaseException.__getattribute__"))
 gx:PySem.W.findIn K (.ref C) "__getattr__"=some none
 mb:PySem.W.mroIn K C (.type "BaseException")=some true
 cl:(PySem.W.clsIn K C).isSome=true
 fi:PySem.W.findIn K (.ref C) "__class__"=some (some (.builtin "object.__class__"))
 sp:PySem.W.specialIn K (.builtin "object.__class__") "__get__"=some (some (.builtin "getset_descriptor.__get__"))
 tk:PySem.W.takesIn K (.builtin "object.__class__")=some true
 mo:PySem.W.mroIn K C (.type "object")=some true
theorem ZbO {K:PySem.W.Frag}{C:Addr}(h:(PySem.W.clsIn K C).isSome=true):∃ c d cd sl,K.lookup C=some ⟨c,d,.cls cd,sl⟩:=by
 unfold PySem.W.clsIn at h
 split at h
 ·rename_i c d cd sl ho;exact ⟨c,d,cd,sl,ho⟩
 ·cases h
theorem Zfw {K:PySem.W.Frag}{a C:Addr}(f:Zdh K C):PySem.W.KitX K (.ref a) (.ref C) (isX a C) where
 ty:=fun M h _ p=>by
  obtain ⟨o,ws,h1,h2,-⟩:=p
  exact h2 ▸ (PySem.W.Looks.ld h1).andThen .now
 it:=fun M h X _=>by
  obtain ⟨c,d,cd,sl,ho⟩:=ZbO f.cl
  intro A' Q' E' s' k q
  unfold isType loadHead
  exact wpAny_bind (wpAny_loadPart (k _ _ (X _ _ ho)) (wpAny_pure q))
 ne:=fun h tp dd its n sl X htp=>by
  obtain ⟨c,d,cd,sl',ho⟩:=ZbO f.cl
  refine Bool.eq_false_iff.mpr fun q=>?_
  have e:C=tp:=Value.ref.inj (beq_iff_eq.mp q)
  subst e
  have z:=(X _ _ ho).symm.trans htp
  cases z
 ca:=fun {prog w A E Q s} X p k=>by
  obtain ⟨o,ws,h1,h2,h3,h4⟩:=p
  have I:PySem.W.InstAt s.heap a o C none:=⟨h1,h2,by unfold PySem.W.notCls;rw [h4],by rw [h3];trivial⟩
  have hf:PySem.W.findObj K C none "__class__"=some (.bind (.builtin "getset_descriptor.__get__") (.builtin "object.__class__")):=by
   obtain ⟨cd,hc⟩:=Option.isSome_iff_exists.mp f.cl
   unfold PySem.W.findObj
   rw [hc,Option.bind_some,f.fi,Option.bind_some]
   simp [f.sp,f.tk]
  exact xcls X I f.ga f.gx hf f.mo f.mb k
structure Zaa (K:PySem.W.Frag)(cs:List Nat):Prop where
 cls:∀ c,c < 7→∃ C,CN K c C
 inst:∀ c ∈ cs,∀ C,CN K c C→Zdh K C
 one:∀ c ∈ cs,∀ C,CN K c C→∀ c',c' < 7→∀ C',CN K c' C'→PySem.W.kitOne K (.ref C) (.ref C')=some (decide (c=c'))
 val:∀ c ∈ cs,∀ C,CN K c C→PySem.W.kitOne K (.ref C) (.type "ValueError")=some true
 folk:∃ CF,PySem.W.nsIn K mainGlobals "FolkError"=some (some (.ref CF))∧∀ c ∈ cs,∀ C,CN K c C→PySem.W.exmOne K (.ref C) (.ref CF)=some true
section
variable {X:Cx} {m:Md} {pos:Pos} {cs:List Nat}
theorem Zdl:L2.Yu X (.builtin "isinstance") (fun xs H Q=>∃ a C v cv b,xs=[.ref a,v]∧(∀ u,RelV v u→u=cv)∧H a=some (.ext (isX a C))∧Zdh X.K C∧PySem.W.kitOne X.K (.ref C) cv=some b∧Q (.bl b) H):=by
 intro pins s σ H xs us Q I r h
 obtain ⟨a,C,v,cv,b,rfl,hv,ha,hi,hk,q⟩:=h
 obtain ⟨u,w,rfl,ru,rw'⟩:=r.two
 obtain rfl:u=Value.ref a:=ru
 obtain rfl:=hv w rw'
 obtain ⟨p,-,-⟩:=(show L2.Ju X.prog X.w H s.heap a (.ext (isX a C)) from I.hok a _ ha)
 exact PySem.W.kia_one (Zfw hi) I.kIn p hk (fun z=>nomatch z) fun tk=>⟨.bl b,H,I.tok tk,rfl,q⟩
theorem Ziu {c:Nat} {C:Addr} {y:Str} (hC:CN X.K c C) (hy:xName c=y) (hg:L2.Gl X y) (hd:(y == ("__debug__":Str))=false):PE X (.Name y pos) (L2.tC (.ref C)):=fun _ _ _ H _ I h=>by
 subst hy
 exact L2.JD I hg (PySem.W.mg_of I.mod.kin I.mod.glob hC) ⟨.ref C,H,I,rfl,h⟩ hd
theorem J9 (i c':Nat) {x y:Str} {p p1 p2:Pos} (T:Bt X.mg) (XF:Zaa X.K cs) (hc:c' < 7) (hy:xName c'=y) (hN:X.N[i]?=some x:=by kernel_rfl) (hv:visB X.env.scope x=true:=by kernel_rfl) (hd:(x == ("__debug__":Str))=false:=by kernel_rfl)
  (hcd:(x == ("__classdict__":Str))=false:=by kernel_rfl) (hg:X.env.kindOf "isinstance"=some .globalImplicit:=by kernel_rfl) (hg2:X.env.kindOf y=some .globalImplicit:=by kernel_rfl) (hd2:(y == ("__debug__":Str))=false:=by kernel_rfl) :
  PD X m (.Call (.Name "isinstance" p) [.Name x p1,.Name y p2] [] pos) (eIsX cs i c'):=by
 obtain ⟨C',hC'⟩:=XF.cls c' hc
 exact PD.mk <| PE.of (L2.ZaI Zdl hg T.isinstance boot_isinstance (L2.Zj (L2.Zav hN (Z4 hv) hd hcd) (L2.Zj (Ziu hC' hy hg2 hd2) L2.Jp (Yl rfl)) (Yd rfl)) (by decide) (by decide) (Yd rfl) rfl) fun σ H Q hh_=>el9 hh_ fun BF BH F env L d S e q=>by
  unfold eIsX at e
  split at e
  ·rename_i c he
   split at e
   ·rename_i hm
    cases e
    obtain ⟨ov,hσ,a,C,rfl,hcn,hF⟩:=S.sl i _ he
    exact ⟨_,hσ,a,C,_,_,_,rfl,fun u r=>r,S.fh _ _ hF,XF.inst c hm C hcn,XF.one c hm C hcn c' hc C' hC',q _ F H (.refl S.fh) (by simp [Rep])⟩
   ·cases e
  ·cases e
theorem Ziq (i:Nat) {x:Str} {p p1 p2:Pos} (T:Bt X.mg) (hxv:X.mg "ValueError"=none) (XF:Zaa X.K cs) (hN:X.N[i]?=some x:=by kernel_rfl) (hv:visB X.env.scope x=true:=by kernel_rfl) (hd:(x == ("__debug__":Str))=false:=by kernel_rfl)
  (hcd:(x == ("__classdict__":Str))=false:=by kernel_rfl) (hg:X.env.kindOf "isinstance"=some .globalImplicit:=by kernel_rfl) (hg2:X.env.kindOf "ValueError"=some .globalImplicit:=by kernel_rfl) :
  PD X m (.Call (.Name "isinstance" p) [.Name x p1,.Name "ValueError" p2] [] pos) (eIsV cs i):=by
 exact PD.mk <| PE.of (L2.ZaI Zdl hg T.isinstance boot_isinstance (L2.Zj (L2.Zav hN (Z4 hv) hd hcd) (L2.Zj (L2.ZeH (v:=.ty "ValueError") hg2 hxv (by decide +kernel) rfl (by decide) (by decide)) L2.Jp (Yl rfl)) (Yd rfl)) (by decide) (by decide) (Yd rfl) rfl) fun σ H Q hh_=>el9 hh_ fun BF BH F env L d S e q=>by
  unfold eIsV at e
  split at e
  ·rename_i c he
   split at e
   ·rename_i hm
    cases e
    obtain ⟨ov,hσ,a,C,rfl,hcn,hF⟩:=S.sl i _ he
    exact ⟨_,hσ,a,C,_,_,_,rfl,fun u r=>r,S.fh _ _ hF,XF.inst c hm C hcn,XF.val c hm C hcn,q _ F H (.refl S.fh) (by simp [Rep])⟩
   ·cases e
  ·cases e
end
noncomputable abbrev clr (A:Around):Around:={ A with handled:=none }
noncomputable def cxH (P:Program) (w:World) (K:PySem.W.Frag) (mg:Str→Option Value) (base:Heap) (N:List Str) (qual:Str) (scope:Scope) (f:Addr) (cd:Value) (A:Around) (outer:List PySem.Env) (s:Shared) (H:Hp):Cx :=
 { L2.cxOf L2.CX0 P w K mg base N qual scope f cd A outer s H L2.E0 with calm:=false,xe:=fun _ _=>False }
structure FnW (P:Program)(w:World)(K:PySem.W.Frag)(mg:Str→Option Value)(base:Heap)(k:Nat)(f:Addr)(fd:FuncData)(x:Str)(φ:Nat→Option D):Prop where
 run:∀ (A:Around) (outer:List PySem.Env) (s:Shared) (H F:Hp) (args:Args) (a C:Addr) (c:Nat) (d:D) (Q:L2.VK),L2.Room k (clr A)→L2.Env0 P w K mg base A outer s H→BindsTo s fd args [(x,.ref a)]→Same F H→F a=some (.ext (isX a C))→CN K c C→φ c=some d →
  (∀ v F' H',Ext F H F' H'→Rep K F' d v→Q v H')→codeAny (model P w) A (.call (.ref f) args) (L2.CR L2.CX0 outer P w H s Q L2.E0) s
theorem Zil {P:Program}{w:World}{K:PySem.W.Frag}{mg:Str→Option Value}{base:Heap}{x qual y:Str}{st:Stmt}{f:Addr}{fd:FuncData}{N:List Str}{k:Nat}{g:St}(F:L2.Fun K x qual st f fd)(S:L2.Jj N [y] (L2.Zc st))
  (hb:∀ (cdv:Value) (A:Around) (outer:List PySem.Env) (s:Shared) (H:Hp),L2.Room k ((clr A).deeper (envOfC qual (L2.Zc st) s.heap.objs.size f cdv)) →
   PSd (cxH P w K mg base N qual (L2.Zc st) f cdv A outer s H) (rk K .k) (L2.Ye st) g):FnW P w K mg base (k + 1) f fd y (runW N.length g):=by
 obtain ⟨oc,od,kV,doc,pm,an,cdv,ct,osl,rfl,lk,hcd⟩:=F.ex
 refine ⟨fun A outer s H F0 args a C c d Q hr e0 hbind fh hF hcn hφ kk=>?_⟩
 have KX:K.In s.heap:=e0.mod.kin.keeps fun b o e=>(e0.bs b o e).1
 have lim:s.heap.NoLimit:=e0.mod.nolimit.keeps fun b o e=>(e0.bs b o e).1
 have hkind:∀ z ∈ [(y,Value.ref a)],(L2.Zc st).names.lookup z.1=some .local∨((L2.Zc st).names.lookup z.1=some .cell∧((cellsFrom (s.heap.objs.size + 1) (L2.Zc st).names []).lookup z.1).isSome=true):=fun z hz=>by
  simp at hz;subst hz
  rcases S.par y (by simp) with q | q
  ·exact .inl q
  ·exact .inr ⟨q,PySem.W.cellsFrom_some _ _ _ (.inl q)⟩
 refine codeAny_call_function (show A.depth < recursionLimit from hr.depth) (KX _ _ lk) rfl S.co S.gen rfl (PySem.W.codeRec_of KX hcd) (hbind _ _ _ _ ?_)
 refine wpAny_newFunctionEnv_cells S.kind hkind fun env he s1 xx=>?_
 subst he
 refine ⟨lim.keeps xx.toInCall.keep,codeAny_func ?_⟩
 have e0':L2.Env0 P w K mg base (clr A) outer s H:=⟨e0.frames,e0.mod,e0.bs,e0.bsz,e0.funs,e0.frf,e0.hok,e0.bare⟩
 have rv:Vals [V.ref a] [Value.ref a]:=.cons rfl .nil
 have I0:Inv (L2.cxOf L2.CX0 P w K mg base N qual (L2.Zc st) f cdv (clr A) outer s H L2.E0) [] (L2.start N [.ref a]) H s1:=L2.ZcY (us:=[Value.ref a]) S rfl e0' rfl rv xx
 have I:Inv (cxH P w K mg base N qual (L2.Zc st) f cdv A outer s H) [] (L2.start N [.ref a]) H s1 :=
  ⟨⟨I0.ok.mod,I0.ok.kind,I0.ok.glob,I0.ok.blt,I0.ok.above,I0.ok.inj,I0.ok.has,I0.ok.cab,fun h=>(nomatch (show false=true from h)),Around.frames_deeper e0.frames,I0.ok.stk,I0.ok.exf,I0.ok.bs,I0.ok.bsz,I0.ok.noex,I0.ok.exfs,I0.ok.funs,I0.ok.frf⟩,I0.os,I0.bare,I0.base,I0.loc,I0.cell,I0.free,I0.freeC,I0.pin,I0.hok,I0.len⟩
 have h1:1≤N.length:=by have:=congrArg List.length S.pre;rw [List.length_take] at this;simp at this;omega
 unfold runW at hφ
 split at hφ
 ·rename_i d' env' hg
  cases hφ
  have S0:SOk K F0 H F0 H (L2.start N [.ref a]) (.xc c::List.replicate (N.length - 1) .un) (fun _=>[]):={
   s0:=.refl _
   f0:=.refl _
   fh:=fh
   fd:=fun a o h=>.inl h
   ow:=fun i a h=>by cases h
   dj:=fun i j a h=>by cases h
   len:=by unfold L2.start;simp
   sl:=fun i sl h=>by
    cases i with
    | zero=>cases h;exact ⟨_,rfl,a,C,rfl,hcn,hF⟩
    | succ i =>
     simp only [List.getElem?_cons_succ,List.getElem?_replicate] at h
     split at h
     ·rename_i hlt
      cases h
      refine ⟨none,?_,trivial⟩
      unfold L2.start
      simp only [List.map_cons,List.map_nil,List.cons_append,List.nil_append,List.getElem?_cons_succ,List.getElem?_replicate,List.length_cons,List.length_nil]
      rw [if_pos (by simpa using hlt)]
     ·cases h }
  refine wpAny_mono ((hb cdv A outer s H (hr.deeper _)).h [] s1 (L2.start N [.ref a]) H { nx:=fun _ _=>False,rt:=Q } I ⟨F0,H,F0,_,_,_,env',S0,hg,fun F' H' σ' L' S' s' v r=>kk v F' H' S'.Zbj r⟩) (fun fl s' hs=>?_) fun e s' hs=>hs.elim
  cases fl with
  | ret u =>
   obtain ⟨v,σ',H',J,rv,q⟩:=hs
   exact ⟨v,H',J.os,J.bare,J.base,J.hok,rv,q⟩
  | next=>obtain ⟨_,_,_,q⟩:=hs;exact q.elim
  | brk=>obtain ⟨_,_,_,q⟩:=hs;exact q.elim
  | cont=>obtain ⟨_,_,_,q⟩:=hs;exact q.elim
 ·cases hφ
end PV
set_option linter.all false
set_option Elab.async false
set_option maxRecDepth 100000
set_option maxHeartbeats 4000000
namespace PV
open PySem PySem.Spec PyProof.Rows
open L2 (V Hp HO Vals SqL SqT Same upd Cx PE PT PW PA PS PSs TE TT TA TS Inv RelV Zb Yb Jb Un HOk frs)
section
variable {X:Cx} {pins:List (Addr × Obj)} {σ:L2.St} {H:Hp} {s:Shared} {a C:Addr} {B g:Heap}
theorem Zw (hs:X.stack=X.env::X.outer)(hf:X.env.frame=some X.env.locals)(I:Inv X pins σ H s)(x:XSt X pins H s a C B)(sg:B.StaysIn g)(up:s.heap.UpToSlots g):Inv X pins σ H { s with heap:=g }:=by
 have fc:=ZaE hs hf
 have inB:∀ b o,s.heap.get? b=some o→b ∉ frs X.stack→Ned X pins H b→g.get? b=some o:=fun b o q n t=>by
  obtain ⟨u,hu⟩:=x.cov b n t
  have:=x.st b u hu
  rw [q] at this;cases this
  exact sg b o hu
 have fru:∀ b o,b ∈ frs X.stack→s.heap.get? b=some o→∃ sl,g.get? b=some { o with slots:=sl }:=fun b o m q=>by
  obtain ⟨-,o',q',n⟩:=x.ff.mem m
  rw [q] at q';cases q'
  exact up b o q n
 have any:∀ b o,s.heap.get? b=some o→Ned X pins H b→∃ sl,g.get? b=some { o with slots:=sl }:=fun b o q t=>by
  by_cases m:b ∈ frs X.stack
  ·exact fru b o m q
  ·exact ⟨o.slots,inB b o q m t⟩
 have neL:∀ b o,X.s₀.heap.get? b=some o→b≠X.env.locals:=fun b o e=>Nat.ne_of_lt (Nat.lt_of_lt_of_le (Heap.lt_size e) I.ok.above)
 have nst:∀ b,b≠X.env.locals→b ∉ X.fs→b ∉ frs X.stack:=fun b n1 n2 m=>by
  rw [fc] at m
  rcases List.mem_cons.mp m with m | m
  ·exact n1 m
  ·exact n2 m
 have cellK:∀ y c v,X.env.cells.lookup y=some c→s.heap.IsCell c v→g.IsCell c v:=fun y c v e ⟨o,ho,hd⟩=>by
  obtain ⟨sl,q⟩:=any c o ho (.inr (.inr (.inr ⟨y,e⟩)))
  exact ⟨_,q,hd⟩
 refine ⟨I.ok,I.os,I.bare,⟨fun b o e n hb hx=>?_,fun b o e n hb hx=>?_,I.base.free,fun b o e hx=>?_,I.base.tups,I.base.frzs,I.base.tbls⟩,?_,fun y c e=>?_,I.free,I.freeC,fun p hp=>?_,Zek I (fun b n t=>x.cov b n (.inr (.inl t))) x.st sg,I.len⟩
 ·exact inB b o (I.base.keep b o e n hb hx) (nst b (neL b o e) hb) (.inl ⟨⟨o,e⟩,hx⟩)
 ·obtain ⟨sl,q⟩:=I.base.slot b o e n hb hx
  obtain ⟨sl',q'⟩:=any b _ q (.inl ⟨⟨o,e⟩,hx⟩)
  exact ⟨sl',q'⟩
 ·obtain ⟨o',q⟩:=I.base.there b o e hx
  obtain ⟨sl',q'⟩:=any b _ q (.inl ⟨⟨o,e⟩,hx⟩)
  exact ⟨_,q'⟩
 ·obtain ⟨mm,⟨oL,es,ep,ho,hd,r⟩,hl⟩:=I.loc
  obtain ⟨sl,q⟩:=fru X.env.locals oL (by rw [fc];exact List.mem_cons_self) ho
  refine ⟨mm,⟨_,es,ep,q,hd,r⟩,fun i y v e1 e2 e3=>?_⟩
  obtain ⟨u,ru,l⟩:=hl i y v e1 e2 e3
  refine ⟨u,ru,?_⟩
  rcases l with l | ⟨k,c,e,z⟩
  ·exact .inl l
  ·exact .inr ⟨k,c,e,cellK y c _ e z⟩
 ·obtain ⟨v,z⟩:=I.cell y c e
  exact ⟨v,cellK y c v e z⟩
 ·obtain ⟨e,n,ne,nf,d⟩:=I.pin p hp
  exact ⟨inB p.1 p.2 e (nst _ ne nf) (.inr (.inr (.inl ⟨p,hp,rfl⟩))),n,ne,nf,d⟩
theorem ZbN {fl:Value}{g:Heap}(x:XSt X pins H s a C B)(f:Fl (¬ CN X.K 6 C) B X.stack a C .none g):XSt X pins H { s with heap:=g } a C B:=⟨f.st,f.no,f.ff,x.cov,.inr ⟨_,f.tr⟩⟩
theorem Y7 {A:Around}{E:Value→Shared→Prop}{Q:Unit→Shared→Prop}(hs:X.stack=X.env::X.outer)(hf:X.env.frame=some X.env.locals)(fr:A.frames=some X.stack)(x:XSt X pins H s a C B)
  (k:∀ g,Fl (¬ CN X.K 6 C) B X.stack a C (rawInt X.env.locals) g→s.heap.UpToSlots g→Q () { s with heap:=g }):wpAny (model X.prog X.w) A (noteFrame (.ref a) X.env) Q E s:=by
 have ff:=x.ff
 rw [hs] at ff fr k
 rcases x.it with ⟨xo,ws,⟨q1,q2,q3,q4⟩,q5,q6⟩ | ⟨fl,tr⟩
 ·unfold noteFrame
  simp only [hf]
  refine wpAny_bind (wpAny_field q1 q4 q5 ?_)
  rw [if_neg (by decide)]
  exact Za8 fr ff hf x.st x.no q1 q2 q3 q4 (Array.getElem?_eq_some_iff.mp q5).1 q6 k
 ·cases hfl:(fl == rawInt X.env.locals) with
  | false=>exact Zex fr hf hfl ⟨x.st,x.no,ff,tr⟩ k
  | true =>
   rw [beq_iff_eq.mp hfl] at tr
   exact ZcX hf ⟨x.st,x.no,ff,tr⟩ (k s.heap ⟨x.st,x.no,ff,tr⟩ (fun b o q n=>⟨o.slots,q⟩))
theorem ZfB (hs:X.stack=X.env::X.outer)(hf:X.env.frame=some X.env.locals)(I:Inv X pins σ H s)(x:XSt X pins H s a C B)(hp:isX a C s.heap):H a=none∧Inv X pins σ (upd H a (.ext (isX a C))) s:=by
 obtain ⟨o,ws,h1,h2,h3,h4⟩:=id hp
 have nfr:a ∉ frs X.stack:=fun m=>by
  obtain ⟨-,o',q,n⟩:=x.ff.mem m
  rw [h1] at q;cases q;exact n ws h4
 have nn:∀ b,Ned X pins H b→b≠a:=fun b t e=>by
  subst e
  obtain ⟨u,hu⟩:=x.cov b nfr t
  rw [x.no] at hu;cases hu
 have ha:H a=none:=by
  cases q:H a with
  | none=>rfl
  | some u=>exact absurd rfl (nn a (.inr (.inl (by rw [q];simp))))
 have neL:X.env.locals≠a:=fun e=>nfr (by rw [ZaE hs hf,e];exact List.mem_cons_self)
 have keep:∀ b u,H b=some u→upd H a (.ext (isX a C)) b=some u:=fun b u q=>by rw [Yb (Jb q ha)];exact q
 refine ⟨ha,I.ok,I.os,I.bare,⟨I.base.keep,I.base.slot,fun b o e n hx=>?_,I.base.there,fun b xs q=>keep _ _ (I.base.tups b xs q),fun b o u q=>keep _ _ (I.base.frzs b o u q),fun b ps q=>?_⟩,I.loc,I.cell,?_,fun y c e=>?_,fun p hp'=>?_,fun b u q=>?_,I.len⟩
 ·rw [Yb (nn b (.inl ⟨⟨o,e⟩,hx⟩))];exact I.base.free b o e n hx
 ·obtain ⟨more,z⟩:=I.base.tbls b ps q
  exact ⟨more,keep _ _ z⟩
 ·rw [Yb neL];exact I.free
 ·rw [Yb (nn c (.inr (.inr (.inr ⟨y,e⟩))))];exact I.freeC y c e
 ·obtain ⟨e,n,ne,nf,d⟩:=I.pin p hp'
  refine ⟨e,?_,ne,nf,d⟩
  rw [Yb (nn _ (.inr (.inr (.inl ⟨p,hp',rfl⟩))))];exact n
 ·by_cases hb:b=a
  ·subst hb
   rw [Zb] at q
   cases q
   refine ⟨hp,⟨o,h1⟩,fun g1 g2 p k=>?_⟩
   obtain ⟨o',ws',z1,z2,z3,z4⟩:=p
   exact ⟨o',ws',k _ z1,z2,z3,z4⟩
  ·rw [Yb hb] at q
   exact (I.hok b u q).stay (fun _ _ _ z=>z) (fun c z=>keep _ _ z) fun c xs z=>keep _ _ z
end
theorem Zce {n2:Prop}{B h:Heap}{a C:Addr}{fl:Value}(t:Tr n2 B h a C fl):isX a C h:=by
 obtain ⟨xo,ws,T,to,tw,⟨q1,q2,q3,q4⟩,-⟩:=t
 exact ⟨xo,ws,q1,q2,q3,q4⟩
theorem ZhN {X:Cx}{pins:List (Addr × Obj)}{σ:L2.St}{H:Hp}{s:Shared}{h':Heap}{t:Nat}{mm:Str→Option Value}(I:Inv X pins σ H s)(hn:h'.Ns X.env.locals mm)(sb:Heap.SameBut X.env.locals s.heap h'):Inv X pins (σ.map fun _=>none) H { s with heap:=h',toks:=t }:=by
 have neL:∀ b o,X.s₀.heap.get? b=some o→b≠X.env.locals:=fun b o e=>Nat.ne_of_lt (Nat.lt_of_lt_of_le (Heap.lt_size e) I.ok.above)
 refine ⟨I.ok,I.os,I.bare,⟨fun b o e n hb hx=>(sb.2 b (neL b o e)).trans (I.base.keep b o e n hb hx),fun b o e n hb hx=>?_,I.base.free,fun b o e hx=>?_,I.base.tups,I.base.frzs,I.base.tbls⟩,⟨mm,hn,fun i y v e1 e2 e3=>?_⟩,fun y c e=>?_,I.free,I.freeC,fun p hp=>?_,fun b u e=>?_,by rw [List.length_map];exact I.len⟩
 ·obtain ⟨sl,q⟩:=I.base.slot b o e n hb hx
  exact ⟨sl,(sb.2 b (neL b o e)).trans q⟩
 ·obtain ⟨o',q⟩:=I.base.there b o e hx
  exact ⟨o',(sb.2 b (neL b o e)).trans q⟩
 ·rw [List.getElem?_map] at e2
  cases q:σ[i]? with
  | none=>rw [q] at e2;cases e2
  | some z=>rw [q] at e2;cases e2
 ·obtain ⟨v,o,ho,hd⟩:=I.cell y c e
  exact ⟨v,o,(sb.2 c (I.cne y c e)).trans ho,hd⟩
 ·obtain ⟨e,n,ne,nf,d⟩:=I.pin p hp
  exact ⟨(sb.2 p.1 ne).trans e,n,ne,nf,d⟩
 ·refine (I.hok b u e).stay (fun c v hc q=>(sb.2 c ?_).trans q) (fun _ q=>q) fun _ _ q=>q
  rintro rfl
  rcases hc with rfl | hc
  ·rw [I.free] at e;cases e
  ·rw [I.free] at hc;cases hc
noncomputable def mkH (X:Cx) (a:Addr):Cx:={ X with A:=X.A.mark (some (.ref a)),calm:=false,xe:=fun _ _=>False }
theorem Zb3 {X:Cx}{pins:List (Addr × Obj)}{σ:L2.St}{H:Hp}{s:Shared}(a:Addr)(I:Inv X pins σ H s):Inv (mkH X a) pins σ H s :=
 ⟨⟨I.ok.mod,I.ok.kind,I.ok.glob,I.ok.blt,I.ok.above,I.ok.inj,I.ok.has,I.ok.cab,fun h=>(nomatch (show false=true from h)),I.ok.frames,I.ok.stk,I.ok.exf,I.ok.bs,I.ok.bsz,I.ok.noex,I.ok.exfs,I.ok.funs,I.ok.frf⟩,I.os,I.bare,I.base,I.loc,I.cell,I.free,I.freeC,I.pin,I.hok,I.len⟩
theorem ZdM {X:Cx}{pins:List (Addr × Obj)}{σ:L2.St}{H:Hp}{s:Shared}{a:Addr}(hd:X.calm=true→X.A.handled=none)(I:Inv (mkH X a) pins σ H s):Inv X pins σ H s :=
 ⟨⟨I.ok.mod,I.ok.kind,I.ok.glob,I.ok.blt,I.ok.above,I.ok.inj,I.ok.has,I.ok.cab,hd,I.ok.frames,I.ok.stk,I.ok.exf,I.ok.bs,I.ok.bsz,I.ok.noex,I.ok.exfs,I.ok.funs,I.ok.frf⟩,I.os,I.bare,I.base,I.loc,I.cell,I.free,I.freeC,I.pin,I.hok,I.len⟩
structure CalW (P:Program)(w:World)(K:PySem.W.Frag)(mg:Str→Option Value)(base:Heap)(k:Nat)(x:Str)(φ:Nat→Option D):Prop where
 ex:∃ (fa:Addr) (fd:FuncData) (y:Str),mg x=some (.ref fa)∧PySem.W.keepIn K (.ref fa)=true∧FnW P w K mg base k fa fd y φ∧L2.Binds K fd [y] []
theorem CalW.mono {P:Program}{w:World}{K:PySem.W.Frag}{mg:Str→Option Value}{base:Heap}{j k:Nat}{x:Str}{φ:Nat→Option D}(h:CalW P w K mg base j x φ)(hk:j≤k):CalW P w K mg base k x φ:=by
 obtain ⟨fa,fd,y,h1,h2,h3,h4⟩:=h.ex
 exact ⟨⟨fa,fd,y,h1,h2,⟨fun A outer s H F args a C c d Q hr=>h3.run A outer s H F args a C c d Q (hr.mono hk)⟩,h4⟩⟩
section
variable {X:Cx} {m:RetP} {pos hpos tp p1 p2 p3 p4:Pos} {body:List Stmt} {g:Sx} {φ:Nat→Option D} {cs:List Nat} {k:Nat} {n wn:Str}
theorem ZiQ (i:Nat)(hs:X.stack=X.env::X.outer)(hf:X.env.frame=some X.env.locals)(nd:X.N.Nodup)(XF:Zaa X.K cs)(hcs:∀ c d,φ c=some d→c ∈ cs)(hm:∀ BH F' H' w v,Rep X.K F' (.str w) v→m BH F' H' (.str w) v)
  (G:CalW X.prog X.w X.K X.mg X.base k wn φ) (hr:L2.Room k X.A) (hb:∀ E,PX (X.wish E) m body g)
  (hN:X.N[i]?=some n:=by kernel_rfl) (hl:locB X.env.scope n=true:=by kernel_rfl) (hk:X.env.kindOf n=some .local:=by kernel_rfl) (hfn:fnB X n=true:=by kernel_rfl) (hv:visB X.env.scope n=true:=by kernel_rfl) (hd:(n == ("__debug__":Str))=false:=by kernel_rfl) (hcd:(n == ("__classdict__":Str))=false:=by kernel_rfl)
  (hg1:X.env.kindOf "FolkError"=some .globalImplicit:=by kernel_rfl) (hg2:X.env.kindOf wn=some .globalImplicit:=by kernel_rfl) (hdw:(wn == ("__debug__":Str))=false:=by kernel_rfl) :
  PS1 X m (.Try body [.ExceptHandler (some (.Name "FolkError" tp)) (some n) [.Return (some (.Call (.Name wn p1) [.Name n p2] [] p3)) p4] hpos] [] [] pos) (sTry g φ):=PS1.mk fun pins s σ H D0 I hh_=>el10 hh_ fun BF BH F env L o env' S e kk=>by
 obtain ⟨CF,hCF,hexm⟩:=XF.folk
 obtain ⟨fa,fd,y,hmw,hkw,FW,hbw⟩:=G.ex
 have kfin:∀ {s1:Shared} {f:Flow},L2.SP X pins D0 f s1→(match f with | .next=>wpAny (model X.prog X.w) X.A (execs [] X.env) (L2.SP X pins D0) X.xe s1 | f=>L2.SP X pins D0 f s1):=fun {s1 f} q=>by
  cases f with
  | next=>exact wpAny_execs_nil q
  | ret v=>exact q
  | brk=>exact q
  | cont=>exact q
 refine wpAny_Try_except (wpAny_mono ((hb fun e s1=>wpAny (model X.prog X.w) X.A (noteFrame e X.env) (fun _ s2=>wpAny (model X.prog X.w) X.A (setFlight e none) (fun _ s3=>wpAny (model X.prog X.w) X.A (handleBy e X.env [.ExceptHandler (some (.Name "FolkError" tp)) (some n) [.Return (some (.Call (.Name wn p1) [.Name n p2] [] p3)) p4] hpos]) (L2.SP X pins D0) X.xe s3) X.xe s2) X.xe s1).h pins s σ H D0 (I.wish _) ?_) (fun f s1 q=>kfin q.Zh) fun e s1 q=>q)
 unfold sTry at e
 split at e
 ·rename_i o1 e1 hg
  cases e
  exact ⟨BF,BH,F,env,L,.ok o,env',S,hg,kk⟩
 ·rename_i c e1 hg
  split at e
  ·rename_i w hφ
   cases e
   refine ⟨BF,BH,F,env,L,.ex c,e1,S,hg,fun F1 H1 σ1 L1 s1 a C B S1 z1 I1 x1 hcn=>?_⟩
   have hmem:=hcs c _ hφ
   have I1:Inv X pins σ1 H1 s1:=I1.Zh
   have x1:XSt X pins H1 s1 a C B:=⟨x1.st,x1.no,x1.ff,x1.cov,x1.it⟩
   have hhd:=I1.ok.hd
   show wpAny _ _ (noteFrame (.ref a) X.env) _ _ s1
   refine Y7 hs hf I1.ok.frames x1 fun g2 f2 u2=>?_
   refine land (s:={ s1 with heap:=g2 }) f2 fun g3 f3 u3=>?_
   have u13:=u2.trans u3
   have I3:Inv X pins σ1 H1 { s1 with heap:=g3 }:=Zw hs hf I1 x1 f3.st u13
   have x3:XSt X pins H1 { s1 with heap:=g3 } a C B:=ZbN (fl:=.none) x1 f3
   have J3:=Zb3 a I3
   refine wpAny_handleBy_cons (codeAny_handlers_test ?_) (by intro q;cases q)
   refine L2.JD (X:=mkH X a) J3 hg1 (PySem.W.mg_of I3.mod.kin I3.mod.glob hCF) ?_ (by decide)
   have LT:=(Zfw (XF.inst c hmem C hcn)).ty (model X.prog X.w) g3 I3.kIn (Zce f3.tr)
   refine PySem.W.exm_one I3.kIn LT (hexm c hmem C hcn) _ _ _ _ (fun _ _ q=>q) ?_
   refine codeAny_handlers_suite_as ?_
   refine land (s:={ s1 with heap:=g3 }) f3 fun g4 f4 u4=>?_
   have I4:Inv X pins σ1 H1 { s1 with heap:=g4 }:=Zw (s:={ s1 with heap:=g3 }) hs hf I3 x3 f4.st u4
   have x4:XSt X pins H1 { s1 with heap:=g4 } a C B:=ZbN (s:={ s1 with heap:=g3 }) (fl:=.none) x3 f4
   obtain ⟨ha,I4'⟩:=ZfB hs hf I4 x4 (Zce f4.tr)
   have J4:=Zb3 a I4'
   refine L2.Y6 (X:=mkH X a) (v:=.ref a) J4 nd hN (Z5 hl) rfl (fun s5 J5=>?_) (Zay hfn)
   have hi:i < σ1.length:=by rw [I1.len];exact (List.getElem?_eq_some_iff.mp hN).1
   refine wpAny_execs_cons (wpAny_Return_some ?_)
   refine wpAny_Call_Name_kw (L2.JD (X:=mkH X a) J5 hg2 hmw ?_ hdw)
   have pa:PA (mkH X a) [.Name n p2] _:=L2.Zj (L2.Zav hN (Z4 hv) hd hcd) L2.Jp rfl
   refine PySem.W.callWith_K (h₀:=X.base) J5.ok.mod.kin hkw (wpAny_mono (pa p3 pins s5 _ _ (fun vs H6=>vs=[.ref a]∧H6=upd H1 a (.ext (isX a C))) J5 ⟨.ref a,List.getElem?_set_self hi,rfl,rfl⟩) (fun us s6 q=>?_) fun _ _ q=>q.elim) rfl rfl
   obtain ⟨vs,H6,J6,rv,rfl,rfl⟩:=q
   refine ⟨J6.kIn,?_⟩
   obtain ⟨u,us',rfl⟩:∃ u us',us=u::us':=by
    cases us with
    | nil=>cases rv
    | cons u us'=>exact ⟨u,us',rfl⟩
   cases rv with
   | cons r1 r2 =>
    cases r2
    obtain rfl:u=Value.ref a:=r1
    have z0:Ext F1 H1 (upd F1 a (.ext (isX a C))) (upd H1 a (.ext (isX a C))):=Ext.laid S1.fh ha
    have room:L2.Room k (clr (mkH X a).A):=⟨rfl,hr.dp,hr.un⟩
    have key:=FW.run (mkH X a).A (mkH X a).stack s6 _ (upd F1 a (.ext (isX a C))) ⟨[.ref a],[]⟩ a C c (.str w) (fun v H7=>∃ F7,Ext F1 H1 F7 H7∧Rep X.K F7 (.str w) v) room J6.env0 (hbw s6 [.ref a] J6.kIn rfl) z0.fh Zb hcn hφ fun v F' H' z r=>⟨F',z0.trans z,r⟩
    refine wpAny_call (codeAny_mono key fun rr s7 hq=>?_)
    cases rr with
    | error v=>exact (show False from hq).elim
    | ok fl =>
     cases fl with
     | next=>exact False.elim hq
     | brk=>exact False.elim hq
     | cont=>exact False.elim hq
     | ret u =>
      obtain ⟨v,H7,J7,r7,F7,z7,rep⟩:=J6.after hq
      obtain ⟨mm,hns,-⟩:=J7.loc
      have hcl:(X.env.scope.kind == .class || (X.env.scope.kind == .module && X.env.locals != X.env.globals))=false:=by rw [I.ok.kind];rfl
      refine wpAny_nameGoes hk hns hcl fun h8 m8 n8 sb=>?_
      have I8:Inv X pins _ H7 _:=ZhN (t:=s7.toks + 1) (ZdM hhd J7) n8 sb
      have S7:=S1.ext z7
      refine ⟨v,_,H7,I8,r7,kk F7 H7 ((σ1.set i (some (.ref a))).map fun _=>none) L1 ⟨S7.s0,S7.f0,S7.fh,S7.fd,S7.ow,S7.dj,?_,fun j sl hj=>?_⟩ (z1.trans z7.ff) v (hm _ _ _ _ _ rep)⟩
      ·rw [List.length_map,List.length_map,List.length_set];exact S1.len
      ·rw [List.getElem?_map] at hj
       cases q:e1[j]? with
       | none=>rw [q] at hj;cases hj
       | some z =>
        rw [q] at hj
        cases hj
        have hlt:j < σ1.length:=by rw [S1.len];exact (List.getElem?_eq_some_iff.mp q).1
        refine ⟨none,?_,trivial⟩
        rw [List.getElem?_map,List.getElem?_eq_getElem (by rw [List.length_set];exact hlt)];rfl
  ·cases e
 ·cases e
end
end PV
set_option linter.all false
set_option Elab.async false
set_option maxRecDepth 100000
set_option maxHeartbeats 4000000
namespace PV
open PySem PySem.Spec PyProof.Rows
open L2 (V Hp HO Vals SqL SqT Same upd Cx PE PT PW PA PS PSs TE TT TA TS Inv RelV Zb Yb Jb Un HOk frs)
section
variable {X:Cx} {m m1 m2:Md} {a b:Expr} {f g:Ex} {p2 p3:Pos}
theorem ZfO {s:Shared}{dx:D}:∀ {ys:List D} {its:List Value},Hrs s ys its→its.countP (eqH s dx)=ys.countP fun y=>eqD y dx
 | [],its,h=>by simp only [Hrs] at h;subst h;rfl
 | y::ys,its,h=>by
  simp only [Hrs] at h
  obtain ⟨u,r,rfl,h1,h2⟩:=h
  rw [List.countP_cons,List.countP_cons,ZfO h2,Za6 h1]
theorem Zf5 (hu:X.A.units + 64 < cLine):L2.MtR X "list.count" (fun x xs H Q=>∃ (dx:D) (y:V) (ys:List D),xs=[y]∧Rep X.K H (.lst ys) x∧Rep X.K H dx y∧(D.deps ys≤8∧dx.dep≤8)∧Q (.int ((ys.countP fun y=>eqD y dx:Nat))) H):=by
 intro pins s σ H x xs v us Q I rx rv h
 obtain ⟨dx,y,ys,rfl,h1,h2,hd,q⟩:=h
 obtain ⟨u,rfl,ru⟩:=rv.one
 have hx:=Zy I _ _ _ (by omega) h2 ru
 have hy:=Zy I _ _ _ (by simp only [D.dep];omega) h1 rx
 simp only [Hr] at hy
 obtain ⟨p,its,rfl,hl,hr⟩:=hy
 have hin:X.A.in1.units + D.deps ys < cLine:=by show X.A.units + 1 + _ < _;omega
 obtain ⟨⟨cls,dd,data,sl⟩,ho,hc,n,hdt⟩:=id hl
 simp only at hc hdt
 subst hc hdt
 refine call_meets PySem.F.slot_list_count ⟨_,ho,rfl⟩ PySem.F.entry_list_count (PySem.F.args_list_count_2 _ _)
  (SeqAt.list_countAt p its.toArray n dd sl u (eqH s dx)) ⟨ho,fun y hy=>Zal hx hin hr y (by simpa using hy),?_⟩
 refine ⟨.int ((ys.countP fun y=>eqD y dx:Nat)),H,I.tok _,⟨s.toks,?_⟩,q⟩
 rw [show (its.toArray.toList)=its from rfl,ZfO hr]
theorem Zgc (hu:X.A.units + 64 < cLine)(ha:PD X m1 a f)(hb:PD X m2 b g)(hst:nst b=true:=by rfl)
  (hbase:attributeBase a "count" X.env (eval a X.env)=eval a X.env:=by rfl) (hline:(p2.endLine == p3.line)=true:=by rfl) :
  PD X m (.Call (.Attribute a "count" p2) [b] [] p3) (eF2 ZdW f g) :=
 PD.mk <| PE.of (L2.Zbi PySem.F.plainAttrs_list PySem.F.slot_list_count PySem.F.type_list_count (Zf5 hu) ha.r.h (L2.Zj hb.r.h L2.Jp (Yl hst)) hbase (by rw [ZK (ZS hst)];rfl) hline (Yd hst) rfl) fun σ H Q hh_=>el9 hh_ fun BF BH F env L d S e q=>by
  unfold eF2 at e
  split at e
  ·rename_i x y h1 h2
   unfold ZdW at e
   split at e
   ·rename_i ys
    split at e
    ·rename_i hd
     cases e
     refine ⟨BF,BH,F,env,L,_,S,h1,fun v F1 H1 z1 r1=>⟨?_,BF,BH,F1,env,L,y,S.ext z1,h2,fun w F2 H2 z2 r2=>⟨y,w,ys,rfl,Rep.mono z2.hh _ _ r1,r2,hd,q _ F2 H2 (z1.trans z2) (by simp [Rep])⟩⟩⟩
     have r1':=r1
     simp only [Rep,hpM] at r1'
     obtain ⟨p,vs,rfl,hs,_⟩:=r1'
     exact .inl ⟨rfl,vs,hs⟩
    ·cases e
   ·cases e
  ·cases e
end
theorem Zbw {K:PySem.W.Frag}{c:Nat}{C C':Addr}(h:CN K c C)(h':CN K c C'):C=C':=by
 unfold CN at h h'
 rw [h] at h'
 cases h'
 rfl
theorem Zi6 {K:PySem.W.Frag} {Cs:Nat→Addr} {CF:Addr} {cs:List Nat} (n:∀ c,c < 7→CN K c (Cs c)) (nF:PySem.W.nsIn K mainGlobals "FolkError"=some (some (.ref CF))) (hlt:∀ c ∈ cs,c < 7) (inst:∀ c ∈ cs,Zdh K (Cs c))
  (one:∀ c ∈ cs,∀ c',c' < 7→PySem.W.kitOne K (.ref (Cs c)) (.ref (Cs c'))=some (decide (c=c'))) (val:∀ c ∈ cs,PySem.W.kitOne K (.ref (Cs c)) (.type "ValueError")=some true) (folk:∀ c ∈ cs,PySem.W.exmOne K (.ref (Cs c)) (.ref CF)=some true):Zaa K cs where
 cls:=fun c h=>⟨_,n c h⟩
 inst:=fun c h C hC=>Zbw (n c (hlt c h)) hC ▸ inst c h
 one:=fun c h C hC c' h' C' hC'=>Zbw (n c (hlt c h)) hC ▸ Zbw (n c' h') hC' ▸ one c h c' h'
 val:=fun c h C hC=>Zbw (n c (hlt c h)) hC ▸ val c h
 folk:=⟨CF,nF,fun c h C hC=>Zbw (n c (hlt c h)) hC ▸ folk c h⟩
theorem Zim {K:PySem.W.Frag}:∀ BH F' H' (w:Str) v,Rep K F' (.str w) v→rk K .k BH F' H' (.str w) v:=fun _ _ _ _ _ h=>h
end PV
set_option linter.all false
set_option Elab.async false
set_option maxRecDepth 100000
set_option maxHeartbeats 4000000
namespace PV
open PySem PySem.Spec PyProof.Rows
open L2 (V Hp HO Vals SqL SqT Same upd Cx PE PT PW PA PS PSs TE TT TA TS Inv RelV Zb Yb Jb Un HOk frs)
noncomputable def XE (X:Cx) (pins:List (Addr × Obj)) (G:L2.St→Hp→Addr→Prop) (e:Value) (s:Shared):Prop:=∃ a C B σ H,e=.ref a∧Inv X pins σ H s∧XSt X pins H s a C B∧G σ H C
section
variable {X:Cx} {pins:List (Addr × Obj)}
theorem passes {G:L2.St→Hp→Addr→Prop}(hs:X.stack=X.env::X.outer)(hf:X.env.frame=some X.env.locals):PassesOwn (model X.prog X.w) X.A X.env (XE X pins G):=by
 rintro e s ⟨a,C,B,σ,H,rfl,I,x,q⟩
 unfold notedBy
 refine Y7 hs hf I.ok.frames x fun g f u=>?_
 have I1:Inv X pins σ H { s with heap:=g }:=Zw hs hf I x f.st u
 have x1:XSt X pins H { s with heap:=g } a C B:=⟨f.st,f.no,f.ff,x.cov,.inr ⟨_,f.tr⟩⟩
 obtain ⟨xo,ws,T,to,tw,⟨y1,y2,y3,y4⟩,⟨w1,_⟩,rest⟩:=id f.tr
 unfold cameBackBy
 refine wpAny_bind (wpAny_field (s:={ s with heap:=g }) y1 y4 w1 ?_)
 rw [if_neg (by simp),hf]
 refine Zds (o:=some X.env.locals) (s:={ s with heap:=g }) f fun g2 f2 u2=>?_
 exact ⟨a,C,B,σ,H,rfl,Zw (s:={ s with heap:=g }) hs hf I1 x1 f2.st u2,⟨f2.st,f2.no,f2.ff,x.cov,.inr ⟨_,f2.tr⟩⟩,q⟩
theorem XSt.fewer {H:Hp}{s:Shared}{a C:Addr}{B:Heap}{more:List (Addr × Obj)}(x:XSt X (pins++more) H s a C B):XSt X pins H s a C B :=
 ⟨x.st,x.no,x.ff,fun b n t=>x.cov b n (by
  rcases t with t | t | ⟨p,hp,e⟩ | t
  ·exact .inl t
  ·exact .inr (.inl t)
  ·refine .inr (.inr (.inl ⟨p,?_,e⟩))
   rw [← List.append_assoc];exact List.mem_append_left _ hp
  ·exact .inr (.inr (.inr t))),x.it⟩
variable {m:RetP} {tg iter:Expr} {lx:Lx} {g:Tg} {body:List Stmt} {b:Sx} {pos:Pos}
theorem Zhw (hs : X.stack = X.env :: X.outer)(hf : X.env.frame = some X.env.locals)(hi : PId X.nox tg iter lx)(hg : PGd X.nox tg g)(hb : ∀ E, PX (X.wish E) m body b)(hc : X.calm = true := by rfl)
    (hfo : ∀ x, foldedSetIterable iter X.env x = pure x := by intro _; rfl) : PX1 X m (.For tg iter body [] pos) (xFor g lx b) := ⟨fun pins s σ H D0 I hh_ => el10 hh_ fun BF BH F env L o env' S e k => by
  unfold xFor at e
  split at e
  · rename_i ds h1
    let G : L2.St → Hp → Addr → Prop := fun σ' H' C => ∃ c F' L', o = .ex c ∧ SOk X.K BF BH F' H' σ' env' L' ∧ Same F F' ∧ CN X.K c C
    have hp : PassesOwn (model X.prog X.w) X.A X.env (XE X pins G) := passes hs hf
    have fin : ∀ e' s', XE X pins G e' s' → X.xe e' s' := fun e' s' ⟨a, C, B, σ', H', q0, I', x', c, F', L', q1, S', z, hcn⟩ => by
      subst q0 q1
      exact k F' H' σ' L' s' a C B S' z I' x' hcn
    refine wpAny_mono (Q := L2.SP X pins D0) (E := XE X pins G) ?_ (fun _ _ q => q) fin
    have lift : ∀ {α : Type} {t : Sem α} {Q : α → Shared → Prop} {s1 : Shared}, wpAny (model X.prog X.w) X.A t Q (fun _ _ => False) s1 → wpAny (model X.prog X.w) X.A t Q (XE X pins G) s1 := fun h => wpAny_mono h (fun _ _ q => q) fun _ _ z => z.elim
    refine wpAny_For (L2.thn (lift (hi pins s σ H (fun J H1 => ∃ F1, Ext F H F1 H1 ∧ ItOk X.K J F1 ds) (I.wish _) ⟨BF, BH, F, env, L, ds, S, h1, fun J F1 H1 z J1 => ⟨F1, z, J1⟩⟩)) fun v s1 q1 => L2.thn (lift q1) fun itv s2 q2 => ?_) hfo
    obtain ⟨it, fp, tn, J, H2, ee, I2, T, st2, f2, F1, z1, J1⟩ := q2
    subst ee
    have I2 : Inv X pins σ H2 s2 := I2.Zh
    have stat : ∀ {H' : Hp}, (∀ b ∈ fp, H' b = none) → ∀ b ∈ fp, L2.FpOk X pins H' b := fun hn b hb => ⟨hn b hb, (f2 b hb).2⟩
    refine codeAny_forLoop_any (fun n s' => ∃ i σ' H', Inv X pins σ' H' s' ∧ tn i s'.heap ∧ (∀ b ∈ fp, H' b = none) ∧ n = ds.length - i ∧ i ≤ ds.length ∧ ∃ F env L, SOk X.K BF BH F H' σ' env L ∧ Same F1 F ∧ YQ g b (ds.drop i) env = some (o, env')) ?_ ds.length
      ⟨0, σ, H2, I2, st2, fun b hb => (f2 b hb).1, by simp, Nat.zero_le _, F1, env, L, S.ext z1, .refl _, e⟩
    rintro n s3 ⟨i, σ3, H3, I3, st3, fr3, rfl, hi3, F3, env3, L3, S3, s13, e3⟩
    by_cases hlt : i < ds.length
    · refine wpAny_passesOwn hp (L2.thn (T.item X rfl rfl rfl hc i pins s3 σ3 H3 (XE X pins G) I3 (stat fr3) st3 (J1.go i H3 (s13.trans S3.fh) hlt)) fun r s4 ⟨u, hr, h4⟩ => ?_)
      subst hr
      refine wpAny_passesOwn hp (L2.thn h4 fun _ s5 ⟨x, H5, I5, r5, y5, st5, fr5⟩ => ?_)
      have I5' := I5.pinned (stat fr5) (T.obj _ _ st5)
      obtain ⟨d, F5, hd, z5, rd⟩ := J1.yld i H3 x H5 F3 s13 S3.fh hlt y5
      rw [List.drop_eq_getElem_cons hlt] at e3
      have hd' : ds[i] = d := by rw [List.getElem?_eq_getElem hlt] at hd; exact Option.some.inj hd
      rw [hd'] at e3
      simp only [YQ] at e3
      split at e3
      · rename_i env0 hg0
        refine wpAny_passesOwn hp (L2.thn (lift (hg _ s5 σ3 H5 x u (fun σ6 H6 => ∃ F6 L6, SOk X.K BF BH F6 H6 σ6 env0 L6 ∧ Same F1 F6) (I5'.wish _) r5 ⟨BF, BH, F5, env3, L3, d, env0, S3.ext z5, rd, hg0, fun F6 H6 σ6 L6 S6 s6 => ⟨F6, L6, S6, (s13.trans z5.ff).trans s6⟩⟩)) fun _ s6 ⟨σ6, H6, I6, F6, L6, S6, s16⟩ => ?_)
        have I6 : Inv X (pins ++ L2.JC fp s5.heap) σ6 H6 s6 := I6.Zh
        have run : ∀ (D1 : L2.Ends) (o1 : XO) (e1 : Env), b env0 = some (o1, e1) → (match o1 with
            | .ok o2 => ∀ F' H' σ' L', SOk X.K BF BH F' H' σ' e1 L' → Same F6 F' → After D1 m BH F' H' σ' o2
            | .ex c => o = .ex c ∧ env' = e1) →
            wpAny (model X.prog X.w) X.A (execs body X.env) (L2.SP X (pins ++ L2.JC fp s5.heap) D1) (XE X pins G) s6 := fun D1 o1 e1 hb1 hk => by
          refine wpAny_mono ((hb (XE X pins G)).h _ s6 σ6 H6 D1 (I6.wish _) ⟨BF, BH, F6, env0, L6, o1, e1, S6, hb1, ?_⟩) (fun _ _ q => q.Zh) fun _ _ q => q
          cases o1 with
          | ok o2 => exact hk
          | ex c =>
            obtain ⟨rfl, rfl⟩ := hk
            intro F' H' σ' L' s' a C B S' z I' x' hcn
            have I' : Inv X (pins ++ L2.JC fp s5.heap) σ' H' s' := I'.Zh
            have x' : XSt X (pins ++ L2.JC fp s5.heap) H' s' a C B := ⟨x'.st, x'.no, x'.ff, x'.cov, x'.it⟩
            exact ⟨a, C, B, σ', H', rfl, I'.Zn, x'.fewer, c, F', L', rfl, S', (z1.ff.trans s16).trans z, hcn⟩
        have again : ∀ {σ7 : L2.St} {H7 : Hp} {s7 : Shared} {F7 : Hp} {env7 : Env} {L7 : Nat → List Addr}, Inv X (pins ++ L2.JC fp s5.heap) σ7 H7 s7 → SOk X.K BF BH F7 H7 σ7 env7 L7 → Same F1 F7 → YQ g b (ds.drop (i + 1)) env7 = some (o, env') →
            ∃ mm, mm < ds.length - i ∧ ∃ i σ' H', Inv X pins σ' H' s7 ∧ tn i s7.heap ∧ (∀ b ∈ fp, H' b = none) ∧ mm = ds.length - i ∧ i ≤ ds.length ∧ ∃ F env L, SOk X.K BF BH F H' σ' env L ∧ Same F1 F ∧ YQ g b (ds.drop i) env = some (o, env') := fun {σ7 H7 s7 F7 env7 L7} I7 S7 s7' e7 => by
          refine ⟨ds.length - (i + 1), by omega, i + 1, σ7, H7, I7.Zn, T.keep _ _ _ st5 fun b hb o e => (I7.pin (b, o) (List.mem_append_right _ (List.mem_append_right _ (L2.Ys hb e)))).1, fun b hb => ?_, rfl, by omega, F7, env7, L7, S7, s7', e7⟩
          obtain ⟨o, e, d⟩ := T.obj _ _ st5 b hb
          exact (I7.pin (b, o) (List.mem_append_right _ (List.mem_append_right _ (L2.Ys hb e)))).2.1
        split at e3
        · rename_i e1 hb1
          refine wpAny_passesOwn hp (L2.thn (run { nx := fun σ' H' => ∃ F' L', SOk X.K BF BH F' H' σ' e1 L' ∧ Same F6 F', ct := fun _ _ => False, bk := fun _ _ => False, rt := fun _ _ => False } _ _ hb1 fun F' H' σ' L' S' z => ⟨F', L', S', z⟩) fun f s7 q7 => ?_)
          cases f with
          | next => obtain ⟨σ7, H7, I7, F', L', S', z⟩ := q7; exact again I7 S' (s16.trans z) e3
          | cont => obtain ⟨_, _, _, q⟩ := q7; exact q.elim
          | brk => obtain ⟨_, _, _, q⟩ := q7; exact q.elim
          | ret v => obtain ⟨_, _, _, _, _, q⟩ := q7; exact q.elim
        · rename_i e1 hb1
          refine wpAny_passesOwn hp (L2.thn (run { nx := fun _ _ => False, ct := fun σ' H' => ∃ F' L', SOk X.K BF BH F' H' σ' e1 L' ∧ Same F6 F', bk := fun _ _ => False, rt := fun _ _ => False } _ _ hb1 fun F' H' σ' L' S' z => ⟨F', L', S', z⟩) fun f s7 q7 => ?_)
          cases f with
          | cont => obtain ⟨σ7, H7, I7, F', L', S', z⟩ := q7; exact again I7 S' (s16.trans z) e3
          | next => obtain ⟨_, _, _, q⟩ := q7; exact q.elim
          | brk => obtain ⟨_, _, _, q⟩ := q7; exact q.elim
          | ret v => obtain ⟨_, _, _, _, _, q⟩ := q7; exact q.elim
        · rename_i e1 hb1
          cases e3
          refine wpAny_passesOwn hp (L2.thn (run { nx := fun _ _ => False, ct := fun _ _ => False, bk := fun σ' H' => ∃ F' L', SOk X.K BF BH F' H' σ' env' L' ∧ Same F6 F', rt := fun _ _ => False } _ _ hb1 fun F' H' σ' L' S' z => ⟨F', L', S', z⟩) fun f s7 q7 => ?_)
          cases f with
          | brk => obtain ⟨σ7, H7, I7, F', L', S', z⟩ := q7; exact ⟨σ7, H7, I7.Zn, k F' H7 σ7 L' S' ((z1.ff.trans s16).trans z)⟩
          | next => obtain ⟨_, _, _, q⟩ := q7; exact q.elim
          | cont => obtain ⟨_, _, _, q⟩ := q7; exact q.elim
          | ret v => obtain ⟨_, _, _, _, _, q⟩ := q7; exact q.elim
        · rename_i r e1 hb1
          cases e3
          refine wpAny_passesOwn hp (L2.thn (run { nx := fun _ _ => False, ct := fun _ _ => False, bk := fun _ _ => False, rt := D0.rt } _ _ hb1 fun F' H' σ' L' S' z v q => k F' H' σ' L' S' ((z1.ff.trans s16).trans z) v q) fun f s7 q7 => ?_)
          cases f with
          | ret v => obtain ⟨x7, σ7, H7, I7, r7, q7⟩ := q7; exact ⟨x7, σ7, H7, I7.Zn, r7, q7⟩
          | next => obtain ⟨_, _, _, q⟩ := q7; exact q.elim
          | cont => obtain ⟨_, _, _, q⟩ := q7; exact q.elim
          | brk => obtain ⟨_, _, _, q⟩ := q7; exact q.elim
        · rename_i c e1 hb1
          cases e3
          refine wpAny_passesOwn hp (L2.thn (run { nx := fun _ _ => False, ct := fun _ _ => False, bk := fun _ _ => False, rt := fun _ _ => False } _ _ hb1 ⟨rfl, rfl⟩) fun f s7 q7 => ?_)
          cases f with
          | ret v => obtain ⟨_, _, _, _, _, q⟩ := q7; exact q.elim
          | next => obtain ⟨_, _, _, q⟩ := q7; exact q.elim
          | cont => obtain ⟨_, _, _, q⟩ := q7; exact q.elim
          | brk => obtain ⟨_, _, _, q⟩ := q7; exact q.elim
        · cases e3
      · cases e3
    · have ei : i = ds.length := by omega
      subst ei
      rw [List.drop_length] at e3
      cases e3
      refine wpAny_passesOwn hp (L2.thn (T.done X rfl rfl rfl hc ds.length pins s3 σ3 H3 (XE X pins G) I3 (stat fr3) st3 (J1.stop H3 (s13.trans S3.fh))) fun r s4 ⟨hr, I4⟩ => ?_)
      subst hr
      exact wpAny_execs_nil ⟨σ3, H3, I4, k F3 H3 σ3 L3 S3 (z1.ff.trans s13)⟩
  · cases e⟩
end
end PV
set_option linter.all false
set_option Elab.async false
set_option maxRecDepth 100000
set_option maxHeartbeats 4000000
namespace PV
open PySem PySem.Spec PyProof.Rows
open L2 (V Hp HO Vals SqL SqT Same upd Cx PE PT PW PA PS PSs TE TT TA TS Inv RelV Zb Yb Jb Un HOk frs)
section
variable {prog:Program} {w:World} {A:Around} {R:Result→Shared→Prop} {s:Shared}
theorem Zdb {elt target iter : Expr}{ifs : List Expr}{scope : Scope}{pos : Pos}{it acc : Value}{env : PySem.Env}{EE : Value → Shared → Prop}(hEE : ∀ e s, EE e s → notedBy (model prog w) A env (fun x s' => R (.error x) s') e s)(I : Nat → Shared → Prop)
    (turn : ∀ n s, I n s → wpAny (model prog w) A (pyNext it) (fun r s₁ => match r with
      | none => R (.ok .next) s₁
      | some v => wpAny (model prog w) A (letOwnedTupleGo target it v) (fun _ s₁' => wpAny (model prog w) A (assign target env v) (fun _ s₂ =>
          wpAny (model prog w) A (forIn ifs true fun c r => if r = true then do let ok ← isTrue c env (eval c env); pure (ForInStep.yield ok) else pure (ForInStep.yield r)) (fun ok s₃ =>
            if ok = true then wpAny (model prog w) A (eval elt env) (fun x s₄ =>
              wpAny (model prog w) A (call (.builtin "list.append") [acc, x]) (fun _ s₅ => ∃ m, m < n ∧ I m s₅) EE s₄) EE s₃
            else ∃ m, m < n ∧ I m s₃) EE s₂) EE s₁') EE s₁) EE s)
    (n : Nat) (h : I n s) :
    codeAny (model prog w) A (.compLoop (.ListComp elt [⟨target, iter, ifs, 0⟩] scope pos) 0 it acc env) R s := by
  refine codeAny_loop rfl I (fun n s hI => ?_) n h
  show wpAny _ A ((compTurn (.ListComp elt [⟨target, iter, ifs, 0⟩] scope pos) 0 it acc env).onRaise (fun x => do noteFrame x env; theTreesLotGoes x)) _ _ s
  refine wpAny_noted ?_
  rw [compTurn_list]
  refine wpAny_bind (wpAny_standAt (wpAny_bind (wpAny_mono (turn n s hI) (fun r s₁ h₁ => ?_) fun _ _ h' => hEE _ _ h')))
  cases r with
  | none => exact wpAny_pure h₁
  | some v =>
    refine wpAny_bind (wpAny_mono h₁ (fun _ s₁' h₁' => ?_) fun _ _ h' => hEE _ _ h')
    refine wpAny_bind (wpAny_mono h₁' (fun _ s₂ h₂ => wpAny_bind (wpAny_mono h₂ (fun ok s₃ h₃ => ?_) fun _ _ h' => hEE _ _ h')) fun _ _ h' => hEE _ _ h')
    cases ok with
    | false => exact wpAny_pure ⟨rfl, h₃⟩
    | true =>
      exact wpAny_bind (wpAny_bind (wpAny_mono h₃ (fun x s₄ h₄ => wpAny_bind (wpAny_mono h₄ (fun _ s₅ h₅ => wpAny_pure (wpAny_pure ⟨rfl, h₅⟩)) fun _ _ h' => hEE _ _ h')) fun _ _ h' => hEE _ _ h'))
end
noncomputable abbrev TEx:=L2.St→Hp→L2.VK→(Hp→Addr→Prop)→Prop
noncomputable def ElX (X:Cx) (e:Expr) (te:TEx):Prop:=∀ (pins:List (Addr × Obj)) (s:Shared) (σ:L2.St) (H:Hp) (Q:L2.VK) (EX:Hp→Addr→Prop),Inv X pins σ H s→te σ H Q EX→wpAny (model X.prog X.w) X.A (eval e X.env) (L2.EP X pins σ Q) (XE X pins fun _ H' C=>EX H' C) s
noncomputable def ZbV (J:L2.It) (i:Nat) (te:TEx) (EX:Hp→Addr→Prop) (σ:L2.St) (p:Addr) (Q:L2.VK) (H1:Hp):Prop :=
 ∃ W:Nat→Nat→Hp→List V→Prop,(∃ m,W 0 m (upd H1 p (.lst [])) [])∧∀ k m H2 acc,W k m H2 acc→H2 p=some (.lst acc)∧acc.length < sizeLine ∧
  ((J.stop k H2∧Q (.ref p) H2)∨(J.go k H2∧∀ v H3,J.yld k H2 v H3→te (σ.set i (some v)) H3 (fun w H5=>H5 p=some (.lst acc)∧∃ m',m' < m∧W (k + 1) m' (upd H5 p (.lst (acc++[w]))) (acc++[w])) EX))
section
variable {X:Cx} {sc:Scope} {x:Str} {i:Nat} {px pos:Pos} {iter elt:Expr} {wi:L2.TI} {te:TEx}
theorem Zed (hs : X.stack = X.env :: X.outer)(hfr : X.env.frame = some X.env.locals)(hc : X.calm = true)(nd : X.N.Nodup)(CO : YL X.N X.env.scope sc x)(hi : X.N[i]? = some x)
    (hE : ∀ cs C s0 H0 fp pn, ElX (blk X X.env.scope sc cs C s0 H0 fp pn) elt te)
    {pins : List (Addr × Obj)} {σ : L2.St} {H : Hp} {s : Shared} {E : Value → Shared → Prop} {Q : L2.VK} {it : Addr} {fp : List Addr} {tn : Nat → Heap → Prop} {J : L2.It} {cl : List (Str × Addr)} {RR : Value → Addr → Result → Shared → Prop} {EX : Hp → Addr → Prop}
    (I : Inv X pins σ H s) (T : L2.Turn X.prog X.w X.K (.Name x px) J fp it tn) (st : tn 0 s.heap) (hf : ∀ b ∈ fp, L2.FpOk X pins H b) (hq : ∀ p, H p = none → ZbV J i te EX σ p Q H)
    (c1 : ∀ n c, cl.lookup n = some c → X.env.cells.lookup n = some c) (c2 : ∀ y ∈ sc.names, y.2 = .free → ∃ c, cl.lookup y.1 = some c) (c3 : ∀ n c, cl.lookup n = some c → (n, NameKind.free) ∈ sc.names)
    (hRR : ∀ (p C : Addr) (Hb : Hp) (m : Str → Option Value) (s1 : Shared), Inv X pins σ Hb s1 → Q (.ref p) Hb → s1.heap.Ns C m → Hb C = none → C ≠ X.env.locals → X.s₀.heap.objs.size ≤ C → (∀ y c, X.env.cells.lookup y = some c → c ≠ C) → (∀ q ∈ X.pn ++ pins, q.1 ≠ C) → C ∉ X.fs → RR (.ref p) C (.ok .next) s1)
    (hRE : ∀ (acc : Value) (C a Cx : Addr) (Hb : Hp) (B : Heap) (m : Str → Option Value) (s1 : Shared), Inv X pins σ Hb s1 → XSt X pins Hb s1 a Cx B → Fl (¬ CN X.K 6 Cx) B X.stack a Cx (rawInt X.env.locals) s1.heap → EX Hb Cx → s1.heap.Ns C m → Hb C = none → C ≠ X.env.locals → X.s₀.heap.objs.size ≤ C → (∀ y c, X.env.cells.lookup y = some c → c ≠ C) → (∀ q ∈ X.pn ++ pins, q.1 ≠ C) → C ∉ X.fs → C ∉ frs X.stack → RR acc C (.error (.ref a)) s1) :
    wpAny (model X.prog X.w) X.A (newList []) (fun acc s₃ => wpAny (model X.prog X.w) X.A (newFunctionEnv sc X.env.globals cl [] X.env.qual none .none (some X.env)) (fun cenv s₄ =>
      codeAny (model X.prog X.w) X.A (.compStart (.ListComp elt [⟨.Name x px, iter, [], 0⟩] sc pos) 0 (.ref it) acc { cenv with scope := relabel sc X.env }) (RR acc cenv.locals) s₄) E s₃) E s := by
  refine wpAny_newObj_type (ZbB ?_)
  have hp : H s.heap.objs.size = none := I.fresh
  have I3 : Inv X pins σ (upd H s.heap.objs.size (.lst [])) { s with heap := s.heap.push { cls := .type "list", data := .seq ([] : List Value).toArray } } := I.lnew (t' := s.toks) (its := []) (ys := []) .nil (Nat.zero_le _)
  obtain ⟨W, ⟨m0, w0⟩, turn⟩ := hq _ hp
  generalize hs3 : ({ s with heap := s.heap.push { cls := .type "list", data := .seq ([] : List Value).toArray } } : Shared) = s3 at I3
  generalize hH3 : upd H s.heap.objs.size (.lst []) = H3 at I3 w0
  have hlt : ∀ b ∈ fp, b < s.heap.objs.size := fun b hb => by obtain ⟨o, e, _⟩ := T.obj 0 s.heap st b hb; exact Heap.lt_size e
  have hk3 : ∀ b o, s.heap.get? b = some o → s3.heap.get? b = some o := fun b o e => by rw [← hs3]; exact Heap.get?_push_of_some _ e
  have hf3 : ∀ b ∈ fp, L2.FpOk X pins H3 b := fun b hb => by
    obtain ⟨f1, f2⟩ := hf b hb
    refine ⟨?_, f2⟩
    rw [← hH3, Yb (Nat.ne_of_lt (hlt b hb))]
    exact f1
  have st3 : tn 0 s3.heap := T.keep 0 _ _ st fun b hb o e => hk3 b o e
  have hl3 : ∀ b ∈ fp, b < s3.heap.objs.size := fun b hb => by obtain ⟨o, e, _⟩ := T.obj 0 s3.heap st3 b hb; exact Heap.lt_size e
  have Ib0 := Zel (i := i) (fp := fp) I3 CO rfl nd hi c1 c2 c3 hf3 hl3
  let Xb0 := blk X X.env.scope sc (cellsFrom (s3.heap.objs.size + 1) sc.names cl) s3.heap.objs.size s3 H3 fp pins
  let EE : Value → Shared → Prop := notedBy (model X.prog X.w) X.A Xb0.env fun x s' => RR (.ref s.heap.objs.size) s3.heap.objs.size (.error x) s'
  let Xb := Xb0.wish EE
  have Ib : Inv Xb [] _ _ _ := Ib0.wish EE
  have hEb : ElX Xb0 elt te := hE _ _ _ _ _ _
  have facts : ∀ {σb : L2.St} {Hc : Hp} {s6 : Shared}, Inv Xb [] σb Hc s6 → Inv X pins σ Hc s6 ∧ Hc s3.heap.objs.size = none ∧ s3.heap.objs.size ≠ X.env.locals ∧ X.s₀.heap.objs.size ≤ s3.heap.objs.size ∧ (∀ y c, X.env.cells.lookup y = some c → c ≠ s3.heap.objs.size) ∧ (∀ q ∈ X.pn ++ pins, q.1 ≠ s3.heap.objs.size) ∧ s3.heap.objs.size ∉ X.fs := fun {σb Hc s6} I6 => by
    refine ⟨Zdz (osc := X.env.scope) (sc := sc) I3 hf3 I6.Zh, I6.free, Ne.symm (Nat.ne_of_lt I3.lt), I3.sz, fun y c e z => ?_, fun q hq' z => ?_, fun z => ?_⟩
    · obtain ⟨v, q⟩ := I3.cell y c e
      exact absurd q.lt (by rw [z]; exact Nat.lt_irrefl _)
    · exact absurd (Heap.lt_size (I3.pin q hq').1) (by rw [z]; exact Nat.lt_irrefl _)
    · exact I3.nofs (Nat.le_refl _) z
  have stk : ∀ b, b ∈ L2.frs X.stack → b < s3.heap.objs.size := fun b hb => by
    refine Nat.lt_of_not_le fun hle => ?_
    rcases List.mem_cons.mp (I3.YX b hb) with z | z
    · rw [z] at hle; exact absurd I3.lt (Nat.not_lt.mpr hle)
    · exact I3.nofs hle z
  have st4 : tn 0 (pushCells (s3.heap.push { cls := .type "dict", data := .dict #[] }) sc.names) := T.keep 0 _ _ st3 fun b hb o e => pushCells_keeps _ _ b o (Heap.get?_push_of_some _ e)
  have conv : ∀ {more : List (Addr × Obj)} (e : Value) (s' : Shared), XE Xb0 ([] ++ more) (fun _ H' C => EX H' C) e s' → EE e s' := fun {more} e s' ⟨a, Cx, B, σ', H', he, I', x', g⟩ => by
    subst he
    have I0 : Inv Xb0 [] σ' H' s' := I'.Zn
    obtain ⟨J1, J2, J3, J4, J5, J6, J7⟩ := facts (I0.wish EE)
    have nfr : s3.heap.objs.size ∉ frs X.stack := fun z => Nat.lt_irrefl _ (stk _ z)
    have xX : XSt X pins H' s' a Cx B := by
      refine ⟨x'.st, x'.no, x'.ff, fun b n t => x'.cov b n ?_, x'.it⟩
      have in3 : ∀ o, s3.heap.get? b = some o → b ∉ fp → Ned Xb0 ([] ++ more) H' b := fun o q z => .inl ⟨⟨o, q⟩, z⟩
      rcases t with ⟨⟨o, q⟩, hx⟩ | t | ⟨p, hp, e⟩ | ⟨y, hy⟩
      · obtain ⟨o', q'⟩ := I3.base.there b o q hx
        refine in3 o' q' fun z => ?_
        obtain ⟨_, _, _, f4, _⟩ := hf3 b z
        rcases f4 with f4 | f4
        · exact hx f4
        · exact absurd (Heap.lt_size q) (Nat.not_lt.mpr f4)
      · exact .inr (.inl t)
      · subst e
        exact .inr (.inr (.inl ⟨p, List.mem_append_left _ hp, rfl⟩))
      · obtain ⟨v, o, q, _⟩ := I3.cell y b hy
        refine in3 o q fun z => ?_
        obtain ⟨_, _, _, _, f5, _⟩ := hf3 b z
        exact f5 y b hy rfl
    show wpAny _ _ (noteFrame (.ref a) X.env) _ _ s'
    obtain ⟨mm, ⟨oC, es, ep, hoC, hdC, rest⟩, _⟩ := I0.loc
    refine Y7 hs hfr J1.ok.frames xX fun g2 f2 u2 => ?_
    obtain ⟨sl, q⟩ := u2 _ oC hoC (fun ws z => by rw [hdC] at z; cases z)
    exact hRE _ _ a Cx H' B mm { s' with heap := g2 } (Zw hs hfr J1 xX f2.st u2) ⟨f2.st, f2.no, f2.ff, xX.cov, .inr ⟨_, f2.tr⟩⟩ f2 g ⟨_, es, ep, q, hdC, rest⟩ J2 J3 J4 J5 J6 J7 nfr
  have pgx : L2.PG Xb (.Name x px) (L2.Zbo i) := by
    refine L2.Zcr nd hi ?_ ?_
    · rcases CO.var with z | z
      · exact .inl (JW z)
      · exact .inr (Zcn z)
    · rcases CO.var with z | z
      · exact .inr (JW z)
      · exact .inl (decide_eq_true z)
  have loop : ∀ s4 : Shared, s4 = { s3 with heap := pushCells (s3.heap.push { cls := .type "dict", data := .dict #[] }) sc.names } →
      codeAny (model X.prog X.w) X.A (.compLoop (.ListComp elt [⟨.Name x px, iter, [], 0⟩] sc pos) 0 (.ref it) (.ref s.heap.objs.size) Xb.env) (RR (.ref s.heap.objs.size) s3.heap.objs.size) s4 := by
    rintro s4 rfl
    have stat : ∀ {Hc : Hp}, (∀ b ∈ fp, Hc b = none) → ∀ b ∈ fp, L2.FpOk Xb [] Hc b := fun {Hc} hn b hb => by
      obtain ⟨_, f2, f3, f4, f5, f6⟩ := hf3 b hb
      refine ⟨hn b hb, Nat.ne_of_lt (hl3 b hb), fun z => ?_, .inl hb, Ib.ok.exf b hb |>.2, fun q hq' => ?_⟩
      · rcases List.mem_cons.mp (I3.YX b z) with w | w
        · exact f2 w
        · exact f3 w
      · have hq2 : q ∈ (X.pn ++ pins) ++ [] := hq'
        exact f6 q (by simpa using hq2)
    refine Zdb (EE := EE) (fun _ _ z => z) (fun n s' => ∃ k ov Hc acc, Inv Xb [] (σ.set i ov) Hc s' ∧ tn k s'.heap ∧ (∀ b ∈ fp, Hc b = none) ∧ W k n Hc acc) ?_ m0 ⟨0, none, H3, [], Ib, st4, fun b hb => (hf3 b hb).1, w0⟩
    rintro n s5 ⟨k, ov, Hc, acc, I5, st5, fr5, w5⟩
    obtain ⟨hacc, hlen, hcase⟩ := turn k n Hc acc w5
    rcases hcase with ⟨stop, qn⟩ | ⟨go, step⟩
    · refine (L2.thn (T.done Xb rfl rfl rfl hc k [] s5 (σ.set i ov) Hc EE I5 (stat fr5) st5 stop) fun r s6 ⟨hr, I6⟩ => ?_)
      subst hr
      obtain ⟨mm, hn6, _⟩ := I6.loc
      obtain ⟨J1, J2, J3, J4, J5, J6, J7⟩ := facts I6
      exact hRR _ _ Hc mm s6 J1 qn hn6 J2 J3 J4 J5 J6 J7
    · refine (L2.thn (T.item Xb rfl rfl rfl hc k [] s5 (σ.set i ov) Hc EE I5 (stat fr5) st5 go) fun r s6 ⟨u, hr, h6⟩ => ?_)
      subst hr
      refine (L2.thn h6 fun _ s7 ⟨v, H7, I7, r7, y7, st7, fr7⟩ => ?_)
      have I7' := I7.pinned (stat fr7) (T.obj _ _ st7)
      have hv := step v H7 y7
      refine (L2.thn (pgx _ s7 (σ.set i ov) H7 v u (fun σ' H' => σ' = σ.set i (some v) ∧ H' = H7) I7' r7 ⟨by rw [List.set_set], rfl⟩) fun _ s8 ⟨σ8, H8, I8, e8, e8'⟩ => ?_)
      subst e8 e8'
      refine wpAny_tests_nil ?_
      have again : ∀ {σ10 : L2.St} {H10 : Hp} {acc' : List V} {s10 : Shared}, Inv Xb ([] ++ L2.JC fp s7.heap) σ10 H10 s10 → σ10 = σ.set i (some v) → (∃ m', m' < n ∧ W (k + 1) m' H10 acc') →
          ∃ m, m < n ∧ ∃ k ov Hc acc, Inv Xb [] (σ.set i ov) Hc s10 ∧ tn k s10.heap ∧ (∀ b ∈ fp, Hc b = none) ∧ W k m Hc acc := fun {σ10 H10 acc' s10} I10 e10 ⟨m', hm, w10⟩ => by
        subst e10
        refine ⟨m', hm, k + 1, some v, H10, acc', I10.Zn, T.keep _ _ _ st7 fun b hb o e => (I10.pin (b, o) (List.mem_append_right _ (List.mem_append_right _ (L2.Ys hb e)))).1, fun b hb => ?_, w10⟩
        obtain ⟨o, e, d⟩ := T.obj _ _ st7 b hb
        exact (I10.pin (b, o) (List.mem_append_right _ (List.mem_append_right _ (L2.Ys hb e)))).2.1
      rw [if_pos rfl]
      refine L2.thn (Q := L2.EP Xb _ _ _) (wpAny_mono (hEb _ s8 _ H8 _ EX I8.Zh hv) (fun _ _ ⟨xx, HH, II, rr, qq⟩ => ⟨xx, HH, II.wish EE, rr, qq⟩) conv) fun ww s10 ⟨x10, H10, I10, r10, q10, m', hm, w10⟩ => ?_
      refine L2.thn (L2.ZaT (X := Xb) _ s10 _ H10 (.ref s.heap.objs.size) [x10] (.ref s.heap.objs.size) [ww] (fun _ H' => H' = upd H10 s.heap.objs.size (.lst (acc ++ [x10]))) I10 rfl (.cons r10 .nil) ⟨_, acc, x10, rfl, rfl, q10, hlen, rfl⟩) fun _ s11 ⟨_, H11, I11, _, e11⟩ => ?_
      subst e11
      exact again I11 rfl ⟨m', hm, w10⟩
  subst hs3
  have l := loop _ rfl
  exact codeAny_compStart_list l (T.self _ 0 _ _ _ st4 l)
end
end PV
set_option linter.all false
set_option Elab.async false
set_option maxRecDepth 100000
set_option maxHeartbeats 4000000
namespace PV
open PySem PySem.Spec PyProof.Rows
open L2 (V Hp HO Vals SqL SqT Same upd Cx PE PT PW PA PS PSs TE TT TA TS Inv RelV Zb Yb Jb Un HOk frs)
noncomputable def tXe (K:PySem.W.Frag) (fx:Env→Option (D ⊕ Nat)):TEx:=fun σ H Q EX=>∃ BF BH F env L r,SOk K BF BH F H σ env L∧fx env=some r∧(∀ d,r=.inl d→∀ v F' H',Ext F H F' H'→Rep K F' d v→Q v H')∧∀ c,r=.inr c→∀ C F' H',CN K c C→Ext F H F' H'→EX H' C
theorem Zd1 {X:Cx} {k:Nat} {x:Str} {φ:Fx} {e:Expr} {es:List Expr} {fs:List Ex} {p pos:Pos} (G:CalX X.prog X.w X.K X.mg X.base k x (rk X.K .k) φ) (hr:L2.Room k X.A) (ha:PAd X.nox .k (e::es) fs) (hg:X.env.kindOf x=some .globalImplicit:=by kernel_rfl) (hdb:(x == ("__debug__":Str))=false:=by kernel_rfl)
  (hn:nst e=true:=by rfl) (hns:nsts es=true:=by rfl):ElX X (.Call (.Name x p) (e::es) [] pos) (tXe X.K (YH φ fs)):=fun pins s σ H Q EX I hh=>by
 obtain ⟨BF,BH,F,env,L,r,S,h1,ok,ex⟩:=hh
 have key:=ZaV (X:=X.wish (XE X pins fun _ H' C=>EX H' C)) (Q:=Q) (m1:=rk X.K .k) (p:=p) (pos:=pos) G hr ha hg hdb (Yd hn) (YJ hns) (I.wish _) S h1 (fun d hd v F' H' H0 s0 s1 z rr=>ok d hd v F' H' z rr)
  (fun c hc F' H' s' a C B z I' x' hcn=>⟨a,C,B,σ,H',rfl,I'.Zh,⟨x'.st,x'.no,x'.ff,x'.cov,x'.it⟩,ex c hc C F' H' hcn z⟩)
 exact wpAny_mono key (fun _ _ ⟨v,H',I',rv,q⟩=>⟨v,H',I'.Zh,rv,q⟩) fun _ _ q=>q
theorem Zd9 {K : PySem.W.Frag}{i : Nat}{fx : Env → Option (D ⊕ Nat)}{BF BH F F1 H H1 : Hp}{σ : L2.St}{env : Env}{L : Nat → List Addr}{ds : List D}{r : List D ⊕ Nat}{J : L2.It}{p : Addr}{Q : L2.VK}{EX : Hp → Addr → Prop}(S : SOk K BF BH F H σ env L)(z1 : Ext F H F1 H1)(J1 : ItOk K J F1 ds)
    (hl : ds.length ≤ lim) (hx : Yz i fx env ds = some r) (hp : H1 p = none) (q : ∀ xs, r = .inl xs → ∀ vs F' H', Ext F H F' H' → H p = none → H' p = some (.lst vs) → F' p = none → Reps K F' xs vs → Q (.ref p) H')
    (qx : ∀ c, r = .inr c → ∀ C F' H', CN K c C → Ext F H F' H' → EX H' C) : ZbV J i (tXe K fx) EX σ p Q H1 := by
  have hp0 : H p = none := z1.hh.free hp
  have hpF : F1 p = none := z1.fh.free hp
  refine ⟨fun k mm H2 acc => mm = ds.length - k ∧ k ≤ ds.length ∧ H2 p = some (.lst acc) ∧ ∃ F2 ys rr, Ext F H F2 H2 ∧ Same F1 F2 ∧ F2 p = none ∧ ys.length ≤ k ∧ Reps K F2 ys acc ∧ Yz i fx env (ds.drop k) = some rr ∧ r = (match rr with | .inl zs => .inl (ys ++ zs) | .inr c => .inr c),
    ⟨ds.length, by simp, Nat.zero_le _, Zb, F1, [], r, z1.trans (Ext.own z1.fh hp), .refl _, hpF, Nat.zero_le _, Reps.nil, hx, by cases r <;> rfl⟩, ?_⟩
  rintro k mm H2 acc ⟨rfl, hk, hacc, F2, ys, rr, z2, s12, f2, hy, ra, hz, hxs⟩
  have hal : acc.length ≤ lim := by rw [← ra.length]; omega
  refine ⟨hacc, Nat.lt_of_le_of_lt hal Zfl, ?_⟩
  by_cases hlt : k < ds.length
  · refine .inr ⟨J1.go k H2 (s12.trans z2.fh) hlt, fun v H3 hy3 => ?_⟩
    obtain ⟨d, F3, hd, z3, r3⟩ := J1.yld k H2 v H3 F2 s12 z2.fh hlt hy3
    have hd' : ds[k] = d := by rw [List.getElem?_eq_getElem hlt] at hd; exact Option.some.inj hd
    rw [List.drop_eq_getElem_cons hlt, hd'] at hz
    simp only [Yz] at hz
    have z13 := z2.trans z3
    have S3 := (S.ext z13).Zbs i r3
    have h2p : H2 p ≠ none := by rw [hacc]; simp
    have more : ∀ (e1 : D) (r2 : List D ⊕ Nat), Yz i fx env (ds.drop (k + 1)) = some r2 → r = (match r2 with | .inl zs => .inl (ys ++ e1 :: zs) | .inr c => .inr c) → ∀ w F5 H5, Ext F3 H3 F5 H5 → Rep K F5 e1 w →
        H5 p = some (.lst acc) ∧ ∃ m', m' < ds.length - k ∧ (m' = ds.length - (k + 1) ∧ k + 1 ≤ ds.length ∧ upd H5 p (.lst (acc ++ [w])) p = some (.lst (acc ++ [w])) ∧ ∃ F2 ys rr, Ext F H F2 (upd H5 p (.lst (acc ++ [w]))) ∧ Same F1 F2 ∧ F2 p = none ∧ ys.length ≤ k + 1 ∧ Reps K F2 ys (acc ++ [w]) ∧ Yz i fx env (ds.drop (k + 1)) = some rr ∧ r = (match rr with | .inl zs => .inl (ys ++ zs) | .inr c => .inr c)) := fun e1 r2 h2 hr w F5 H5 z5 r5 => by
      have z25 := z3.trans z5
      obtain ⟨zz, f5⟩ := z2.Zev z25 hp0 f2 h2p (.lst (acc ++ [w]))
      refine ⟨z25.hh _ _ hacc, ds.length - (k + 1), by omega, rfl, hlt, Zb, F5, ys ++ [e1], r2, zz, s12.trans z25.ff, f5, by rw [List.length_append, List.length_singleton]; omega, (Reps.mono z25.ff _ _ ra).append (Reps.cons r5 Reps.nil), h2, ?_⟩
      rw [hr]
      cases r2 with
      | inl zs => simp
      | inr c => rfl
    split at hz
    · rename_i e1 he
      split at hz
      · rename_i zs hz'
        cases hz
        exact ⟨BF, BH, F3, _, _, .inl e1, S3, he, fun d' hd' w F5 H5 z5 r5 => (by cases hd'; exact more _ _ hz' hxs w F5 H5 z5 r5), fun c hc => (by cases hc)⟩
      · rename_i c hz'
        cases hz
        exact ⟨BF, BH, F3, _, _, .inl e1, S3, he, fun d' hd' w F5 H5 z5 r5 => (by cases hd'; exact more _ _ hz' hxs w F5 H5 z5 r5), fun c hc => (by cases hc)⟩
      · cases hz
    · rename_i c he
      cases hz
      exact ⟨BF, BH, F3, _, _, .inr c, S3, he, fun d' hd' => (by cases hd'), fun c' hc C F5 H5 hcn z5 => (by cases hc; exact qx c hxs C F5 H5 hcn (z13.trans z5))⟩
    · cases hz
  · have ek : k = ds.length := by omega
    subst ek
    rw [List.drop_length] at hz
    simp only [Yz] at hz
    cases hz
    simp only [List.append_nil] at hxs
    exact .inl ⟨J1.stop H2 (s12.trans z2.fh), q ys hxs acc F2 H2 z2 hp0 hacc f2 ra⟩
theorem ZfL {i:Nat}{lx:Lx}{fx:Env→Option (D ⊕ Nat)}{env:Env}{r:D ⊕ Nat}(h:JM i lx fx env=some r):∃ ds r',lx env=some ds∧ds.length≤lim∧Yz i fx env ds=some r'∧r=(match r' with | .inl xs=>.inl (.lst xs) | .inr c=>.inr c):=by
 unfold JM at h
 split at h
 ·rename_i ds h1
  split at h
  ·rename_i hl
   split at h
   ·rename_i xs h2;cases h;exact ⟨ds,_,h1,hl,h2,rfl⟩
   ·rename_i c h2;cases h;exact ⟨ds,_,h1,hl,h2,rfl⟩
   ·cases h
  ·cases h
 ·cases h
section
variable {X:Cx} {sc:Scope} {x:Str} {px pos:Pos} {iter elt:Expr} {lx:Lx} {fx:Env→Option (D ⊕ Nat)} {m:RetP}
theorem Zhf {E : Value → Shared → Prop}{pins : List (Addr × Obj)}{σ : L2.St}{Hb : Hp}{s1 : Shared}{a Cx C : Addr}{B : Heap}{mm : Str → Option Value}(hs : X.stack = X.env :: X.outer)(hfr : X.env.frame = some X.env.locals)(I : Inv X pins σ Hb s1)(x1 : XSt X pins Hb s1 a Cx B)(f : Fl (¬ CN X.K 6 Cx) B X.stack a Cx (rawInt X.env.locals) s1.heap)
    (hns : s1.heap.Ns C mm) (hC : Hb C = none) (hL : C ≠ X.env.locals) (hsz : X.s₀.heap.objs.size ≤ C) (hcell : ∀ y c, X.env.cells.lookup y = some c → c ≠ C) (hpin : ∀ q ∈ X.pn ++ pins, q.1 ≠ C) (hst : C ∉ frs X.stack)
    (k : ∀ s2 B2, Inv X pins σ Hb s2 → XSt X pins Hb s2 a Cx B2 → E (.ref a) s2) :
    ∃ m, s1.heap.Ns C m ∧ ∀ h', Heap.SameBut C s1.heap h' → ∀ cenv : PySem.Env, cenv.locals = C → wpAny (model X.prog X.w) X.A (PySem.passOn "comprehension.variables-let-go" (.ref a) cenv : Sem Value) (fun _ _ => False) E { s1 with heap := h' } := by
  refine ⟨mm, hns, fun h' sb cenv _ => ?_⟩
  obtain ⟨oC, es, ep, hoC, hdC, rest⟩ := id hns
  have I2 : Inv X pins σ Hb { s1 with heap := h' } := I.turned (h' := h') (t' := s1.toks) (it := C) (fun b o hb e => sb.extBut b o hb e) hC hL (.inr hsz) hcell hpin
  obtain ⟨xo, ws, T, to, tw, ⟨y1, y2, y3, y4⟩, ⟨w1, w2⟩, nT, Te, tg, td, t3⟩ := id f.tr
  have aC : a ≠ C := fun z => by rw [z] at y1; rw [hoC] at y1; cases y1; rw [hdC] at y4; cases y4
  have TC : T ≠ C := fun z => by rw [z] at tg; rw [hoC] at tg; cases tg; rw [hdC] at td; cases td
  have gB : ∀ b o, (PySem.W.hideAll B [C]).get? b = some o → B.get? b = some o ∧ b ≠ C := fun b o q => ⟨PySem.W.of_hideAll _ q, fun z => by subst z; rw [PySem.W.hideAll_none _ (by simp)] at q; cases q⟩
  have f2 : Fl (¬ CN X.K 6 Cx) (PySem.W.hideAll B [C]) X.stack a Cx (rawInt X.env.locals) h' := by
    refine ⟨fun b o q => ?_, ?_, ?_, xo, ws, T, to, tw, ⟨(sb.2 a aC).trans y1, y2, y3, y4⟩, ⟨w1, w2⟩, ?_, Te, (sb.2 T TC).trans tg, td, t3⟩
    · obtain ⟨q1, q2⟩ := gB b o q
      exact (sb.2 b q2).trans (f.st b o q1)
    · cases q : (PySem.W.hideAll B [C]).get? a with
      | none => rfl
      | some o => have := (gB a o q).1; rw [f.no] at this; cases this
    · have go : ∀ (l : List PySem.Env), (∀ b ∈ frs l, b ≠ C) → s1.heap.FunFrames B l → h'.FunFrames (PySem.W.hideAll B [C]) l := by
        intro l
        induction l with
        | nil => intro _ _; trivial
        | cons env r ih =>
          rintro hn ⟨h1, ⟨L, o, hf, hb, ho, hd⟩, hr⟩
          have hL : L ∈ frs (env :: r) := by unfold frs; rw [List.filterMap_cons, hf]; exact List.mem_cons_self
          refine ⟨h1, ⟨L, o, hf, ?_, (sb.2 L (hn L hL)).trans ho, hd⟩, ih (fun b hb => hn b (by unfold frs at hb ⊢; rw [List.filterMap_cons, hf]; exact List.mem_cons_of_mem _ hb)) hr⟩
          cases q : (PySem.W.hideAll B [C]).get? L with
          | none => rfl
          | some o => have := (gB L o q).1; rw [hb] at this; cases this
      exact go X.stack (fun b hb z => hst (by rw [← z]; exact hb)) f.ff
    · cases q : (PySem.W.hideAll B [C]).get? T with
      | none => rfl
      | some o => have := (gB T o q).1; rw [nT] at this; cases this
  have x2 : XSt X pins Hb { s1 with heap := h' } a Cx (PySem.W.hideAll B [C]) := by
    refine ⟨f2.st, f2.no, f2.ff, fun b n t => ?_, .inr ⟨_, f2.tr⟩⟩
    obtain ⟨o, q⟩ := x1.cov b n t
    have bC : b ≠ C := fun z => by
      subst z
      rcases t with ⟨⟨o, q⟩, _⟩ | t | ⟨p, hp, e⟩ | ⟨y, hy⟩
      · exact absurd (Heap.lt_size q) (Nat.not_lt.mpr hsz)
      · exact t hC
      · exact hpin p hp e
      · exact hcell y _ hy rfl
    exact ⟨o, PySem.W.hideAll_get _ q (by simpa using bC)⟩
  unfold PySem.passOn
  obtain ⟨xo2, ws2, T2, to2, tw2, ⟨u1, u2, u3, u4⟩, ⟨v1, _⟩, _⟩ := id f2.tr
  refine wpAny_bind (wpAny_field (s := { s1 with heap := h' }) u1 u4 v1 ?_)
  rw [if_neg (by simp)]
  refine wpAny_bind (Zds (o := cenv.frame) (s := { s1 with heap := h' }) f2 fun g3 f3 u3 => ?_)
  exact wpAny_throw (k _ _ (Zw (s := { s1 with heap := h' }) hs hfr I2 x2 f3.st u3) ⟨f3.st, f3.no, f3.ff, x2.cov, .inr ⟨_, f3.tr⟩⟩)
theorem ZeI (hs:X.stack=X.env::X.outer)(hfr:X.env.frame=some X.env.locals)(nd:X.N.Nodup)(i:Nat)(hI:PId X.nox (.Name x px) iter lx)(hE:∀ cs C s0 H0 fp pn,ElX (blk X X.env.scope sc cs C s0 H0 fp pn) elt (tXe X.K fx))(hc:X.calm=true)(CO:YL X.N X.env.scope sc x)(hi:X.N[i]?=some x)
  (hfo:∀ x,foldedSetIterable iter X.env x=pure x) {use:Option (Value→Sem Unit)} {QQ:Value→Shared→Prop} {pins:List (Addr × Obj)} {s:Shared} {σ:L2.St} {H:Hp} {npos:Pos} {BF BH F:Hp} {env:Env} {L:Nat→List Addr} {r:D ⊕ Nat} (I:Inv X pins σ H s) (S:SOk X.K BF BH F H σ env L) (h1:JM i lx fx env=some r)
  (ok:∀ d,r=.inl d→∀ (p C:Addr) (Hb F':Hp) (mm:Str→Option Value) (s1:Shared),Inv X pins σ Hb s1→Ext F H F' Hb→Rep X.K F' d (.ref p)→s1.heap.Ns C mm→Hb C=none→C≠X.env.locals→X.s₀.heap.objs.size≤C→(∀ y c,X.env.cells.lookup y=some c→c≠C)→(∀ q ∈ X.pn++pins,q.1≠C)→C ∉ X.fs →
   compPost (model X.prog X.w) X.A X.xe use QQ (.ref p) C (.ok .next) s1)
  (ex:∀ c,r=.inr c→∀ F' H' s' a C B,Ext F H F' H'→Inv X pins σ H' s'→XSt X pins H' s' a C B→CN X.K c C→X.xe (.ref a) s') :
  wpAny (model X.prog X.w) X.A (comprehension (.ListComp elt [⟨.Name x px,iter,[],0⟩] sc pos) sc X.env npos (newList []) false (eval iter X.env) use) QQ X.xe s:=by
 obtain ⟨ds,r',hd,hl,hx,hr⟩:=ZfL h1
 obtain ⟨cl,hcl,c1,c2,c3⟩:=ZaK (ZcA I CO)
 have lift:∀ {α:Type} {t:Sem α} {Q:α→Shared→Prop} {s1:Shared},wpAny (model X.prog X.w) X.A t Q (fun _ _=>False) s1→wpAny (model X.prog X.w) X.A t Q X.xe s1:=fun h=>wpAny_mono h (fun _ _ q=>q) fun _ _ z=>z.elim
 refine wpAny_comprehension_free (use:=use) rfl hfo hcl CO.kind CO.loc (L2.thn (lift (hI pins s σ H (fun J H1=>∃ F1,Ext F H F1 H1∧ItOk X.K J F1 ds) (I.wish _) ⟨BF,BH,F,env,L,ds,S,hd,fun J F1 H1 z J1=>⟨F1,z,J1⟩⟩)) fun v s1 q1=>L2.thn (lift q1) fun itv s2 q2=>?_)
 obtain ⟨it,fp,tn,J,H2,rfl,I2,T,st,hf,F1,z1,J1⟩:=q2
 have I2:Inv X pins σ H2 s2:=I2.Zh
 refine Zed (EX:=fun H' C=>∃ c F',r=.inr c∧CN X.K c C∧Ext F H F' H') (Q:=fun v Hb=>∃ d F',r=.inl d∧Ext F H F' Hb∧Rep X.K F' d v) (RR:=fun acc C=>compPost (model X.prog X.w) X.A X.xe use QQ acc C) hs hfr hc nd CO hi hE I2 T st hf (fun p hp=>?_) c1 c2 c3 ?_ ?_
 ·refine Zd9 S z1 J1 hl hx hp (fun xs hxs vs F' H' z a b c d=>?_) (fun c hc' C F' H' hcn z=>⟨c,F',by rw [hr,hc'],hcn,z⟩)
  have z':=z.frz a b c
  have ss:Same F' (upd F' p (.lst vs)):=fun b u e=>by rw [Yb (Jb e c)];exact e
  refine ⟨.lst xs,upd F' p (.lst vs),by rw [hr,hxs],z',?_⟩
  simp only [Rep]
  exact ⟨p,vs,rfl,.inl (.inl Zb),Reps.mono ss _ _ d⟩
 ·rintro p C Hb mm s1 I' ⟨d,F',hd',z,rp⟩ h1 h2 h3 h4 h5 h6 h7
  exact ok d hd' p C Hb F' mm s1 I' z rp h1 h2 h3 h4 h5 h6 h7
 ·rintro acc C a Cx Hb B mm s1 I' x' f ⟨c,F',hc',hcn,z⟩ h1 h2 h3 h4 h5 h6 h7 h8
  have:=Zhf (E:=X.xe) hs hfr I' x' f h1 h2 h3 h4 h5 h6 h8 fun s2 B2 I2 x2=>ex c hc' F' Hb s2 a Cx B2 z I2 x2 hcn
  cases use with
  | none=>exact this
  | some u=>exact this
theorem Zga {rpos:Pos}(hs:X.stack=X.env::X.outer)(hfr:X.env.frame=some X.env.locals)(nd:X.N.Nodup)(i:Nat)(hI:PId X.nox (.Name x px) iter lx)(hE:∀ cs C s0 H0 fp pn,ElX (blk X X.env.scope sc cs C s0 H0 fp pn) elt (tXe X.K fx))(hc:X.calm=true:=by rfl)(hco:J0 X.N X.env.scope sc x=true:=by kernel_rfl)(hi:X.N[i]?=some x:=by kernel_rfl)
  (hfo:∀ x,foldedSetIterable iter X.env x=pure x:=by intro _;rfl) (hm:m=rk X.K .k:=by rfl):PX1 X m (.Return (some (.ListComp elt [⟨.Name x px,iter,[],0⟩] sc pos)) rpos) (Zbt (JM i lx fx)):=⟨fun pins s σ H D0 I hh_=>el10 hh_ fun BF BH F env L o env' S e k=>by
 subst hm
 refine wpAny_Return_some (L2.thn (Q:=L2.EP X pins σ fun v H'=>D0.rt v H') ?_ fun v s1 ⟨x,H1,I1,r1,q1⟩=>⟨x,σ,H1,I1,r1,q1⟩)
 rw [eval_ListComp]
 unfold Zbt at e
 cases hr:JM i lx fx env with
 | none=>rw [hr] at e;cases e
 | some r =>
  rw [hr] at e
  refine ZeI (use:=none) (QQ:=L2.EP X pins σ fun v H'=>D0.rt v H') hs hfr nd i hI hE hc (Y9 hco) hi hfo I S hr ?_ ?_
  ·intro d hd p C Hb F' mm s1 I' z rp hns hC hL hsz hcell hpin hfs
   subst hd
   cases e
   refine ⟨mm,hns,fun h' hs'=>?_⟩
   have I'':=I'.turned (h':=h') (t':=s1.toks) (it:=C) (fun b o hb e=>hs'.extBut b o hb e) hC hL (.inr hsz) hcell hpin
   exact ⟨.ref p,Hb,I'',rfl,k F' Hb σ L (S.ext z) z.ff (.ref p) rp⟩
  ·intro c hc' F' H' s' a C B z I' x' hcn
   subst hc'
   cases e
   exact k F' H' σ L s' a C B (S.ext z) z.ff I' x' hcn⟩
theorem Zgq (hs:X.stack=X.env::X.outer)(hfr:X.env.frame=some X.env.locals)(nd:X.N.Nodup)(j i:Nat){y:Str}{py spos:Pos}(hI:PId X.nox (.Name x px) iter lx)(hE:∀ cs C s0 H0 fp pn,ElX (blk X X.env.scope sc cs C s0 H0 fp pn) elt (tXe X.K fx))(hc:X.calm=true:=by rfl)(hco:J0 X.N X.env.scope sc x=true:=by kernel_rfl)(hi:X.N[i]?=some x:=by kernel_rfl)
  (hfo:∀ x,foldedSetIterable iter X.env x=pure x:=by intro _;rfl) (hj:X.N[j]?=some y:=by kernel_rfl) (hy:locB X.env.scope y=true:=by kernel_rfl) (hfn:fnB X y=true:=by kernel_rfl)
  (hsw:swapsWith (.ListComp elt [⟨.Name x px,iter,[],0⟩] sc pos) (some (.Name y py)) spos.line X.env=pure true:=by rfl):PX1 X m (.Assign [.Name y py] (.ListComp elt [⟨.Name x px,iter,[],0⟩] sc pos) spos) (Zbr j (JM i lx fx)):=⟨fun pins s σ H D0 I hh_=>el10 hh_ fun BF BH F env L o env' S e k=>by
 rw [exec_Assign_Name_used _ _ _ _ hsw]
 refine wpAny_bind (wpAny_standAt (wpAny_bind ?_))
 show wpAny _ X.A (do let _ ← comprehension (.ListComp elt [⟨.Name x px,iter,[],0⟩] sc pos) sc X.env _ (newList []) false (eval iter X.env) (some (assign (.Name y py) X.env))) _ _ s
 refine wpAny_bind (wpAny_mono (Q:=fun _ s'=>L2.SP X pins D0 .next s') (E:=X.xe) ?_ (fun _ s' hq=>wpAny_pure (wpAny_pure hq)) fun _ _ e=>e)
 unfold Zbr at e
 cases hr:JM i lx fx env with
 | none=>rw [hr] at e;cases e
 | some r =>
  rw [hr] at e
  refine ZeI (use:=some (assign (.Name y py) X.env)) (QQ:=fun _ s'=>L2.SP X pins D0 .next s') hs hfr nd i hI hE hc (Y9 hco) hi hfo I S hr ?_ ?_
  ·intro d hd p C Hb F' mm s1' I' z rp hns hC hL hsz hcell hpin hfs
   subst hd
   cases e
   show wpAny _ X.A (assign (.Name y py) X.env (.ref p)) _ _ _
   obtain ⟨oC,es,ep,hoC,hdC,rest⟩:=id hns
   have Ip:Inv X (pins++[(C,oC)]) σ Hb s1':=I'.ZaA fun q hq'=>(List.mem_append.mp hq').elim (fun z=>I'.pin q (List.mem_append_right _ z)) fun z=>by
    have e:q=(C,oC):=by simpa using z
    subst e
    exact ⟨hoC,hC,hL,hfs,fun v e=>by rw [hdC] at e;cases e⟩
   refine wpAny_assign_Name (L2.Y6 Ip nd hj (Z5 hy) (v:=.ref p) rfl (fun s2' I2'=>?_) (Zay hfn))
   have hC2:=(I2'.pin (C,oC) (List.mem_append_right _ (List.mem_append_right _ (by simp)))).1
   refine ⟨mm,⟨oC,es,ep,hC2,hdC,rest⟩,fun h' hs'=>?_⟩
   have I3':Inv X pins (σ.set j (some (.ref p))) Hb s2':=I2'.Zn
   have I4':=I3'.turned (h':=h') (t':=s2'.toks) (it:=C) (fun b o hb e=>hs'.extBut b o hb e) hC hL (.inr hsz) hcell hpin
   exact ⟨_,Hb,I4',k F' Hb _ _ ((S.ext z).Zbs j rp) z.ff⟩
  ·intro c hc' F' H' s' a C B z I' x' hcn
   subst hc'
   cases e
   exact k F' H' σ L s' a C B (S.ext z) z.ff I' x' hcn⟩
end
end PV
set_option linter.all false
set_option Elab.async false
set_option maxRecDepth 100000
set_option maxHeartbeats 4000000
namespace PV
open PySem PySem.Spec PyProof.Rows
open L2 (V Hp HO Vals SqL SqT Same upd Cx PE PT PW PA PS PSs TE TT TA TS Inv RelV Zb Yb Jb Un HOk frs)
section
variable {prog:Program} {w:World} {A:Around} {E:Value→Shared→Prop} {s:Shared} {env:PySem.Env}
variable {nm q:Str} {C N:Addr} {bs bm bmB:List Value} {hdct:Bool} {sn:List Str} {sub:List Value} {ab:Bool} {col:Option Bool} {dd:Option Addr} {k0 k1 k2 k3 k5:Option Value} {B newId initId:String}
theorem Zcu {x y:Sem Value} {h0:Addr} {Q:Flow→Shared→Prop} (hbase:bm.contains (.type "BaseException")=true) (hh:A.handled=some (.ref h0)) (hy:∀ (R:Value→Shared→Prop) (s1:Shared),R .none s1→wpAny (model prog w) A y R E s1)
  (h:wpAny (model prog w) A x (fun v s₁=>∃ e t oo ws,v=.ref e∧s₁.heap.get? C=some (excClassObj nm q C N bs bm hdct sn sub ab col dd k0 k1 k2 k3 k5 newId)∧s₁.heap.get? e=some { cls:=.ref C,data:=.fields #[.ref t,.none,.none,.none,.bool false,.none] }∧e≠h0∧s₁.heap.get? h0=some oo∧oo.data=.fields ws∧ws[2]?=some .none ∧
   E (.ref e) { s₁ with heap:=((s₁.heap.update e (Obj.mapFields (·.setIfInBounds 3 .none))).update e (Obj.mapFields (·.setIfInBounds 4 (.bool true)))).update e (Obj.mapFields (·.setIfInBounds 2 (.ref h0))) }) E s) :
  wpAny (model prog w) A (raiseStmt env (some x) (some y)) Q E s:=by
 unfold raiseStmt
 refine wpAny_bind (wpAny_mono h (fun v s₁ h₁=>?_) fun _ _ x=>x)
 obtain ⟨e,t,oo,ws,rfl,hC,he,hne,ho,hd,hw,k⟩:=h₁
 have hcB:(Value.ref C::bm).contains (.type "BaseException")=true:=by rw [List.contains_cons,hbase,Bool.or_true]
 obtain ⟨hp,g,d,tk,os⟩:=s₁
 refine wpAny_bind (wpAny_holding (hy _ _ (wpAny_bind (wpAny_pure ?_))))
 repeat (first | with_reducible refine wpAny_loadPart_at he ?_ | with_reducible refine wpAny_loadPart_at hC ?_ | (with_reducible refine wpAny_isSubtype_exc hC ?_;rw [hcB]) | wp_step)
 have Ce:e≠C:=fun z=>by rw [z] at he;rw [hC] at he;cases he
 have gC:((hp.update e (Obj.mapFields (·.setIfInBounds 3 Value.none))).update e (Obj.mapFields (·.setIfInBounds 4 (Value.bool true)))).get? C=some (excClassObj nm q C N bs bm hdct sn sub ab col dd k0 k1 k2 k3 k5 newId):=by
  rw [Heap.get?_update_other _ _ Ce,Heap.get?_update_other _ _ Ce];exact hC
 have ge:((hp.update e (Obj.mapFields (·.setIfInBounds 3 Value.none))).update e (Obj.mapFields (·.setIfInBounds 4 (Value.bool true)))).get? e=some { cls:=.ref C,data:=.fields #[.ref t,.none,.none,.none,.bool true,.none] }:=by
  rw [Heap.get?_update_self _ (Heap.get?_update_self _ he rfl) rfl];rfl
 have g0:((hp.update e (Obj.mapFields (·.setIfInBounds 3 Value.none))).update e (Obj.mapFields (·.setIfInBounds 4 (Value.bool true)))).get? h0=some oo:=by
  rw [Heap.get?_update_other _ _ hne,Heap.get?_update_other _ _ hne];exact ho
 refine wpAny_loadPart_at gC (wpAny_pure ?_)
 rw [if_pos (by rfl)]
 refine wpAny_pure ?_
 show wpAny _ _ (setFlight (.ref e) none >>= fun _=>raiseNew (.ref e)) _ _ _
 unfold setFlight
 refine wpAny_bind (wpAny_bind (wpAny_field (s:=⟨_,g,d,tk,os⟩) ge rfl (show (#[Value.ref t,.none,.none,.none,.bool true,.none]:Array Value)[1]?=some Value.none from rfl) ?_))
 rw [if_neg (by decide)]
 refine wpAny_pure ?_
 unfold raiseNew
 refine wpAny_bind (wpAny_handled ?_)
 rw [hh]
 have hn':(Value.ref h0 != Value.ref e)=true:=by simpa using fun z=>hne z.symm
 simp only [hn',if_pos]
 refine wpAny_bind (wpAny_holding (wpAny_runValue ?_))
 refine codeAny_builtin (entryFor_of_tree (by kernel_rfl):entryFor table "proto.unchain"=some Builtin.«proto.unchain») ?_
 unfold Builtin.«proto.unchain»
 refine wpAny_bind (wpAny_field (s:=⟨_,g,d,tk,os⟩) g0 hd hw ?_)
 rw [if_pos (by decide)]
 refine wpAny_bind (wpAny_pure (wpAny_pure ?_))
 show wpAny _ _ (updateField e 2 (Value.ref h0) >>= fun _=>throw (Value.ref e)) _ _ _
 unfold updateField
 repeat (first | with_reducible refine wpAny_loadPart_at ge ?_ | wp_step)
 exact k
theorem Ze1 (F:ExcBaseFacts B newId initId bmB) {mN:Str→Option Value} {x:Str} {np cpos pos cp:Pos} {j} {args:List Expr} {h0:Addr} {Q:Flow→Shared→Prop} (hbase:bm.contains (.type "BaseException")=true) (hh:A.handled=some (.ref h0)) (hplain:(backTo cpos (starEach args env)).any (·.1)=false) (hni:mN "__init__"=none)
  (h:wpAny (model prog w) A (eval (.Name x np) env) (fun f s₁=>f=.ref C∧wpAny (model prog w) A (evalArgs (.ref C) true (backTo cpos (starEach args env)) [])
   (fun a s₂=>a.kw=[]∧a.pos.length≤sizeLine∧s₂.heap.get? C=some (excClassObj nm q C N bs bm hdct sn sub ab col dd k0 k1 k2 k3 k5 newId)∧s₂.heap.Ns N mN∧OwnTail s₂.heap bmB bm∧(∃ oo ws,s₂.heap.get? h0=some oo∧oo.data=.fields ws∧ws[2]?=some .none) ∧
    ∀ h' e,Heap.MadeExcOf s₂.heap h' e (.ref C) a.pos→E (.ref e) { s₂ with heap:=((h'.update e (Obj.mapFields (·.setIfInBounds 3 .none))).update e (Obj.mapFields (·.setIfInBounds 4 (.bool true)))).update e (Obj.mapFields (·.setIfInBounds 2 (.ref h0))) }) E s₁) E s) :
  wpAny (model prog w) A (exec (.Raise (some (.Call (.Name x np) args [] cpos)) (some (.Constant .none j cp)) pos) env) Q E s:=by
 rw [arm_exec_Raise]
 simp only [evalOpt,Option.map]
 refine wpAny_bind (wpAny_standAt (Zcu (C:=C) (nm:=nm) (q:=q) (N:=N) (bs:=bs) (bm:=bm) (hdct:=hdct) (sn:=sn) (sub:=sub) (ab:=ab) (col:=col) (dd:=dd) (k0:=k0) (k1:=k1) (k2:=k2) (k3:=k3) (k5:=k5) (newId:=newId) hbase hh (fun R s1 hR=>?_) ?_))
 ·exact wpAny_bind (Constant_none (wpAny_bind (wpAny_standAt (wpAny_pure hR))))
 refine wpAny_bind (wpAny_mono (wpAny_Call_ofName (wpAny_mono h (fun f s₁ h₁=>?_) fun _ _ x=>x)) (fun v s₃ h₃=>wpAny_bind (wpAny_standAt (wpAny_pure h₃))) fun _ _ x=>x)
 obtain ⟨rfl,h₁⟩:=h₁
 unfold callWith
 refine wpAny_bind (wpAny_holding (wpAny_mono h₁ (fun a s₂ h₂=>wpAny_bind (wpAny_standAt ?_)) fun _ _ x=>x))
 obtain ⟨apos,akw⟩:=a
 obtain ⟨hkw,hlen,hC,hn,T,⟨oo,ws,ho,hd,hw⟩,h₂⟩:=h₂
 obtain rfl:akw=[]:=hkw
 obtain ⟨hp,g,d,tk,os⟩:=s₂
 simp only [hplain]
 refine wpAny_bind (wpAny_keeperOf_exc hC ?_)
 refine wpAny_bind (wpAny_call_exc_subT (hrest:=hlen) F T hC hn hni fun h' e hm=>wpAny_bind (wpAny_holding (wpAny_point (wpAny_pure ?_))))
 obtain ⟨t,ht,_,_⟩:=hm.there
 exact ⟨e,t,oo,ws,rfl,hm.keeps _ _ hC,ht,(fun z=>by have:=hm.new;rw [z,ho] at this;cases this),hm.keeps _ _ ho,hd,hw,h₂ h' e hm⟩
end
theorem Zfp {h:Heap}{e a t:Addr}{C:Addr}(he:h.get? e=some { cls:=.ref C,data:=.fields #[.ref t,.none,.none,.none,.bool false,.none] }) :
  (((h.update e (Obj.mapFields (·.setIfInBounds 3 Value.none))).update e (Obj.mapFields (·.setIfInBounds 4 (Value.bool true)))).update e (Obj.mapFields (·.setIfInBounds 2 (Value.ref a)))).get? e=some { cls:=.ref C,data:=.fields #[.ref t,.none,.ref a,.none,.bool true,.none] } ∧
  ∀ b,b≠e→(((h.update e (Obj.mapFields (·.setIfInBounds 3 Value.none))).update e (Obj.mapFields (·.setIfInBounds 4 (Value.bool true)))).update e (Obj.mapFields (·.setIfInBounds 2 (Value.ref a)))).get? b=h.get? b:=by
 constructor
 ·rw [Heap.get?_update_self _ (Heap.get?_update_self _ (Heap.get?_update_self _ he rfl) rfl) rfl];rfl
 ·intro b n
  rw [Heap.get?_update_other _ _ (Ne.symm n),Heap.get?_update_other _ _ (Ne.symm n),Heap.get?_update_other _ _ (Ne.symm n)]
structure XHd (K:PySem.W.Frag)(c:Nat):Prop where
 ex:∃ C,CN K c C∧PySem.W.exmOne K (.ref C) (.ref C)=some true∧¬ CN K 6 C
section
variable {X:Cx} {m:RetP} {pos hpos tp np cpos rpos cp mp:Pos} {jm jn:Nat} {body:List Stmt} {g:Sx} {x0:Str} {msg:Str}
theorem ZgH (c0:Nat)(hs:X.stack=X.env::X.outer)(hf:X.env.frame=some X.env.locals)(XH:XHd X.K c0)(hcl:XCl X.K 6)(hb:∀ E,PX (X.wish E) m body g)(hx0:xName c0=x0)
  (hg1:X.env.kindOf x0=some .globalImplicit:=by kernel_rfl) (hd1:(x0 == ("__debug__":Str))=false:=by kernel_rfl) (hg2:X.env.kindOf "NoNote"=some .globalImplicit:=by kernel_rfl) :
  PX1 X m (.Try body [.ExceptHandler (some (.Name x0 tp)) none [.Raise (some (.Call (.Name "NoNote" np) [.Constant (.str msg) jm mp] [] cpos)) (some (.Constant .none jn cp)) rpos] hpos] [] [] pos) (Zcm g c0 6):=⟨fun pins s σ H D0 I hh_=>el10 hh_ fun BF BH F env L o env' S e k=>by
 obtain ⟨C0,hC0,hexm,hn6⟩:=XH.ex
 obtain ⟨C6,hC6,hex6⟩:=hcl.ex
 subst hx0
 have kfin:∀ {s1:Shared} {f:Flow},L2.SP X pins D0 f s1→(match f with | .next=>wpAny (model X.prog X.w) X.A (execs [] X.env) (L2.SP X pins D0) X.xe s1 | f=>L2.SP X pins D0 f s1):=fun {s1 f} q=>by
  cases f with
  | next=>exact wpAny_execs_nil q
  | ret v=>exact q
  | brk=>exact q
  | cont=>exact q
 refine wpAny_Try_except (wpAny_mono ((hb fun e s1=>wpAny (model X.prog X.w) X.A (noteFrame e X.env) (fun _ s2=>wpAny (model X.prog X.w) X.A (setFlight e none) (fun _ s3=>wpAny (model X.prog X.w) X.A (handleBy e X.env [.ExceptHandler (some (.Name (xName c0) tp)) none [.Raise (some (.Call (.Name "NoNote" np) [.Constant (.str msg) jm mp] [] cpos)) (some (.Constant .none jn cp)) rpos] hpos]) (L2.SP X pins D0) X.xe s3) X.xe s2) X.xe s1).h pins s σ H D0 (I.wish _) ?_) (fun f s1 q=>kfin q.Zh) fun e s1 q=>q)
 unfold Zcm at e
 split at e
 ·rename_i o1 e1 hg
  cases e
  exact ⟨BF,BH,F,env,L,.ok o1,env',S,hg,k⟩
 ·rename_i c e1 hg
  split at e
  ·rename_i hcc
   subst hcc
   cases e
   refine ⟨BF,BH,F,env,L,.ex c,env',S,hg,fun F1 H1 σ1 L1 s1 a C B S1 z1 I1 x1 hcn=>?_⟩
   obtain rfl:=Zbw hC0 hcn
   have I1:Inv X pins σ1 H1 s1:=I1.Zh
   have x1:XSt X pins H1 s1 a C0 B:=⟨x1.st,x1.no,x1.ff,x1.cov,x1.it⟩
   have hhd:=I1.ok.hd
   show wpAny _ _ (noteFrame (.ref a) X.env) _ _ s1
   refine Y7 hs hf I1.ok.frames x1 fun g2 f2 u2=>?_
   refine land (s:={ s1 with heap:=g2 }) f2 fun g3 f3 u3=>?_
   have u13:=u2.trans u3
   have I3:Inv X pins σ1 H1 { s1 with heap:=g3 }:=Zw hs hf I1 x1 f3.st u13
   have x3:XSt X pins H1 { s1 with heap:=g3 } a C0 B:=ZbN (fl:=.none) x1 f3
   have J3:=Zb3 a I3
   refine wpAny_handleBy_cons (codeAny_handlers_test ?_) (by intro q;cases q)
   refine L2.JD (X:=mkH X a) J3 hg1 (PySem.W.mg_of I3.mod.kin I3.mod.glob hC0) ?_ hd1
   have LT:PySem.W.Looks (model X.prog X.w) g3 (typeOf (.ref a)) (.ref C0):=by
    obtain ⟨xo,ws,h1,h2,-⟩:=Zce f3.tr
    exact h2 ▸ (PySem.W.Looks.ld h1).andThen .now
   refine PySem.W.exm_one I3.kIn LT hexm _ _ _ _ (fun _ _ q=>q) ?_
   refine codeAny_handlers_suite ?_
   refine land (s:={ s1 with heap:=g3 }) f3 fun g4 f4 u4=>?_
   have I4:Inv X pins σ1 H1 { s1 with heap:=g4 }:=Zw (s:={ s1 with heap:=g3 }) hs hf I3 x3 f4.st u4
   have x4:XSt X pins H1 { s1 with heap:=g4 } a C0 B:=ZbN (s:={ s1 with heap:=g3 }) (fl:=.none) x3 f4
   obtain ⟨ha,-⟩:=ZfB hs hf I4 x4 (Zce f4.tr)
   obtain ⟨xo,ws,T,to,tw,⟨y1,y2,y3,y4⟩,⟨w1,w2⟩,-⟩:=id f4.tr
   have nfr:a ∉ frs X.stack:=fun z=>by
    obtain ⟨-,o',q,n⟩:=f4.ff.mem z
    rw [y1] at q;cases q;exact n ws y4
   have fc:=ZaE hs hf
   have Ip:Inv X (pins++[(a,xo)]) σ1 H1 { s1 with heap:=g4 }:=I4.ZaA fun q hq'=>(List.mem_append.mp hq').elim (fun z=>I4.pin q (List.mem_append_right _ z)) fun z=>by
    have e:q=(a,xo):=by simpa using z
    subst e
    refine ⟨y1,ha,fun z=>nfr (by rw [fc,← z];exact List.mem_cons_self),fun z=>nfr (by rw [fc];exact List.mem_cons_of_mem _ z),fun v e=>?_⟩
    have e:xo.data=_:=e
    rw [y4] at e;cases e
   have J4:=Zb3 a Ip
   obtain ⟨bm,N,nm,qn,bs,hd,sn,sub,ab,col,dd,k0,k1,k2,k3,k5,mN,c1,c2,c3,c4⟩:=Zc5 I1.mod.kin hex6
   have hmg:X.mg "NoNote"=some (.ref C6):=PySem.W.mg_of I1.mod.kin I1.mod.glob hC6
   refine wpAny_execs_cons ?_
   refine Ze1 (C:=C6) (nm:=nm) (q:=qn) (N:=N) (bs:=bs) (bm:=bm) (hdct:=hd) (sn:=sn) (sub:=sub) (ab:=ab) (col:=col) (dd:=dd) (k0:=k0) (k1:=k1) (k2:=k2) (k3:=k3) (k5:=k5) PySem.F.excBase_ValueError (mN:=mN) (h0:=a)
    (c4.hasType PySem.F.excBase_ValueError.hasBase) rfl rfl c3 (L2.JD (X:=mkH X a) J4 hg2 hmg ⟨rfl,?_⟩ (by decide))
   show wpAny _ _ (evalArgs (.ref C6) true ((false,eval (.Constant (.str msg) jm mp) X.env)::backTo cpos (starEach [] X.env)) []) _ _ _
   refine Calls.evalArgs_plain ?_
   have pa:PA (mkH X a) [.Constant (.str msg) jm mp] _:=L2.Zj L2.Zax L2.Jp rfl
   refine wpAny_mono (pa cpos _ _ σ1 H1 (fun vs H2=>vs=[.str msg]∧H2=H1) J4 ⟨rfl,rfl⟩) (fun us s5 q=>?_) fun _ _ z=>z.elim
   obtain ⟨vs,H2,J5,r,rfl,rfl⟩:=q
   have Iq:Inv X (pins++[(a,xo)]) σ1 H2 s5:=ZdM hhd J5
   have ga:=(Iq.pin (a,xo) (List.mem_append_right _ (List.mem_append_right _ (by simp)))).1
   have I5:Inv X pins σ1 H2 s5:=Iq.Zn
   refine ⟨rfl,?_,I5.bk _ _ c1,c2.keeps I5.bk,c4.keeps I5.bk,⟨xo,ws,ga,y4,w2 hn6⟩,fun h' e2 hm=>?_⟩
   ·rw [← r.length];show 1≤sizeLine;decide
   ·obtain ⟨I6,x6⟩:=XSt.made I5 hm
    obtain ⟨t,ht,_,_⟩:=hm.there
    obtain ⟨m1,m2⟩:=Zfp (a:=a) ht
    generalize hh6:((h'.update e2 (Obj.mapFields (·.setIfInBounds 3 Value.none))).update e2 (Obj.mapFields (·.setIfInBounds 4 (Value.bool true)))).update e2 (Obj.mapFields (·.setIfInBounds 2 (Value.ref a)))=h6 at m1 m2 ⊢
    have sg:(PySem.W.hideAll s5.heap (frs X.stack)).StaysIn h6:=fun b o q=>(m2 b fun z=>by rw [z,x6.no] at q;cases q).trans (x6.st b o q)
    have up:h'.UpToSlots h6:=fun b o q n=>⟨o.slots,(m2 b fun z=>by rw [z,ht] at q;cases q;exact n _ rfl).trans q⟩
    have I7:Inv X pins σ1 H2 { s5 with heap:=h6 }:=Zw (s:={ s5 with heap:=h' }) hs hf I6 x6 sg up
    have x7:XSt X pins H2 { s5 with heap:=h6 } e2 C6 (PySem.W.hideAll s5.heap (frs X.stack)):=⟨sg,x6.no,Zca up x6.ff,x6.cov,.inl ⟨_,_,⟨m1,rfl,rfl,rfl⟩,rfl,fun z=>absurd hC6 z⟩⟩
    show wpAny _ _ (noteFrame (.ref e2) X.env) _ _ _
    refine Y7 (s:={ s5 with heap:=h6 }) hs hf I7.ok.frames x7 fun g8 f8 u8=>?_
    have I8:Inv X pins σ1 H2 { s5 with heap:=g8 }:=Zw (s:={ s5 with heap:=h6 }) hs hf I7 x7 f8.st u8
    have x8:XSt X pins H2 { s5 with heap:=g8 } e2 C6 (PySem.W.hideAll s5.heap (frs X.stack)):=⟨f8.st,f8.no,f8.ff,x7.cov,.inr ⟨_,f8.tr⟩⟩
    obtain ⟨xo8,ws8,T8,to8,tw8,⟨v1,v2,v3,v4⟩,⟨w8,_⟩,_⟩:=id f8.tr
    show cameBackBy _ _ _ _ _ _
    unfold cameBackBy
    refine wpAny_bind (wpAny_field (s:={ s5 with heap:=g8 }) v1 v4 w8 ?_)
    rw [if_neg (by simp),hf]
    refine Zds (o:=some X.env.locals) (s:={ s5 with heap:=g8 }) f8 fun g9 f9 u9=>?_
    exact k F1 H2 σ1 L1 _ e2 C6 _ S1 z1 (Zw (s:={ s5 with heap:=g8 }) hs hf I8 x8 f9.st u9) ⟨f9.st,f9.no,f9.ff,x7.cov,.inr ⟨_,f9.tr⟩⟩ hC6
  ·cases e
 ·cases e⟩
end
end PV
set_option linter.all false
set_option Elab.async false
set_option maxRecDepth 100000
set_option maxHeartbeats 4000000
namespace PV
open PySem PySem.Spec PyProof.Rows
open L2 (V Hp HO Vals SqL SqT Same upd Cx PE PT PW PA PS PSs TE TT TA TS Inv RelV Zb Yb Jb Un)
section
variable {X:Cx} {m m1 m2:Md} {a b e:Expr} {f g:Ex} {pos p p2:Pos}
theorem ZfE:L2.Yu X (.builtin "len") (fun xs H Q=>∃ x:Str,xs=[.str x]∧x.length≤lim∧Q (.int x.length) H):=by
 intro pins s σ H xs us Q I r h
 obtain ⟨x,rfl,hl,q⟩:=h
 obtain ⟨u,rfl,ru⟩:=r.one
 obtain ⟨t,rfl⟩:=ru
 have hlm:lim=100000:=rfl
 exact PyProof.Rows.len_str (by omega) ⟨.int x.length,H,I.tok _,⟨_,rfl⟩,q⟩
theorem Zcx {p:Pos} (T:Bt X.mg) (ha:PD X m1 a f) (hg:X.env.kindOf "len"=some .globalImplicit:=by kernel_rfl) (hs:nst a=true:=by rfl):PD X m (.Call (.Name "len" p) [a] [] pos) (eF1 JH f) :=
 Zdf ZfE T.len PySem.boot_len (fun d y H' v Q e r k=>by
  unfold JH at e
  split at e
  ·split at e
   ·rename_i x hl
    cases e
    exact ⟨⟨x,by rw [Zz r],hl,k _ (by simp [Rep])⟩,rfl⟩
   ·cases e
  ·cases e) ha hg (by decide) (by decide) hs
theorem ZiC (ha:PD X m1 a f)(hb:PD X m2 b g)(hs:L2.Zd2 b:=by exact fun _ _=>rfl):PD X m (.Subscript a b pos) (eIxS f g):=PD.mk <| PE.of (L2.Zeb ha.r.h hb.r.h hs) fun σ H Q hh_=>el9 hh_ fun BF BH F env L d S e q=>by
 unfold eIxS eF2 at e
 split at e
 ·rename_i x y h1 h2
  unfold fIxS at e
  split at e
  ·rename_i z i
   split at e
   ·rename_i hz
    split at e
    ·rename_i c hc
     cases e
     have hlm:lim=100000:=rfl
     refine ⟨BF,BH,F,env,L,_,S,h1,fun v F1 H1 z1 r1=>⟨BF,BH,F1,env,L,_,S.ext z1,h2,fun w F2 H2 z2 r2=>⟨z,i,c,Zz r1,Yp r2,hz.1,by omega,hz.2.1,hc,q _ F2 H2 (z1.trans z2) (by simp [Rep])⟩⟩⟩
    ·cases e
   ·cases e
  ·cases e
 ·cases e
theorem ZiP:L2.SlR X (fun x lo hi H Q=>∃ z:Str,x=.str z∧z.length≤lim∧Q (.str (Txt.slice z lo hi)) H):=by
 intro pins s σ H x v vl vu lo hi sl Q I rx hs pl pu h
 obtain ⟨z,rfl,hz,q⟩:=h
 obtain ⟨t,rfl⟩:=rx
 have hlm:lim=100000:=rfl
 have hsl:=sizeLine_eq
 have hsz:z.length≤sizeLine:=by omega
 obtain ⟨o,ho,hc,hd⟩:=hs
 refine ⟨"str",_,F.slot_str_getitem.lookup,typeIs_str _ _ _,?_⟩
 have fin:∀ (t':Tok) (k:Nat),L2.EP X pins σ Q (.str (Txt.slice z lo hi) t') { s with toks:=k }:=fun t' k=>⟨.str _,H,I.tok k,⟨t',rfl⟩,q⟩
 cases pl with
 | none=>cases pu with
  | none=>exact wpAny_getItem_str_slice (l:=none) (u:=none) (st:=none) ⟨o,ho,hc,hd⟩ rfl (post_val_or_str ⟨Nat.le_trans (Txt.slice_le z _ _) hsz,fin⟩)
  | int j uj=>exact wpAny_getItem_str_slice (l:=none) (u:=some (j,uj)) (st:=none) ⟨o,ho,hc,hd⟩ rfl (post_val_or_str ⟨Nat.le_trans (Txt.slice_le z _ _) hsz,fin⟩)
 | int i ui=>cases pu with
  | none=>exact wpAny_getItem_str_slice (l:=some (i,ui)) (u:=none) (st:=none) ⟨o,ho,hc,hd⟩ rfl (post_val_or_str ⟨Nat.le_trans (Txt.slice_le z _ _) hsz,fin⟩)
  | int j uj=>exact wpAny_getItem_str_slice (l:=some (i,ui)) (u:=some (j,uj)) (st:=none) ⟨o,ho,hc,hd⟩ rfl (post_val_or_str ⟨Nat.le_trans (Txt.slice_le z _ _) hsz,fin⟩)
theorem Y5 {lo hi:Option Expr}{p2:Pos}{o1 o2:Env→Option (Option Int)}(ha:PD X m1 a f)(hl:POd X lo o1)(hh:POd X hi o2):PD X m (.Subscript a (.Slice lo hi none p2) pos) (Jr f o1 o2) :=
 PD.mk <| PE.of (L2.Zgj ZiP ha.r.h hl hh) fun σ H Q hh_=>el9 hh_ fun BF BH F env L d S e q=>by
  unfold Jr at e
  split at e
  ·rename_i x l u h1 h2 h3
   refine ⟨BF,BH,F,env,L,x,S,h1,fun v F1 H1 z1 r1=>⟨BF,BH,F1,env,L,l,S.ext z1,h2,fun F2 H2 z2=>⟨BF,BH,F2,env,L,u,(S.ext z1).ext z2,h3,fun F3 H3 z3=>?_⟩⟩⟩
   unfold Ze2 at e
   split at e
   ·split at e
    ·rename_i z hz
     cases e
     exact ⟨z,Zz r1,hz,q _ F3 H3 (z1.trans (z2.trans z3)) (by simp [Rep])⟩
    ·cases e
   ·cases e
  ·cases e
theorem ZhF:L2.MtR X "str.find" (fun x vs H Q=>∃ y z:Str,x=.str y∧vs=[.str z]∧Q (.int (Txt.find y z)) H):=by
 intro pins s σ H x vs v us Q I rx rv h
 obtain ⟨y,z,rfl,rfl,q⟩:=h
 obtain ⟨t,rfl⟩:=rx
 obtain ⟨u,rfl,ru⟩:=rv.one
 obtain ⟨t',rfl⟩:=ru
 exact SC.find ⟨.int _,H,I.tok _,⟨_,rfl⟩,q⟩
theorem ZhA {sep:Str}{j}{p1 p3 p4:Pos}(ha:PD X m1 a f)(hst:nst a=true:=by rfl)
  (hbase:attributeBase (.Constant (.str sep) j p1) "find" X.env (eval (.Constant (.str sep) j p1) X.env)=eval (.Constant (.str sep) j p1) X.env:=by rfl) (hline:(p3.endLine == p4.line)=true:=by rfl) :
  PD X m (.Call (.Attribute (.Constant (.str sep) j p1) "find" p3) [a] [] p4) (eF1 (ZaH sep) f) :=
 PD.mk <| PE.of (L2.Zbi PySem.F.plainAttrs_str PySem.F.slot_str_find PySem.F.type_str_find ZhF L2.Zax (L2.Zj ha.r.h L2.Jp (Yl hst)) hbase (by rw [ZK (ZS hst)];rfl) hline (Yd hst) rfl) fun σ H Q hh_=>el9 hh_ fun BF BH F env L d S e q=>by
  unfold eF1 at e
  split at e
  ·rename_i y h1
   unfold ZaH at e
   split at e
   ·rename_i z
    cases e
    exact ⟨rfl,BF,BH,F,env,L,_,S,h1,fun v F' H' zz r1=>⟨sep,z,rfl,by rw [Zz r1],q _ F' H' zz (by simp [Rep])⟩⟩
   ·cases e
  ·cases e
theorem ZfX:L2.Yu X (.type "int") (fun xs H Q=>∃ (x:Str) (n:Int),xs=[.str x]∧PySem.intText? x=some n∧x.length≤640∧Q (.int n) H):=by
 intro pins s σ H xs us Q I r h
 obtain ⟨x,n,rfl,hn,hl,q⟩:=h
 obtain ⟨u,rfl,ru⟩:=r.one
 obtain ⟨t,rfl⟩:=ru
 exact PySem.W.KIN.call_text hn hl ⟨.int n,H,I.tok _,⟨_,rfl⟩,q⟩
theorem ZhE {p:Pos} (T:Bt X.mg) (ha:PD X m1 a f) (hg:X.env.kindOf "int"=some .globalImplicit:=by kernel_rfl) (hs:nst a=true:=by rfl):PD X m (.Call (.Name "int" p) [a] [] pos) (eF1 Zbd f) :=
 Zg0 ZfX T.int (by decide +kernel) (fun d y H' v Q e r k=>by
  unfold Zbd at e
  split at e
  ·split at e
   ·rename_i x hl
    split at e
    ·rename_i n hn
     cases e
     exact ⟨⟨x,n,by rw [Zz r],hn,hl,k _ (by simp [Rep])⟩,rfl⟩
    ·cases e
   ·cases e
  ·cases e) ha hg (by decide) (by decide) hs
noncomputable def Itz (z:Str):L2.It:=⟨fun i _=>i < z.length,fun i H v H'=>H'=H∧∃ c,z.cps[i]?=some c∧v=.str ⟨#[c]⟩,fun i _=>z.length≤i⟩
theorem Zge {P:Program}{w:World}{K:PySem.W.Frag}{tg:Expr}(z:Str)(t:Tok)(it:Addr):L2.Turn P w K tg (Itz z) [it] it (fun i h=>h.IsStrIter it "str_ascii_iterator" z t i) where
 mem:=by simp
 obj:=fun i h st b hb=>by
  have e:b=it:=by simpa using hb
  subst e
  obtain ⟨o,e,c,d⟩:=st
  exact ⟨o,e,fun v z=>by rw [d] at z;cases z⟩
 keep:=fun i h h' st k=>let ⟨o,e,r⟩:=st;⟨o,k it (by simp) o e,r⟩
 item:=by
  intro X hP hw hK hc i pins s σ H E I hf st hg
  subst hP hw hK
  have hg:i < z.cps.size:=hg
  obtain ⟨f0,f1,f2,f3,f4,f5⟩:=hf it (by simp)
  refine wpAny_pyNext_ascii_item st (Array.getElem?_eq_getElem hg) fun h' st' sb=>?_
  have I1:Inv X pins σ H { s with heap:=h',toks:=s.toks + 1 }:=I.turned (t':=s.toks + 1) (fun b o hb e=>(sb.2 b hb).trans e) f0 f1 f3 f4 f5
  obtain ⟨o,e,c,d⟩:=id st'
  exact ⟨_,rfl,L2.Zdd (s:={ s with heap:=h',toks:=s.toks + 1 }) e c d (by decide) ⟨.str _,H,I1,⟨_,rfl⟩,⟨rfl,_,Array.getElem?_eq_getElem hg,rfl⟩,st',fun b hb=>(hf b hb).1⟩⟩
 done:=by
  intro X hP hw hK hc i pins s σ H E I hf st hg
  subst hP hw hK
  have hg:z.cps.size≤i:=hg
  obtain ⟨f0,f1,f2,f3,f4,f5⟩:=hf it (by simp)
  exact wpAny_pyNext_ascii_end (I.ok.hd hc) st (Array.getElem?_eq_none hg) fun h' eb=>⟨rfl,I.turned (t':=s.toks) (fun b o hb e=>eb b o hb e) f0 f1 f3 f4 f5⟩
 self:=fun _ _ _ _ _ st h=>wpAny_pyIter_striter_ascii st h
theorem ZiT {tg:Expr}(ha:PD X m1 a f):PId X tg a (iStr f):=fun pins s σ H R I hh_=>el9 hh_ fun BF BH F env L ds S e q=>by
 unfold iStr at e
 split at e
 ·rename_i z h1
  split at e
  ·rename_i hz
   cases e
   refine L2.thn (ha.r.h pins s σ H (fun v H1=>∃ F',Ext F H F' H1∧v=.str z) I ⟨BF,BH,F,env,L,_,S,h1,fun v F' H' zz r=>⟨F',zz,Zz r⟩⟩) fun v s1 ⟨x,H1,I1,r1,F1,z1,hx⟩=>?_
   subst hx
   obtain ⟨t,rfl⟩:=r1
   refine wpAny_pyIter_ascii hz.1 ?_
   refine ⟨s1.heap.objs.size,[s1.heap.objs.size],_,Itz z,H1,rfl,I1.kept (t':=s1.toks) fun b o e=>Heap.get?_push_of_some _ e,Zge z t _,⟨_,Heap.get?_push_size _ rfl,rfl,rfl⟩,fun b hb=>?_,q _ F1 H1 z1 ⟨fun H2 _=>?_,fun i H2 _ hi=>?_,fun i H2 x H3 F0 s1 s2 hi hy=>?_⟩⟩
   ·have e:b=s1.heap.objs.size:=by simpa using hb
    subst e
    exact I1.fpOk (Nat.le_refl _) (I1.hok.fresh (Nat.le_refl _))
   ·show z.cps.size≤_;simp
   ·show i < z.cps.size;simpa using hi
   ·obtain ⟨rfl,c,hc,rfl⟩:=hy
    have hc':z.cps.toList[i]?=some c:=by rw [Array.getElem?_toList];exact hc
    exact ⟨.str ⟨#[c]⟩,F0,by rw [List.getElem?_map,hc'];rfl,.refl s2,by simp [Rep]⟩
  ·cases e
 ·cases e
theorem Zdn:∀ {ns:List Int},0 < ns.length→maxL ns ∈ ns∧∀ x ∈ ns,x≤maxL ns
 | [],h=>by simp at h
 | [n],_=>by simp [maxL]
 | n::k::ns,_=>by
  obtain ⟨h1,h2⟩:=Zdn (ns:=k::ns) (by simp)
  simp only [maxL]
  constructor
  ·rcases Int.le_total n (maxL (k::ns)) with h | h
   ·rw [Int.max_eq_right h];exact List.mem_cons_of_mem _ h1
   ·rw [Int.max_eq_left h];exact List.mem_cons_self
  ·intro x hx
   rcases List.mem_cons.mp hx with rfl | hx
   ·exact Int.le_max_left _ _
   ·exact Int.le_trans (h2 x hx) (Int.le_max_right _ _)
theorem Zff (hc:X.calm=true):L2.Yu X (.builtin "max") (fun xs H Q=>∃ (l:Addr) (ns:List Int),xs=[.ref l]∧SqL X.K H l (ns.map V.int)∧0 < ns.length∧Q (.int (maxL ns)) H):=by
 intro pins s σ H xs us Q I r h
 obtain ⟨l,ns,rfl,hs,hn,q⟩:=h
 obtain ⟨u,rfl,ru⟩:=r.one
 cases ru
 obtain ⟨its,rv,pl,hz⟩:=I.list hs
 have hi:=L2.intsAre_of rv
 obtain ⟨xs,e⟩:=hi.allInts.items
 have hns:ns=xs.toList.map (·.1):=by rw [← hi.numsOf,← nums_intItems,← e]
 have hsz:0 < xs.size:=by
  have h3:=hn;rw [hns,List.length_map,Array.length_toList] at h3;exact h3
 have hl:=pl.isList
 rw [e] at hl
 refine max_intList (I.ok.hd hc) hl hsz fun v h' tk hv hk=>?_
 obtain ⟨t,rfl⟩:=intItems_at hv
 obtain ⟨h1,h2⟩:=argBest_gt (numAt xs) (xs.size - 1)
 have hm:numAt xs (argBest (fun i j=>decide (numAt xs i > numAt xs j)) (xs.size - 1))=maxL ns:=by
  obtain ⟨m1,m2⟩:=Zdn hn
  refine Int.le_antisymm (m2 _ ?_) ?_
  ·rw [hns,numAt_eq];exact getD_mem (by rw [List.length_map,Array.length_toList];omega)
  ·rw [hns] at m1
   obtain ⟨j,hj,e2⟩:=mem_getD m1
   rw [List.length_map,Array.length_toList] at hj
   rw [hns,← e2,← numAt_eq];exact h2 j (by omega)
 rw [hm]
 exact ⟨.int _,H,I.kept (t':=tk) hk,⟨t,rfl⟩,q⟩
theorem Zhq {p:Pos} (T:Bt X.mg) (ha:PD X m1 a f) (hc:X.calm=true:=by rfl) (hg:X.env.kindOf "max"=some .globalImplicit:=by kernel_rfl) (hs:nst a=true:=by rfl):PD X m (.Call (.Name "max" p) [a] [] pos) (eF1 ZbU f) :=
 Zdf (Zff hc) T.max boot_max (fun d y H' v Q e r k=>by
  unfold ZbU at e
  split at e
  ·rename_i xs
   split at e
   ·rename_i ns hn
    split at e
    ·rename_i h0
     cases e
     simp only [Rep] at r
     obtain ⟨l,vs,rfl,s1,t1⟩:=r
     rw [ints_of hn] at t1
     rw [Zcf t1] at s1
     exact ⟨⟨l,ns,rfl,s1,h0,k _ (by simp [Rep])⟩,rfl⟩
    ·cases e
   ·cases e
  ·cases e) ha hg (by decide) (by decide) hs
theorem ZdV {K:PySem.W.Frag}{H:Hp}{ds:List D}{vs:List V}(r:Reps K H ds vs):∀ n:Nat,Reps K H (List.replicate n ds).flatten (List.replicate n vs).flatten
 | 0=>by simp [Reps]
 | n + 1=>by
  rw [List.replicate_succ,List.replicate_succ,List.flatten_cons,List.flatten_cons]
  exact r.append (ZdV r n)
theorem ZfC {es:List Expr}{n:Int}{j}{p1 p2:Pos}(ha:PDo X m (.List es p1) f):PD X m (.BinOp (.List es p1) .Mult (.Constant (.int n) j p2) pos) (eRep f (eC (.int n))):=PD.mk <| PE.of (L2.Zdj L2.ZiI ha L2.ZfP) fun σ H Q hh_=>el9 hh_ fun BF BH F env L d S e q=>by
 unfold eRep eF2 at e
 split at e
 ·rename_i x y h1 h2
  cases h2
  unfold fRep at e
  split at e
  ·rename_i xs n0 heq
   cases heq
   split at e
   ·rename_i hl
    cases e
    refine ⟨BF,BH,F,env,L,xs,S,h1,fun p vs F' H' z h0 hp' hf r=>?_⟩
    have hlm:lim≤sizeLine:=Zb1
    refine ⟨p,_,vs,rfl,rfl,hp',by omega,by omega,?_,fun p2 hp=>?_⟩
    ·rw [← r.length];exact Nat.le_trans hl.2.2.1 hlm
    ·have y:=Ext.laid (o:=HO.lst (List.replicate n.toNat vs).flatten) z.fh hp
     refine q (.ref p2) _ _ (z.trans y) ?_
     simp only [Rep]
     refine ⟨p2,_,rfl,.inl (.inl ?_),Reps.mono (YS y m) _ _ (ZdV r _)⟩
     cases m with
     | r=>exact Zb
     | k=>exact Zb
     | f=>show cut _ _ p2=_;rw [Zau (S.s0.free (z.hh.free hp))];exact Zb
   ·cases e
  ·cases e
 ·cases e
end
end PV
set_option linter.all false
set_option Elab.async false
namespace PV
open PySem PySem.Spec PyProof.Rows
open L2 (V Hp HO Same Cx)
theorem Zc2 {K:PySem.W.Frag}{H:Hp}:∀ ns:List Int,Reps K H (ns.map D.int) (ns.map V.int)
 | []=>Reps.nil
 | n::r=>by
  rw [List.map_cons,List.map_cons]
  exact Reps.cons (by simp [Rep]) (Zc2 r)
theorem Zfh {K:PySem.W.Frag}{H:Hp}{a:Addr}{ns:List Int}{φ:List D→Option D}{z}(h:φ [rowD ns]=some (.bl true))(hS:L2.SqL K H a (ns.map V.int)) :
  spR K (rk K .k) φ [.ref a] H (fun v _=>v=.bl true) z :=
 ⟨H,[rowD ns],.bl true,.refl H,Reps.cons (by unfold rowD;simp only [Rep];exact ⟨a,_,rfl,hS,Zc2 ns⟩) Reps.nil,h,fun v F' H' _ r=>by
  simp only [rk,Rep] at r
  exact r⟩
end PV
set_option linter.all false
set_option Elab.async false
namespace PV
open PySem (Str)
noncomputable def ZaU:St:=(sRet (eB (tAnd (t2I pGe (eVar 1) (eC (.int 0))) (t2I pLt (eVar 1) (eF1 fLen (eVar 0))))))
noncomputable def Jv:List D→Option D:=run 2 2 ZaU
noncomputable def Za4:Sx:=(xSeq (xOf (sSet 1 (eF1 fLen (eVar 0)))) (xSeq (xIf (tOr (t2I pLt (eVar 1) (eC (.int 1))) (t2I pGt (eVar 1) (eC (.int 12)))) (ZX 0) (xOf Jg)) (xFor (gN 2) (iOf (eVar 0)) (xSeq (xIf (tNe (eF1 fLen (eVar 2)) (eVar 1)) (ZX 0) (xOf Jg)) (xIf (tNot (tB (eF1 fAll (Yg 3 (iOf (eVar 2)) Yj (Jh Jv [(eVar 0),(eVar 3)]))))) (ZX 0) (xOf Jg))))))
noncomputable def Yv:Fx:=runX 1 4 Za4
noncomputable def Zas:Sx:=(xSeq (xOf (sSet 1 (Yg 2 (iRng (eC (.int 12))) Yj (eF1 fStr (eVar 2))))) (xSeq (xIf (tNi (eVar 0) (eVar 1)) (ZX 6) (xOf Jg)) (xOf (sRet (eF2 Zcb (eVar 1) (eVar 0))))))
noncomputable def Ym:Fx:=runX 1 3 Zas
noncomputable def Zbz:Sx:=(Zbt (JM 1 (iOf (eF1 (Zv 32) (eVar 0))) (YH Ym [(eVar 1)])))
noncomputable def Yy:Fx:=runX 1 2 Zbz
noncomputable def Zei:Sx:=(xSeq (Zbr 1 (JM 2 (iOf (eF1 (Zv 47) (eVar 0))) (YH Yy [(eVar 2)]))) (xSeq (Zcm (xDo Yv [(eVar 1)]) 0 6) (xOf (sRet (eVar 1)))))
noncomputable def ZL:Fx:=runX 1 3 Zei
noncomputable def ZaP:St:=(sSeq (sIf (t2I pLt (eVar 1) (eF1 fLen (eVar 0))) (sRet (eIx (eVar 0) (eVar 1))) Jg) (sRet (eC (.int 0))))
noncomputable def Jd:List D→Option D:=run 2 2 ZaP
noncomputable def Zcc:St:=(sSeq (sIf (tEq (e2I iMod (eVar 0) (eC (.int 2))) (eC (.int 0))) (sSeq (sSet 3 (e2I iDiv (eVar 0) (eC (.int 2)))) (sSeq (sFor (gN 4) (iRng (eVar 1)) (sSet 3 (e2I iDiv (eVar 3) (eVar 2)))) (sRet (e2I iMod (eVar 3) (eVar 2))))) Jg) (sSeq (sSet 5 (e2I iMod (e2I iMul (eAdd (eAdd (e2I iMod (eVar 0) (eC (.int 2147483647))) (e2I iMul (eC (.int 977)) (eVar 1))) (eC (.int 1))) (eC (.int 48271))) (eC (.int 2147483647)))) (sSeq (sSet 5 (e2I iMod (e2I iMul (eVar 5) (eVar 5)) (eC (.int 2147483629)))) (sSeq (sSet 5 (e2I iMod (e2I iMul (eAdd (eVar 5) (e2I iMul (eC (.int 40692)) (eAdd (eVar 1) (eC (.int 3))))) (eC (.int 69621))) (eC (.int 2147483647)))) (sRet (e2I iMod (e2I iDiv (eVar 5) (eC (.int 8))) (eVar 2)))))))
noncomputable def Zx:List D→Option D:=run 3 6 Zcc
noncomputable def Z0:St:=(sSeq (sSet 1 (eLst [(eIsX [6] 0 0),(eIsX [6] 0 1),(eIsX [6] 0 2)])) (sSeq (sSet 1 (eAdd (eVar 1) (eLst [(eIsX [6] 0 3),(eIsX [6] 0 4),(eIsX [6] 0 5)]))) (sSeq (sSet 1 (eAdd (eVar 1) (eLst [(eIsX [6] 0 6)]))) (sSeq (sIf (tOr (tNe (eF2 ZdW (eVar 1) (eC (.bl true))) (eC (.int 1))) (tNot (tB (eIsV [6] 0)))) (sRet (eC (.str "other"))) Jg) (sRet (eIx (eLst [(eC (.str "table")),(eC (.str "folk")),(eC (.str "element")),(eC (.str "part")),(eC (.str "loose")),(eC (.str "large")),(eC (.str "note"))]) (eF2 Zcb (eVar 1) (eC (.bl true)))))))))
noncomputable def Zk:Nat→Option D:=runW 2 Z0
noncomputable def Zc3:St:=(sSeq (sOwn 1 (eLst [])) (sSeq (sFor (gN 2) (iOf (eF1 (Zv 47) (eVar 0))) (sSeq (sOwn 3 (eLst [])) (sSeq (sFor (gN 4) (iOf (eF1 (Zv 32) (eVar 2))) (sSeq (sIf (tOr (tEq (eVar 4) (eC (.str ""))) (tOr (t2I pGt (eF1 JH (eVar 4)) (eC (.int 40))) (tAnd (t2I pGt (eF1 JH (eVar 4)) (eC (.int 1))) (tEq (eIxS (eVar 4) (eC (.int 0))) (eC (.str "0")))))) (sRet (eC .non)) Jg) (sSeq (sIf (t2I pGt (eF1 fLen (Yg 5 (iStr (eVar 4)) (t2I pLt (eF1 (ZaH "0123456789") (eVar 5)) (eC (.int 0))) (eVar 5))) (eC (.int 0))) (sRet (eC .non)) Jg) (sApp 3 (eF1 Zbd (eVar 4)))))) (sSeq (sFrz 3) (sApp 1 (eVar 3)))))) (sSeq (sSet 6 (eF1 fLen (Zco 1))) (sSeq (sFrz 1) (sSeq (sFor (gN 3) (iOf (eVar 1)) (sIf (tOr (tNe (eF1 fLen (Zco 3)) (eVar 6)) (t2I pGe (eF1 ZbU (Zco 3)) (eVar 6))) (sRet (eC .non)) Jg)) (sSeq (sIf (t2I pGt (eVar 6) (eC (.int 12))) (sRet (eC .non)) Jg) (sSeq (sFrz 1) (sRet (eVar 1)))))))))
noncomputable def YK:List D→Option D:=run 1 7 Zc3
noncomputable def Zck:St:=(sTry (xRet ZL [(eVar 0)]) Zk)
noncomputable def JF:List D→Option D:=run 1 2 Zck
noncomputable def ZQ:St:=(sSeq (sSet 2 (eLst [(eC (.str " ")),(eC (.str "0")),(eC (.str "1")),(eC (.str "2")),(eC (.str "9")),(eC (.str "-")),(eC (.str "+")),(eC (.str "_")),(eC (.str ".")),(eC (.str "\t")),(eC (.str "\n")),(eC (.str "a")),(eC (.str ",")),(eC (.str "/")),(eC (.str "3")),(eC (.str "8"))])) (sSeq (sSet 3 (eIx (eVar 2) (e2I iMod (Jh Jd [(eVar 0),(eC (.int 4))]) (eC (.int 16))))) (sSeq (sSet 4 (e2I iMod (Jh Jd [(eVar 0),(eC (.int 5))]) (eAdd (eF1 JH (eVar 1)) (eC (.int 1))))) (sSeq (sSet 5 (e2I iMod (Jh Jd [(eVar 0),(eC (.int 6))]) (eC (.int 4)))) (sSeq (sIf (tEq (eVar 5) (eC (.int 0))) (sRet (eCat (eCat (Jr (eVar 1) oNo (oAt (eVar 4))) (eVar 3)) (Jr (eVar 1) (oAt (eVar 4)) oNo))) Jg) (sSeq (sIf (tEq (eVar 5) (eC (.int 1))) (sRet (eCat (Jr (eVar 1) oNo (oAt (eVar 4))) (Jr (eVar 1) (oAt (eAdd (eVar 4) (eC (.int 1)))) oNo))) Jg) (sSeq (sIf (tEq (eVar 5) (eC (.int 2))) (sRet (eCat (eCat (Jr (eVar 1) oNo (oAt (eVar 4))) (eVar 3)) (Jr (eVar 1) (oAt (eAdd (eVar 4) (eC (.int 1)))) oNo))) Jg) (sSeq (sSet 6 (eLst [(eC (.str "")),(eC (.str " ")),(eC (.str "0")),(eC (.str "1")),(eC (.str "00")),(eC (.str "0 1/1 0")),(eC (.str "0 1/1 0/")),(eC (.str "/0")),(eC (.str "0 1/1  0")),(eC (.str "0 1 /1 0")),(eC (.str "0 1/1 2")),(eC (.str "0 1/1")),(eC (.str "01 1/1 0"))])) (sSeq (sSet 6 (eAdd (eVar 6) (eLst [(eC (.str "0 1/1_0 0")),(eC (.str "+0")),(eC (.str "0\n")),(eC (.str "0 1\t1 0")),(eF1 (Yr "/") (eRep (eLst [(eF1 (Yr " ") (eRep (eLst [(eC (.str "0"))]) (eC (.int 13))))]) (eC (.int 13)))),(eC (.str "-0")),(eC (.str "0 1/1 00"))]))) (sRet (eIx (eVar 6) (e2I iMod (Jh Jd [(eVar 0),(eC (.int 7))]) (eC (.int 20))))))))))))))
noncomputable def YB:List D→Option D:=run 2 7 ZQ
noncomputable def ZgS:St:=(sSeq (sSet 1 (eAdd (eC (.int 1)) (e2I iMod (Jh Jd [(eVar 0),(eC (.int 0))]) (eC (.int 12))))) (sSeq (sSet 2 (Jh Jd [(eVar 0),(eC (.int 1))])) (sSeq (sSet 3 (Yg 5 (iRng (eVar 1)) Yj (Yg 4 (iRng (eVar 1)) Yj (Jh Zx [(eVar 2),(eAdd (e2I iMul (eVar 5) (eVar 1)) (eVar 4)),(eVar 1)])))) (sSeq (sSet 6 (eF1 (Yr "/") (Yg 8 (iOf (eVar 3)) Yj (eF1 (Yr " ") (Yg 7 (iOf (eVar 8)) Yj (eF1 fStr (eVar 7))))))) (sSeq (sIf (t2I pGt (e2I iMod (Jh Jd [(eVar 0),(eC (.int 3))]) (eC (.int 4))) (eC (.int 0))) (sSet 6 (Jh YB [(eVar 0),(eVar 6)])) Jg) (sSeq (sSet 9 (Jh YK [(eVar 6)])) (sSeq (sSet 10 (Jh JF [(eVar 6)])) (sSeq (sIf (tIsN (eVar 9)) (sRet (eB (tEq (eVar 10) (eC (.str "note"))))) Jg) (sRet (eB (tAnd (tB (eF1 (fIs .list) (eVar 10))) (tEq (eVar 10) (eVar 9)))))))))))))
noncomputable def Zcg:List D→Option D:=run 1 11 ZgS
end PV
set_option linter.all false
set_option Elab.async false
set_option maxHeartbeats 2000000
namespace PV
open PySem (Str)
end PV
namespace PV
open PySem (Str)
end PV
namespace PV
open PySem (Str)
end PV
namespace PV
open PySem (Str)
noncomputable def ZD (ns:List Int) (k:Nat):Int:=ns.getD k 0
theorem YC (ns:List Int)(k:Nat):Jd [rowD ns,.int k]=some (.int (ZD ns k)):=by
 have t1:t2I pLt (eVar 1) (eF1 fLen (eVar 0)) (enter 2 [rowD ns,.int k])=some (decide ((k:Int) < ns.length)):=by
  have h:eF1 fLen (eVar 0) (enter 2 [rowD ns,.int k])=some (.int ns.length):=(ZiO (x:=rowD ns) rfl).trans (Zdm ns)
  simp only [t2I,h];rfl
 by_cases hk:(k:Int) < ns.length
 ·rw [decide_eq_true hk] at t1
  refine Za5 rfl (Zef ((ZfR t1).trans (Zbc ?_)))
  show fIx (rowD ns) (.int k)=_
  rw [Zhd (by omega) hk]
  simp [ZD]
 ·rw [decide_eq_false hk] at t1
  have e:ZD ns k=0:=by unfold ZD;rw [List.getD_eq_getElem?_getD,List.getElem?_eq_none (by omega)];rfl
  rw [e]
  exact Za5 rfl ((JR ((ZfZ t1).trans ZdI)).trans (Zbc rfl))
theorem Zr {f:Int→Int→Option D}{a b:Ex}{env:Env}{i j:Int}(h1:a env=some (.int i))(h2:b env=some (.int j)):e2I f a b env=f i j:=by simp [e2I,h1,h2]
theorem ZV {i j:Int}(h:0 < j):iMod i j=some (.int (i % j)):=by unfold iMod;rw [if_pos h]
theorem Zcs {i j:Int}(h:0 < j)(h2:j < 1073741824):iDiv i j=some (.int (i / j)):=by unfold iDiv;rw [if_pos ⟨h,h2⟩]
theorem Zdo {i j:Int}(h:-18446744073709551616 < i)(h2:i < 18446744073709551616):iMul i j=some (.int (i * j)):=by unfold iMul;rw [if_pos (.inl ⟨h,h2⟩)]
theorem Zf7 {i j:Int}(h:-18446744073709551616 < j)(h2:j < 18446744073709551616):iMul i j=some (.int (i * j)):=by unfold iMul;rw [if_pos (.inr ⟨h,h2⟩)]
theorem ZaD {a b:Ex}{env:Env}{i j:Int}(h1:a env=some (.int i))(h2:b env=some (.int j)):eAdd a b env=some (.int (i + j)):=by simp [eAdd,eF2,h1,h2,fAdd]
theorem Zd7 (c : Int)(k : Nat)(bound : Int)(hk : k ≤ 1000)(hb : 0 < bound)(hb2 : bound ≤ 12) : ∃ r : Int, Zx [.int c, .int k, .int bound] = some (.int r) ∧ 0 ≤ r ∧ r < bound := by
  have t1 : tEq (e2I iMod (eVar 0) (eC (.int 2))) (eC (.int 0)) (enter 6 [.int c, .int k, .int bound]) = some (c % 2 == 0) :=
    Zem ((Zr (i := c) (j := 2) rfl rfl).trans (ZV (by decide))) rfl
  by_cases h2 : (c % 2 == 0) = true
  · rw [h2] at t1
    have s1 : sSet 3 (e2I iDiv (eVar 0) (eC (.int 2))) (enter 6 [.int c, .int k, .int bound]) = some (.nx, [.sh (.int c), .sh (.int k), .sh (.int bound), .sh (.int (c / 2)), .un, .un]) := by
      rw [Zan ((Zr (i := c) (j := 2) rfl rfl).trans (Zcs (by decide) (by decide)))]; rfl
    have key := ZgF (g := gN 4) (ds := ZC 0 k) (b := sSet 3 (e2I iDiv (eVar 3) (eVar 2))) (fun _ env => Agr [3, 4] env [.sh (.int c), .sh (.int k), .sh (.int bound), .sh (.int (c / 2)), .un, .un] ∧ ∃ l : Int, eVar 3 env = some (.int l))
      (fun j d env hd ⟨hA, l, hl⟩ => by
        have A1 : Agr [3, 4] (env.set 4 (.sh d)) [.sh (.int c), .sh (.int k), .sh (.int bound), .sh (.int (c / 2)), .un, .un] := hA.set (by simp) _
        have v3 : eVar 3 (env.set 4 (.sh d)) = some (.int l) := by rw [Zd8 (by decide)]; exact hl
        have v2 : eVar 2 (env.set 4 (.sh d)) = some (.int bound) := by rw [A1.var (by decide)]; rfl
        refine ⟨_, _, rfl, Zan ((Zr v3 v2).trans (Zcs hb (by omega))), A1.set (by simp) _, _, Zgr (by rw [A1.len]; simp)⟩)
      [.sh (.int c), .sh (.int k), .sh (.int bound), .sh (.int (c / 2)), .un, .un] ⟨Agr.refl _ _, _, rfl⟩
    obtain ⟨e1, x, hA, l, hl⟩ := key
    rw [← Zg7 (it := iRng (eVar 1)) (ZeB rfl hk)] at x
    have v2 : eVar 2 e1 = some (.int bound) := by rw [hA.var (by decide)]; rfl
    refine ⟨l % bound, Za5 rfl (Zef ((ZfR t1).trans ((JR s1).trans ((JR x).trans (Zbc ((Zr hl v2).trans (ZV hb))))))), Int.emod_nonneg _ (by omega), Int.emod_lt_of_pos _ hb⟩
  · rw [Bool.not_eq_true] at h2
    rw [h2] at t1
    let q1 : Int := (c % 2147483647 + 977 * k + 1) * 48271 % 2147483647
    have m0 := Int.emod_nonneg c (show (2147483647 : Int) ≠ 0 by decide)
    have m0' := Int.emod_lt_of_pos c (show (0 : Int) < 2147483647 by decide)
    have n1 : 0 ≤ q1 := Int.emod_nonneg _ (by decide)
    have n1' : q1 < 2147483647 := Int.emod_lt_of_pos _ (by decide)
    let q2 : Int := q1 * q1 % 2147483629
    have n2 : 0 ≤ q2 := Int.emod_nonneg _ (by decide)
    have n2' : q2 < 2147483629 := Int.emod_lt_of_pos _ (by decide)
    let q3 : Int := (q2 + 40692 * (k + 3)) * 69621 % 2147483647
    have n3 : 0 ≤ q3 := Int.emod_nonneg _ (by decide)
    have s1 : sSet 5 (e2I iMod (e2I iMul (eAdd (eAdd (e2I iMod (eVar 0) (eC (.int 2147483647))) (e2I iMul (eC (.int 977)) (eVar 1))) (eC (.int 1))) (eC (.int 48271))) (eC (.int 2147483647))) (enter 6 [.int c, .int k, .int bound]) =
        some (.nx, [.sh (.int c), .sh (.int k), .sh (.int bound), .un, .un, .sh (.int q1)]) := by
      rw [Zan ((Zr ((Zr (ZaD (ZaD ((Zr (i := c) (j := 2147483647) rfl rfl).trans (ZV (by decide))) ((Zr (i := 977) (j := k) rfl rfl).trans (Zdo (by decide) (by decide)))) rfl) rfl).trans (Zf7 (j := 48271) (by decide) (by decide))) rfl).trans (ZV (by decide)))]
      rfl
    have s2 : sSet 5 (e2I iMod (e2I iMul (eVar 5) (eVar 5)) (eC (.int 2147483629))) [.sh (.int c), .sh (.int k), .sh (.int bound), .un, .un, .sh (.int q1)] =
        some (.nx, [.sh (.int c), .sh (.int k), .sh (.int bound), .un, .un, .sh (.int q2)]) := by
      rw [Zan ((Zr ((Zr (i := q1) (j := q1) rfl rfl).trans (Zdo (by omega) (by omega))) rfl).trans (ZV (by decide)))]
      rfl
    have s3 : sSet 5 (e2I iMod (e2I iMul (eAdd (eVar 5) (e2I iMul (eC (.int 40692)) (eAdd (eVar 1) (eC (.int 3))))) (eC (.int 69621))) (eC (.int 2147483647))) [.sh (.int c), .sh (.int k), .sh (.int bound), .un, .un, .sh (.int q2)] =
        some (.nx, [.sh (.int c), .sh (.int k), .sh (.int bound), .un, .un, .sh (.int q3)]) := by
      rw [Zan ((Zr ((Zr (ZaD (i := q2) rfl ((Zr (i := 40692) rfl (ZaD (i := k) (j := 3) rfl rfl)).trans (Zdo (by decide) (by decide)))) rfl).trans (Zf7 (j := 69621) (by decide) (by decide))) rfl).trans (ZV (by decide)))]
      rfl
    refine ⟨q3 / 8 % bound, Za5 rfl ((JR ((ZfZ t1).trans ZdI)).trans ((JR s1).trans ((JR s2).trans ((JR s3).trans (Zbc ((Zr ((Zr (i := q3) (j := 8) rfl rfl).trans (Zcs (by decide) (by decide))) rfl).trans (ZV hb))))))),
      Int.emod_nonneg _ (by omega), Int.emod_lt_of_pos _ hb⟩
end PV
namespace PV
open PySem (Str)
structure Prm (nm:List Int)(n:Nat):Prop where
 len:nm.length=n
 nd:nm.Nodup
 bd:∀ x ∈ nm,0≤x∧x < n
noncomputable def at1 (nm:List Int) (k:Int):Int:=nm.getD k.toNat 0
theorem Zhb {nm:List Int}{k:Int}(h0:0≤k)(h1:k < nm.length):at1 nm k ∈ nm:=by
 have hk:k.toNat < nm.length:=by omega
 unfold at1
 rw [List.getD_eq_getElem?_getD,List.getElem?_eq_getElem hk]
 exact List.getElem_mem hk
theorem Prm.at {nm:List Int}{n:Nat}(h:Prm nm n){k:Int}(h0:0≤k)(h1:k < n):0≤at1 nm k∧at1 nm k < n:=h.bd _ (Zhb h0 (by rw [h.len];exact h1))
theorem Prm.inj {nm:List Int}{n:Nat}(h:Prm nm n){a b:Int}(a0:0≤a)(a1:a < n)(b0:0≤b)(b1:b < n)(e:at1 nm a=at1 nm b):a=b:=by
 have hl:=h.len
 have ha:a.toNat < nm.length:=by omega
 have hb:b.toNat < nm.length:=by omega
 unfold at1 at e
 rw [List.getD_eq_getElem?_getD,List.getD_eq_getElem?_getD,List.getElem?_eq_getElem ha,List.getElem?_eq_getElem hb] at e
 have:=(List.getElem_inj h.nd).mp (show nm[a.toNat]=nm[b.toNat] from e)
 omega
end PV
set_option maxRecDepth 100000
namespace PV
open PySem (Str)
end PV
namespace PV
open PySem (Str)
theorem Zaq (i:Int){n:Nat}(h:0 < n):∃ k:Nat,k < n∧i % (n:Int)=k:=by
 have h0:=Int.emod_nonneg i (show (n:Int)≠0 by omega)
 have h1:=Int.emod_lt_of_pos i (show (0:Int) < n by omega)
 exact ⟨(i % n).toNat,by omega,by omega⟩
end PV
namespace PV
open PySem (Str)
structure Grp (T:List (List Int))(n:Nat)(s:Nat):Prop where
 tab:Tab T n
 lt:s < n
 asc:∀ a b c:Int,0≤a→a < n→0≤b→b < n→0≤c→c < n→tg T (tg T a b) c=tg T a (tg T b c)
 idl:∀ a:Int,0≤a→a < n→tg T s a=a
 idr:∀ a:Int,0≤a→a < n→tg T a s=a
 inv:∀ a:Int,0≤a→a < n→∃ b:Int,0≤b∧b < n∧tg T a b=s∧tg T b a=s
theorem Zg5 {a:Int}{n:Nat}(h0:0≤a)(h1:a < n):∃ k:Nat,k < n∧a=k:=⟨a.toNat,by omega,by omega⟩
end PV
set_option linter.all false
set_option Elab.async false
set_option maxHeartbeats 2000000
namespace PV
open PySem (Str)
noncomputable def El (n:Nat) (a:Int):Prop:=0≤a∧a < n
theorem El.nat {n:Nat}{a:Int}(h:El n a):∃ k:Nat,k < n∧a=k:=Zg5 h.1 h.2
theorem El.of {n k:Nat}(h:k < n):El n (k:Int):=⟨by omega,by omega⟩
theorem Grp.bd {T:List (List Int)}{n s:Nat}(G:Grp T n s){a b:Int}(ha:El n a)(hb:El n b):El n (tg T a b):=G.tab.bound ha.1 ha.2 hb.1 hb.2
theorem Grp.as {T:List (List Int)}{n s:Nat}(G:Grp T n s){a b c:Int}(ha:El n a)(hb:El n b)(hc:El n c):tg T (tg T a b) c=tg T a (tg T b c):=G.asc a b c ha.1 ha.2 hb.1 hb.2 hc.1 hc.2
theorem Grp.l {T:List (List Int)}{n s:Nat}(G:Grp T n s){a:Int}(ha:El n a):tg T s a=a:=G.idl a ha.1 ha.2
theorem Grp.r {T:List (List Int)}{n s:Nat}(G:Grp T n s){a:Int}(ha:El n a):tg T a s=a:=G.idr a ha.1 ha.2
theorem Grp.i {T:List (List Int)}{n s:Nat}(G:Grp T n s){a:Int}(ha:El n a):∃ b,El n b∧tg T a b=s∧tg T b a=s:=by
 obtain ⟨b,b0,b1,h1,h2⟩:=G.inv a ha.1 ha.2;exact ⟨b,⟨b0,b1⟩,h1,h2⟩
theorem Grp.cl {T:List (List Int)}{n s:Nat}(G:Grp T n s){a x y:Int}(ha:El n a)(hx:El n x)(hy:El n y)(h:tg T a x=tg T a y):x=y:=by
 obtain ⟨b,hb,h1,h2⟩:=G.i ha
 rw [← G.l hx,← G.l hy,← h2,G.as hb ha hx,G.as hb ha hy,h]
end PV
set_option linter.all false
set_option Elab.async false
set_option maxHeartbeats 2000000
namespace PV
open PySem (Str)
theorem ZcO {α:Type}{i:Nat}{e:Ex}{env:Env}(A B:α→D):∀ l:List α,(∀ x ∈ l,e (env.set i (.sh (A x)))=some (B x))→Jz i Yj e env (l.map A)=some (l.map B)
 | [],_=>rfl
 | x::l,h=>by
  simp only [List.map_cons,Jz,Yj,h x (by simp),ZcO A B l fun y hy=>h y (by simp [hy])]
theorem YW {α:Type}{i:Nat}{it:Lx}{e:Ex}{env:Env}(l:List α)(A B:α→D)(hit:it env=some (l.map A))(hl:l.length≤lim)(he:∀ x ∈ l,e (env.set i (.sh (A x)))=some (B x)):Yg i it Yj e env=some (.lst (l.map B)):=by
 simp only [Yg,hit,List.length_map,if_pos hl,ZcO A B l he]
theorem strs_map:∀ l:List Str,strs? (l.map .str)=some l
 | []=>rfl
 | x::l=>by simp only [List.map_cons,strs?,strs_map l]
theorem join_eq (sep:Str)(l:List Str):PySem.Txt.join sep l=Str.join sep l:=PySem.StrLaws.glued_eq_join sep l
theorem ZfF {c:Nat}:∀ {X Y R1 R2:List Nat},c ∉ X→c ∉ Y→(R1=[]∨∃ t,R1=c::t)→(R2=[]∨∃ t,R2=c::t)→X++R1=Y++R2→X=Y∧R1=R2
 | [],[],_,_,_,_,_,_,h=>⟨rfl,h⟩
 | [],y::Y,R1,R2,_,hy,h1,_,h=>by
  rcases h1 with rfl | ⟨t,rfl⟩
  ·simp at h
  ·simp at h;exact absurd (by rw [h.1];simp) hy
 | x::X,[],R1,R2,hx,_,_,h2,h=>by
  rcases h2 with rfl | ⟨t,rfl⟩
  ·simp at h
  ·simp at h;exact absurd (by rw [h.1];simp) hx
 | x::X,y::Y,R1,R2,hx,hy,h1,h2,h=>by
  simp only [List.cons_append,List.cons.injEq] at h
  obtain ⟨e1,e2⟩:=ZfF (fun hm=>hx (List.mem_cons_of_mem _ hm)) (fun hm=>hy (List.mem_cons_of_mem _ hm)) h1 h2 h.2
  exact ⟨by rw [h.1,e1],e2⟩
noncomputable def Zah (c:Nat):List Str→List Nat
 | []=>[]
 | y::r=>c::(Str.join ⟨#[c]⟩ (y::r)).cps.toList
theorem ZdQ (c:Nat)(x:Str):∀ r:List Str,(Str.join ⟨#[c]⟩ (x::r)).cps.toList=x.cps.toList++Zah c r
 | []=>by show x.cps.toList=_;simp [Zah]
 | y::r=>by
  show (x++⟨#[c]⟩++Str.join ⟨#[c]⟩ (y::r)).cps.toList=_
  simp [PySem.Str.cps_append,Zah]
theorem ZdB (c:Nat):∀ r,Zah c r=[]∨∃ t,Zah c r=c::t
 | []=>.inl rfl
 | _::_=>.inr ⟨_,rfl⟩
theorem Zdw {c:Nat}:∀ {l1 l2:List Str},l1≠[]→l2≠[]→(∀ p ∈ l1,c ∉ p.cps.toList)→(∀ p ∈ l2,c ∉ p.cps.toList)→Str.join ⟨#[c]⟩ l1=Str.join ⟨#[c]⟩ l2→l1=l2
 | [],_,h,_,_,_,_=>absurd rfl h
 | _::_,[],_,h,_,_,_=>absurd rfl h
 | x::r1,y::r2,_,_,h1,h2,h=>by
  have hc:=congrArg (fun s:Str=>s.cps.toList) h
  rw [ZdQ,ZdQ] at hc
  obtain ⟨e1,e2⟩:=ZfF (h1 x (by simp)) (h2 y (by simp)) (ZdB c r1) (ZdB c r2) hc
  have exy:x=y:=PySem.Str.ext' (Array.toList_inj.mp e1)
  subst exy
  match r1,r2,e2 with
  | [],[],_=>rfl
  | [],_::_,e2=>simp [Zah] at e2
  | _::_,[],e2=>simp [Zah] at e2
  | a::r1,b::r2,e2 =>
   simp only [Zah,List.cons.injEq,true_and] at e2
   have ej:Str.join ⟨#[c]⟩ (a::r1)=Str.join ⟨#[c]⟩ (b::r2):=PySem.Str.ext' (Array.toList_inj.mp e2)
   rw [Zdw (by simp) (by simp) (fun p hp=>h1 p (by simp at hp ⊢;exact .inr hp)) (fun p hp=>h2 p (by simp at hp ⊢;exact .inr hp)) ej]
theorem ZeU {c:Nat}{l:List Str}(h0:0 < (Str.join ⟨#[c]⟩ l).length)(hl:l≠[])(hf:∀ p ∈ l,c ∉ p.cps.toList):PySem.Txt.split (Str.join ⟨#[c]⟩ l) ⟨#[c]⟩=l:=by
 have h1:=PySem.StrLaws.join_split (Str.join ⟨#[c]⟩ l) ⟨#[c]⟩
 refine Zdw (fun e=>?_) hl (PySem.StrLaws.split_free _ c) hf h1
 rw [e] at h1
 rw [← h1] at h0
 exact Nat.lt_irrefl 0 h0
theorem ZcL {d:Nat}{sep:Str}(hs:d ∉ sep.cps.toList):∀ l:List Str,(∀ p ∈ l,d ∉ p.cps.toList)→d ∉ (Str.join sep l).cps.toList
 | [],_=>by show d ∉ (Str.empty).cps.toList;simp [PySem.Str.empty]
 | [x],h=>h x (by simp)
 | x::y::r,h=>by
  show d ∉ (x++sep++Str.join sep (y::r)).cps.toList
  have ih:=ZcL hs (y::r) fun p hp=>h p (by simp at hp ⊢;exact .inr hp)
  have hx:=h x (by simp)
  simp only [PySem.Str.cps_append,Array.toList_append,List.mem_append]
  rintro ((h | h) | h)
  ·exact hx h
  ·exact hs h
  ·exact ih h
noncomputable def dig (i:Int):Str:=toString i
theorem Zhr:∀ x:Nat,x < 12→((dig x).length≤2∧0 < (dig x).length∧32 ∉ (dig x).cps.toList∧47 ∉ (dig x).cps.toList):=by decide +kernel
theorem Za2 {x:Int}(h:El 12 x):(dig x).length≤2∧0 < (dig x).length∧32 ∉ (dig x).cps.toList∧47 ∉ (dig x).cps.toList:=by
 obtain ⟨k,hk,rfl⟩:=h.nat
 exact Zhr k hk
noncomputable def rowT (r:List Int):Str:=Str.join ⟨#[32]⟩ (r.map dig)
noncomputable def tabT (T:List (List Int)):Str:=Str.join ⟨#[47]⟩ (T.map rowT)
theorem ZdX {sep:Str}{B:Nat}(hs:sep.length=1){l:List Str}(h:∀ p ∈ l,p.length≤B):(Str.join sep l).length≤l.length * B + l.length:=by
 have h1:=PySem.StrLaws.join_length_le sep l
 have h2:=PySem.StrLaws.sumLen_le l h
 rw [hs] at h1
 omega
theorem joinOk_of {sep:Str}{B:Nat}(hs:sep.length=1){l:List Str}(h:∀ p ∈ l,p.length≤B)(hl:l.length * B + l.length≤100000):PySem.JoinOk sep l=true:=by
 unfold PySem.JoinOk
 rw [PySem.StrLaws.joinFits h (by rw [hs];omega)]
 rfl
theorem Zgf {sep x:Str}{r:List Str}(hx:0 < x.length):0 < (Str.join sep (x::r)).length:=by
 cases r with
 | nil=>exact hx
 | cons y r =>
  show 0 < (x++sep++Str.join sep (y::r)).length
  rw [PySem.Str.length_append,PySem.Str.length_append]
  omega
structure Rw (r:List Int):Prop where
 el:∀ x ∈ r,El 12 x
 pos:r≠[]
 len:r.length≤12
theorem Rw.bound {r:List Int}(h:Rw r):(rowT r).length≤36:=by
 have:=ZdX (sep:=⟨#[32]⟩) (B:=2) rfl (l:=r.map dig) fun p hp=>by
  obtain ⟨x,hx,rfl⟩:=List.mem_map.mp hp
  exact (Za2 (h.el x hx)).1
 rw [List.length_map] at this
 have:=h.len
 unfold rowT
 omega
theorem Rw.posT {r:List Int}(h:Rw r):0 < (rowT r).length:=by
 cases r with
 | nil=>exact absurd rfl h.pos
 | cons x r=>exact Zgf (Za2 (h.el x (by simp))).2.1
theorem Rw.free {r:List Int}(h:Rw r):47 ∉ (rowT r).cps.toList:=ZcL (by decide) _ fun p hp=>by
 obtain ⟨x,hx,rfl⟩:=List.mem_map.mp hp
 exact (Za2 (h.el x hx)).2.2.2
theorem Rw.split {r:List Int}(h:Rw r):PySem.Txt.split (rowT r) ⟨#[32]⟩=r.map dig:=ZeU h.posT (by simpa using h.pos) fun p hp=>by
 obtain ⟨x,hx,rfl⟩:=List.mem_map.mp hp
 exact (Za2 (h.el x hx)).2.2.1
theorem Zb9 {T:List (List Int)}{n:Nat}(hT:Tab T n){r:List Int}(hr:r ∈ T):Rw r:=by
 have h1:=hT.row r hr
 have h2:=hT.pos
 have h3:=hT.top
 refine ⟨fun x hx=>?_,fun e=>?_,by omega⟩
 ·have:=hT.ent r hr x hx
  exact ⟨this.1,by omega⟩
 ·rw [e] at h1;simp at h1;omega
theorem ZaL {sep:Str}{l:List Str}(h:PySem.JoinOk sep l=true):Yr sep (.lst (l.map .str))=some (.str (Str.join sep l)):=by
 simp only [Yr,strs_map,if_pos h,join_eq]
theorem ZeG {x:Int}(h:El 12 x):fStr (.int x)=some (.str (dig x)):=by
 have:x.natAbs.log2 < 1920:=by
  have h1:x.natAbs < 12:=by have:=h.1;have:=h.2;omega
  have h2:x.natAbs.log2≤x.natAbs:=Nat.log2_le_self _
  omega
 simp only [fStr,if_pos this]
 rfl
theorem YG {φ:D→Option D}{e:Ex}{env:Env}{d d':D}(h:e env=some d)(k:φ d=some d'):eF1 φ e env=some d':=by simp only [eF1,h,k]
end PV
set_option linter.all false
set_option Elab.async false
set_option maxHeartbeats 2000000
set_option maxRecDepth 10000
namespace PV
open PySem (Str)
noncomputable def As (x:Str):Prop:=∀ c ∈ x.cps.toList,c < 128
theorem As.app {x y:Str}(hx:As x)(hy:As y):As (x++y):=fun c hc=>by
 simp only [PySem.Str.cps_append,Array.toList_append,List.mem_append] at hc
 exact hc.elim (hx c) (hy c)
theorem As.join {sep:Str}(hs:As sep):∀ l:List Str,(∀ p ∈ l,As p)→As (Str.join sep l)
 | [],_=>fun c hc=>absurd hc (by show c ∉ (Str.empty).cps.toList;simp [PySem.Str.empty])
 | [x],h=>h x (by simp)
 | x::y::r,h=>As.app (As.app (h x (by simp)) hs) (As.join hs (y::r) fun p hp=>h p (by simp at hp ⊢;exact .inr hp))
theorem Z8 {sep:Str}:∀ {l:List Str} {p:Str},p ∈ l→(∀ c ∈ p.cps.toList,c ∈ (Str.join sep l).cps.toList)∧p.length≤(Str.join sep l).length
 | [],p,h=>absurd h (by simp)
 | [x],p,h=>by
  have e:p=x:=by simpa using h
  subst e
  exact ⟨fun c hc=>hc,Nat.le_refl _⟩
 | x::y::r,p,h=>by
  show (∀ c ∈ p.cps.toList,c ∈ (x++sep++Str.join sep (y::r)).cps.toList)∧p.length≤(x++sep++Str.join sep (y::r)).length
  rw [PySem.Str.length_append,PySem.Str.length_append]
  simp only [PySem.Str.cps_append,Array.toList_append,List.mem_append]
  rcases List.mem_cons.mp h with rfl | h
  ·exact ⟨fun c hc=>.inl (.inl hc),by omega⟩
  ·have:=Z8 (sep:=sep) h
   exact ⟨fun c hc=>.inr (this.1 c hc),by omega⟩
theorem ZcK {sep:Str}(hs:sep.length=1):∀ l:List Str,l.length≤(Str.join sep l).length + 1
 | []=>by simp
 | [x]=>by simp
 | x::y::r=>by
  show (y::r).length + 1≤(x++sep++Str.join sep (y::r)).length + 1
  rw [PySem.Str.length_append,PySem.Str.length_append]
  have:=ZcK hs (y::r)
  omega
structure Spl (x:Str)(l:List Str):Prop where
 ne:l≠[]
 len:l.length≤x.length + 1
 asc:As x→∀ p ∈ l,As p
 part:∀ p ∈ l,p.length≤x.length
theorem ZfW (x:Str)(c:Nat)(h0:PySem.Txt.split Str.empty ⟨#[c]⟩≠[]):Spl x (PySem.Txt.split x ⟨#[c]⟩):=by
 have h1:=PySem.StrLaws.join_split x ⟨#[c]⟩
 refine ⟨fun e=>?_,?_,fun hx p hp d hd=>?_,fun p hp=>?_⟩
 ·rw [e] at h1
  have:x=Str.empty:=h1.symm
  rw [this] at e
  exact h0 e
 ·have:=ZcK (sep:=⟨#[c]⟩) rfl (PySem.Txt.split x ⟨#[c]⟩)
  rw [h1] at this
  exact this
 ·have:=(Z8 (sep:=⟨#[c]⟩) hp).1 d hd
  rw [h1] at this
  exact hx d this
 ·have:=(Z8 (sep:=⟨#[c]⟩) hp).2
  rw [h1] at this
  exact this
theorem Zdg (x:Str):Spl x (PySem.Txt.split x ⟨#[47]⟩):=ZfW x 47 (by decide +kernel)
theorem ZbZ (x:Str):Spl x (PySem.Txt.split x ⟨#[32]⟩):=ZfW x 32 (by decide +kernel)
theorem Zf9 {x:Str}(h:As x)(l u:Option Int):As (PySem.Txt.slice x l u):=by
 unfold PySem.Txt.slice
 split
 ·exact h
 ·intro c hc
  simp only [List.mem_filterMap] at hc
  obtain ⟨i,_,hi⟩:=hc
  refine h c ?_
  rw [Array.mem_toList_iff]
  exact Array.mem_of_getElem? hi
noncomputable def badW (w:Str):Bool:=decide (w.length=0) || decide (40 < w.length) || (decide (1 < w.length) && decide (w.cps[0]?=some 48)) || w.cps.toList.any fun c=>!(decide (48≤c) && decide (c≤57))
noncomputable def valW (w:Str):Option Int:=if badW w=true then none else PySem.intText? w
theorem ZgC:∀ c:Nat,c < 58→(Char.ofNat c).toNat=c:=by decide
theorem ZeA {w:Str}(h:badW w=false):∃ n:Int,PySem.intText? w=some n∧0≤n∧w=dig n:=by
 unfold badW at h
 simp only [Bool.or_eq_false_iff,decide_eq_false_iff_not] at h
 obtain ⟨⟨⟨h1,h2⟩,h3⟩,h4⟩:=h
 have hd:PySem.NumText.AllDigits w.cps.toList:=fun c hc=>by
  have:=List.any_eq_false.mp h4 c hc
  simpa using this
 have hlen:w.cps.toList.length=w.length:=Array.length_toList
 have hne:w.cps.toList≠[]:=fun e=>by rw [e] at hlen;exact h1 hlen.symm
 refine ⟨_,PySem.intText_digits hd hne (by omega),by omega,?_⟩
 have hz:w.cps.toList.length - 1=0∨∃ c r,w.cps.toList=c::r∧49≤c:=by
  by_cases h5:1 < w.length
  ·refine .inr ?_
   cases hc:w.cps.toList with
   | nil=>exact absurd hc hne
   | cons c r =>
    refine ⟨c,r,rfl,?_⟩
    have h6:w.cps[0]?=some c:=by rw [← Array.getElem?_toList,hc];rfl
    have h7:=hd c (by rw [hc];simp)
    have h8:c≠48:=fun e=>by
     subst e
     simp [h5,h6] at h3
    omega
  ·exact .inl (by omega)
 have h0:0 < w.cps.toList.length:=List.length_pos_iff.mpr hne
 have key:=PySem.NumText.toDigits_digitsVal (w.cps.toList.length - 1) w.cps.toList (by omega) hd hz
 refine PySem.Str.ext' (Array.toList_inj.mp ?_)
 show _=(PySem.Str.ofString (toString ((PySem.NumText.digitsVal w.cps.toList:Nat):Int))).cps.toList
 rw [PySem.W.KIN.signs_num,key,List.map_map]
 refine (List.map_id _).symm.trans (List.map_congr_left fun c hc=>?_)
 exact (ZgC c (by have:=hd c hc;omega)).symm
theorem Ze8:∀ k:Nat,k < 12→valW (dig k)=some (k:Int):=by decide +kernel
theorem Zdt {w:Str}{n:Int}(h:valW w=some n):0≤n∧w=dig n:=by
 unfold valW at h
 split at h
 ·cases h
 ·rename_i hb
  obtain ⟨m,e,h0,hw⟩:=ZeA (w:=w) (by simpa using hb)
  rw [e] at h
  cases h
  exact ⟨h0,hw⟩
noncomputable def numW (w:Str):Option Int:=(valW w).bind fun n=>if n < 12 then some n else none
noncomputable def mp {α β:Type} (f:α→Option β):List α→Option (List β)
 | []=>some []
 | x::xs=>(f x).bind fun y=>(mp f xs).map (y::·)
theorem Zao {α β:Type}{f:α→Option β}:∀ {l:List α} {ys:List β},mp f l=some ys↔l.map f=ys.map some
 | [],ys=>by
  cases ys <;> simp [mp]
 | x::xs,[]=>by
  simp only [mp]
  cases f x <;> cases mp f xs <;> simp
 | x::xs,y::ys=>by
  have ih:=Zao (f:=f) (l:=xs) (ys:=ys)
  simp only [mp]
  cases h:f x with
  | none=>simp [h]
  | some z =>
   cases h2:mp f xs with
   | none =>
    rw [h2] at ih
    simp only [h,List.map_cons,Option.bind_some,Option.map_none]
    constructor
    ·intro e;cases e
    ·intro e;injection e with e1 e2;exact absurd (ih.mpr e2) (by simp)
   | some zs =>
    rw [h2] at ih
    simp only [h,List.map_cons,Option.bind_some,Option.map_some,Option.some.injEq,List.cons.injEq] at ih ⊢
    rw [ih]
theorem ZcJ {α β:Type}{f:α→Option β}:∀ {l:List α},mp f l=none↔∃ x ∈ l,f x=none
 | []=>by simp [mp]
 | x::xs=>by
  have ih:=ZcJ (f:=f) (l:=xs)
  simp only [mp]
  cases h:f x with
  | none=>simp [h]
  | some z =>
   simp only [h,Option.bind_some,Option.map_eq_none_iff,ih,List.mem_cons,exists_eq_or_imp]
   simp
theorem Zab {α β:Type}{f:α→Option β}{l:List α}{ys:List β}(h:mp f l=some ys):ys.length=l.length:=by
 have:=congrArg List.length (Zao.mp h)
 simpa using this.symm
theorem ZbM {α β:Type}{f:α→Option β}{l:List α}{ys:List β}(h:mp f l=some ys){y:β}(hy:y ∈ ys):∃ x ∈ l,f x=some y:=by
 have:some y ∈ l.map f:=by rw [Zao.mp h];exact List.mem_map.mpr ⟨y,hy,rfl⟩
 simpa using this
theorem Zew {α β:Type}{f:α→Option β}{l:List α}{ys:List β}{x:α}{y:β}(h:mp f l=some ys)(hx:f x=some y):mp f (l++[x])=some (ys++[y]):=by
 rw [Zao] at h ⊢
 rw [List.map_append,h,List.map_append,List.map_cons,hx]
 rfl
theorem Zb8 {α β:Type}{f g:α→Option β}{l:List α}{ys:List β}(h:mp f l=some ys)(hs:∀ x ∈ l,∀ y ∈ ys,f x=some y→g x=some y):mp g l=some ys:=by
 rw [Zao] at h ⊢
 rw [← h]
 refine List.map_congr_left fun x hx=>?_
 have:f x ∈ ys.map some:=by rw [← h];exact List.mem_map.mpr ⟨x,hx,rfl⟩
 obtain ⟨y,hy,e⟩:=List.mem_map.mp this
 rw [← e]
 exact hs x hx y hy e.symm
noncomputable def rowV (l:Str):Option (List Int):=mp valW (PySem.Txt.split l ⟨#[32]⟩)
noncomputable def tabV (t:Str):Option (List (List Int)):=mp rowV (PySem.Txt.split t ⟨#[47]⟩)
noncomputable def rowN (l:Str):Option (List Int):=mp numW (PySem.Txt.split l ⟨#[32]⟩)
noncomputable def tabN (t:Str):Option (List (List Int)):=mp rowN (PySem.Txt.split t ⟨#[47]⟩)
noncomputable def okT (T:List (List Int)):Bool:=decide (T.length≤12) && T.all fun r=>decide (r.length=T.length) && r.all fun x=>decide (x < T.length)
theorem ZbH {w:Str}{n:Int}(h:numW w=some n):valW w=some n∧n < 12:=by
 unfold numW at h
 rw [Option.bind_eq_some_iff] at h
 obtain ⟨m,h1,h2⟩:=h
 split at h2
 ·rename_i h3
  cases h2
  exact ⟨h1,h3⟩
 ·cases h2
theorem ZfY {t:Str}{T:List (List Int)}(h:tabN t=some T):tabV t=some T :=
 Zb8 h fun l _ r _ e=>Zb8 e fun w _ n _ e'=>(ZbH e').1
theorem Zio {t:Str}{T:List (List Int)}(h:tabV t=some T)(ho:okT T=true):tabN t=some T:=by
 unfold okT at ho
 simp only [Bool.and_eq_true,decide_eq_true_eq,List.all_eq_true] at ho
 refine Zb8 h fun l _ r hr e=>Zb8 e fun w _ n hn e'=>?_
 have:=(ho.2 r hr).2 n hn
 unfold numW
 rw [e']
 exact if_pos (by omega)
end PV
set_option linter.all false
set_option Elab.async false
set_option maxHeartbeats 2000000
set_option maxRecDepth 10000
namespace PV
open PySem (Str)
noncomputable def wx (s:Sx) (env:Env) (Q:XO→Env→Prop):Prop:=∃ o e,s env=some (o,e)∧Q o e
theorem Zbm {g:St}{env:Env}{Q:XO→Env→Prop}(h:wp g env fun o e=>Q (.ok o) e):wx (xOf g) env Q:=by
 obtain ⟨o,e,h1,p⟩:=h;exact ⟨_,_,by simp only [xOf,h1],p⟩
noncomputable def thx (b:Sx) (Q:XO→Env→Prop):XO→Env→Prop
 | .ok .nx,e=>wx b e Q
 | .ok .bk,e=>Q (.ok .bk) e
 | .ok .ct,e=>Q (.ok .ct) e
 | .ok (.rt d),e=>Q (.ok (.rt d)) e
 | .ex c,e=>Q (.ex c) e
theorem Z7 {a b:Sx}{env:Env}{Q:XO→Env→Prop}(h:wx a env (thx b Q)):wx (xSeq a b) env Q:=by
 obtain ⟨o,e,h1,p⟩:=h
 match o,h1,p with
 | .ok .nx,h1,p=>obtain ⟨o,e',h2,p⟩:=p;exact ⟨o,e',by simp only [xSeq,h1,h2],p⟩
 | .ok .bk,h1,p=>exact ⟨_,_,by simp only [xSeq,h1],p⟩
 | .ok .ct,h1,p=>exact ⟨_,_,by simp only [xSeq,h1],p⟩
 | .ok (.rt d),h1,p=>exact ⟨_,_,by simp only [xSeq,h1],p⟩
 | .ex c,h1,p=>exact ⟨_,_,by simp only [xSeq,h1],p⟩
theorem Zdc {c:Tx}{a b:Sx}{env:Env}{Q:XO→Env→Prop}(h:tv c env fun k=>(k=true→wx a env Q)∧(k=false→wx b env Q)):wx (xIf c a b) env Q:=by
 obtain ⟨k,h1,p,q⟩:=h
 cases k with
 | true=>obtain ⟨o,e,h2,p⟩:=p rfl;exact ⟨o,e,by simp only [xIf,h1,h2],p⟩
 | false=>obtain ⟨o,e,h2,p⟩:=q rfl;exact ⟨o,e,by simp only [xIf,h1,h2],p⟩
theorem ZaM {c:Nat}{env:Env}{Q:XO→Env→Prop}(h:Q (.ex c) env):wx (ZX c) env Q:=⟨_,_,rfl,h⟩
theorem Zhp {j:Nat}{f:Env→Option (D ⊕ Nat)}{env:Env}{Q:XO→Env→Prop}{r:D ⊕ Nat}(h:f env=some r)(h1:∀ d,r=.inl d→Q (.ok .nx) (env.set j (.sh d)))(h2:∀ c,r=.inr c→Q (.ex c) env):wx (Zbr j f) env Q:=by
 cases r with
 | inl d=>exact ⟨_,_,by simp only [Zbr,h],h1 d rfl⟩
 | inr c=>exact ⟨_,_,by simp only [Zbr,h],h2 c rfl⟩
theorem ZhZ {f:Env→Option (D ⊕ Nat)}{env:Env}{Q:XO→Env→Prop}{r:D ⊕ Nat}(h:f env=some r)(h1:∀ d,r=.inl d→Q (.ok (.rt d)) env)(h2:∀ c,r=.inr c→Q (.ex c) env):wx (Zbt f) env Q:=by
 cases r with
 | inl d=>exact ⟨_,_,by simp only [Zbt,h],h1 d rfl⟩
 | inr c=>exact ⟨_,_,by simp only [Zbt,h],h2 c rfl⟩
noncomputable def endX (r:D ⊕ Nat):XO→Env→Prop
 | .ok (.rt d),_=>r=.inl d
 | .ok .nx,_=>r=.inl .non
 | .ex c,_=>r=.inr c
 | _,_=>False
theorem Zbn {p n:Nat}{g:Sx}{ds:List D}{r:D ⊕ Nat}(hp:ds.length=p)(h:wx g (enter n ds) (endX r)):runX p n g ds=some r:=by
 obtain ⟨o,e,h1,q⟩:=h
 unfold runX
 rw [if_pos hp,h1]
 match o,q with
 | .ok .nx,q=>rw [show r=.inl .non from q]
 | .ok .bk,q=>exact absurd q (by simp [endX])
 | .ok .ct,q=>exact absurd q (by simp [endX])
 | .ok (.rt d),q=>rw [show r=.inl d from q]
 | .ex c,q=>rw [show r=.inr c from q]
theorem Zdr {α β:Type}{i:Nat}{fx:Env→Option (D ⊕ Nat)}{env:Env}(A:α→D)(B:β→D)(g:α→Option β):∀ l:List α,(∀ x ∈ l,fx (env.set i (.sh (A x)))=some (match g x with | some y=>.inl (B y) | none=>.inr 6)) →
  Yz i fx env (l.map A)=some (match mp g l with | some ys=>.inl (ys.map B) | none=>.inr 6)
 | [],_=>rfl
 | x::l,h=>by
  have hx:=h x (by simp)
  have ih:=Zdr A B g l fun y hy=>h y (by simp [hy])
  simp only [List.map_cons,Yz,hx,mp]
  cases hg:g x with
  | none=>rfl
  | some y =>
   simp only [ih]
   cases hm:mp g l with
   | none=>rfl
   | some ys=>rfl
noncomputable def toX {β:Type} (B:β→D):Option β→D ⊕ Nat
 | some y=>.inl (B y)
 | none=>.inr 6
theorem ZdU {α β:Type}{i:Nat}{it:Lx}{fx:Env→Option (D ⊕ Nat)}{env:Env}{l:List α}(A:α→D)(B:β→D)(g:α→Option β)(hit:it env=some (l.map A))(hl:l.length≤lim)(h:∀ x ∈ l,fx (env.set i (.sh (A x)))=some (toX B (g x))) :
  JM i it fx env=some (toX (fun ys=>.lst (ys.map B)) (mp g l)):=by
 have key:=Zdr (i:=i) (fx:=fx) (env:=env) A B g l fun x hx=>by
  rw [h x hx]
  cases g x <;> rfl
 unfold JM
 rw [hit]
 simp only [List.length_map,if_pos hl]
 rw [key]
 cases mp g l <;> rfl
theorem ZbX {φ:Fx}{a:Ex}{env:Env}{x:D}(h:a env=some x):YH φ [a] env=φ [x]:=by simp [YH,evs,h]
theorem Zbx {x:Int}(h:El 12 x):Ym [.str (dig x)]=some (.inl (.int x)):=by
 obtain ⟨k,hk,rfl⟩:=h.nat
 match k,hk with
 | 0,_=>rfl
 | 1,_=>rfl
 | 2,_=>rfl
 | 3,_=>rfl
 | 4,_=>rfl
 | 5,_=>rfl
 | 6,_=>rfl
 | 7,_=>rfl
 | 8,_=>rfl
 | 9,_=>rfl
 | 10,_=>rfl
 | 11,_=>rfl
 | n + 12,h=>exact absurd h (by omega)
theorem Zes (w:Str):∀ l:List Int,(∀ k ∈ l,w≠dig k)→inD (.str w) (l.map fun k=>.str (dig k))=false
 | [],_=>rfl
 | k::l,h=>by
  have ih:=Zes w l fun j hj=>h j (by simp [hj])
  have hk:(dig k == w)=false:=by
   rw [beq_eq_false_iff_ne]
   exact fun e=>h k (by simp) e.symm
  unfold inD at ih ⊢
  rw [List.map_cons,List.any_cons,ih]
  simp only [eqD,hk,Bool.or_self]
theorem ZdN:∀ l:List Int,D.deps (l.map fun k=>.str (dig k))=0
 | []=>rfl
 | k::l=>by simp only [List.map_cons,D.deps,D.dep,ZdN l];rfl
theorem ZbS {w:Str}(h:∀ k:Int,El 12 k→w≠dig k):Ym [.str w]=some (.inr 6):=by
 have e1:Yg 2 (iRng (eC (.int 12))) Yj (eF1 fStr (eVar 2)) (enter 3 [.str w])=some (.lst ((upto 12).map fun k=>.str (dig k))) :=
  YW (upto 12) D.int _ (ZaS rfl (by decide)) (by rw [ZaC,Yk];omega) fun x hx=>YG rfl (ZeG (JV.mp hx))
 refine Zbn rfl (Z7 (Zbm (Yo (Zg e1 ?_))))
 refine Z7 (Zdc (Zae (d:=true) ?_ ⟨fun _=>ZaM rfl,fun e=>by cases e⟩))
 have e2:=Zes w (upto 12) fun k hk=>h k (JV.mp hk)
 have e3:=ZdN (upto 12)
 show tNi (eVar 0) (eVar 1) [.sh (.str w),.sh (.lst ((upto 12).map fun k=>.str (dig k))),.un]=_
 simp only [tNi,tIn,show eVar 0 [Sl.sh (.str w),.sh (.lst ((upto 12).map fun k=>.str (dig k))),.un]=some (.str w) from rfl,
  show eVar 1 [Sl.sh (.str w),.sh (.lst ((upto 12).map fun k=>.str (dig k))),.un]=some (.lst ((upto 12).map fun k=>.str (dig k))) from rfl,e2]
 rw [if_pos ⟨by omega,by simp [D.dep]⟩]
 rfl
theorem Zda (w:Str):Ym [.str w]=some (toX D.int (numW w)):=by
 cases hn:numW w with
 | some n =>
  obtain ⟨h1,h2⟩:=ZbH hn
  obtain ⟨h3,h4⟩:=Zdt h1
  rw [h4]
  exact Zbx ⟨h3,h2⟩
 | none =>
  refine ZbS fun k hk e=>?_
  obtain ⟨j,hj,rfl⟩:=hk.nat
  have:=Ze8 j hj
  rw [← e] at this
  unfold numW at hn
  rw [this] at hn
  simp only [Option.bind_some] at hn
  rw [if_pos (by omega)] at hn
  cases hn
theorem ZaB {c:Nat}{e:Ex}{env:Env}{x:Str}(h:e env=some (.str x))(h1:x.length≤1000)(hs:Spl x (PySem.Txt.split x ⟨#[c]⟩)):iOf (eF1 (Zv c) e) env=some ((PySem.Txt.split x ⟨#[c]⟩).map D.str):=by
 have hl:=hs.len
 have:eF1 (Zv c) e env=some (.lst ((PySem.Txt.split x ⟨#[c]⟩).map D.str)):=by
  refine YG h ?_
  simp only [Zv]
  rw [if_pos (by rw [Yk];omega)]
 simp only [iOf,this]
theorem ZeY {l:Str}(h:l.length≤1000):Yy [.str l]=some (toX rowD (rowN l)):=by
 have hs:=ZbZ l
 have hl:=hs.len
 refine Zbn rfl (ZhZ (ZdU D.str D.int numW (ZaB rfl h hs) (by rw [Yk];omega) fun w _=>(ZbX rfl).trans (Zda w)) (fun d hd=>?_) fun c hc=>?_)
 ·show toX rowD (rowN l)=_
  rw [← hd]
  unfold rowN
  cases mp numW (PySem.Txt.split l ⟨#[32]⟩) <;> rfl
 ·show toX rowD (rowN l)=_
  rw [← hc]
  unfold rowN
  cases mp numW (PySem.Txt.split l ⟨#[32]⟩) <;> rfl
theorem ZdR {T:List (List Int)}(x:Int):Jv [tabD T,.int x]=some (.bl (decide (0≤x) && decide (x < T.length))):=by
 refine Zar rfl (Zt (ev_B (ZdL (Zg3 (Je rfl (Je rfl ⟨fun h=>ZgW (Je rfl (ZbG (ZaY rfl ?_))),fun h=>?_⟩))))))
 ·rw [h,Bool.true_and];rfl
 ·rw [h,Bool.false_and];rfl
theorem ZdJ {T : List (List Int)}(hT : ∀ r ∈ T, r.length ≤ 1000 ∧ ∀ x ∈ r, 0 ≤ x)(b : Sx)
    (hb : b = (xSeq (xIf (tNe (eF1 fLen (eVar 2)) (eVar 1)) (ZX 0) (xOf Jg)) (xIf (tNot (tB (eF1 fAll (Yg 3 (iOf (eVar 2)) Yj (Jh Jv [(eVar 0), (eVar 3)]))))) (ZX 0) (xOf Jg)))) :
    ∀ (R : List (List Int)) (z2 z3 : Sl), (∀ r ∈ R, r ∈ T) → ∃ o e, YQ (gN 2) b (R.map rowD) [.sh (tabD T), .sh (.int T.length), z2, z3] = some (o, e) ∧
      o = (if (R.all fun r => decide (r.length = T.length) && r.all fun x => decide (x < T.length)) = true then XO.ok .nx else .ex 0)
  | [], z2, z3, _ => ⟨_, _, rfl, rfl⟩
  | r :: R, z2, z3, h => by
    obtain ⟨hl, hx⟩ := hT r (h r (by simp))
    have one : wx b [.sh (tabD T), .sh (.int T.length), .sh (rowD r), z3] fun o e => (o = .ok .nx ∧ e = [.sh (tabD T), .sh (.int T.length), .sh (rowD r), z3] ∧ (decide (r.length = T.length) && r.all fun x => decide (x < T.length)) = true) ∨
        (o = .ex 0 ∧ (decide (r.length = T.length) && r.all fun x => decide (x < T.length)) = false) := by
      rw [hb]
      refine Z7 (Zdc (Zfr (ZdA (ZdG rfl (Je rfl ⟨fun h1 => ZaM (.inr ⟨rfl, ?_⟩), fun h1 => Zbm (YD ?_)⟩)))))
      · have h1 : ¬ ((r.length : Int) = T.length) := by simpa using h1
        have : r.length ≠ T.length := by omega
        rw [decide_eq_false this]; rfl
      · have h1 : (r.length : Int) = T.length := by simpa using h1
        have h1 : r.length = T.length := by omega
        have key : (r.all fun x => decide (0 ≤ x) && decide (x < T.length)) = r.all fun x => decide (x < T.length) := by
          rw [Bool.eq_iff_iff]
          simp only [List.all_eq_true, Bool.and_eq_true, decide_eq_true_eq]
          exact ⟨fun g x m => (g x m).2, fun g x m => ⟨hx x m, g x m⟩⟩
        refine Zdc (ZiL (tv_B (Zh2 (r := r) (fun x => decide (0 ≤ x) && decide (x < T.length)) (ZgU rfl) (by rw [Yk]; omega) (fun x m => Zg ((Zat rfl rfl).trans (ZdR x)) rfl) ?_)))
        rw [key, decide_eq_true h1, Bool.true_and]
        refine ⟨fun e => ZaM (.inr ⟨rfl, by simpa using e⟩), fun e => Zbm (YD (.inl ⟨rfl, rfl, by simpa using e⟩))⟩
    obtain ⟨o, e, h1, p⟩ := one
    show ∃ o e, YQ (gN 2) b (rowD r :: R.map rowD) [.sh (tabD T), .sh (.int T.length), z2, z3] = some (o, e) ∧ _
    rcases p with ⟨rfl, rfl, hk⟩ | ⟨rfl, hk⟩
    · obtain ⟨o, e, h2, p⟩ := ZdJ hT b hb R (.sh (rowD r)) z3 fun q hq => h q (by simp [hq])
      refine ⟨o, e, ?_, ?_⟩
      · simp only [YQ, gN, List.set_cons_succ, List.set_cons_zero, h1, h2]
      · rw [p, List.all_cons, hk, Bool.true_and]
    · refine ⟨.ex 0, e, ?_, ?_⟩
      · simp only [YQ, gN, List.set_cons_succ, List.set_cons_zero, h1]
      · rw [List.all_cons, hk, Bool.false_and]; rfl
theorem Zd3 {T:List (List Int)}(hT:∀ r ∈ T,r.length≤1000∧∀ x ∈ r,0≤x)(h0:0 < T.length):Yv [tabD T]=some (if okT T=true then .inl .non else .inr 0):=by
 refine Zbn rfl (Z7 (Zbm (Yo (evI.ev (ZbG (ZaY rfl ?_))))))
 refine Z7 (Zdc (Zdi (ZgW (Je rfl (Je rfl ⟨fun e=>absurd (of_decide_eq_true e) (by omega),fun _=>Zbg (Je rfl (Je rfl ⟨fun h=>ZaM ?_,fun h=>Zbm (YD ?_)⟩))⟩)))))
 ·have h:=of_decide_eq_true h
  show (if okT T=true then _ else _)=_
  rw [if_neg]
  unfold okT
  rw [decide_eq_false (by omega),Bool.false_and]
  simp
 ·have h:=of_decide_eq_false h
  obtain ⟨o,e,h1,p⟩:=ZdJ hT _ rfl T .un .un fun r hr=>hr
  refine ⟨o,e,?_,?_⟩
  ·show xFor _ _ _ _=_
   unfold xFor
   rw [show iOf (eVar 0) _=some (T.map rowD) from Zfa rfl]
   exact h1
  ·rw [p]
   unfold okT
   rw [decide_eq_true (by omega),Bool.true_and]
   by_cases hk:(T.all fun r=>decide (r.length=T.length) && r.all fun x=>decide (x < T.length))=true
   ·rw [if_pos hk,if_pos hk];rfl
   ·rw [if_neg hk,if_neg hk];rfl
noncomputable def ZJ (t:Str):Option (List (List Int)):=(tabN t).bind fun T=>if okT T=true then some T else none
theorem Zhz {t:Str}(ht:t.length≤1000){T:List (List Int)}(h:tabN t=some T):(∀ r ∈ T,r.length≤1001∧0 < r.length∧∀ x ∈ r,0≤x)∧0 < T.length:=by
 have hs:=Zdg t
 refine ⟨fun r hr=>?_,?_⟩
 ·obtain ⟨l,hl,e⟩:=ZbM h hr
  have h1:=hs.part l hl
  have h2:=ZbZ l
  have h3:=Zab e
  have h4:=h2.len
  have h5:0 < (PySem.Txt.split l ⟨#[32]⟩).length:=List.length_pos_iff.mpr h2.ne
  refine ⟨by omega,by omega,fun x hx=>?_⟩
  obtain ⟨w,_,e'⟩:=ZbM e hx
  exact (Zdt (ZbH e').1).1
 ·rw [Zab h]
  exact List.length_pos_iff.mpr hs.ne
theorem ZiB {t:Str}(ht:t.length≤900):ZL [.str t]=some (toX tabD (ZJ t)):=by
 have hs:=Zdg t
 have hl:=hs.len
 have e1:=ZdU (i:=2) (it:=iOf (eF1 (Zv 47) (eVar 0))) (fx:=YH Yy [(eVar 2)]) (env:=enter 3 [.str t]) D.str rowD rowN (ZaB rfl (by omega) hs) (by rw [Yk];omega) fun l hl'=>(ZbX rfl).trans (ZeY (by have:=hs.part l hl';omega))
 refine Zbn rfl (Z7 (Zhp e1 (fun d hd=>?_) fun c hc=>?_))
 ·cases hT:mp rowN (PySem.Txt.split t ⟨#[47]⟩) with
  | none=>rw [hT] at hd;cases hd
  | some T =>
   rw [hT] at hd
   cases hd
   have hT':tabN t=some T:=hT
   obtain ⟨h1,h2⟩:=Zhz (by omega) hT'
   have h3:=Zd3 (T:=T) (fun r hr=>⟨by
    obtain ⟨l,hl,e⟩:=ZbM hT hr
    have h1:=hs.part l hl
    have h3:=Zab e
    have h4:=(ZbZ l).len
    omega,(h1 r hr).2.2⟩) h2
   have e0:ZJ t=if okT T=true then some T else none:=by unfold ZJ;rw [hT'];rfl
   rw [e0]
   refine Z7 ?_
   have e2:YH Yv [(eVar 1)] ((enter 3 [D.str t]).set 1 (.sh (.lst (T.map rowD))))=_:=(ZbX (x:=tabD T) rfl).trans h3
   by_cases ho:okT T=true
   ·rw [if_pos ho] at e2 ⊢
    refine ⟨.ok .nx,(enter 3 [D.str t]).set 1 (.sh (.lst (T.map rowD))),?_,Zbm (Zt (Zg (d:=tabD T) rfl rfl))⟩
    simp only [Zcm,xDo,e2]
   ·rw [if_neg ho] at e2 ⊢
    refine ⟨.ex 6,(enter 3 [D.str t]).set 1 (.sh (.lst (T.map rowD))),?_,rfl⟩
    simp only [Zcm,xDo,e2]
    rfl
 ·cases hT:mp rowN (PySem.Txt.split t ⟨#[47]⟩) with
  | some T=>rw [hT] at hc;cases hc
  | none =>
   rw [hT] at hc
   cases hc
   have hT':tabN t=none:=hT
   show toX tabD (ZJ t)=_
   unfold ZJ
   rw [hT']
   rfl
theorem ZiZ {t:Str}(ht:t.length≤900):JF [.str t]=some (match ZJ t with | some T=>tabD T | none=>.str "note"):=by
 have e1:YH ZL [(eVar 0)] (enter 2 [.str t])=_:=(ZbX (x:=.str t) rfl).trans (ZiB ht)
 have e2:Zk 6=some (.str "note"):=rfl
 cases hr:ZJ t with
 | some T =>
  rw [hr] at e1
  refine Zar rfl ⟨.rt (tabD T),enter 2 [.str t],?_,rfl⟩
  show sTry (xRet ZL [(eVar 0)]) Zk _=_
  simp only [sTry,xRet,e1]
  rfl
 | none =>
  rw [hr] at e1
  refine Zar rfl ⟨.rt (.str "note"),(enter 2 [.str t]).map fun _=>.un,?_,rfl⟩
  show sTry (xRet ZL [(eVar 0)]) Zk _=_
  simp only [sTry,xRet,e1,toX,e2]
end PV
set_option linter.all false
set_option Elab.async false
set_option maxHeartbeats 2000000
set_option maxRecDepth 10000
namespace PV
open PySem (Str)
theorem Zd6:∀ c:Nat,c < 128→decide (PySem.Txt.find "0123456789" ⟨#[c]⟩ < 0)=!(decide (48≤c) && decide (c≤57)):=by decide +kernel
theorem eq_str {a b:Ex}{env:Env}{x y:Str}(ha:a env=some (.str x))(hb:b env=some (.str y)):tEq a b env=some (decide (x=y)):=by
 simp only [tEq,ha,hb,eqD]
 rw [if_pos ⟨by simp [D.dep],by simp [D.dep]⟩]
 by_cases h:x=y
 ·subst h;simp
 ·rw [decide_eq_false h,beq_eq_false_iff_ne.mpr h]
theorem ZeF {a:Ex}{env:Env}{x:Str}(ha:a env=some (.str x))(h:x.length≤1000):eF1 JH a env=some (.int x.length):=by
 refine YG ha ?_
 simp only [JH]
 rw [if_pos (by rw [Yk];omega)]
theorem Zbb {w:Str}:w=Str.ofString ""↔w.length=0:=by
 constructor
 ·rintro rfl;rfl
 ·intro h
  exact PySem.Str.ext' (Array.eq_empty_of_size_eq_zero h)
theorem Zfx {w:Str}{c:Nat}:(⟨#[c]⟩:Str)=Str.ofString "0"↔c=48:=by
 constructor
 ·intro h
  have:=congrArg (fun s:Str=>s.cps.toList) h
  have e:(Str.ofString "0").cps.toList=[48]:=rfl
  simp only [e] at this
  simpa using this
 ·rintro rfl;rfl
noncomputable def JZ (w:Str):Bool:=decide (w.length=0) || decide (40 < w.length) || (decide (1 < w.length) && decide (w.cps[0]?=some 48))
noncomputable def oddW (w:Str):Bool:=w.cps.toList.any fun c=>!(decide (48≤c) && decide (c≤57))
theorem Zcv (w:Str):badW w=(JZ w || oddW w):=rfl
theorem Zgu {w:Str}{env:Env}(h:eVar 4 env=some (.str w))(hl:w.length≤1000) :
  tOr (tEq (eVar 4) (eC (.str ""))) (tOr (t2I pGt (eF1 JH (eVar 4)) (eC (.int 40))) (tAnd (t2I pGt (eF1 JH (eVar 4)) (eC (.int 1))) (tEq (eIxS (eVar 4) (eC (.int 0))) (eC (.str "0"))))) env=some (JZ w):=by
 have e0:=ZeF h hl
 refine (Zdi (P:=(·=JZ w)) (Zae (eq_str h rfl) ⟨fun h1=>?_,fun h1=>Zdi (Zbg (Je e0 (Je rfl ⟨fun h2=>?_,fun h2=>ZdL (Zbg (Je e0 (Je rfl ⟨fun h3=>?_,fun h3=>?_⟩)))⟩)))⟩)).eq
 ·have:w.length=0:=Zbb.mp (of_decide_eq_true h1)
  simp [JZ,this]
 ·have h2:=of_decide_eq_true h2
  have:40 < w.length:=by omega
  simp [JZ,this]
 ·have h1:w.length≠0:=fun e=>of_decide_eq_false h1 (Zbb.mpr e)
  have h2:=of_decide_eq_false h2
  have h3:=of_decide_eq_true h3
  have hs:0 < w.cps.size:=Nat.pos_of_ne_zero h1
  have hc:w.cps[0]?=some w.cps[0]:=Array.getElem?_eq_getElem hs
  have e1:eIxS (eVar 4) (eC (.int 0)) env=some (.str ⟨#[w.cps[0]]⟩):=by
   simp only [eIxS,eF2,h,eC,fIxS]
   rw [if_pos ⟨by omega,by omega,by rw [Yk];omega⟩]
   simp only [Int.toNat_zero,hc]
  refine Zae (eq_str e1 rfl) ?_
  have k1:¬ 40 < w.length:=by omega
  have k2:1 < w.length:=by omega
  simp only [JZ,decide_eq_false h1,decide_eq_false k1,decide_eq_true k2,hc,Bool.false_or,Bool.true_and,Option.some.injEq]
  rw [decide_eq_decide]
  exact Zfx (w:=w)
 ·have h1:w.length≠0:=fun e=>of_decide_eq_false h1 (Zbb.mpr e)
  have h2:=of_decide_eq_false h2
  have h3:=of_decide_eq_false h3
  have k1:¬ 40 < w.length:=by omega
  have k2:¬ 1 < w.length:=by omega
  simp [JZ,h1,k1,k2]
theorem Zh8 {w:Str}{a b c q z5 z6:Sl}(ha:As w)(hl:w.length≤1000) :
  t2I pGt (eF1 fLen (Yg 5 (iStr (eVar 4)) (t2I pLt (eF1 (ZaH "0123456789") (eVar 5)) (eC (.int 0))) (eVar 5))) (eC (.int 0)) [a,b,c,q,.sh (.str w),z5,z6]=some (oddW w):=by
 have hlen:w.cps.toList.length=w.length:=Array.length_toList
 have hall:w.cps.all (· < 128)=true:=by
  rw [Array.all_eq_true']
  exact fun c hc=>decide_eq_true (ha c (Array.mem_toList_iff.mpr hc))
 have hit:iStr (eVar 4) [a,b,c,q,.sh (.str w),z5,z6]=some (w.cps.toList.map fun c=>D.str ⟨#[c]⟩):=by
  show iStr (eVar 4) _=_
  unfold iStr
  rw [show eVar 4 [a,b,c,q,Sl.sh (.str w),z5,z6]=some (.str w) from rfl]
  dsimp only
  rw [if_pos ⟨hall,by rw [Yk];omega⟩]
 have cf:∀ l:List Nat,(∀ c ∈ l,c < 128)→Jz 5 (t2I pLt (eF1 (ZaH "0123456789") (eVar 5)) (eC (.int 0))) (eVar 5) [a,b,c,q,.sh (.str w),z5,z6] (l.map fun c=>D.str ⟨#[c]⟩)=some ((l.filter fun c=>!(decide (48≤c) && decide (c≤57))).map fun c=>D.str ⟨#[c]⟩):=by
  intro l
  induction l with
  | nil=>intro _;rfl
  | cons c0 l ih =>
   intro hc
   have h1:=Zd6 c0 (hc c0 (by simp))
   have ih:=ih fun c hm=>hc c (by simp [hm])
   have h2:t2I pLt (eF1 (ZaH "0123456789") (eVar 5)) (eC (.int 0)) [a,b,c,q,.sh (.str w),.sh (.str ⟨#[c0]⟩),z6]=some (decide (PySem.Txt.find "0123456789" ⟨#[c0]⟩ < 0)):=rfl
   simp only [List.map_cons,Jz,List.set_cons_succ,List.set_cons_zero,h2,h1,List.filter_cons]
   cases (!(decide (48≤c0) && decide (c0≤57))) with
   | false=>simp only [ih];rfl
   | true =>
    simp only [ih]
    rfl
 refine (Zbg (P:=(·=oddW w)) (Zgn (Zg (d:=.lst ((w.cps.toList.filter fun c=>!(decide (48≤c) && decide (c≤57))).map fun c=>D.str ⟨#[c]⟩)) ?_ ⟨_,rfl,Je rfl ?_⟩))).eq
 ·unfold Yg
  rw [hit]
  dsimp only
  rw [if_pos (by rw [List.length_map,Yk];omega),cf _ ha]
 ·rw [List.length_map]
  unfold oddW
  rw [Bool.eq_iff_iff,decide_eq_true_eq,List.any_eq_true]
  constructor
  ·intro h
   obtain ⟨x,hx⟩:=List.exists_mem_of_length_pos (show 0 < _ by exact Int.ofNat_lt.mp h)
   exact ⟨x,(List.mem_filter.mp hx).1,(List.mem_filter.mp hx).2⟩
  ·rintro ⟨x,hx,h⟩
   exact Int.ofNat_lt.mpr (List.length_pos_of_mem (List.mem_filter.mpr ⟨hx,h⟩))
theorem ZfU {ws:List Str}(hw:∀ w ∈ ws,As w∧w.length≤1000)(hl:ws.length≤1000){a b c z4 z5 z6:Sl}{it:Lx}{Q:Out→Env→Prop}(hit:it [a,b,c,.ow [],z4,z5,z6]=some (ws.map .str))
  (hn:mp valW ws=none→∀ e,Q (.rt .non) e) (hs:∀ q,mp valW ws=some q→∀ z4 z5,Q .nx [a,b,c,.ow (q.map .int),z4,z5,z6]) :
  wp (sFor (gN 4) it (sSeq (sIf (tOr (tEq (eVar 4) (eC (.str ""))) (tOr (t2I pGt (eF1 JH (eVar 4)) (eC (.int 40))) (tAnd (t2I pGt (eF1 JH (eVar 4)) (eC (.int 1))) (tEq (eIxS (eVar 4) (eC (.int 0))) (eC (.str "0")))))) (sRet (eC .non)) Jg) (sSeq (sIf (t2I pGt (eF1 fLen (Yg 5 (iStr (eVar 4)) (t2I pLt (eF1 (ZaH "0123456789") (eVar 5)) (eC (.int 0))) (eVar 5))) (eC (.int 0))) (sRet (eC .non)) Jg) (sApp 3 (eF1 Zbd (eVar 4)))))) [a,b,c,.ow [],z4,z5,z6] Q:=by
 refine ZdD (fun k e=>∃ q z4 z5,mp valW (ws.take k)=some q∧e=[a,b,c,.ow (q.map .int),z4,z5,z6]) hit ⟨[],z4,z5,rfl,rfl⟩ (fun k d e hd he=>?_) fun e he=>?_
 ·obtain ⟨q,z4,z5,hq,rfl⟩:=he
  rw [List.getElem?_map,Option.map_eq_some_iff] at hd
  obtain ⟨w,hw1,rfl⟩:=hd
  have hm:w ∈ ws:=List.mem_of_getElem? hw1
  obtain ⟨has,hlen⟩:=hw w hm
  refine ⟨_,rfl,?_⟩
  have bad:badW w=true→∀ e,Q (.rt .non) e:=fun hb=>hn (ZcJ.mpr ⟨w,hm,by unfold valW;rw [if_pos hb]⟩)
  refine wp_seq (Zaj (Zae (Zgu rfl hlen) ⟨fun h1=>Zt (Zg rfl (bad (by rw [Zcv,h1];rfl) _)),fun h1=>YD ?_⟩))
  refine wp_seq (Zaj (Zae (Zh8 has hlen) ⟨fun h2=>Zt (Zg rfl (bad (by rw [Zcv,h1,h2];rfl) _)),fun h2=>YD ?_⟩))
  have hb:badW w=false:=by rw [Zcv,h1,h2];rfl
  obtain ⟨n,e1,h0,_⟩:=ZeA hb
  have hv:valW w=some n:=by unfold valW;rw [if_neg (by rw [hb];simp)];exact e1
  have h40:w.length≤640:=by
   unfold JZ at h1
   simp only [Bool.or_eq_false_iff,decide_eq_false_iff_not] at h1
   omega
  have e2:eF1 Zbd (eVar 4) [a,b,c,.ow (q.map .int),.sh (.str w),z5,z6]=some (.int n):=by
   refine YG rfl ?_
   simp only [Zbd]
   rw [if_pos h40,e1]
  have hql:=Zab hq
  rw [List.length_take] at hql
  have hk:k < ws.length:=(List.getElem?_eq_some_iff.mp hw1).1
  refine ZhD (r:=q) rfl (Je e2 ⟨by omega,?_⟩)
  refine ⟨q++[n],_,_,?_,rfl⟩
  rw [List.take_add_one,hw1]
  exact Zew hq hv
 ·obtain ⟨q,z4,z5,hq,rfl⟩:=he
  rw [List.length_map,List.take_length] at hq
  exact hs q hq z4 z5
end PV
set_option linter.all false
set_option Elab.async false
set_option maxHeartbeats 2000000
set_option maxRecDepth 10000
namespace PV
open PySem (Str)
theorem ZcB:∀ {ns:List Int},0 < ns.length→∀ s:Int,(s≤maxL ns↔∃ x ∈ ns,s≤x)
 | [],h,_=>absurd h (by simp)
 | [n],_,s=>by simp [maxL]
 | n::m::ns,_,s=>by
  have ih:=ZcB (ns:=m::ns) (by simp) s
  show s≤max n (maxL (m::ns))↔_
  rw [show (∃ x ∈ n::m::ns,s≤x)↔(s≤n∨∃ x ∈ m::ns,s≤x) by simp only [List.mem_cons,exists_eq_or_imp],← ih]
  omega
theorem Zic {a:Ex}{env:Env}{r:List Int}(h:a env=some (rowD r))(h0:0 < r.length):eF1 ZbU a env=some (.int (maxL r)):=by
 refine YG h ?_
 simp only [rowD,ZbU,ints_map]
 rw [if_pos h0]
theorem ZhH {t:Str}(ht:t.length≤900){T:List (List Int)}(h:tabV t=some T):(∀ r ∈ T,r.length≤901∧0 < r.length)∧T.length≤901:=by
 have hs:=Zdg t
 have hl:=hs.len
 refine ⟨fun r hr=>?_,by rw [Zab h];omega⟩
 obtain ⟨l,hl,e⟩:=ZbM h hr
 have h1:=hs.part l hl
 have h2:=ZbZ l
 have h3:=Zab e
 have h4:=h2.len
 have h5:0 < (PySem.Txt.split l ⟨#[32]⟩).length:=List.length_pos_iff.mpr h2.ne
 omega
noncomputable def dueV (t:Str):Option (List (List Int)):=(tabV t).bind fun T=>if okT T=true then some T else none
noncomputable def dueD (t:Str):D:=match dueV t with
 | some T=>tabD T
 | none=>.non
theorem Zjl {t:Str}(ha:As t)(ht:t.length≤900):YK [.str t]=some (dueD t):=by
 have hs:=Zdg t
 have hl:=hs.len
 refine Zar rfl (wp_seq (Zfj (Zg rfl ⟨[],rfl,?_⟩)))
 have hnon:tabV t=none→∀ e,ends (dueD t) (.rt .non) e:=fun h e=>by
  show _=dueD t
  unfold dueD dueV
  rw [h];rfl
 refine wp_seq (ZdD (fun k e=>∃ T z2 z3 z4 z5,mp rowV ((PySem.Txt.split t ⟨#[47]⟩).take k)=some T∧e=[.sh (.str t),.ow (T.map rowD),z2,z3,z4,z5,.un]) (ZaB rfl (by omega) hs) ⟨[],_,_,_,_,rfl,rfl⟩ (fun k d e hd he=>?_) fun e he=>?_)
 ·obtain ⟨T,z2,z3,z4,z5,hT,rfl⟩:=he
  rw [List.getElem?_map,Option.map_eq_some_iff] at hd
  obtain ⟨l,hl1,rfl⟩:=hd
  have hm:=List.mem_of_getElem? hl1
  have hla:=hs.asc ha l hm
  have hll:=hs.part l hm
  have h2:=ZbZ l
  have h2l:=h2.len
  have hk:k < (PySem.Txt.split t ⟨#[47]⟩).length:=(List.getElem?_eq_some_iff.mp hl1).1
  have hTl:=Zab hT
  rw [List.length_take] at hTl
  refine ⟨_,rfl,wp_seq (Zfj (Zg rfl ⟨[],rfl,?_⟩))⟩
  refine wp_seq (ZfU (ws:=PySem.Txt.split l ⟨#[32]⟩) (fun w hw=>⟨h2.asc hla w hw,by have:=h2.part w hw;omega⟩) (by omega) (ZaB rfl (by omega) h2) (fun hn e=>?_) fun q hq z4 z5=>?_)
  ·exact hnon (ZcJ.mpr ⟨l,hm,hn⟩) e
  ·refine wp_seq (Zfk rfl (Zhn (T:=T) rfl (ZdG (d:=q) rfl ⟨by omega,?_⟩)))
   refine ⟨T++[q],_,_,_,_,?_,rfl⟩
   rw [List.take_add_one,hl1]
   exact Zew hT hq
 ·obtain ⟨T,z2,z3,z4,z5,hT,rfl⟩:=he
  rw [List.length_map,List.take_length] at hT
  have hT:tabV t=some T:=hT
  obtain ⟨hr,hTl⟩:=ZhH ht hT
  have hd:dueD t=if okT T=true then tabD T else .non:=by
   unfold dueD dueV
   rw [hT]
   simp only [Option.bind_some]
   by_cases ho:okT T=true
   ·rw [if_pos ho,if_pos ho]
   ·rw [if_neg ho,if_neg ho]
  refine wp_seq (Yo (evI.ev (ZbG (ZaY (d:=T) rfl ?_))))
  refine wp_seq (Zfk rfl ?_)
  have hno:okT T=false→∀ e,ends (dueD t) (.rt .non) e:=fun h e=>by
   show _=dueD t
   rw [hd,if_neg (by rw [h];simp)]
  refine wp_seq (Zf0 (r:=T) (fun k e=>(∀ r ∈ T.take k,r.length=T.length∧∀ x ∈ r,x < T.length)∧∃ z3,e=[.sh (.str t),.sh (tabD T),z2,z3,z4,z5,.sh (.int T.length)]) (Zfa rfl) ⟨by simp,_,rfl⟩ (fun k e r hr1 he=>?_) fun e he=>?_)
  ·obtain ⟨hp,z3,rfl⟩:=he
   have hm:=List.mem_of_getElem? hr1
   obtain ⟨hrl,hr0⟩:=hr r hm
   have bad:¬ (r.length=T.length∧∀ x ∈ r,x < T.length)→okT T=false:=fun h=>by
    rw [Bool.eq_false_iff]
    intro ho
    unfold okT at ho
    simp only [Bool.and_eq_true,decide_eq_true_eq,List.all_eq_true] at ho
    exact h (ho.2 r hm)
   refine Zaj (Zdi (Zfr (ZdA (ZdG (d:=r) rfl (Je rfl ⟨fun h1=>⟨fun _=>Zt (Zg rfl (hno (bad fun h=>?_) [])),fun e=>by cases e⟩,fun h1=>Zg3 (Je (Zic (r:=r) rfl hr0) (Je rfl ⟨fun h2=>Zt (Zg rfl (hno (bad fun h=>?_) [])),fun h2=>YD ?_⟩))⟩)))))
   ·have h1:=of_decide_eq_true h1
    have:=h.1
    omega
   ·have h2:=of_decide_eq_true h2
    obtain ⟨x,hx,hge⟩:=(ZcB hr0 _).mp h2
    have:=h.2 x hx
    omega
   ·have h1:=of_decide_eq_false h1
    have h2:=of_decide_eq_false h2
    refine ⟨fun r' hr'=>?_,_,rfl⟩
    rw [List.take_add_one,hr1,List.mem_append] at hr'
    rcases hr' with h | h
    ·exact hp r' h
    ·have:r'=r:=by simpa using h
     subst this
     refine ⟨by omega,fun x hx=>?_⟩
     have h3:¬ ((T.length:Int)≤x):=fun hge=>h2 ((ZcB hr0 _).mpr ⟨x,hx,hge⟩)
     omega
  ·obtain ⟨hp,z3,rfl⟩:=he
   rw [List.take_length] at hp
   refine wp_seq (Zaj (Zbg (Je rfl (Je rfl ⟨fun h=>Zt (Zg rfl (hno ?_ [])),fun h=>YD ?_⟩))))
   ·have h:=of_decide_eq_true h
    unfold okT
    rw [decide_eq_false (by omega),Bool.false_and]
   ·have h:=of_decide_eq_false h
    refine wp_seq (ZhT rfl (Zt (Zg (d:=tabD T) rfl ?_)))
    show _=dueD t
    rw [hd,if_pos]
    unfold okT
    simp only [Bool.and_eq_true,decide_eq_true_eq,List.all_eq_true]
    exact ⟨by omega,hp⟩
theorem ZgB (t:Str):dueV t=ZJ t:=by
 unfold dueV ZJ
 cases hV:tabV t with
 | none =>
  cases hN:tabN t with
  | none=>rfl
  | some T=>rw [ZfY hN] at hV;cases hV
 | some T =>
  simp only [Option.bind_some]
  by_cases ho:okT T=true
  ·rw [Zio hV ho];rfl
  ·rw [if_neg ho]
   cases hN:tabN t with
   | none=>rfl
   | some S =>
    have:=ZfY hN
    rw [hV] at this
    cases this
    simp only [Option.bind_some,if_neg ho]
end PV
set_option linter.all false
set_option Elab.async false
set_option maxHeartbeats 2000000
set_option maxRecDepth 10000
namespace PV
open PySem (Str)
theorem ZhC {a b:Ex}{env:Env}{x y:Str}(ha:a env=some (.str x))(hb:b env=some (.str y))(h:x.length + y.length≤100000):eCat a b env=some (.str (x++y)):=by
 simp only [eCat,eF2,ha,hb,fCat]
 rw [if_pos (by rw [Yk];exact h)]
theorem ZfK (c:Int){m:Nat}(h0:1≤m)(h1:m≤12):∃ T,Tab T m∧∀ env:Env,eVar 1 env=some (.int m)→eVar 2 env=some (.int c)→6 < env.length →
  Yg 5 (iRng (eVar 1)) Yj (Yg 4 (iRng (eVar 1)) Yj (Jh Zx [(eVar 2),(eAdd (e2I iMul (eVar 5) (eVar 1)) (eVar 4)),(eVar 1)])) env=some (tabD T):=by
 have dr:∀ k:Nat,∃ r:Int,k≤1000→Zx [.int c,.int k,.int m]=some (.int r)∧0≤r∧r < m:=fun k=>by
  by_cases hk:k≤1000
  ·obtain ⟨r,e⟩:=Zd7 c k m hk (by omega) (by omega)
   exact ⟨r,fun _=>e⟩
  ·exact ⟨0,fun h=>absurd h hk⟩
 obtain ⟨F,hF⟩:=Classical.axiomOfChoice dr
 have hk:∀ a b:Int,El m a→El m b→(a.toNat * m + b.toNat)≤1000:=fun a b ha hb=>by
  obtain ⟨i,hi,rfl⟩:=ha.nat
  obtain ⟨j,hj,rfl⟩:=hb.nat
  simp only [Int.toNat_natCast]
  have:i * m≤12 * 12:=Nat.mul_le_mul (by omega) h1
  omega
 refine ⟨(upto m).map fun a=>(upto m).map fun b=>F (a.toNat * m + b.toNat),⟨by rw [List.length_map,ZaC],fun r hr=>?_,fun r hr x hx=>?_,h0,h1⟩,fun env e2 e3 hl=>?_⟩
 ·obtain ⟨a,_,rfl⟩:=List.mem_map.mp hr
  rw [List.length_map,ZaC]
 ·obtain ⟨a,ha,rfl⟩:=List.mem_map.mp hr
  obtain ⟨b,hb,rfl⟩:=List.mem_map.mp hx
  exact (hF _ (hk a b (JV.mp ha) (JV.mp hb))).2
 ·have len:(upto m).length≤lim:=by rw [ZaC,Yk];omega
  unfold tabD
  rw [List.map_map]
  refine YW (upto m) D.int _ (ZaS e2 (by omega)) len fun a ha=>?_
  have ha:El m a:=JV.mp ha
  have g2:eVar 1 (env.set 5 (.sh (.int a)))=some (.int m):=by rw [← e2];simp [eVar,List.getElem?_set_ne]
  have g3:eVar 2 (env.set 5 (.sh (.int a)))=some (.int c):=by rw [← e3];simp [eVar,List.getElem?_set_ne]
  show _=some (rowD _)
  unfold rowD
  rw [List.map_map]
  refine YW (upto m) D.int _ (ZaS g2 (by omega)) len fun b hb=>?_
  have hb:El m b:=JV.mp hb
  have f2:eVar 1 ((env.set 5 (.sh (.int a))).set 4 (.sh (.int b)))=some (.int m):=by rw [← g2];simp [eVar,List.getElem?_set_ne]
  have f3:eVar 2 ((env.set 5 (.sh (.int a))).set 4 (.sh (.int b)))=some (.int c):=by rw [← g3];simp [eVar,List.getElem?_set_ne]
  have f4:eVar 4 ((env.set 5 (.sh (.int a))).set 4 (.sh (.int b)))=some (.int b):=by
   have:4 < (env.set 5 (.sh (.int a))).length:=by rw [List.length_set];omega
   simp [eVar,List.getElem?_set_self this,Sl.shd]
  have f5:eVar 5 ((env.set 5 (.sh (.int a))).set 4 (.sh (.int b)))=some (.int a):=by
   have:5 < env.length:=by omega
   simp [eVar,List.getElem?_set_ne,List.getElem?_set_self this,Sl.shd]
  have f6:eAdd (e2I iMul (eVar 5) (eVar 1)) (eVar 4) ((env.set 5 (.sh (.int a))).set 4 (.sh (.int b)))=some (.int ((a.toNat * m + b.toNat:Nat):Int)):=by
   refine (ZbI (P:=(·=((a.toNat * m + b.toNat:Nat):Int))) (Zh1 (Je f5 (Je f2 ⟨.inr ⟨by omega,by omega⟩,Je f4 ?_⟩)))).eq
   obtain ⟨i,hi,rfl⟩:=ha.nat
   obtain ⟨j,hj,rfl⟩:=hb.nat
   simp
  exact (Zij f3 f6 f2).trans (hF _ (hk a b ha hb)).1
theorem pick {l:List Str}{a b:Ex}{env:Env}{q:Nat}(ha:a env=some (.lst (l.map .str)))(hb:b env=some (.int q))(hq:q < l.length):∃ x ∈ l,eIx a b env=some (.str x):=by
 refine ⟨l[q],List.getElem_mem hq,?_⟩
 simp only [eIx,eF2,ha,hb,fIx]
 exact ZeC (by simp [hq])
noncomputable def ZF:List Str:=[" ","0","1","2","9","-","+","_",".","\t","\n","a",",","/","3","8"]
noncomputable def Zdu:Str:=Str.join " " (List.replicate 13 "0")
noncomputable def ZgX:Str:=Str.join "/" (List.replicate 13 Zdu)
noncomputable def Z6:List Str:=[""," ","0","1","00","0 1/1 0","0 1/1 0/","/0","0 1/1  0","0 1 /1 0","0 1/1 2","0 1/1","01 1/1 0"]
noncomputable def J8:List Str:=["0 1/1_0 0","+0","0\n","0 1\t1 0",ZgX,"-0","0 1/1 00"]
noncomputable def okS (x:Str) (n:Nat):Bool:=x.cps.toList.all (fun c=>decide (c < 128)) && decide (x.length≤n)
theorem Zfy {x:Str}{n:Nat}(h:okS x n=true):As x∧x.length≤n:=by
 unfold okS at h
 simp only [Bool.and_eq_true,List.all_eq_true,decide_eq_true_eq] at h
 exact h
theorem ZgK:∀ x ∈ ZF,As x∧x.length≤1:=fun x hx=>Zfy (List.all_eq_true.mp (show ZF.all (fun x=>okS x 1)=true by decide +kernel) x hx)
theorem ZhO:∀ x ∈ Z6++J8,As x∧x.length≤400:=fun x hx=>Zfy (List.all_eq_true.mp (show (Z6++J8).all (fun x=>okS x 400)=true by decide +kernel) x hx)
theorem Zcy {a:Ex}{env:Env}{t:Str}{lo hi:Env→Option (Option Int)}{l h:Option Int}(ha:a env=some (.str t))(hl:lo env=some l)(hh:hi env=some h)(ht:t.length≤445)(hs:As t):∃ x,Jr a lo hi env=some (.str x)∧As x∧x.length≤445:=by
 refine ⟨PySem.Txt.slice t l h,?_,Zf9 hs l h,Nat.le_trans (PySem.Txt.slice_le t l h) ht⟩
 simp only [Jr,ha,hl,hh,Ze2]
 rw [if_pos (by rw [Yk];omega)]
theorem Zdp {a:Ex}{env:Env}{i:Int}(h:a env=some (.int i)):oAt a env=some (some i):=by simp only [oAt,h]
theorem Zeu {a:Ex}{env:Env}{i:Int}(h:a env=some (.int i)):eAdd a (eC (.int 1)) env=some (.int (i + 1)):=(ZbI (P:=(·=i + 1)) (Je h (Je rfl rfl))).eq
theorem ZaW {a b:Ex}{env:Env}{x y:Str}{n m:Nat}(ha:a env=some (.str x))(hb:b env=some (.str y))(hx:As x∧x.length≤n)(hy:As y∧y.length≤m)(h:n + m≤100000):∃ z,eCat a b env=some (.str z)∧As z∧z.length≤n + m:=by
 refine ⟨x++y,ZhC ha hb (by omega),hx.1.app hy.1,?_⟩
 rw [PySem.Str.length_append];omega
theorem Zgy (ns:List Int){t:Str}(ha:As t)(ht:t.length≤445):∃ t',YB [rowD ns,.str t]=some (.str t')∧As t'∧t'.length≤900:=by
 obtain ⟨q4,hq4,e4⟩:=Zaq (ZD ns 4) (show 0 < 16 by decide)
 obtain ⟨q5,hq5,e5⟩:=Zaq (ZD ns 5) (show 0 < t.length + 1 by omega)
 obtain ⟨q6,hq6,e6⟩:=Zaq (ZD ns 6) (show 0 < 4 by decide)
 obtain ⟨q7,hq7,e7⟩:=Zaq (ZD ns 7) (show 0 < 20 by decide)
 have key:∃ t',As t'∧t'.length≤900∧wp ZQ (enter 7 [rowD ns,.str t]) (ends (.str t')):=by
  have cell:∀ (k:Nat) (m:Int) (env:Env) (q:Nat),0 < m→ZD ns k % m=q→eVar 0 env=some (rowD ns)→∀ e:Ex,e env=some (.int m)→e2I iMod (Jh Jd [(eVar 0),(eC (.int k))]) e env=some (.int q):=fun k m env q hm hq h0 e he =>
   (ZcF (P:=(·=(q:Int))) (Je ((Zat h0 rfl).trans (YC ns k)) (Je he ⟨hm,hq⟩))).eq
  have e0:eLst [(eC (.str " ")),(eC (.str "0")),(eC (.str "1")),(eC (.str "2")),(eC (.str "9")),(eC (.str "-")),(eC (.str "+")),(eC (.str "_")),(eC (.str ".")),(eC (.str "\t")),(eC (.str "\n")),(eC (.str "a")),(eC (.str ",")),(eC (.str "/")),(eC (.str "3")),(eC (.str "8"))] (enter 7 [rowD ns,.str t])=some (.lst (ZF.map .str)):=rfl
  obtain ⟨sg,hsg,esg⟩:=pick (l:=ZF) (a:=eVar 2) (b:=e2I iMod (Jh Jd [(eVar 0),(eC (.int 4))]) (eC (.int 16))) (env:=[.sh (rowD ns),.sh (.str t),.sh (.lst (ZF.map .str)),.un,.un,.un,.un]) (q:=q4) rfl (cell 4 16 _ q4 (by decide) e4 rfl _ rfl) hq4
  have hsg:=ZgK sg hsg
  let E4:Env:=[.sh (rowD ns),.sh (.str t),.sh (.lst (ZF.map .str)),.sh (.str sg),.un,.un,.un]
  have e5':e2I iMod (Jh Jd [(eVar 0),(eC (.int 5))]) (eAdd (eF1 JH (eVar 1)) (eC (.int 1))) E4=some (.int q5):=by
   refine cell 5 ((t.length:Int) + 1) _ q5 (by omega) ?_ rfl _ (Zeu (ZeF rfl (by omega)))
   have:((t.length + 1:Nat):Int)=(t.length:Int) + 1:=by omega
   rw [← this];exact e5
  let E6:Env:=[.sh (rowD ns),.sh (.str t),.sh (.lst (ZF.map .str)),.sh (.str sg),.sh (.int q5),.sh (.int q6),.un]
  have at0:eVar 4 E6=some (.int q5):=rfl
  obtain ⟨x1,c1,k1⟩:=Zcy (a:=eVar 1) (env:=E6) (t:=t) (lo:=oNo) (hi:=oAt (eVar 4)) rfl rfl (Zdp at0) (by omega) ha
  obtain ⟨x2,c2,k2⟩:=Zcy (a:=eVar 1) (env:=E6) (t:=t) (lo:=oAt (eVar 4)) (hi:=oNo) rfl (Zdp at0) rfl (by omega) ha
  obtain ⟨x3,c3,k3⟩:=Zcy (a:=eVar 1) (env:=E6) (t:=t) (lo:=oAt (eAdd (eVar 4) (eC (.int 1)))) (hi:=oNo) rfl (Zdp (Zeu at0)) rfl (by omega) ha
  have pre:∀ t',As t'∧t'.length≤900→wp (sSeq (sIf (tEq (eVar 5) (eC (.int 0))) (sRet (eCat (eCat (Jr (eVar 1) oNo (oAt (eVar 4))) (eVar 3)) (Jr (eVar 1) (oAt (eVar 4)) oNo))) Jg) (sSeq (sIf (tEq (eVar 5) (eC (.int 1))) (sRet (eCat (Jr (eVar 1) oNo (oAt (eVar 4))) (Jr (eVar 1) (oAt (eAdd (eVar 4) (eC (.int 1)))) oNo))) Jg) (sSeq (sIf (tEq (eVar 5) (eC (.int 2))) (sRet (eCat (eCat (Jr (eVar 1) oNo (oAt (eVar 4))) (eVar 3)) (Jr (eVar 1) (oAt (eAdd (eVar 4) (eC (.int 1)))) oNo))) Jg) (sSeq (sSet 6 (eLst [(eC (.str "")),(eC (.str " ")),(eC (.str "0")),(eC (.str "1")),(eC (.str "00")),(eC (.str "0 1/1 0")),(eC (.str "0 1/1 0/")),(eC (.str "/0")),(eC (.str "0 1/1  0")),(eC (.str "0 1 /1 0")),(eC (.str "0 1/1 2")),(eC (.str "0 1/1")),(eC (.str "01 1/1 0"))])) (sSeq (sSet 6 (eAdd (eVar 6) (eLst [(eC (.str "0 1/1_0 0")),(eC (.str "+0")),(eC (.str "0\n")),(eC (.str "0 1\t1 0")),(eF1 (Yr "/") (eRep (eLst [(eF1 (Yr " ") (eRep (eLst [(eC (.str "0"))]) (eC (.int 13))))]) (eC (.int 13)))),(eC (.str "-0")),(eC (.str "0 1/1 00"))]))) (sRet (eIx (eVar 6) (e2I iMod (Jh Jd [(eVar 0),(eC (.int 7))]) (eC (.int 20)))))))))) E6 (ends (.str t'))→∃ t',As t'∧t'.length≤900∧wp ZQ (enter 7 [rowD ns,.str t]) (ends (.str t')):=fun t' ht' hw =>
   ⟨t',ht'.1,ht'.2,wp_seq (Yo (Zg e0 (wp_seq (Yo (Zg esg (wp_seq (Yo (Zg e5' (wp_seq (Yo (Zg (cell 6 4 _ q6 (by decide) e6 rfl _ rfl) hw)))))))))))⟩
  have way:∀ k:Int,tEq (eVar 5) (eC (.int k)) E6=some (decide ((q6:Int)=k)):=fun k=>(Zi2 (P:=(·=decide ((q6:Int)=k))) (Je rfl (Je rfl rfl))).eq
  have no:∀ k:Int,(q6:Int)≠k→∀ {a:St} {Q:Out→Env→Prop},Q .nx E6→wp (sIf (tEq (eVar 5) (eC (.int k))) a Jg) E6 Q:=fun k hk {a Q} q=>Zg2 (Zae (way k) (decide_eq_false hk)) q
  have yes:∀ k:Int,(q6:Int)=k→∀ {a:St} {Q:Out→Env→Prop},wp a E6 Q→wp (sIf (tEq (eVar 5) (eC (.int k))) a Jg) E6 Q:=fun k hk {a Q} q=>Zaj (Zae (way k) ⟨fun _=>q,fun h=>absurd hk (of_decide_eq_false h)⟩)
  by_cases w0:q6=0
  ·obtain ⟨y,cy,ky⟩:=ZaW (a:=Jr (eVar 1) oNo (oAt (eVar 4))) (b:=eVar 3) c1 rfl k1 hsg (by omega)
   obtain ⟨z,cz,kz⟩:=ZaW cy c2 ky k2 (by omega)
   exact pre z ⟨kz.1,by omega⟩ (wp_seq (yes 0 (by omega) (Zt (Zg cz rfl))))
  by_cases w1:q6=1
  ·obtain ⟨z,cz,kz⟩:=ZaW c1 c3 k1 k3 (by omega)
   exact pre z ⟨kz.1,by omega⟩ (wp_seq (no 0 (by omega) (wp_seq (yes 1 (by omega) (Zt (Zg cz rfl))))))
  by_cases w2:q6=2
  ·obtain ⟨y,cy,ky⟩:=ZaW (a:=Jr (eVar 1) oNo (oAt (eVar 4))) (b:=eVar 3) c1 rfl k1 hsg (by omega)
   obtain ⟨z,cz,kz⟩:=ZaW cy c3 ky k3 (by omega)
   exact pre z ⟨kz.1,by omega⟩ (wp_seq (no 0 (by omega) (wp_seq (no 1 (by omega) (wp_seq (yes 2 (by omega) (Zt (Zg cz rfl))))))))
  have mid:∀ env,eF1 (Yr " ") (eRep (eLst [(eC (.str "0"))]) (eC (.int 13))) env=some (.str Zdu):=fun env =>
   YG (d:=.lst ((List.replicate 13 ("0":Str)).map .str)) rfl (ZaL (joinOk_of (B:=1) rfl (fun p hp=>by rw [List.eq_of_mem_replicate hp];decide) (by decide)))
  have big:∀ env,eF1 (Yr "/") (eRep (eLst [(eF1 (Yr " ") (eRep (eLst [(eC (.str "0"))]) (eC (.int 13))))]) (eC (.int 13))) env=some (.str ZgX):=fun env=>by
   refine YG (d:=.lst ((List.replicate 13 Zdu).map .str)) ?_ (ZaL (joinOk_of (B:=25) rfl (fun p hp=>by rw [List.eq_of_mem_replicate hp];decide) (by decide)))
   simp only [eRep,eF2,eLst,evs,mid env]
   rfl
  let E7:Env:=[.sh (rowD ns),.sh (.str t),.sh (.lst (ZF.map .str)),.sh (.str sg),.sh (.int q5),.sh (.int q6),.sh (.lst (Z6.map .str))]
  have m1:eLst [(eC (.str "0 1/1_0 0")),(eC (.str "+0")),(eC (.str "0\n")),(eC (.str "0 1\t1 0")),(eF1 (Yr "/") (eRep (eLst [(eF1 (Yr " ") (eRep (eLst [(eC (.str "0"))]) (eC (.int 13))))]) (eC (.int 13)))),(eC (.str "-0")),(eC (.str "0 1/1 00"))] E7=some (.lst (J8.map .str)):=by
   simp only [eLst,evs,big E7]
   rfl
  have m2:∀ e:Ex,e E7=some (.lst (J8.map .str))→eAdd (eVar 6) e E7=some (.lst ((Z6++J8).map .str)):=fun e he=>by
   simp only [eAdd,eF2,he,show eVar 6 E7=some (.lst (Z6.map .str)) from rfl,fAdd,List.length_map]
   rw [if_pos (by rw [Yk];decide),List.map_append]
  obtain ⟨z,hz,cz⟩:=pick (l:=Z6++J8) (a:=eVar 6) (b:=e2I iMod (Jh Jd [(eVar 0),(eC (.int 7))]) (eC (.int 20))) (env:=[.sh (rowD ns),.sh (.str t),.sh (.lst (ZF.map .str)),.sh (.str sg),.sh (.int q5),.sh (.int q6),.sh (.lst ((Z6++J8).map .str))]) (q:=q7) rfl (cell 7 20 _ q7 (by decide) e7 rfl _ rfl) hq7
  have hz:=ZhO z hz
  exact pre z ⟨hz.1,by omega⟩ (wp_seq (no 0 (by omega) (wp_seq (no 1 (by omega) (wp_seq (no 2 (by omega) (wp_seq (Yo (Zg rfl (wp_seq (Yo (Zg (m2 _ m1) (Zt (Zg cz rfl))))))))))))))
 obtain ⟨t',h1,h2,h3⟩:=key
 exact ⟨t',Zar rfl h3,h1,h2⟩
end PV
set_option linter.all false
set_option Elab.async false
set_option maxHeartbeats 2000000
set_option maxRecDepth 10000
namespace PV
open PySem (Str)
theorem ZiG {x:Int}(h:El 12 x):As (dig x):=by
 obtain ⟨k,hk,rfl⟩:=h.nat
 have:∀ k:Nat,k < 12→((dig k).cps.toList.all fun c=>decide (c < 128))=true:=by decide +kernel
 intro c hc
 exact of_decide_eq_true (List.all_eq_true.mp (this k hk) c hc)
theorem Zer {T:List (List Int)}{n:Nat}(hT:Tab T n):As (tabT T):=by
 have one:∀ d,d < 128→As ⟨#[d]⟩:=fun d hd c hc=>by
  have:c=d:=by simpa using hc
  omega
 refine As.join (one 47 (by omega)) _ fun p hp=>?_
 obtain ⟨r,hr,rfl⟩:=List.mem_map.mp hp
 refine As.join (one 32 (by omega)) _ fun p hp=>?_
 obtain ⟨x,hx,rfl⟩:=List.mem_map.mp hp
 exact ZiG ((Zb9 hT hr).el x hx)
theorem Zb5 {T:List (List Int)}{n:Nat}(hT:Tab T n):(tabT T).length≤445:=by
 have:=ZdX (sep:=⟨#[47]⟩) (B:=36) rfl (l:=T.map rowT) fun p hp=>by
  obtain ⟨r,hr,rfl⟩:=List.mem_map.mp hp
  exact (Zb9 hT hr).bound
 rw [List.length_map,hT.len] at this
 have:=hT.top
 unfold tabT
 omega
theorem Zhe {T:List (List Int)}{n:Nat}(hT:Tab T n){env:Env}(h3:eVar 3 env=some (tabD T))(hl:8 < env.length) :
  eF1 (Yr "/") (Yg 8 (iOf (eVar 3)) Yj (eF1 (Yr " ") (Yg 7 (iOf (eVar 8)) Yj (eF1 fStr (eVar 7))))) env=some (.str (tabT T)):=by
 have hlen:=hT.len
 have ht:=hT.top
 have e1:Yg 8 (iOf (eVar 3)) Yj (eF1 (Yr " ") (Yg 7 (iOf (eVar 8)) Yj (eF1 fStr (eVar 7)))) env=some (.lst ((T.map rowT).map .str)):=by
  rw [List.map_map]
  refine YW T rowD _ (Zfa h3) (by rw [Yk];omega) fun r hr=>?_
  have hrw:=Zb9 hT hr
  have hrl:=hrw.len
  have f8:eVar 8 (env.set 8 (.sh (rowD r)))=some (rowD r):=by simp [eVar,List.getElem?_set_self hl,Sl.shd]
  have e2:Yg 7 (iOf (eVar 8)) Yj (eF1 fStr (eVar 7)) (env.set 8 (.sh (rowD r)))=some (.lst ((r.map dig).map .str)):=by
   rw [List.map_map]
   refine YW r D.int _ (ZgU f8) (by rw [Yk];omega) fun x hx=>YG (d:=.int x) ?_ (ZeG (hrw.el x hx))
   have:7 < (env.set 8 (.sh (rowD r))).length:=by rw [List.length_set];omega
   simp [eVar,List.getElem?_set_self this,Sl.shd]
  refine YG e2 (ZaL (joinOk_of (B:=2) rfl (fun p hp=>?_) (by rw [List.length_map];omega)))
  obtain ⟨x,hx,rfl⟩:=List.mem_map.mp hp
  exact (Za2 (hrw.el x hx)).1
 refine YG e1 (ZaL (joinOk_of (B:=36) rfl (fun p hp=>?_) (by rw [List.length_map];omega)))
 obtain ⟨r,hr,rfl⟩:=List.mem_map.mp hp
 exact (Zb9 hT hr).bound
theorem Zjr (ns : List Int) : Zcg [rowD ns] = some (.bl true) := by
  obtain ⟨q, hq, eq⟩ := Zaq (ZD ns 0) (show 0 < 12 by decide)
  refine Zar rfl (wp_seq (Yo (evI.ev (ZbI (Je rfl (ZcF (Je ((Zat rfl rfl).trans (YC ns 0)) (Je rfl ⟨by decide, ?_⟩))))))))
  rw [show ZD ns 0 % 12 = (q : Int) from eq, show (1 : Int) + (q : Int) = ((q + 1 : Nat) : Int) by omega]
  refine wp_seq (Yo (Zg ((Zat rfl rfl).trans (YC ns 1)) ?_))
  obtain ⟨T, hT, e⟩ := ZfK (ZD ns 1) (m := q + 1) (by omega) (by omega)
  refine wp_seq (Yo (Zg (e _ rfl rfl (by simp [enter])) ?_))
  refine wp_seq (Yo (Zg (Zhe hT rfl (by simp [enter])) ?_))
  have rest : ∀ (t : Str), As t → t.length ≤ 900 → ∀ z4 z5 z7 z8 : Sl, wp (sSeq (sSet 9 (Jh YK [(eVar 6)])) (sSeq (sSet 10 (Jh JF [(eVar 6)])) (sSeq (sIf (tIsN (eVar 9)) (sRet (eB (tEq (eVar 10) (eC (.str "note"))))) Jg) (sRet (eB (tAnd (tB (eF1 (fIs .list) (eVar 10))) (tEq (eVar 10) (eVar 9))))))))
      [.sh (rowD ns), .sh (.int (q + 1 : Nat)), .sh (.int (ZD ns 1)), .sh (tabD T), z4, z5, .sh (.str t), z7, z8, .un, .un] (ends (.bl true)) := by
    intro t ha ht z4 z5 z7 z8
    refine wp_seq (Yo (Zg ((ZfD (x := .str t) rfl).trans (Zjl ha ht)) ?_))
    refine wp_seq (Yo (Zg ((ZfD (x := .str t) rfl).trans (ZiZ ht)) ?_))
    have hd : dueD t = match ZJ t with | some T => tabD T | none => .non := by unfold dueD; rw [ZgB] <;> (cases ZJ t <;> rfl)
    rw [hd]
    cases hr : ZJ t with
    | none =>
      refine wp_seq (Zaj (ZfN (Zg (d := .non) rfl ⟨fun _ => Zt (ev_B (Zae (eq_str (x := "note") (y := "note") rfl rfl) ?_)), fun h => by cases h⟩)))
      rw [decide_eq_true rfl]; rfl
    | some S =>
      refine wp_seq (Zg2 (ZfN (Zg (d := tabD S) rfl rfl)) ?_)
      refine Zt (ev_B (ZdL (tv_B (Zg (d := .bl true) rfl ⟨true, rfl, fun _ => Zih (ZaY (d := S) rfl (ZaY (d := S) rfl ?_)), fun h => by cases h⟩))))
      rw [decide_eq_true rfl]; rfl
  refine wp_seq (Zaj (Zbg (ZcF (Je ((Zat rfl rfl).trans (YC ns 3)) (Je rfl ⟨by decide, Je rfl ⟨fun _ => ?_, fun _ => YD (rest _ (Zer hT) (by have := Zb5 hT; omega) _ _ _ _)⟩⟩)))))
  obtain ⟨t', e', h1, h2⟩ := Zgy ns (Zer hT) (Zb5 hT)
  exact Yo (Zg ((Zat rfl rfl).trans e') (rest t' h1 h2 _ _ _ _))
end PV
set_option linter.all false
set_option Elab.async false
set_option maxRecDepth 100000
set_option maxHeartbeats 4000000
namespace PV
open PySem PySem.Spec PyProof.Rows
open L2 (V Hp HO Same Cx)
noncomputable def top (i:Nat):Stmt:=PySem.Challenge.pw_tablefolk_k14_read_or_refused.main.body.getD i (.Pass ⟨0,0,0,0⟩)
noncomputable abbrev Jo:Stmt:=top 12
theorem ZaR:L2.Jj ["table","number"] ["table","number"] (L2.Zc Jo):=⟨rfl,rfl,rfl,by decide +kernel,rfl,by decide +kernel,by decide +kernel⟩
theorem Zc7 {P:Program} {w:World} {K:PySem.W.Frag} {mg:Str→Option Value} {base:Heap} {f:Addr} {fd:FuncData} (F:L2.Fun K "is_element" "is_element" Jo f fd) (T:Bt mg) :
  L2.FnOk P w K mg base L2.CX0 1 f fd ["table","number"] (spR K (rk K .k) Jv) :=
 ZaN (N:=["table","number"]) (ps:=["table","number"]) (k:=0) (m:=(rk K .k)) (g:=ZaU) F ZaR (.inl (JB _)) fun cdv A outer s H E hr=>by
  have hu:=hr.units
  have nd:=ZaR.nd
  have nox:∀ (e:Value) (s:Shared),False→False:=fun _ _ h=>h
  exact (Ze (Zi (((Zf2 (m:=.k) (Zjf (m:=.k) (Za 1) (Zd (m:=.k))) (ZcW (Zi8 (m:=.k) (Za 1) (Y8 (m:=.k) T (Za 0)))))))))
noncomputable abbrev Jq:Stmt:=top 11
theorem Za9:L2.Jj ["table","size","row","number"] ["table"] (L2.Zc Jq):=⟨rfl,rfl,rfl,by decide +kernel,rfl,by decide +kernel,by decide +kernel⟩
theorem Zc9 {P:Program} {w:World} {K:PySem.W.Frag} {mg:Str→Option Value} {base:Heap} {f:Addr} {fd:FuncData} (F:L2.Fun K "ask_table" "ask_table" Jq f fd) (T:Bt mg) (C_MOST_ROWS:∃ t,mg "MOST_ROWS"=some (.int 12 t)) (XC_0:XCl K 0) (G_is_element:Cal P w K mg base 1 "is_element" (rk K .k) Jv) :
  L2.FnOk P w K mg base (CXe P w K) 2 f fd ["table"] (spX K (rk K .k) Yv) :=
 ZbY (N:=["table","size","row","number"]) (ps:=["table"]) (k:=1) (m:=(rk K .k)) (g:=Za4) F Za9 (.inl (JB _)) fun cdv A outer s H E hr=>by
  have hu:=hr.units
  have nd:=Za9.nd
  have nox:∀ (e:Value) (s:Shared),False→False:=fun _ _ h=>h
  exact (ZW (Zfu (Jf nd 1 (Y8 (m:=.k) T (Za 0)))) (ZW (Zcj (pw_t (Zcp (Ze5 (Za 1) (Zd (m:=.k))) (ZaO (Zbk (Za 1) (Zf1 (m:=.k) (hm:=C_MOST_ROWS)))))) (ZG (Zai 0 XC_0 rfl (by kernel_rfl))) Zb6) (ZG (Zhw rfl rfl (Z1 (Za 0)) (pg_n nd 2) (fun E=>(ZW (Zcj (ZeS hu (Y8 (m:=.k) T (Za 2)) (Za 1)) (ZG (Zai 0 XC_0 rfl (by kernel_rfl))) Zb6) (ZG (Zcj (Zb0 (ZgR (Zir (m:=.k) T (Zbh nox nd 3 (Z1 (Za 2)) (fun _ _ _ _ _ _=>(Js G_is_element (hr.mono (by decide)) (Ja (Za 0) (Ja (Za 3) Yi)))))))) (ZG (Zai 0 XC_0 rfl (by kernel_rfl))) Zb6))))))))
noncomputable abbrev Jl:Stmt:=top 16
theorem Zam:L2.Jj ["figures","written","number"] ["figures"] (L2.Zc Jl):=⟨rfl,rfl,rfl,by decide +kernel,rfl,by decide +kernel,by decide +kernel⟩
theorem ZbR {P:Program} {w:World} {K:PySem.W.Frag} {mg:Str→Option Value} {base:Heap} {f:Addr} {fd:FuncData} (F:L2.Fun K "read_number" "read_number" Jl f fd) (T:Bt mg) (C_MOST_ROWS:∃ t,mg "MOST_ROWS"=some (.int 12 t)) (XC_6:XCl K 6) :
  L2.FnOk P w K mg base (CXe P w K) 1 f fd ["figures"] (spX K (rk K .k) Ym) :=
 ZbY (N:=["figures","written","number"]) (ps:=["figures"]) (k:=0) (m:=(rk K .k)) (g:=Zas) F Zam (.inl (JB _)) fun cdv A outer s H E hr=>by
  have hu:=hr.units
  have nd:=Zam.nd
  have nox:∀ (e:Value) (s:Shared),False→False:=fun _ _ h=>h
  exact (ZW (Zfu (Zdv nox nd 1 2 (Zb2 T (Zf1 (m:=.k) (hm:=C_MOST_ROWS))) (fun _ _ _ _ _ _=>(Zeo (m:=.k) T (Za 2))))) (ZW (Zcj (Zjo hu (Za 0) (Za 1)) (ZG (Zai 6 XC_6 rfl (by kernel_rfl))) Zb6) (ZeT (Ze (Zi (ZdO (m:=.k) hu (Za 1) (Za 0)))))))
noncomputable abbrev Jt:Stmt:=top 15
theorem ZbA:L2.Jj ["text","figures"] ["text"] (L2.Zc Jt):=⟨rfl,rfl,rfl,by decide +kernel,rfl,by decide +kernel,by decide +kernel⟩
theorem ZdC {P:Program} {w:World} {K:PySem.W.Frag} {mg:Str→Option Value} {base:Heap} {f:Addr} {fd:FuncData} (F:L2.Fun K "read_row" "read_row" Jt f fd) (T:Bt mg) (Gx_read_number:CalX P w K mg base 1 "read_number" (rk K .k) Ym) :
  L2.FnOk P w K mg base (CXe P w K) 2 f fd ["text"] (spX K (rk K .k) Yy) :=
 ZbY (N:=["text","figures"]) (ps:=["text"]) (k:=1) (m:=(rk K .k)) (g:=Zbz) F ZbA (.inl (JB _)) fun cdv A outer s H E hr=>by
  have hu:=hr.units
  have nd:=ZbA.nd
  have nox:∀ (e:Value) (s:Shared),False→False:=fun _ _ h=>h
  exact (ZG (Zga rfl rfl nd 1 (Z1 (ZaG (m:=.k) (c:=32) (by kernel_rfl) (Za 0))) (fun _ _ _ _ _ _=>Zd1 Gx_read_number (hr.mono (by decide)) (Ja (Za 1) Yi))))
noncomputable abbrev JT:Stmt:=top 14
theorem ZeJ:L2.Jj ["text","table","row"] ["text"] (L2.Zc JT):=⟨rfl,rfl,rfl,by decide +kernel,rfl,by decide +kernel,by decide +kernel⟩
theorem ZgQ {P:Program} {w:World} {K:PySem.W.Frag} {mg:Str→Option Value} {base:Heap} {f:Addr} {fd:FuncData} (F:L2.Fun K "read" "read" JT f fd) (T:Bt mg) (XH_0:XHd K 0) (XC_6:XCl K 6) (Gx_read_row:CalX P w K mg base 2 "read_row" (rk K .k) Yy) (Gx_ask_table:CalX P w K mg base 2 "ask_table" (rk K .k) Yv) :
  L2.FnOk P w K mg base (CXe P w K) 3 f fd ["text"] (spX K (rk K .k) ZL) :=
 ZbY (N:=["text","table","row"]) (ps:=["text"]) (k:=2) (m:=(rk K .k)) (g:=Zei) F ZeJ (.inl (JB _)) fun cdv A outer s H E hr=>by
  have hu:=hr.units
  have nd:=ZeJ.nd
  have nox:∀ (e:Value) (s:Shared),False→False:=fun _ _ h=>h
  exact (ZW (Zgq rfl rfl nd 1 2 (Z1 (ZaG (m:=.k) (c:=47) (by kernel_rfl) (Za 0))) (fun _ _ _ _ _ _=>Zd1 Gx_read_row (hr.mono (by decide)) (Ja (Za 2) Yi))) (ZW (ZgH 0 rfl rfl XH_0 XC_6 (fun E=>(ZG (Zit Gx_ask_table (hr.mono (by decide)) (Ja (Za 1) Yi)))) (by kernel_rfl)) (ZeT (Ze (Zi (Za 1))))))
noncomputable abbrev Zm:Stmt:=top 18
theorem Zaz:L2.Jj ["script","k"] ["script","k"] (L2.Zc Zm):=⟨rfl,rfl,rfl,by decide +kernel,rfl,by decide +kernel,by decide +kernel⟩
theorem ZcD {P:Program} {w:World} {K:PySem.W.Frag} {mg:Str→Option Value} {base:Heap} {f:Addr} {fd:FuncData} (F:L2.Fun K "_law_cell_at" "_law_cell_at" Zm f fd) (T:Bt mg) :
  L2.FnOk P w K mg base L2.CX0 1 f fd ["script","k"] (spR K (rk K .k) Jd) :=
 ZaN (N:=["script","k"]) (ps:=["script","k"]) (k:=0) (m:=(rk K .k)) (g:=ZaP) F Zaz (.inl (JB _)) fun cdv A outer s H E hr=>by
  have hu:=hr.units
  have nd:=Zaz.nd
  have nox:∀ (e:Value) (s:Shared),False→False:=fun _ _ h=>h
  exact (Jc (Yx (Ze5 (Za 1) (Y8 (m:=.k) T (Za 0))) (Ze (Zi (Zde (Za 0) (Za 1)))) Jw) (Ze (Zi (Zd (m:=.k)))))
noncomputable abbrev Zu:Stmt:=top 19
theorem ZbC:L2.Jj ["cell","k","bound","left","j","stir"] ["cell","k","bound"] (L2.Zc Zu):=⟨rfl,rfl,rfl,by decide +kernel,rfl,by decide +kernel,by decide +kernel⟩
theorem Zd4 {P:Program} {w:World} {K:PySem.W.Frag} {mg:Str→Option Value} {base:Heap} {f:Addr} {fd:FuncData} (F:L2.Fun K "_law_draw" "_law_draw" Zu f fd) (T:Bt mg) :
  L2.FnOk P w K mg base L2.CX0 1 f fd ["cell","k","bound"] (spR K (rk K .k) Zx) :=
 ZaN (N:=["cell","k","bound","left","j","stir"]) (ps:=["cell","k","bound"]) (k:=0) (m:=(rk K .k)) (g:=Zcc) F ZbC (.inl (JB _)) fun cdv A outer s H E hr=>by
  have hu:=hr.units
  have nd:=ZbC.nd
  have nox:∀ (e:Value) (s:Shared),False→False:=fun _ _ h=>h
  exact (Jc (Yx (Zbq hu (Zq (m:=.k) (Za 0) (Zd (m:=.k))) (Zd (m:=.k))) (Jc (Jf nd 3 (ZcG (m:=.k) (Za 0) (Zd (m:=.k)))) (Jc (Zbe (Zb2 T (Za 1)) (pg_n nd 4) (Ze (Jf nd 3 (ZcG (m:=.k) (Za 3) (Za 2))))) (Ze (Zi (Zq (m:=.k) (Za 3) (Za 2)))))) Jw) (Jc (Jf nd 5 (Zq (m:=.k) (Z2 (m:=.k) (Jy (Jy (Zq (m:=.k) (Za 0) (Zd (m:=.k))) (Z2 (m:=.k) (Zd (m:=.k)) (Za 1))) (Zd (m:=.k))) (Zd (m:=.k))) (Zd (m:=.k)))) (Jc (Jf nd 5 (Zq (m:=.k) (Z2 (m:=.k) (Za 5) (Za 5)) (Zd (m:=.k)))) (Jc (Jf nd 5 (Zq (m:=.k) (Z2 (m:=.k) (Jy (Za 5) (Z2 (m:=.k) (Zd (m:=.k)) (Jy (Za 1) (Zd (m:=.k))))) (Zd (m:=.k))) (Zd (m:=.k)))) (Ze (Zi (Zq (m:=.k) (ZcG (m:=.k) (Za 5) (Zd (m:=.k))) (Za 2))))))))
noncomputable abbrev Jm:Stmt:=top 20
theorem Zak:L2.Jj ["e","some"] ["e"] (L2.Zc Jm):=⟨rfl,rfl,rfl,by decide +kernel,rfl,by decide +kernel,by decide +kernel⟩
theorem ZcC {P:Program} {w:World} {K:PySem.W.Frag} {mg:Str→Option Value} {base:Heap} {f:Addr} {fd:FuncData} (F:L2.Fun K "_law_word_of" "_law_word_of" Jm f fd) (T:Bt mg) (hxv:mg "ValueError"=none) (XF:Zaa K [6]) :
  FnW P w K mg base 1 f fd "e" Zk :=
 Zil (N:=["e","some"]) (k:=0) (g:=Z0) F Zak fun cdv A outer s H hr=>by
  have hu:=hr.units
  have nd:=Zak.nd
  exact (Jc (Jf nd 1 (Zac (Ja (J9 (m:=.k) 0 0 T XF (by decide) (by kernel_rfl)) (Ja (J9 (m:=.k) 0 1 T XF (by decide) (by kernel_rfl)) (Ja (J9 (m:=.k) 0 2 T XF (by decide) (by kernel_rfl)) Yi))))) (Jc (Jf nd 1 (Jy (Za 1) (Zac (Ja (J9 (m:=.k) 0 3 T XF (by decide) (by kernel_rfl)) (Ja (J9 (m:=.k) 0 4 T XF (by decide) (by kernel_rfl)) (Ja (J9 (m:=.k) 0 5 T XF (by decide) (by kernel_rfl)) Yi)))))) (Jc (Jf nd 1 (Jy (Za 1) (Zac (Ja (J9 (m:=.k) 0 6 T XF (by decide) (by kernel_rfl)) Yi)))) (Jc (Yx (pw_t (Zcp (ZeS hu (Zgc (m:=.k) hu (Za 1) (ZgZ (m:=.k))) (Zd (m:=.k))) (ZaO (Zb0 (ZgR (Ziq (m:=.k) 0 T hxv XF)))))) (Ze (Zi (Yc (m:=.k)))) Jw) (Ze (Zi (Zde (Zac (Ja (Yc (m:=.k)) (Ja (Yc (m:=.k)) (Ja (Yc (m:=.k)) (Ja (Yc (m:=.k)) (Ja (Yc (m:=.k)) (Ja (Yc (m:=.k)) (Ja (Yc (m:=.k)) Yi)))))))) (ZdO (m:=.k) hu (Za 1) (ZgZ (m:=.k))))))))))
theorem ZgG:∀ c d,Zk c=some d→c ∈ ([6]:List Nat):=fun c d h=>by
 cases hc:decide (c ∈ ([6]:List Nat)) with
 | true=>exact of_decide_eq_true hc
 | false =>
  have hc:=of_decide_eq_false hc
  simp only [Zk,runW,Z0,sSeq,sSet,eLst,evs,eIsX,List.getElem?_cons_zero,if_neg hc] at h
  cases h
noncomputable abbrev Jx:Stmt:=top 21
theorem Zb7:L2.Jj ["text","table","line","row","word","sign","size"] ["text"] (L2.Zc Jx):=⟨rfl,rfl,rfl,by decide +kernel,rfl,by decide +kernel,by decide +kernel⟩
theorem Ze9 {P:Program} {w:World} {K:PySem.W.Frag} {mg:Str→Option Value} {base:Heap} {f:Addr} {fd:FuncData} (F:L2.Fun K "_law_due" "_law_due" Jx f fd) (T:Bt mg) :
  L2.FnOk P w K mg base L2.CX0 1 f fd ["text"] (spR K (rk K .k) YK) :=
 ZaN (N:=["text","table","line","row","word","sign","size"]) (ps:=["text"]) (k:=0) (m:=(rk K .k)) (g:=Zc3) F Zb7 (.inl (JB _)) fun cdv A outer s H E hr=>by
  have hu:=hr.units
  have nd:=Zb7.nd
  have nox:∀ (e:Value) (s:Shared),False→False:=fun _ _ h=>h
  exact (Jc (Zf4 nd 1 (Za7 (m:=.k) Yi)) (Jc (Zbe (Z1 (ZaG (m:=.k) (c:=47) (by kernel_rfl) (Za 0))) (pg_n nd 2) (Jc (Zf4 nd 3 (Za7 (m:=.k) Yi)) (Jc (Zbe (Z1 (ZaG (m:=.k) (c:=32) (by kernel_rfl) (Za 2))) (pg_n nd 4) (Jc (Yx (pw_t (Zcp (Zbq hu (Za 4) (Yc (m:=.k))) (Zcp (Zbk (Zcx (m:=.k) T (Za 4)) (Zd (m:=.k))) (ZaO (pw_t (ZiY (Zbk (Zcx (m:=.k) T (Za 4)) (Zd (m:=.k))) (ZfA (Zbq hu (ZiC (m:=.k) (Za 4) (Zd (m:=.k))) (Yc (m:=.k)))))))))) (Ze (Zi (Za0 (m:=.k)))) Jw) (Jc (Yx (Zbk (Y8 (m:=.k) T (Zgl nox nd 5 (ZiT (Za 4)) (fun _ _ _ _ _ _=>(Ze5 (ZhA (m:=.k) (Za 5)) (Zd (m:=.k)))) (fun _ _ _ _ _ _=>(Za 5)))) (Zd (m:=.k))) (Ze (Zi (Za0 (m:=.k)))) Jw) (Ze (ZfM 3 (ZhE (m:=.k) T (Za 4))))))) (ZaZ 3 (Ze (ZfM 1 (Za 3))))))) (Jc (Jf nd 6 (Y8 (m:=.k) T (Zcw 1))) (ZaZ 1 (Jc (Zbe (Z1 (Za 1)) (pg_n nd 3) (Ze (Yx (pw_t (Zcp (ZeS hu (Y8 (m:=.k) T (Zcw 3)) (Za 6)) (ZaO (Zja (Zhq (m:=.k) T (Zcw 3)) (Za 6))))) (Ze (Zi (Za0 (m:=.k)))) Jw))) (Jc (Yx (Zbk (Za 6) (Zd (m:=.k))) (Ze (Zi (Za0 (m:=.k)))) Jw) (ZaZ 1 (Ze (Zi (Za 1))))))))))
noncomputable abbrev Yt:Stmt:=top 22
theorem ZbD:L2.Jj ["text","e"] ["text"] (L2.Zc Yt):=⟨rfl,rfl,rfl,by decide +kernel,rfl,by decide +kernel,by decide +kernel⟩
theorem Zec {P:Program} {w:World} {K:PySem.W.Frag} {mg:Str→Option Value} {base:Heap} {f:Addr} {fd:FuncData} (F:L2.Fun K "_law_told" "_law_told" Yt f fd) (T:Bt mg) (XF:Zaa K [6]) (Gx_read:CalX P w K mg base 3 "read" (rk K .k) ZL) (G_law_word_of:CalW P w K mg base 1 "_law_word_of" Zk) :
  L2.FnOk P w K mg base L2.CX0 4 f fd ["text"] (spR K (rk K .k) JF) :=
 ZaN (N:=["text","e"]) (ps:=["text"]) (k:=3) (m:=(rk K .k)) (g:=Zck) F ZbD (.inl (JB _)) fun cdv A outer s H E hr=>by
  have hu:=hr.units
  have nd:=ZbD.nd
  have nox:∀ (e:Value) (s:Shared),False→False:=fun _ _ h=>h
  exact (Ze (ZiQ 1 rfl rfl nd XF ZgG Zim G_law_word_of (hr.mono (by decide)) (fun E=>(ZG (Zg9 (Zho _) Gx_read (hr.mono (by decide)) (Ja (Za 0) Yi))))))
noncomputable abbrev Zo:Stmt:=top 23
theorem ZaQ:L2.Jj ["script","text","some","sign","at","way","odd"] ["script","text"] (L2.Zc Zo):=⟨rfl,rfl,rfl,by decide +kernel,rfl,by decide +kernel,by decide +kernel⟩
theorem Zc8 {P:Program} {w:World} {K:PySem.W.Frag} {mg:Str→Option Value} {base:Heap} {f:Addr} {fd:FuncData} (F:L2.Fun K "_law_spoilt" "_law_spoilt" Zo f fd) (T:Bt mg) (G_law_cell_at:Cal P w K mg base 1 "_law_cell_at" (rk K .k) Jd) :
  L2.FnOk P w K mg base L2.CX0 2 f fd ["script","text"] (spR K (rk K .k) YB) :=
 ZaN (N:=["script","text","some","sign","at","way","odd"]) (ps:=["script","text"]) (k:=1) (m:=(rk K .k)) (g:=ZQ) F ZaQ (.inl (JB _)) fun cdv A outer s H E hr=>by
  have hu:=hr.units
  have nd:=ZaQ.nd
  have nox:∀ (e:Value) (s:Shared),False→False:=fun _ _ h=>h
  exact (Jc (Jf nd 2 (Zac (Ja (Yc (m:=.k)) (Ja (Yc (m:=.k)) (Ja (Yc (m:=.k)) (Ja (Yc (m:=.k)) (Ja (Yc (m:=.k)) (Ja (Yc (m:=.k)) (Ja (Yc (m:=.k)) (Ja (Yc (m:=.k)) (Ja (Yc (m:=.k)) (Ja (Yc (m:=.k)) (Ja (Yc (m:=.k)) (Ja (Yc (m:=.k)) (Ja (Yc (m:=.k)) (Ja (Yc (m:=.k)) (Ja (Yc (m:=.k)) (Ja (Yc (m:=.k)) Yi)))))))))))))))))) (Jc (Jf nd 3 (Zde (Za 2) (Zq (m:=.k) (Js G_law_cell_at (hr.mono (by decide)) (Ja (Za 0) (Ja (Zd (m:=.k)) Yi))) (Zd (m:=.k))))) (Jc (Jf nd 4 (Zq (m:=.k) (Js G_law_cell_at (hr.mono (by decide)) (Ja (Za 0) (Ja (Zd (m:=.k)) Yi))) (Jy (Zcx (m:=.k) T (Za 1)) (Zd (m:=.k))))) (Jc (Jf nd 5 (Zq (m:=.k) (Js G_law_cell_at (hr.mono (by decide)) (Ja (Za 0) (Ja (Zd (m:=.k)) Yi))) (Zd (m:=.k)))) (Jc (Yx (Zbq hu (Za 5) (Zd (m:=.k))) (Ze (Zi (ZaX (m:=.k) (ZaX (m:=.k) (Y5 (m:=.k) (Za 1) Zbp (Zbl (Za 4))) (Za 3)) (Y5 (m:=.k) (Za 1) (Zbl (Za 4)) Zbp)))) Jw) (Jc (Yx (Zbq hu (Za 5) (Zd (m:=.k))) (Ze (Zi (ZaX (m:=.k) (Y5 (m:=.k) (Za 1) Zbp (Zbl (Za 4))) (Y5 (m:=.k) (Za 1) (Zbl (Jy (Za 4) (Zd (m:=.k)))) Zbp)))) Jw) (Jc (Yx (Zbq hu (Za 5) (Zd (m:=.k))) (Ze (Zi (ZaX (m:=.k) (ZaX (m:=.k) (Y5 (m:=.k) (Za 1) Zbp (Zbl (Za 4))) (Za 3)) (Y5 (m:=.k) (Za 1) (Zbl (Jy (Za 4) (Zd (m:=.k)))) Zbp)))) Jw) (Jc (Jf nd 6 (Zac (Ja (Yc (m:=.k)) (Ja (Yc (m:=.k)) (Ja (Yc (m:=.k)) (Ja (Yc (m:=.k)) (Ja (Yc (m:=.k)) (Ja (Yc (m:=.k)) (Ja (Yc (m:=.k)) (Ja (Yc (m:=.k)) (Ja (Yc (m:=.k)) (Ja (Yc (m:=.k)) (Ja (Yc (m:=.k)) (Ja (Yc (m:=.k)) (Ja (Yc (m:=.k)) Yi))))))))))))))) (Jc (Jf nd 6 (Jy (Za 6) (Zac (Ja (Yc (m:=.k)) (Ja (Yc (m:=.k)) (Ja (Yc (m:=.k)) (Ja (Yc (m:=.k)) (Ja (Zbv (m:=.k) (ZfC (m:=.k) (Za7 (Ja (Zbv (m:=.k) (ZfC (m:=.k) (Za7 (Ja (Yc (m:=.k)) Yi)))) Yi)))) (Ja (Yc (m:=.k)) (Ja (Yc (m:=.k)) Yi)))))))))) (Ze (Zi (Zde (Za 6) (Zq (m:=.k) (Js G_law_cell_at (hr.mono (by decide)) (Ja (Za 0) (Ja (Zd (m:=.k)) Yi))) (Zd (m:=.k)))))))))))))))
noncomputable abbrev ZP:Stmt:=top 24
theorem Zf6:L2.Jj ["script","size","cell","table","b","a","text","number","row","due","found"] ["script"] (L2.Zc ZP):=⟨rfl,rfl,rfl,by decide +kernel,rfl,by decide +kernel,by decide +kernel⟩
theorem ZiK {P:Program} {w:World} {K:PySem.W.Frag} {mg:Str→Option Value} {base:Heap} {f:Addr} {fd:FuncData} (F:L2.Fun K "law" "law" ZP f fd) (T:Bt mg) (G_law_cell_at:Cal P w K mg base 1 "_law_cell_at" (rk K .k) Jd) (G_law_due:Cal P w K mg base 1 "_law_due" (rk K .k) YK) (G_law_told:Cal P w K mg base 4 "_law_told" (rk K .k) JF) (G_law_spoilt:Cal P w K mg base 2 "_law_spoilt" (rk K .k) YB) (G_law_draw:Cal P w K mg base 1 "_law_draw" (rk K .k) Zx) :
  L2.FnOk P w K mg base L2.CX0 5 f fd ["script"] (spR K (rk K .k) Zcg) :=
 ZaN (N:=["script","size","cell","table","b","a","text","number","row","due","found"]) (ps:=["script"]) (k:=4) (m:=(rk K .k)) (g:=ZgS) F Zf6 (.inl (JB _)) fun cdv A outer s H E hr=>by
  have hu:=hr.units
  have nd:=Zf6.nd
  have nox:∀ (e:Value) (s:Shared),False→False:=fun _ _ h=>h
  exact (Jc (Jf nd 1 (Jy (Zd (m:=.k)) (Zq (m:=.k) (Js G_law_cell_at (hr.mono (by decide)) (Ja (Za 0) (Ja (Zd (m:=.k)) Yi))) (Zd (m:=.k))))) (Jc (Jf nd 2 (Js G_law_cell_at (hr.mono (by decide)) (Ja (Za 0) (Ja (Zd (m:=.k)) Yi)))) (Jc (Zdv nox nd 3 5 (Zb2 T (Za 1)) (fun _ _ _ _ _ _=>(Zbh nox nd 4 (Zb2 T (Za 1)) (fun _ _ _ _ _ _=>(Js G_law_draw (hr.mono (by decide)) (Ja (Za 2) (Ja (Jy (Z2 (m:=.k) (Za 5) (Za 1)) (Za 4)) (Ja (Za 1) Yi)))))))) (Jc (Jf nd 6 (Zbv (m:=.k) (Zbh nox nd 8 (Z1 (Za 3)) (fun _ _ _ _ _ _=>(Zbv (m:=.k) (Zbh nox nd 7 (Z1 (Za 8)) (fun _ _ _ _ _ _=>(Zeo (m:=.k) T (Za 7))))))))) (Jc (Yx (Zbk (Zq (m:=.k) (Js G_law_cell_at (hr.mono (by decide)) (Ja (Za 0) (Ja (Zd (m:=.k)) Yi))) (Zd (m:=.k))) (Zd (m:=.k))) (Ze (Jf nd 6 (Js G_law_spoilt (hr.mono (by decide)) (Ja (Za 0) (Ja (Za 6) Yi))))) Jw) (Jc (Jf nd 9 (Js G_law_due (hr.mono (by decide)) (Ja (Za 6) Yi))) (Jc (Jf nd 10 (Js G_law_told (hr.mono (by decide)) (Ja (Za 6) Yi))) (Jc (Yx (ZiD (Za 9)) (Ze (Zi ((ZgY (m:=.k) hu (Za 10) (Yc (m:=.k)))))) Jw) (Ze (Zi (((Zf2 (m:=.k) (Zjn (Ze4 (m:=.k) T (Za 10))) (ZcW (ZgY (m:=.k) hu (Za 10) (Za 9))))))))))))))))
end PV
set_option linter.all false
set_option Elab.async false
set_option maxRecDepth 100000
set_option maxHeartbeats 4000000
namespace PV
open PySem PySem.Spec PyProof.Rows
open L2 (V Hp HO Same Cx)
theorem bnd1 {K:PySem.W.Frag}{x qual:Str}{st:Stmt}{f:Addr}{fd:FuncData}{p0:Str}(F:L2.Fun K x qual st f fd)
  (h:∀ (kV doc pm:Value) (an:Option Addr) (cdv ct:Value) (a0:Value),bindArgs (PySem.W.fnOf x qual (L2.Zf st) (L2.Ye st) (L2.Zc st) .none kV doc pm an cdv ct) ⟨[a0],[]⟩=pure ([p0].zip [a0])):L2.Binds K fd [p0] [] :=
 F.binds fun _ _ _ _ _ _ us hl=>match us,hl with | [a0],_=>h _ _ _ _ _ _ a0
theorem bnd2 {K:PySem.W.Frag}{x qual:Str}{st:Stmt}{f:Addr}{fd:FuncData}{p0 p1:Str}(F:L2.Fun K x qual st f fd)
  (h:∀ (kV doc pm:Value) (an:Option Addr) (cdv ct:Value) (a0 a1:Value),bindArgs (PySem.W.fnOf x qual (L2.Zf st) (L2.Ye st) (L2.Zc st) .none kV doc pm an cdv ct) ⟨[a0,a1],[]⟩=pure ([p0,p1].zip [a0,a1])):L2.Binds K fd [p0,p1] [] :=
 F.binds fun _ _ _ _ _ _ us hl=>match us,hl with | [a0,a1],_=>h _ _ _ _ _ _ a0 a1
theorem bnd3 {K:PySem.W.Frag}{x qual:Str}{st:Stmt}{f:Addr}{fd:FuncData}{p0 p1 p2:Str}(F:L2.Fun K x qual st f fd)
  (h:∀ (kV doc pm:Value) (an:Option Addr) (cdv ct:Value) (a0 a1 a2:Value),bindArgs (PySem.W.fnOf x qual (L2.Zf st) (L2.Ye st) (L2.Zc st) .none kV doc pm an cdv ct) ⟨[a0,a1,a2],[]⟩=pure ([p0,p1,p2].zip [a0,a1,a2])):L2.Binds K fd [p0,p1,p2] [] :=
 F.binds fun _ _ _ _ _ _ us hl=>match us,hl with | [a0,a1,a2],_=>h _ _ _ _ _ _ a0 a1 a2
theorem bnd4 {K:PySem.W.Frag}{x qual:Str}{st:Stmt}{f:Addr}{fd:FuncData}{p0 p1 p2 p3:Str}(F:L2.Fun K x qual st f fd)
  (h:∀ (kV doc pm:Value) (an:Option Addr) (cdv ct:Value) (a0 a1 a2 a3:Value),bindArgs (PySem.W.fnOf x qual (L2.Zf st) (L2.Ye st) (L2.Zc st) .none kV doc pm an cdv ct) ⟨[a0,a1,a2,a3],[]⟩=pure ([p0,p1,p2,p3].zip [a0,a1,a2,a3])):L2.Binds K fd [p0,p1,p2,p3] [] :=
 F.binds fun _ _ _ _ _ _ us hl=>match us,hl with | [a0,a1,a2,a3],_=>h _ _ _ _ _ _ a0 a1 a2 a3
theorem bnd5 {K:PySem.W.Frag}{x qual:Str}{st:Stmt}{f:Addr}{fd:FuncData}{p0 p1 p2 p3 p4:Str}(F:L2.Fun K x qual st f fd)
  (h:∀ (kV doc pm:Value) (an:Option Addr) (cdv ct:Value) (a0 a1 a2 a3 a4:Value),bindArgs (PySem.W.fnOf x qual (L2.Zf st) (L2.Ye st) (L2.Zc st) .none kV doc pm an cdv ct) ⟨[a0,a1,a2,a3,a4],[]⟩=pure ([p0,p1,p2,p3,p4].zip [a0,a1,a2,a3,a4])):L2.Binds K fd [p0,p1,p2,p3,p4] [] :=
 F.binds fun _ _ _ _ _ _ us hl=>match us,hl with | [a0,a1,a2,a3,a4],_=>h _ _ _ _ _ _ a0 a1 a2 a3 a4
theorem all_mk {l:PySem.W.OpenLaw} {w:World} {K:PySem.W.Frag} {h:Heap} {mg:Str→Option Value} {fa:Addr} (X:K.In h) (G:h.Ns mainGlobals mg) (hfa:mg "law"=some (.ref fa))
  {f_is_element:Addr} {od_is_element an_is_element:Option Addr} {sl_is_element:Array (Option Value)} {oc_is_element kV_is_element dc_is_element pm_is_element cd_is_element ct_is_element:Value}
  (a_is_element:PySem.W.nsIn K mainGlobals "is_element"=some (some (.ref f_is_element))) (l_is_element:K.lookup f_is_element=some ⟨oc_is_element,od_is_element,.func (PySem.W.fnOf "is_element" "is_element" (L2.Zf Jo) (L2.Ye Jo) (L2.Zc Jo) .none kV_is_element dc_is_element pm_is_element an_is_element cd_is_element ct_is_element),sl_is_element⟩) (c_is_element:PySem.W.codeIn K cd_is_element "is_element"=true) (k_is_element:PySem.W.keepIn K (.ref f_is_element)=true)
  {f_ask_table:Addr} {od_ask_table an_ask_table:Option Addr} {sl_ask_table:Array (Option Value)} {oc_ask_table kV_ask_table dc_ask_table pm_ask_table cd_ask_table ct_ask_table:Value}
  (a_ask_table:PySem.W.nsIn K mainGlobals "ask_table"=some (some (.ref f_ask_table))) (l_ask_table:K.lookup f_ask_table=some ⟨oc_ask_table,od_ask_table,.func (PySem.W.fnOf "ask_table" "ask_table" (L2.Zf Jq) (L2.Ye Jq) (L2.Zc Jq) .none kV_ask_table dc_ask_table pm_ask_table an_ask_table cd_ask_table ct_ask_table),sl_ask_table⟩) (c_ask_table:PySem.W.codeIn K cd_ask_table "ask_table"=true) (k_ask_table:PySem.W.keepIn K (.ref f_ask_table)=true)
  {f_read_number:Addr} {od_read_number an_read_number:Option Addr} {sl_read_number:Array (Option Value)} {oc_read_number kV_read_number dc_read_number pm_read_number cd_read_number ct_read_number:Value}
  (a_read_number:PySem.W.nsIn K mainGlobals "read_number"=some (some (.ref f_read_number))) (l_read_number:K.lookup f_read_number=some ⟨oc_read_number,od_read_number,.func (PySem.W.fnOf "read_number" "read_number" (L2.Zf Jl) (L2.Ye Jl) (L2.Zc Jl) .none kV_read_number dc_read_number pm_read_number an_read_number cd_read_number ct_read_number),sl_read_number⟩) (c_read_number:PySem.W.codeIn K cd_read_number "read_number"=true) (k_read_number:PySem.W.keepIn K (.ref f_read_number)=true)
  {f_read_row:Addr} {od_read_row an_read_row:Option Addr} {sl_read_row:Array (Option Value)} {oc_read_row kV_read_row dc_read_row pm_read_row cd_read_row ct_read_row:Value}
  (a_read_row:PySem.W.nsIn K mainGlobals "read_row"=some (some (.ref f_read_row))) (l_read_row:K.lookup f_read_row=some ⟨oc_read_row,od_read_row,.func (PySem.W.fnOf "read_row" "read_row" (L2.Zf Jt) (L2.Ye Jt) (L2.Zc Jt) .none kV_read_row dc_read_row pm_read_row an_read_row cd_read_row ct_read_row),sl_read_row⟩) (c_read_row:PySem.W.codeIn K cd_read_row "read_row"=true) (k_read_row:PySem.W.keepIn K (.ref f_read_row)=true)
  {f_read:Addr} {od_read an_read:Option Addr} {sl_read:Array (Option Value)} {oc_read kV_read dc_read pm_read cd_read ct_read:Value}
  (a_read:PySem.W.nsIn K mainGlobals "read"=some (some (.ref f_read))) (l_read:K.lookup f_read=some ⟨oc_read,od_read,.func (PySem.W.fnOf "read" "read" (L2.Zf JT) (L2.Ye JT) (L2.Zc JT) .none kV_read dc_read pm_read an_read cd_read ct_read),sl_read⟩) (c_read:PySem.W.codeIn K cd_read "read"=true) (k_read:PySem.W.keepIn K (.ref f_read)=true)
  {f_law_cell_at:Addr} {od_law_cell_at an_law_cell_at:Option Addr} {sl_law_cell_at:Array (Option Value)} {oc_law_cell_at kV_law_cell_at dc_law_cell_at pm_law_cell_at cd_law_cell_at ct_law_cell_at:Value}
  (a_law_cell_at:PySem.W.nsIn K mainGlobals "_law_cell_at"=some (some (.ref f_law_cell_at))) (l_law_cell_at:K.lookup f_law_cell_at=some ⟨oc_law_cell_at,od_law_cell_at,.func (PySem.W.fnOf "_law_cell_at" "_law_cell_at" (L2.Zf Zm) (L2.Ye Zm) (L2.Zc Zm) .none kV_law_cell_at dc_law_cell_at pm_law_cell_at an_law_cell_at cd_law_cell_at ct_law_cell_at),sl_law_cell_at⟩) (c_law_cell_at:PySem.W.codeIn K cd_law_cell_at "_law_cell_at"=true) (k_law_cell_at:PySem.W.keepIn K (.ref f_law_cell_at)=true)
  {f_law_draw:Addr} {od_law_draw an_law_draw:Option Addr} {sl_law_draw:Array (Option Value)} {oc_law_draw kV_law_draw dc_law_draw pm_law_draw cd_law_draw ct_law_draw:Value}
  (a_law_draw:PySem.W.nsIn K mainGlobals "_law_draw"=some (some (.ref f_law_draw))) (l_law_draw:K.lookup f_law_draw=some ⟨oc_law_draw,od_law_draw,.func (PySem.W.fnOf "_law_draw" "_law_draw" (L2.Zf Zu) (L2.Ye Zu) (L2.Zc Zu) .none kV_law_draw dc_law_draw pm_law_draw an_law_draw cd_law_draw ct_law_draw),sl_law_draw⟩) (c_law_draw:PySem.W.codeIn K cd_law_draw "_law_draw"=true) (k_law_draw:PySem.W.keepIn K (.ref f_law_draw)=true)
  {f_law_word_of:Addr} {od_law_word_of an_law_word_of:Option Addr} {sl_law_word_of:Array (Option Value)} {oc_law_word_of kV_law_word_of dc_law_word_of pm_law_word_of cd_law_word_of ct_law_word_of:Value}
  (a_law_word_of:PySem.W.nsIn K mainGlobals "_law_word_of"=some (some (.ref f_law_word_of))) (l_law_word_of:K.lookup f_law_word_of=some ⟨oc_law_word_of,od_law_word_of,.func (PySem.W.fnOf "_law_word_of" "_law_word_of" (L2.Zf Jm) (L2.Ye Jm) (L2.Zc Jm) .none kV_law_word_of dc_law_word_of pm_law_word_of an_law_word_of cd_law_word_of ct_law_word_of),sl_law_word_of⟩) (c_law_word_of:PySem.W.codeIn K cd_law_word_of "_law_word_of"=true) (k_law_word_of:PySem.W.keepIn K (.ref f_law_word_of)=true)
  {f_law_due:Addr} {od_law_due an_law_due:Option Addr} {sl_law_due:Array (Option Value)} {oc_law_due kV_law_due dc_law_due pm_law_due cd_law_due ct_law_due:Value}
  (a_law_due:PySem.W.nsIn K mainGlobals "_law_due"=some (some (.ref f_law_due))) (l_law_due:K.lookup f_law_due=some ⟨oc_law_due,od_law_due,.func (PySem.W.fnOf "_law_due" "_law_due" (L2.Zf Jx) (L2.Ye Jx) (L2.Zc Jx) .none kV_law_due dc_law_due pm_law_due an_law_due cd_law_due ct_law_due),sl_law_due⟩) (c_law_due:PySem.W.codeIn K cd_law_due "_law_due"=true) (k_law_due:PySem.W.keepIn K (.ref f_law_due)=true)
  {f_law_told:Addr} {od_law_told an_law_told:Option Addr} {sl_law_told:Array (Option Value)} {oc_law_told kV_law_told dc_law_told pm_law_told cd_law_told ct_law_told:Value}
  (a_law_told:PySem.W.nsIn K mainGlobals "_law_told"=some (some (.ref f_law_told))) (l_law_told:K.lookup f_law_told=some ⟨oc_law_told,od_law_told,.func (PySem.W.fnOf "_law_told" "_law_told" (L2.Zf Yt) (L2.Ye Yt) (L2.Zc Yt) .none kV_law_told dc_law_told pm_law_told an_law_told cd_law_told ct_law_told),sl_law_told⟩) (c_law_told:PySem.W.codeIn K cd_law_told "_law_told"=true) (k_law_told:PySem.W.keepIn K (.ref f_law_told)=true)
  {f_law_spoilt:Addr} {od_law_spoilt an_law_spoilt:Option Addr} {sl_law_spoilt:Array (Option Value)} {oc_law_spoilt kV_law_spoilt dc_law_spoilt pm_law_spoilt cd_law_spoilt ct_law_spoilt:Value}
  (a_law_spoilt:PySem.W.nsIn K mainGlobals "_law_spoilt"=some (some (.ref f_law_spoilt))) (l_law_spoilt:K.lookup f_law_spoilt=some ⟨oc_law_spoilt,od_law_spoilt,.func (PySem.W.fnOf "_law_spoilt" "_law_spoilt" (L2.Zf Zo) (L2.Ye Zo) (L2.Zc Zo) .none kV_law_spoilt dc_law_spoilt pm_law_spoilt an_law_spoilt cd_law_spoilt ct_law_spoilt),sl_law_spoilt⟩) (c_law_spoilt:PySem.W.codeIn K cd_law_spoilt "_law_spoilt"=true) (k_law_spoilt:PySem.W.keepIn K (.ref f_law_spoilt)=true)
  {f_law:Addr} {od_law an_law:Option Addr} {sl_law:Array (Option Value)} {oc_law kV_law dc_law pm_law cd_law ct_law:Value}
  (a_law:PySem.W.nsIn K mainGlobals "law"=some (some (.ref f_law))) (l_law:K.lookup f_law=some ⟨oc_law,od_law,.func (PySem.W.fnOf "law" "law" (L2.Zf ZP) (L2.Ye ZP) (L2.Zc ZP) .none kV_law dc_law pm_law an_law cd_law ct_law),sl_law⟩) (c_law:PySem.W.codeIn K cd_law "law"=true) (k_law:PySem.W.keepIn K (.ref f_law)=true)
  (z_len:PySem.W.nsIn K mainGlobals "len"=some none)
  (z_range:PySem.W.nsIn K mainGlobals "range"=some none)
  (z_list:PySem.W.nsIn K mainGlobals "list"=some none)
  (z_all:PySem.W.nsIn K mainGlobals "all"=some none)
  (z_isinstance:PySem.W.nsIn K mainGlobals "isinstance"=some none)
  (z_max:PySem.W.nsIn K mainGlobals "max"=some none)
  (z_int:PySem.W.nsIn K mainGlobals "int"=some none)
  (z_bool:PySem.W.nsIn K mainGlobals "bool"=some none)
  (z_str:PySem.W.nsIn K mainGlobals "str"=some none)
  (z_tuple:PySem.W.nsIn K mainGlobals "tuple"=some none)
  (z_sorted:PySem.W.nsIn K mainGlobals "sorted"=some none)
  (z_set:PySem.W.nsIn K mainGlobals "set"=some none)
  (z_any:PySem.W.nsIn K mainGlobals "any"=some none)
  (z_enumerate:PySem.W.nsIn K mainGlobals "enumerate"=some none)
  (z_dict:PySem.W.nsIn K mainGlobals "dict"=some none)
  {t_MOST_ROWS:Tok} (v_MOST_ROWS:PySem.W.nsIn K mainGlobals "MOST_ROWS"=some (some (.int 12 t_MOST_ROWS)))
  {C0 C1 C2 C3 C4 C5 C6 CF:Addr}
  (n_0:PySem.W.nsIn K mainGlobals "NoTable"=some (some (.ref C0)))
  (n_1:PySem.W.nsIn K mainGlobals "NoFolk"=some (some (.ref C1)))
  (n_2:PySem.W.nsIn K mainGlobals "NoElement"=some (some (.ref C2)))
  (n_3:PySem.W.nsIn K mainGlobals "NoPart"=some (some (.ref C3)))
  (n_4:PySem.W.nsIn K mainGlobals "NotLoose"=some (some (.ref C4)))
  (n_5:PySem.W.nsIn K mainGlobals "TooLarge"=some (some (.ref C5)))
  (n_6:PySem.W.nsIn K mainGlobals "NoNote"=some (some (.ref C6)))
  (n_F:PySem.W.nsIn K mainGlobals "FolkError"=some (some (.ref CF)))
  (z_ValueError:PySem.W.nsIn K mainGlobals "ValueError"=some none)
  (i_sp:PySem.W.specialIn K (.builtin "object.__class__") "__get__"=some (some (.builtin "getset_descriptor.__get__")))
  (i_tk:PySem.W.takesIn K (.builtin "object.__class__")=some true)
  (x_6:PySem.W.excIn K C6 [.type "ValueError",.type "Exception",.type "BaseException",.type "object"] "ValueError.__new__"=true)
  (i_ga6:PySem.W.findIn K (.ref C6) "__getattribute__"=some (some (.builtin "BaseException.__getattribute__")))
  (i_gx6:PySem.W.findIn K (.ref C6) "__getattr__"=some none)
  (i_mb6:PySem.W.mroIn K C6 (.type "BaseException")=some true)
  (i_cl6:(PySem.W.clsIn K C6).isSome=true)
  (i_fi6:PySem.W.findIn K (.ref C6) "__class__"=some (some (.builtin "object.__class__")))
  (i_mo6:PySem.W.mroIn K C6 (.type "object")=some true)
  (o_60:PySem.W.kitOne K (.ref C6) (.ref C0)=some false)
  (o_61:PySem.W.kitOne K (.ref C6) (.ref C1)=some false)
  (o_62:PySem.W.kitOne K (.ref C6) (.ref C2)=some false)
  (o_63:PySem.W.kitOne K (.ref C6) (.ref C3)=some false)
  (o_64:PySem.W.kitOne K (.ref C6) (.ref C4)=some false)
  (o_65:PySem.W.kitOne K (.ref C6) (.ref C5)=some false)
  (o_66:PySem.W.kitOne K (.ref C6) (.ref C6)=some true)
  (v_V6:PySem.W.kitOne K (.ref C6) (.type "ValueError")=some true)
  (e_6:PySem.W.exmOne K (.ref C6) (.ref CF)=some true)
  (x_0:PySem.W.excIn K C0 [.type "ValueError",.type "Exception",.type "BaseException",.type "object"] "ValueError.__new__"=true)
  (h_0:PySem.W.exmOne K (.ref C0) (.ref C0)=some true)
  (y_0:(C0 == C6)=false) :
  ∃ fd:FuncData,(∀ (s:Shared) (v:Value),BindsTo s fd ⟨[v],[]⟩ [("script",v)])∧∀ base:Heap,K.In base→base.Ns mainGlobals mg→L2.FnOk l.prog w K mg base L2.CX0 5 fa fd ["script"] (spR K (rk K .k) Zcg):=by
 have e:=hfa.symm.trans (PySem.W.mg_of X G a_law)
 cases e
 have T:Bt mg:=⟨PySem.W.mg_none_of X G z_len,PySem.W.mg_none_of X G z_range,PySem.W.mg_none_of X G z_list,PySem.W.mg_none_of X G z_all,PySem.W.mg_none_of X G z_isinstance,PySem.W.mg_none_of X G z_max,PySem.W.mg_none_of X G z_int,PySem.W.mg_none_of X G z_bool,PySem.W.mg_none_of X G z_str,PySem.W.mg_none_of X G z_tuple,PySem.W.mg_none_of X G z_sorted,PySem.W.mg_none_of X G z_set,PySem.W.mg_none_of X G z_any,PySem.W.mg_none_of X G z_enumerate,PySem.W.mg_none_of X G z_dict⟩
 have C_MOST_ROWS:∃ t,mg "MOST_ROWS"=some (.int 12 t):=⟨_,PySem.W.mg_of X G v_MOST_ROWS⟩
 refine ⟨PySem.W.fnOf "law" "law" (L2.Zf ZP) (L2.Ye ZP) (L2.Zc ZP) .none kV_law dc_law pm_law an_law cd_law ct_law,fun s v=>.of_eq rfl,fun base _ _=>?_⟩
 have hxv:mg "ValueError"=none:=PySem.W.mg_none_of X G z_ValueError
 have XF:Zaa K [6]:=Zi6 (Cs:=fun c=>[C0,C1,C2,C3,C4,C5,C6].getD c 0) (fun c hc=>match c,hc with | 0,_=>n_0 | 1,_=>n_1 | 2,_=>n_2 | 3,_=>n_3 | 4,_=>n_4 | 5,_=>n_5 | 6,_=>n_6 | k + 7,h=>absurd h (by omega)) n_F (by decide) (fun c hc=>by
  simp only [List.mem_cons,List.not_mem_nil,or_false] at hc
  rcases hc with rfl
  ·exact ⟨i_ga6,i_gx6,i_mb6,i_cl6,i_fi6,i_sp,i_tk,i_mo6⟩) (fun c hc=>by
  simp only [List.mem_cons,List.not_mem_nil,or_false] at hc
  rcases hc with rfl
  ·exact fun c hc=>match c,hc with | 0,_=>o_60 | 1,_=>o_61 | 2,_=>o_62 | 3,_=>o_63 | 4,_=>o_64 | 5,_=>o_65 | 6,_=>o_66 | k + 7,h=>absurd h (by omega)) (fun c hc=>by
  simp only [List.mem_cons,List.not_mem_nil,or_false] at hc
  rcases hc with rfl
  ·exact v_V6) (fun c hc=>by
  simp only [List.mem_cons,List.not_mem_nil,or_false] at hc
  rcases hc with rfl
  ·exact e_6)
 have XC_6:XCl K 6:=⟨⟨C6,n_6,x_6⟩⟩
 have XC_0:XCl K 0:=⟨⟨C0,n_0,x_0⟩⟩
 have XH_0:XHd K 0:=⟨⟨C0,n_0,h_0,fun h=>by
  have e:=n_6.symm.trans h
  cases e
  simp at y_0⟩⟩
 have G_is_element:Cal l.prog w K mg base 1 "is_element" (rk K .k) Jv:=⟨⟨f_is_element,_,["table","number"],PySem.W.mg_of X G a_is_element,k_is_element,Zc7 (P:=l.prog) (w:=w) (base:=base) (L2.Ji (st:=Jo) l_is_element c_is_element k_is_element) T,bnd2 (L2.Ji (st:=Jo) l_is_element c_is_element k_is_element) fun _ _ _ _ _ _ _ _=>rfl⟩⟩
 have Gx_ask_table:CalX l.prog w K mg base 2 "ask_table" (rk K .k) Yv:=⟨⟨f_ask_table,_,["table"],PySem.W.mg_of X G a_ask_table,k_ask_table,Zc9 (P:=l.prog) (w:=w) (base:=base) (L2.Ji (st:=Jq) l_ask_table c_ask_table k_ask_table) T C_MOST_ROWS XC_0 G_is_element,bnd1 (L2.Ji (st:=Jq) l_ask_table c_ask_table k_ask_table) fun _ _ _ _ _ _ _=>rfl⟩⟩
 have Gx_read_number:CalX l.prog w K mg base 1 "read_number" (rk K .k) Ym:=⟨⟨f_read_number,_,["figures"],PySem.W.mg_of X G a_read_number,k_read_number,ZbR (P:=l.prog) (w:=w) (base:=base) (L2.Ji (st:=Jl) l_read_number c_read_number k_read_number) T C_MOST_ROWS XC_6,bnd1 (L2.Ji (st:=Jl) l_read_number c_read_number k_read_number) fun _ _ _ _ _ _ _=>rfl⟩⟩
 have Gx_read_row:CalX l.prog w K mg base 2 "read_row" (rk K .k) Yy:=⟨⟨f_read_row,_,["text"],PySem.W.mg_of X G a_read_row,k_read_row,ZdC (P:=l.prog) (w:=w) (base:=base) (L2.Ji (st:=Jt) l_read_row c_read_row k_read_row) T Gx_read_number,bnd1 (L2.Ji (st:=Jt) l_read_row c_read_row k_read_row) fun _ _ _ _ _ _ _=>rfl⟩⟩
 have Gx_read:CalX l.prog w K mg base 3 "read" (rk K .k) ZL:=⟨⟨f_read,_,["text"],PySem.W.mg_of X G a_read,k_read,ZgQ (P:=l.prog) (w:=w) (base:=base) (L2.Ji (st:=JT) l_read c_read k_read) T XH_0 XC_6 Gx_read_row Gx_ask_table,bnd1 (L2.Ji (st:=JT) l_read c_read k_read) fun _ _ _ _ _ _ _=>rfl⟩⟩
 have G_law_cell_at:Cal l.prog w K mg base 1 "_law_cell_at" (rk K .k) Jd:=⟨⟨f_law_cell_at,_,["script","k"],PySem.W.mg_of X G a_law_cell_at,k_law_cell_at,ZcD (P:=l.prog) (w:=w) (base:=base) (L2.Ji (st:=Zm) l_law_cell_at c_law_cell_at k_law_cell_at) T,bnd2 (L2.Ji (st:=Zm) l_law_cell_at c_law_cell_at k_law_cell_at) fun _ _ _ _ _ _ _ _=>rfl⟩⟩
 have G_law_draw:Cal l.prog w K mg base 1 "_law_draw" (rk K .k) Zx:=⟨⟨f_law_draw,_,["cell","k","bound"],PySem.W.mg_of X G a_law_draw,k_law_draw,Zd4 (P:=l.prog) (w:=w) (base:=base) (L2.Ji (st:=Zu) l_law_draw c_law_draw k_law_draw) T,bnd3 (L2.Ji (st:=Zu) l_law_draw c_law_draw k_law_draw) fun _ _ _ _ _ _ _ _ _=>rfl⟩⟩
 have G_law_word_of:CalW l.prog w K mg base 1 "_law_word_of" Zk:=⟨⟨f_law_word_of,_,"e",PySem.W.mg_of X G a_law_word_of,k_law_word_of,ZcC (P:=l.prog) (w:=w) (base:=base) (L2.Ji (st:=Jm) l_law_word_of c_law_word_of k_law_word_of) T hxv XF,bnd1 (L2.Ji (st:=Jm) l_law_word_of c_law_word_of k_law_word_of) fun _ _ _ _ _ _ _=>rfl⟩⟩
 have G_law_due:Cal l.prog w K mg base 1 "_law_due" (rk K .k) YK:=⟨⟨f_law_due,_,["text"],PySem.W.mg_of X G a_law_due,k_law_due,Ze9 (P:=l.prog) (w:=w) (base:=base) (L2.Ji (st:=Jx) l_law_due c_law_due k_law_due) T,bnd1 (L2.Ji (st:=Jx) l_law_due c_law_due k_law_due) fun _ _ _ _ _ _ _=>rfl⟩⟩
 have G_law_told:Cal l.prog w K mg base 4 "_law_told" (rk K .k) JF:=⟨⟨f_law_told,_,["text"],PySem.W.mg_of X G a_law_told,k_law_told,Zec (P:=l.prog) (w:=w) (base:=base) (L2.Ji (st:=Yt) l_law_told c_law_told k_law_told) T XF Gx_read G_law_word_of,bnd1 (L2.Ji (st:=Yt) l_law_told c_law_told k_law_told) fun _ _ _ _ _ _ _=>rfl⟩⟩
 have G_law_spoilt:Cal l.prog w K mg base 2 "_law_spoilt" (rk K .k) YB:=⟨⟨f_law_spoilt,_,["script","text"],PySem.W.mg_of X G a_law_spoilt,k_law_spoilt,Zc8 (P:=l.prog) (w:=w) (base:=base) (L2.Ji (st:=Zo) l_law_spoilt c_law_spoilt k_law_spoilt) T G_law_cell_at,bnd2 (L2.Ji (st:=Zo) l_law_spoilt c_law_spoilt k_law_spoilt) fun _ _ _ _ _ _ _ _=>rfl⟩⟩
 exact ZiK (P:=l.prog) (w:=w) (base:=base) (L2.Ji (st:=ZP) l_law c_law k_law) T G_law_cell_at G_law_due G_law_told G_law_spoilt G_law_draw
theorem walk {l:PySem.W.OpenLaw}{q:Program}{loose:List Str}{XP:(Str→Option Value)→Heap→Prop}{YP:World→Heap→Prop}{d:DefRec}{K:Params→PySem.W.Frag}(hn:l.most=some 63)(hdf:d.params.defaults=[])
  (hY:∀ (w:World) (h:Heap),YP w h→(K w.params).In h)
  (F:∀ (w:World) (mg:Str→Option Value) (fa:Addr) (h:Heap),(K w.params).In h→h.Ns mainGlobals mg→mg d.name=some (.ref fa) →
   ∃ fd:FuncData,(∀ (s:Shared) (u:Value),BindsTo s fd ⟨[u],[]⟩ [("script",u)])∧∀ base:Heap,(K w.params).In base→base.Ns mainGlobals mg→L2.FnOk l.prog w (K w.params) mg base L2.CX0 5 fa fd ["script"] (spR (K w.params) (rk (K w.params) .k) Zcg)) :
  PySem.W.WalkO q loose XP YP l.row.toRowW d [] (fun f vs=>PySem.call f vs) :=
 L2.Zhi (n:=63) (k:=5) (x:="script") (CX:=fun _=>L2.CX0) (sp:=fun w=>spR (K w.params) (rk (K w.params) .k) Zcg) hn (by decide) hdf ⟨rfl,by decide,by decide⟩ hY F (fun _ _ a ns hl _ hS=>Zfh (Zjr ns) hS) fun _ _ _ _ _ z=>z
end PV
set_option maxHeartbeats 0 in
theorem PySem.Challenge.cw_tablefolk_k14_read_or_refused_holds : PySem.Challenge.rw_tablefolk_k14_read_or_refused.Holds := by
  w_on; o_law; k_head; (case hw => w_witness2)
  k_fill
  refine PV.walk (l := PySem.Challenge.rw_tablefolk_k14_read_or_refused) rfl rfl (fun w h Y => PySem.W.kIn_of Y) ?F
  case F =>
    intro w mg fa h KX G hmg
    refine' PV.all_mk KX G hmg ?a_is_element ?l_is_element ?c_is_element ?k_is_element ?a_ask_table ?l_ask_table ?c_ask_table ?k_ask_table ?a_read_number ?l_read_number ?c_read_number ?k_read_number ?a_read_row ?l_read_row ?c_read_row ?k_read_row ?a_read ?l_read ?c_read ?k_read ?a_law_cell_at ?l_law_cell_at ?c_law_cell_at ?k_law_cell_at ?a_law_draw ?l_law_draw ?c_law_draw ?k_law_draw ?a_law_word_of ?l_law_word_of ?c_law_word_of ?k_law_word_of ?a_law_due ?l_law_due ?c_law_due ?k_law_due ?a_law_told ?l_law_told ?c_law_told ?k_law_told ?a_law_spoilt ?l_law_spoilt ?c_law_spoilt ?k_law_spoilt ?a_law ?l_law ?c_law ?k_law ?z_len ?z_range ?z_list ?z_all ?z_isinstance ?z_max ?z_int ?z_bool ?z_str ?z_tuple ?z_sorted ?z_set ?z_any ?z_enumerate ?z_dict ?v_MOST_ROWS ?n_0 ?n_1 ?n_2 ?n_3 ?n_4 ?n_5 ?n_6 ?n_F ?z_ValueError ?i_sp ?i_tk ?x_6 ?i_ga6 ?i_gx6 ?i_mb6 ?i_cl6 ?i_fi6 ?i_mo6 ?o_60 ?o_61 ?o_62 ?o_63 ?o_64 ?o_65 ?o_66 ?v_V6 ?e_6 ?x_0 ?h_0 ?y_0
    (case a_is_element => k_is)
    (case l_is_element => k_is)
    (case c_is_element => k_is)
    (case k_is_element => k_is)
    (case a_ask_table => k_is)
    (case l_ask_table => k_is)
    (case c_ask_table => k_is)
    (case k_ask_table => k_is)
    (case a_read_number => k_is)
    (case l_read_number => k_is)
    (case c_read_number => k_is)
    (case k_read_number => k_is)
    (case a_read_row => k_is)
    (case l_read_row => k_is)
    (case c_read_row => k_is)
    (case k_read_row => k_is)
    (case a_read => k_is)
    (case l_read => k_is)
    (case c_read => k_is)
    (case k_read => k_is)
    (case a_law_cell_at => k_is)
    (case l_law_cell_at => k_is)
    (case c_law_cell_at => k_is)
    (case k_law_cell_at => k_is)
    (case a_law_draw => k_is)
    (case l_law_draw => k_is)
    (case c_law_draw => k_is)
    (case k_law_draw => k_is)
    (case a_law_word_of => k_is)
    (case l_law_word_of => k_is)
    (case c_law_word_of => k_is)
    (case k_law_word_of => k_is)
    (case a_law_due => k_is)
    (case l_law_due => k_is)
    (case c_law_due => k_is)
    (case k_law_due => k_is)
    (case a_law_told => k_is)
    (case l_law_told => k_is)
    (case c_law_told => k_is)
    (case k_law_told => k_is)
    (case a_law_spoilt => k_is)
    (case l_law_spoilt => k_is)
    (case c_law_spoilt => k_is)
    (case k_law_spoilt => k_is)
    (case a_law => k_is)
    (case l_law => k_is)
    (case c_law => k_is)
    (case k_law => k_is)
    (case z_len => k_is)
    (case z_range => k_is)
    (case z_list => k_is)
    (case z_all => k_is)
    (case z_isinstance => k_is)
    (case z_max => k_is)
    (case z_int => k_is)
    (case z_bool => k_is)
    (case z_str => k_is)
    (case z_tuple => k_is)
    (case z_sorted => k_is)
    (case z_set => k_is)
    (case z_any => k_is)
    (case z_enumerate => k_is)
    (case z_dict => k_is)
    (case v_MOST_ROWS => k_is)
    (case n_0 => k_is)
    (case n_1 => k_is)
    (case n_2 => k_is)
    (case n_3 => k_is)
    (case n_4 => k_is)
    (case n_5 => k_is)
    (case n_6 => k_is)
    (case n_F => k_is)
    (case z_ValueError => k_is)
    (case i_sp => first | k_is | kernel_rfl)
    (case i_tk => first | k_is | kernel_rfl)
    (case x_6 => first | k_is | kernel_rfl)
    (case i_ga6 => first | k_is | kernel_rfl)
    (case i_gx6 => first | k_is | kernel_rfl)
    (case i_mb6 => first | k_is | kernel_rfl)
    (case i_cl6 => first | k_is | kernel_rfl)
    (case i_fi6 => first | k_is | kernel_rfl)
    (case i_mo6 => first | k_is | kernel_rfl)
    (case o_60 => first | k_is | kernel_rfl)
    (case o_61 => first | k_is | kernel_rfl)
    (case o_62 => first | k_is | kernel_rfl)
    (case o_63 => first | k_is | kernel_rfl)
    (case o_64 => first | k_is | kernel_rfl)
    (case o_65 => first | k_is | kernel_rfl)
    (case o_66 => first | k_is | kernel_rfl)
    (case v_V6 => first | k_is | kernel_rfl)
    (case e_6 => first | k_is | kernel_rfl)
    (case x_0 => first | k_is | kernel_rfl)
    (case h_0 => first | k_is | kernel_rfl)
    (case y_0 => first | k_is | kernel_rfl)
