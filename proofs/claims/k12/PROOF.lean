import PyProof.Rows.All
import Wide.All
import OpenK.AllK
import Wide.FinOn
import Lean
import PyProof.EqAt
import PyProof.EqKinds
import PyProof.TupleCall
import PySem.Str
import PyProof.NeKinds
import PyProof.SetKind
import PyProof.DictStraight
import PyProof.Rows.TupIn
import PyProof.CollectIter
import PyProof.FactsAll.set
import PyProof.SetNew
import PyProof.Rows.SortShell
import PyProof.Rows.SetFrom
import KE.KSortAsk
import PySem.Challenge.RW_tablefolk_k12_whole_side_by_side
theorem PySem.W.Fast.tw15268739467183218914 : True := trivial
theorem PySem.W.Fast.tw16942197085686536394 : True := trivial
theorem PySem.W.Fast.tw18287339134772478197 : True := trivial
theorem PySem.W.Fast.tw8801708343387349305 : True := trivial
theorem PySem.W.Fast.tw7989132569995365993 : True := trivial
set_option Elab.async false
set_option linter.all false
set_option maxRecDepth 100000
namespace L2
open PySem PySem.Spec PyProof.Rows
noncomputable abbrev Key:=Sum Int Str
noncomputable def ZdM:Key→Value→Bool
 | .inl k,v=>Value.isInt k v
 | .inr x,v=>Value.isStrOf x v
noncomputable def keyH (w:World):Key→Int
 | .inl k=>hashInt k
 | .inr x=>hashStr w x
theorem Zz:∀ {k:Key} {v:Value},ZdM k v=true→(∃ i t,k=Sum.inl i∧v=Value.int i t)∨(∃ x t,k=Sum.inr x∧v=Value.str x t)
 | .inl i,v,h=>by
  obtain ⟨t,e⟩:=Value.isInt_shape (k:=i) (v:=v) h
  exact .inl ⟨i,t,rfl,e⟩
 | .inr x,v,h=>by
  obtain ⟨t,e⟩:=Value.isStrOf_shape (x:=x) (v:=v) h
  exact .inr ⟨x,t,rfl,e⟩
theorem ZiC (i:Int)(t:Tok):ZdM (.inl i) (.int i t)=true:=by simp [ZdM,Value.isInt]
theorem Zjn (x:Str)(t:Tok):ZdM (.inr x) (.str x t)=true:=by simp [ZdM,Value.isStrOf]
theorem Zmu (a b:Int):decide ((Sum.inl a:Key)=Sum.inl b)=(a == b):=by
 by_cases e:a=b
 ·subst e;simp
 ·have h:¬ (Sum.inl a:Key)=Sum.inl b:=fun q=>e (Sum.inl.inj q)
  rw [decide_eq_false h]
  exact (beq_eq_false_iff_ne.mpr e).symm
theorem ZlZ (a b:Str):decide ((Sum.inr a:Key)=Sum.inr b)=decide (a=b):=by
 by_cases e:a=b
 ·subst e;simp
 ·have h:¬ (Sum.inr a:Key)=Sum.inr b:=fun q=>e (Sum.inr.inj q)
  rw [decide_eq_false h,decide_eq_false e]
theorem Zmj (a:Int)(b:Str):decide ((Sum.inl a:Key)=Sum.inr b)=false:=decide_eq_false (fun q=>nomatch q)
theorem ZmU (a:Str)(b:Int):decide ((Sum.inr a:Key)=Sum.inl b)=false:=decide_eq_false (fun q=>nomatch q)
noncomputable def Jv (prog:Program) (w:World):PySem.KeyKind prog w Key where
 is:=ZdM
 hash:=keyH w
 inj:=fun v a b ha hb=>by
  rcases Zz ha with ⟨i,t,rfl,rfl⟩ | ⟨x,t,rfl,rfl⟩
  ·rcases Zz hb with ⟨j,u,rfl,e⟩ | ⟨y,u,rfl,e⟩
   ·injection e with e1 _;rw [e1]
   ·exact nomatch e
  ·rcases Zz hb with ⟨j,u,rfl,e⟩ | ⟨y,u,rfl,e⟩
   ·exact nomatch e
   ·injection e with e1 _;rw [e1]
 byValue:=fun k v h=>by
  rcases Zz h with ⟨i,t,rfl,rfl⟩ | ⟨x,t,rfl,rfl⟩ <;> rfl
 pyHash:=fun hv h=>by
  rcases Zz hv with ⟨i,t,rfl,rfl⟩ | ⟨x,t,rfl,rfl⟩
  ·exact wpAny_pyHash_int h
  ·exact wpAny_pyHash_str h
 eqBool:=fun hu hv h=>by
  rcases Zz hu with ⟨i,t,rfl,rfl⟩ | ⟨x,t,rfl,rfl⟩
  ·rcases Zz hv with ⟨j,u,rfl,rfl⟩ | ⟨y,u,rfl,rfl⟩
   ·rw [Zmu] at h;exact wpAny_eqBool_int h
   ·rw [Zmj] at h;exact SeqAt.EqAt.int_str i t y u _ _ _ _ h
  ·rcases Zz hv with ⟨j,u,rfl,rfl⟩ | ⟨y,u,rfl,rfl⟩
   ·rw [ZmU] at h;exact SeqAt.EqAt.str_int x t j u _ _ _ _ h
   ·rw [ZlZ] at h;exact wpAny_eqBool_str h
 «strs»:=fun k x t v h=>by
  rcases Zz h with ⟨i,u,rfl,e⟩ | ⟨y,u,rfl,e⟩
  ·exact nomatch e
  ·injection e with e1 _
   subst e1
   cases v <;> rfl
theorem Zhm (prog:Program)(w:World)(i:Int)(t:Tok):(Jv prog w).is (.inl i) (.int i t)=true:=ZiC i t
theorem Zhf (prog:Program)(w:World)(x:Str)(t:Tok):(Jv prog w).is (.inr x) (.str x t)=true:=Zjn x t
end L2
namespace L2
open PySem PySem.Spec PyProof.Rows
inductive V where
 | non | bl (b:Bool) | int (i:Int) | str (x:Str) | byt (b:Array UInt8) | flt (b:UInt64) | ref (a:Addr) | ty (n:String)
 deriving DecidableEq
noncomputable def RelV:V→Value→Prop
 | .non,u=>u=Value.none
 | .bl b,u=>u=Value.bool b
 | .int i,u=>∃ t,u=Value.int i t
 | .str x,u=>∃ t,u=Value.str x t
 | .byt b,u=>∃ t,u=Value.bytes b t
 | .flt b,u=>∃ t,u=Value.float b t
 | .ref a,u=>u=Value.ref a
 | .ty n,u=>u=Value.type n
noncomputable abbrev Vals:List V→List Value→Prop:=Paired RelV
theorem Vals.length {xs:List V}{us:List Value}(r:Vals xs us):xs.length=us.length:=Paired.length r
theorem Vals.get:∀ {xs:List V} {us:List Value} {i:Nat} {x:V},Vals xs us→xs[i]?=some x→∃ u,us[i]?=some u∧RelV x u
 | _,_,_,_,.nil,e=>by simp at e
 | _,_,0,_,.cons r _,e=>by simp at e;subst e;exact ⟨_,rfl,r⟩
 | _,_,i + 1,x,.cons _ t,e=>by
  obtain ⟨u,h1,h2⟩:=Vals.get (i:=i) (x:=x) t (by simpa using e)
  exact ⟨u,by simpa using h1,h2⟩
theorem Vals.set {x:V}{u:Value}(r:RelV x u):∀ {xs:List V} {us:List Value} (i:Nat),Vals xs us→Vals (xs.set i x) (us.set i u)
 | _,_,_,.nil=>.nil
 | _,_,0,.cons _ t=>.cons r t
 | _,_,i + 1,.cons q t=>.cons q (Vals.set r i t)
theorem Vals.append:∀ {xs ys:List V} {us ws:List Value},Vals xs us→Vals ys ws→Vals (xs++ys) (us++ws)
 | _,_,_,_,.nil,s=>s
 | _,_,_,_,.cons r t,s=>.cons r (Vals.append t s)
noncomputable def RelO:Option V→Option Value→Prop
 | some v,some u=>RelV v u
 | none,none=>True
 | _,_=>False
noncomputable def KV {κ:Type}:List (κ × V)→List (κ × Value)→Prop:=Paired fun (p:κ × V) (q:κ × Value)=>p.1=q.1∧RelV p.2 q.2
noncomputable def kV:Key→V
 | .inl i=>.int i
 | .inr x=>.str x
inductive HO where
 | lst (xs:List V)
 | tup (xs:List V)
 | dK (kvs:List (Key × V)) | dT (kvs:List (List Key × V))
 | set (S:Int→Bool) (n:Nat)
 | ins (C dx:Addr) (fs:List (Str × V))
 | own (x:Addr)
 | xd (fs:List (Str × V))
 | met (f x:Addr)
 | rng (lo hi:Int)
 | frz (o:Obj) (u:HO)
 | tbl (ps:Array Value)
 | ext (φ:Heap→Prop)
noncomputable abbrev Hp:=Addr→Option HO
noncomputable def upd (H:Hp) (a:Addr) (o:HO):Hp:=fun b=>if b=a then some o else H b
theorem Jd {H:Hp}{a:Addr}{o:HO}:upd H a o a=some o:=by unfold upd;rw [if_pos rfl]
theorem Yd {H:Hp}{a b:Addr}{o:HO}(h:b≠a):upd H a o b=H b:=by unfold upd;rw [if_neg h]
theorem Zm7 {H:Hp}{a b:Addr}{o u:HO}(h:H a=some o)(h':H b=some u)(d:o≠u):a≠b:=by
 intro e;subst e;rw [h] at h';exact d (Option.some.inj h')
theorem Ze {H:Hp}{a b:Addr}{o:HO}(h:H a=some o)(h':H b=none):a≠b:=by
 intro e;subst e;rw [h] at h';cases h'
section
variable (P:Program) (w:World)
noncomputable def Yy (H : Hp) (h : Heap) (a : Addr) : HO → Prop
  | .lst xs => xs.length ≤ sizeLine ∧ ∃ (its : List Value) (n : Nat), Vals xs its ∧ h.get? a = some { cls := .type "list", data := .seq its.toArray n }
  | .tup xs => xs.length ≤ sizeLine ∧ ∃ its : List Value, Vals xs its ∧ IsTup h a its.toArray
  | .dK kvs => kvs.length ≤ sizeLine ∧ (a == sysModules) = false ∧ ∃ vs, KV kvs vs ∧ h.DictOf (Jv P w) a vs
  | .dT kvs => kvs.length ≤ sizeLine ∧ (a == sysModules) = false ∧ ∃ xs : List (List Key × Addr × Value),
      Paired (fun (p : List Key × V) (q : List Key × Addr × Value) => p.1 = q.1 ∧ H q.2.1 = some (.tup (p.1.map kV)) ∧ RelV p.2 q.2.2) kvs xs ∧
      ∃ o es ep, h.get? a = some o ∧ o.ExactDict ∧ o.data = .dict es ep ∧ es.toList = xs.map (entryOfKey (tupleKind (Jv P w))) ∧ (xs.map (·.1)).Nodup
  | .set S n => h.SetOf (intKind P w) a S n
  | .ins C dx fs => H dx = some (.own a) ∧ fs.length ≤ 1000 ∧ dx ≠ a ∧ h.get? a = some (PySem.W.instObj C dx) ∧
      ∃ mA, h.Ns1 dx mA ∧ (∀ f, RelO (fs.lookup f) (mA f)) ∧ PySem.Within mA (fs.map (·.1))
  | .own _ => ∃ o, h.get? a = some o
  | .xd fs => ∃ mA, h.Ns1 a mA ∧ ∀ f, RelO (fs.lookup f) (mA f)
  | .rng lo hi => ∃ t u v, h.get? a = some { cls := .type "range", data := .fields #[.int lo t, .int hi u, .int 1 v] }
  | .frz o u => h.get? a = some o ∧ Yy H h a u
  | .tbl ps => h.get? a = some { cls := .none, data := .fields ps }
  | .met f x => h.get? a = some (PySem.W.methodObj (.ref f) (.ref x))
  | .ext φ => φ h ∧ (∃ o, h.get? a = some o) ∧ ∀ h1 h2 : Heap, φ h1 → (∀ o, h1.get? a = some o → h2.get? a = some o) → φ h2
noncomputable def HOk (H:Hp) (h:Heap):Prop:=∀ a o,H a=some o→Yy P w H h a o
end
section
variable {P:Program} {w:World} {H H':Hp} {h h':Heap} {a:Addr} {o:HO}
theorem Yy.lt (x:Yy P w H h a o):a < h.objs.size:=by
 cases o with
 | lst xs=>obtain ⟨_,_,_,_,e⟩:=x;exact Heap.lt_size e
 | tup xs=>obtain ⟨_,_,_,p⟩:=x;exact p.lt
 | dK kvs=>obtain ⟨_,_,_,_,o,_,_,e,_⟩:=x;exact Heap.lt_size e
 | dT kvs=>obtain ⟨_,_,_,_,o,_,_,e,_⟩:=x;exact Heap.lt_size e
 | set S n=>obtain ⟨o,_,_,_,e,_⟩:=x;exact Heap.lt_size e
 | ins C dx fs=>obtain ⟨_,_,_,e,_⟩:=x;exact Heap.lt_size e
 | own y=>obtain ⟨_,e⟩:=x;exact Heap.lt_size e
 | xd fs=>obtain ⟨_,⟨_,_,_,e,_⟩,_⟩:=x;exact Heap.lt_size e
 | rng lo hi=>obtain ⟨_,_,_,e⟩:=x;exact Heap.lt_size e
 | frz ob u=>obtain ⟨e,_⟩:=x;exact Heap.lt_size e
 | tbl ps=>exact Heap.lt_size (show h.get? a=some _ from x)
 | met f y=>exact Heap.lt_size (show h.get? a=some _ from x)
 | ext φ=>obtain ⟨_,⟨_,e⟩,_⟩:=x;exact Heap.lt_size e
theorem Paired.mapP {α β:Type}{F G:α→β→Prop}:∀ {l₁:List α} {l₂:List β},Paired F l₁ l₂→(∀ a b,F a b→G a b)→Paired G l₁ l₂
 | _,_,.nil,_=>.nil
 | _,_,.cons r t,f=>.cons (f _ _ r) (Paired.mapP t f)
theorem Yy.stay (x:Yy P w H h a o)(k:∀ b u,(b=a∨H b=some (.own a))→h.get? b=some u→h'.get? b=some u)
  (ho:∀ b,H b=some (.own a)→H' b=some (.own a)) (ht:∀ b xs,H b=some (.tup xs)→H' b=some (.tup xs)):Yy P w H' h' a o:=by
 induction o with
 | lst xs=>obtain ⟨z,its,n,r,e⟩:=x;exact ⟨z,its,n,r,k _ _ (.inl rfl) e⟩
 | tup xs=>obtain ⟨z,its,r,ob,e,c⟩:=x;exact ⟨z,its,r,ob,k _ _ (.inl rfl) e,c⟩
 | dK kvs=>obtain ⟨z,y,vs,r,ob,es,ep,e,c⟩:=x;exact ⟨z,y,vs,r,ob,es,ep,k _ _ (.inl rfl) e,c⟩
 | dT kvs =>
  obtain ⟨z,y,xs,r,ob,es,ep,e,c⟩:=x
  exact ⟨z,y,xs,Paired.mapP r fun p q z=>⟨z.1,ht _ _ z.2.1,z.2.2⟩,ob,es,ep,k _ _ (.inl rfl) e,c⟩
 | set S n=>obtain ⟨ob,es,ep,t,e,c⟩:=x;exact ⟨ob,es,ep,t,k _ _ (.inl rfl) e,c⟩
 | ins C dx fs =>
  obtain ⟨d,z,ne,e,mA,⟨od,es,ep,e2,c⟩,r⟩:=x
  exact ⟨ho _ d,z,ne,k _ _ (.inl rfl) e,mA,⟨od,es,ep,k _ _ (.inr d) e2,c⟩,r⟩
 | own y=>obtain ⟨ob,e⟩:=x;exact ⟨ob,k _ _ (.inl rfl) e⟩
 | xd fs=>obtain ⟨mA,⟨od,es,ep,e,c⟩,r⟩:=x;exact ⟨mA,⟨od,es,ep,k _ _ (.inl rfl) e,c⟩,r⟩
 | rng lo hi=>obtain ⟨t,u,v,e⟩:=x;exact ⟨t,u,v,k _ _ (.inl rfl) e⟩
 | frz ob u ih=>obtain ⟨e,q⟩:=x;exact ⟨k _ _ (.inl rfl) e,ih q⟩
 | tbl ps =>
  have e:h.get? a=some { cls:=.none,data:=.fields ps }:=x
  show h'.get? a=some { cls:=.none,data:=.fields ps }
  exact k a _ (.inl rfl) e
 | met f y =>
  have e:h.get? a=some (PySem.W.methodObj (.ref f) (.ref y)):=x
  show h'.get? a=some (PySem.W.methodObj (.ref f) (.ref y))
  exact k a _ (.inl rfl) e
 | ext φ=>obtain ⟨p,⟨o,e⟩,st⟩:=x;exact ⟨st _ _ p fun o q=>k _ _ (.inl rfl) q,⟨o,k _ _ (.inl rfl) e⟩,st⟩
theorem HOk.lt (x:HOk P w H h)(e:H a=some o):a < h.objs.size:=(x a o e).lt
theorem HOk.fresh (x:HOk P w H h)(e:h.objs.size≤a):H a=none:=by
 cases q:H a with
 | none=>rfl
 | some u=>exact absurd (Nat.lt_of_lt_of_le (x.lt q) e) (Nat.lt_irrefl _)
theorem HOk.kept (x:HOk P w H h)(k:∀ b u,h.get? b=some u→h'.get? b=some u):HOk P w H h':=fun a o e =>
 (x a o e).stay (fun b u _ q=>k b u q) (fun _ q=>q) fun _ _ q=>q
theorem HOk.laid (x:HOk P w H h)(k:∀ b u,h.get? b=some u→h'.get? b=some u)(hp:h.objs.size≤a)(new:Yy P w (upd H a o) h' a o):HOk P w (upd H a o) h':=fun b u e=>by
 have hn:=x.fresh hp
 by_cases hb:b=a
 ·subst hb;rw [Jd] at e;cases e;exact new
 ·rw [Yd hb] at e
  exact (x b u e).stay (fun c v _ q=>k c v q) (fun c q=>by rw [Yd (Ze q hn)];exact q) fun c xs q=>by rw [Yd (Ze q hn)];exact q
end
noncomputable def Rd (H:Hp) (a:Addr) (u:HO):Prop:=H a=some u∨∃ o,H a=some (.frz o u)
theorem Rd.ok {P:Program}{w:World}{H:Hp}{h:Heap}{a:Addr}{u:HO}(r:Rd H a u)(x:HOk P w H h):Yy P w H h a u:=by
 rcases r with r | ⟨o,r⟩
 ·exact x a u r
 ·obtain ⟨_,q⟩:=x a _ r
  exact q
noncomputable def Mut:Option HO→Prop
 | some (.lst _)=>True
 | some (.dK _)=>True
 | some (.dT _)=>True
 | some (.set _ _)=>True
 | some (.ins _ _ _)=>True
 | some (.ext _)=>True
 | _=>False
section
variable {P:Program} {w:World} {H:Hp} {h h':Heap} {x e:Addr} {o':HO}
theorem HOk.write (ok : HOk P w H h)(mu : Mut (H x))(he : e = x ∨ H e = some (.own x))(k : ∀ b u, b ≠ e → h.get? b = some u → h'.get? b = some u)(heo : ∃ u, h'.get? e = some u)
    (new : Yy P w (upd H x o') h' x o') : HOk P w (upd H x o') h' := fun b u q => by
  have nown : ∀ c y, H c = some (.own y) → c ≠ x := fun c y r z => by subst z; rw [r] at mu; exact mu
  have ntup : ∀ c xs, H c = some (.tup xs) → c ≠ x := fun c xs r z => by subst z; rw [r] at mu; exact mu
  by_cases hb : b = x
  · subst hb; rw [Jd] at q; cases q; exact new
  · rw [Yd hb] at q
    by_cases hbe : b = e
    · have q' : H b = some (.own x) := by
        rcases he with z | z
        · exact absurd (hbe.trans z) hb
        · rw [hbe]; exact z
      rw [q] at q'; cases q'
      obtain ⟨v, hv⟩ := heo
      exact ⟨v, by rw [hbe]; exact hv⟩
    · refine (ok b u q).stay (fun c v hc r => k c v ?_ r) (fun c r => by rw [Yd (nown c b r)]; exact r) fun c xs r => by rw [Yd (ntup c xs r)]; exact r
      rcases hc with rfl | hc
      · exact hbe
      · rintro rfl
        rcases he with z | z
        · exact nown c b hc z
        · rw [hc] at z; cases z; exact hb rfl
end
structure Un (fs ex:List Addr)(H H':Hp)(h h':Heap):Prop where
 keep:∀ b o,h.get? b=some o→H b=none→b ∉ fs→b ∉ ex→h'.get? b=some o
 slot:∀ b o,h.get? b=some o→H b=none→b ∈ fs→b ∉ ex→∃ sl,h'.get? b=some { o with slots:=sl }
 free:∀ b o,h.get? b=some o→H b=none→b ∉ ex→H' b=none
 there:∀ b o,h.get? b=some o→b ∉ ex→∃ o',h'.get? b=some o'
 tups:∀ b xs,H b=some (.tup xs)→H' b=some (.tup xs)
 frzs:∀ b o u,H b=some (.frz o u)→H' b=some (.frz o u)
 tbls:∀ b ps,H b=some (.tbl ps)→∃ more,H' b=some (.tbl (ps++more))
section
variable {fs fs' ex ex':List Addr} {H H1 H2:Hp} {h h1 h2 h':Heap} {a x e:Addr} {o:HO}
theorem Un.any (u:Un fs ex H H1 h h1){b:Addr}{ob:Obj}(q:h.get? b=some ob)(n:H b=none)(hx:b ∉ ex):∃ sl,h1.get? b=some { ob with slots:=sl }:=by
 by_cases hb:b ∈ fs
 ·exact u.slot b ob q n hb hx
 ·exact ⟨ob.slots,u.keep b ob q n hb hx⟩
theorem Un.kept (k:∀ b u,h.get? b=some u→h'.get? b=some u):Un fs ex H H h h' :=
 ⟨fun b ob q _ _ _=>k b ob q,fun b ob q _ _ _=>⟨ob.slots,k b ob q⟩,fun _ _ _ n _=>n,fun b ob q _=>⟨ob,k b ob q⟩,fun _ _ q=>q,fun _ _ _ q=>q,fun _ ps q=>⟨#[],by rw [q];simp⟩⟩
theorem Un.refl:Un fs ex H H h h:=Un.kept fun _ _ q=>q
theorem Un.laid (k:∀ b u,h.get? b=some u→h'.get? b=some u)(hp:h.objs.size≤a)(hn:H a=none):Un fs ex H (upd H a o) h h' where
 keep:=fun b u q _ _ _=>k b u q
 slot:=fun b u q _ _ _=>⟨u.slots,k b u q⟩
 free:=fun b u q n _=>by rw [Yd (Nat.ne_of_lt (Nat.lt_of_lt_of_le (Heap.lt_size q) hp))];exact n
 there:=fun b u q _=>⟨u,k b u q⟩
 tups:=fun b xs q=>by rw [Yd (Ze q hn)];exact q
 frzs:=fun b u xs q=>by rw [Yd (Ze q hn)];exact q
 tbls:=fun b ps q=>⟨#[],by rw [Yd (Ze q hn),q];simp⟩
theorem Un.write (mu:Mut (H x))(he:e=x∨H e=some (.own x))(k:∀ b u,b≠e→h.get? b=some u→h'.get? b=some u)(heo:∃ u,h'.get? e=some u):Un fs ex H (upd H x o) h h':=by
 have hx:∀ b,H b=none→b≠x:=fun b n z=>by subst z;rw [n] at mu;exact mu
 have hb:∀ b,H b=none→b≠e:=fun b n z=>by
  subst z
  rcases he with r | r
  ·exact hx b n r
  ·rw [n] at r;cases r
 have hm:∀ b u,H b=some u→¬ Mut (some u)→b≠x:=fun b u q nm z=>by subst z;rw [q] at mu;exact nm mu
 refine ⟨fun b u q n _ _=>k b u (hb b n) q,fun b u q n _ _=>⟨u.slots,k b u (hb b n) q⟩,fun b u q n _=>by rw [Yd (hx b n)];exact n,fun b u q _=>?_,
  fun b xs q=>by rw [Yd (hm b _ q fun z=>z)];exact q,fun b u xs q=>by rw [Yd (hm b _ q fun z=>z)];exact q,fun b ps q=>⟨#[],by rw [Yd (hm b _ q fun z=>z),q];simp⟩⟩
 by_cases hbe:b=e
 ·subst hbe;exact heo
 ·exact ⟨u,k b u hbe q⟩
end
noncomputable def trk (h:Heap) (H:Hp):List Addr:=(List.range h.objs.size).filter fun a=>(H a).isSome
noncomputable def hidT (h:Heap) (H:Hp):Heap:=PySem.W.hideAll h (trk h H)
theorem Zjl (h:Heap)(H:Hp):(hidT h H).objs.size=h.objs.size:=PySem.W.hideAll_size _ _
theorem Zj1 {h:Heap}{H:Hp}{b:Addr}{o:Obj}(e:h.get? b=some o)(n:H b=none):(hidT h H).get? b=some o :=
 PySem.W.hideAll_get _ e fun hm=>by
  have q:(H b).isSome=true:=(List.mem_filter.mp hm).2
  rw [n] at q;simp at q
theorem Zk1 {h:Heap}{H:Hp}{b:Addr}{o:Obj}(e:(hidT h H).get? b=some o):h.get? b=some o∧H b=none:=by
 have e':h.get? b=some o:=PySem.W.of_hideAll (trk h H) e
 refine ⟨e',?_⟩
 cases q:H b with
 | none=>rfl
 | some x =>
  have hm:b ∈ trk h H:=List.mem_filter.mpr ⟨List.mem_range.mpr (Heap.lt_size e'),by simp [q]⟩
  have z:(hidT h H).get? b=none:=PySem.W.hideAll_none (trk h H) hm
  rw [z] at e;cases e
noncomputable def ZkW (g h:Heap) (L:Addr):List (Addr × Obj):=(List.range h.objs.size).filterMap fun a=>if a=L∨(g.get? a).isSome=true then none else (h.get? a).map fun o=>(a,o)
noncomputable def rest (g h:Heap) (L d:Addr):List (Addr × Obj):=(ZkW g h L).filter fun p=>decide (p.1≠d)
end L2
namespace L2
open PySem PySem.Spec PyProof.Rows
structure Mod (K:PySem.W.Frag)(mg:Str→Option Value)(base:Heap):Prop where
 kin:K.In base
 glob:base.Ns mainGlobals mg
 blt:∃ mb,base.Ns builtinsNs mb∧∀ x:Str,x≠"__name__"→mb x=bootBuiltins x
 nolimit:base.NoLimit
structure Cx where
 prog:Program
 w:World
 K:PySem.W.Frag
 mg:Str→Option Value
 base:Heap
 A:Around
 N:List Str
 s₀:Shared
 H₀:Hp
 env:Env
 outer:List Env
 stack:List Env
 ex:List Addr
 fn:Str→Bool
 calm:Bool
 pn:List (Addr × Obj)
 xe:Value→Shared→Prop
noncomputable def frs (l:List Env):List Addr:=l.filterMap (·.frame)
noncomputable abbrev Cx.fs (X:Cx):List Addr:=frs X.outer
noncomputable def Vis (sc:Scope) (x:Str):Prop:=sc.names.lookup x=some .local∨sc.names.lookup x=some .cell∨sc.names.lookup x=some .free
noncomputable def Loc (sc:Scope) (x:Str):Prop:=sc.names.lookup x=some .local∨sc.names.lookup x=some .cell
noncomputable def Look (env:Env) (h:Heap) (m:Str→Option Value) (x:Str) (u:Value):Prop :=
 (env.kindOf x=some .local∧m x=some u)∨((env.kindOf x=some .cell∨env.kindOf x=some .free)∧∃ c,env.cells.lookup x=some c∧h.IsCell c (some u))
structure Cx.Ok (X:Cx):Prop where
 mod:Mod X.K X.mg X.base
 kind:X.env.scope.kind=.function
 glob:X.env.globals=mainGlobals
 blt:X.env.builtins=builtinsNs
 above:X.s₀.heap.objs.size≤X.env.locals
 inj:∀ x y c,X.env.cells.lookup x=some c→X.env.cells.lookup y=some c→x=y
 has:∀ x,(X.env.kindOf x=some .cell∨X.env.kindOf x=some .free)→∃ c,X.env.cells.lookup x=some c
 cab:∀ x c,X.fn x=true→X.env.cells.lookup x=some c→X.s₀.heap.objs.size≤c
 hd:X.calm=true→X.A.handled=none
 frames:X.A.frames=some X.stack
 stk:X.stack=X.outer∨(X.stack=X.env::X.outer∧X.env.frame=some X.env.locals)
 exf:∀ b ∈ X.ex,b≠X.env.locals∧∀ x c,X.env.cells.lookup x=some c→c≠b
 bs:∀ b o,X.base.get? b=some o→X.s₀.heap.get? b=some o∧X.H₀ b=none
 bsz:X.base.objs.size≤X.s₀.heap.objs.size
 noex:∀ b o,X.base.get? b=some o→b ∉ X.ex
 exfs:∀ b ∈ X.ex,b ∉ X.fs
 funs:X.s₀.heap.FunFrames X.base X.outer
 frf:∀ b ∈ X.fs,X.H₀ b=none
structure Inv (X:Cx)(pins:List (Addr × Obj))(σ:List (Option V))(H:Hp)(s:Shared):Prop where
 ok:X.Ok
 os:s.os=X.s₀.os
 bare:AllBare s.gens
 base:Un X.fs X.ex X.H₀ H X.s₀.heap s.heap
 loc:∃ m,s.heap.Ns X.env.locals m∧∀ (i:Nat) (x:Str) (v:V),X.N[i]?=some x→σ[i]?=some (some v)→Vis X.env.scope x→∃ u,RelV v u∧Look X.env s.heap m x u
 cell:∀ x c,X.env.cells.lookup x=some c→∃ v,s.heap.IsCell c v
 free:H X.env.locals=none
 freeC:∀ x c,X.env.cells.lookup x=some c→H c=none
 pin:∀ p ∈ X.pn++pins,s.heap.get? p.1=some p.2∧H p.1=none∧p.1≠X.env.locals∧p.1 ∉ X.fs∧∀ v,p.2.data≠.cell v
 hok:HOk X.prog X.w H s.heap
 len:σ.length=X.N.length
section
variable {X:Cx} {pins:List (Addr × Obj)} {σ:List (Option V)} {H H':Hp} {s:Shared} {h':Heap}
theorem Cx.Ok.nofr (ok:X.Ok){b:Addr}{o:Obj}(e:X.base.get? b=some o):b ∉ X.fs:=fun hb=>by
 have:=(ok.funs.mem hb).1
 rw [e] at this;cases this
theorem Inv.bs (I:Inv X pins σ H s):∀ b o,X.base.get? b=some o→s.heap.get? b=some o∧H b=none:=fun b o e =>
 ⟨I.base.keep b o (I.ok.bs b o e).1 (I.ok.bs b o e).2 (I.ok.nofr e) (I.ok.noex b o e),I.base.free b o (I.ok.bs b o e).1 (I.ok.bs b o e).2 (I.ok.noex b o e)⟩
theorem Inv.bk (I:Inv X pins σ H s):∀ b o,X.base.get? b=some o→s.heap.get? b=some o:=fun b o e=>(I.bs b o e).1
theorem Inv.mod (I:Inv X pins σ H s):Mod X.K X.mg X.base:=I.ok.mod
theorem Inv.kIn (I:Inv X pins σ H s):X.K.In s.heap:=I.ok.mod.kin.keeps I.bk
theorem Inv.lt (I:Inv X pins σ H s):X.env.locals < s.heap.objs.size:=let ⟨_,hn,_⟩:=I.loc;hn.lt
theorem Inv.sz (I:Inv X pins σ H s):X.s₀.heap.objs.size≤s.heap.objs.size:=Nat.le_trans I.ok.above (Nat.le_of_lt I.lt)
theorem Inv.nofs (I:Inv X pins σ H s){a:Addr}(h:s.heap.objs.size≤a):a ∉ X.fs:=fun hb=>by
 obtain ⟨_,o,ho,_⟩:=I.ok.funs.mem hb
 exact absurd (Nat.lt_of_lt_of_le (Heap.lt_size ho) (Nat.le_trans I.sz h)) (Nat.lt_irrefl _)
theorem Inv.cne (I:Inv X pins σ H s):∀ x c,X.env.cells.lookup x=some c→c≠X.env.locals:=fun x c e z=>by
 obtain ⟨v,o,ho,hd⟩:=I.cell x c e
 obtain ⟨m,⟨o',es,ep,ho',hd',_⟩,_⟩:=I.loc
 rw [z,ho'] at ho;cases ho;rw [hd'] at hd;cases hd
theorem Inv.funs (I:Inv X pins σ H s):s.heap.FunFrames X.base X.outer:=by
 have all:∀ (l:List Env),(∀ b ∈ frs l,b ∈ X.fs)→X.s₀.heap.FunFrames X.base l→s.heap.FunFrames X.base l:=by
  intro l
  induction l with
  | nil=>intro _ _;trivial
  | cons env r ih =>
   intro hs hl
   obtain ⟨hk,⟨L,o,hf,hn,ho,hd⟩,hr⟩:=hl
   have hL:L ∈ X.fs:=hs L (by unfold frs;rw [List.filterMap_cons,hf];exact List.mem_cons_self)
   obtain ⟨sl,e⟩:=I.base.slot L o ho (I.ok.frf L hL) hL fun z=>I.ok.exfs L z hL
   exact ⟨hk,⟨L,_,hf,hn,e,hd⟩,ih (fun b hb=>hs b (by unfold frs;rw [List.filterMap_cons,hf];exact List.mem_cons_of_mem _ hb)) hr⟩
 exact all X.outer (fun _ hb=>hb) I.ok.funs
theorem Inv.stack (I:Inv X pins σ H s):s.heap.FunFrames X.base X.stack:=by
 rcases I.ok.stk with e | ⟨e,hf⟩
 ·rw [e];exact I.funs
 ·rw [e]
  obtain ⟨m,hn,_⟩:=I.loc
  refine .cons (by rw [I.ok.kind];decide) hf hn ?_ I.funs
  exact Heap.get?_none_of_le (Nat.le_trans I.ok.bsz I.ok.above)
theorem Inv.Zco (I:Inv X pins σ H s):∀ b ∈ frs X.stack,b ∈ X.env.locals::X.fs:=fun b hb=>by
 rcases I.ok.stk with e | ⟨e,hf⟩
 ·rw [e] at hb;exact List.mem_cons_of_mem _ hb
 ·rw [e] at hb
  unfold frs at hb
  rw [List.filterMap_cons,hf] at hb
  exact hb
theorem Inv.Zfe (I:Inv X pins σ H s):∀ b ∈ frs X.stack,H b=none:=fun b hb=>by
 rcases List.mem_cons.mp (I.Zco b hb) with e | hb
 ·rw [e];exact I.free
 ·obtain ⟨_,o,ho,_⟩:=I.ok.funs.mem hb
  exact I.base.free b o ho (I.ok.frf b hb) fun z=>I.ok.exfs b z hb
theorem Inv.step {g':Array GenState}{t':Nat}{d':Drawn}{ch:List Addr}(I:Inv X pins σ H s)
  (hch:∀ b ∈ ch,(b ∈ X.ex∨X.s₀.heap.objs.size≤b)∧b≠X.env.locals∧(∀ x c,X.env.cells.lookup x=some c→c≠b)∧∀ p ∈ X.pn++pins,p.1≠b)
  (keep:∀ b o,b≠X.env.locals→b ∉ X.fs→b ∉ ch→s.heap.get? b=some o→H b=none→h'.get? b=some o)
  (slot:∀ b o,b≠X.env.locals→b ∈ X.fs→b ∉ ch→s.heap.get? b=some o→H b=none→∃ sl,h'.get? b=some { o with slots:=sl }) (free:∀ b o,b ∉ ch→s.heap.get? b=some o→H b=none→H' b=none)
  (there:∀ b o,b ∉ ch→s.heap.get? b=some o→∃ o',h'.get? b=some o')
  (tups:∀ b xs,H b=some (.tup xs)→H' b=some (.tup xs)) (frzs:∀ b o u,H b=some (.frz o u)→H' b=some (.frz o u)) (tbls:∀ b ps,H b=some (.tbl ps)→∃ more,H' b=some (.tbl (ps++more)))
  (ns:∀ m,s.heap.Ns X.env.locals m→h'.Ns X.env.locals m) (hok:HOk X.prog X.w H' h') (hg:AllBare g') :
  Inv X pins σ H' { s with heap:=h',gens:=g',drawn:=d',toks:=t' }:=by
 have neL:∀ b o,X.s₀.heap.get? b=some o→b≠X.env.locals:=fun b o e=>Nat.ne_of_lt (Nat.lt_of_lt_of_le (Heap.lt_size e) I.ok.above)
 have neC:∀ b o,X.s₀.heap.get? b=some o→b ∉ X.ex→b ∉ ch:=fun b o e hx hb=>by
  rcases (hch b hb).1 with z | z
  ·exact hx z
  ·exact absurd (Nat.lt_of_lt_of_le (Heap.lt_size e) z) (Nat.lt_irrefl _)
 have cellK:∀ x c,X.env.cells.lookup x=some c→∀ v,s.heap.IsCell c v→h'.IsCell c v:=fun x c e v ⟨o,ho,hd⟩=>by
  have nch:c ∉ ch:=fun z=>(hch c z).2.2.1 x c e rfl
  by_cases hc:c ∈ X.fs
  ·obtain ⟨sl,q⟩:=slot c o (I.cne x c e) hc nch ho (I.freeC x c e)
   exact ⟨_,q,hd⟩
  ·exact ⟨o,keep c o (I.cne x c e) hc nch ho (I.freeC x c e),hd⟩
 refine ⟨I.ok,I.os,hg,⟨fun b o e n hb hx=>?_,fun b o e n hb hx=>?_,fun b o e n hx=>?_,fun b o e hx=>?_,fun b xs e=>tups b xs (I.base.tups b xs e),fun b o xs e=>frzs b o xs (I.base.frzs b o xs e),fun b ps e=>?_⟩,?_,fun x c e=>?_,?_,fun x c e=>?_,fun p hp=>?_,hok,I.len⟩
 ·exact keep b o (neL b o e) hb (neC b o e hx) (I.base.keep b o e n hb hx) (I.base.free b o e n hx)
 ·obtain ⟨sl,e1⟩:=I.base.slot b o e n hb hx
  obtain ⟨sl',e2⟩:=slot b _ (neL b o e) hb (neC b o e hx) e1 (I.base.free b o e n hx)
  exact ⟨sl',e2⟩
 ·obtain ⟨o',e1⟩:=I.base.there b o e hx
  exact free b o' (neC b o e hx) e1 (I.base.free b o e n hx)
 ·obtain ⟨o',e1⟩:=I.base.there b o e hx
  exact there b o' (neC b o e hx) e1
 ·obtain ⟨m1,e1⟩:=I.base.tbls b ps e
  obtain ⟨m2,e2⟩:=tbls b _ e1
  exact ⟨m1++m2,by rw [e2,Array.append_assoc]⟩
 ·obtain ⟨m,hn,hl⟩:=I.loc
  refine ⟨m,ns m hn,fun i x v e1 e2 e3=>?_⟩
  obtain ⟨u,r,l⟩:=hl i x v e1 e2 e3
  refine ⟨u,r,?_⟩
  rcases l with l | ⟨k,c,e,z⟩
  ·exact .inl l
  ·exact .inr ⟨k,c,e,cellK x c e _ z⟩
 ·obtain ⟨v,z⟩:=I.cell x c e
  exact ⟨v,cellK x c e v z⟩
 ·obtain ⟨m,⟨o,_,_,ho,_⟩,_⟩:=I.loc
  exact free _ o (fun z=>(hch _ z).2.1 rfl) ho I.free
 ·obtain ⟨v,o,ho,hd⟩:=I.cell x c e
  exact free c o (fun z=>(hch c z).2.2.1 x c e rfl) ho (I.freeC x c e)
 ·obtain ⟨e,n,ne,nf,d⟩:=I.pin p hp
  have nch:p.1 ∉ ch:=fun z=>(hch p.1 z).2.2.2 p hp rfl
  exact ⟨keep p.1 p.2 ne nf nch e n,free p.1 p.2 nch e n,ne,nf,d⟩
theorem Inv.un {t':Nat}(I:Inv X pins σ H s)(u:Un X.fs [] H H' s.heap h')(hok:HOk X.prog X.w H' h'):Inv X pins σ H' { s with heap:=h',toks:=t' }:=by
 obtain ⟨m,⟨o,es,ep,ho,r⟩,_⟩:=id I.loc
 obtain ⟨sl,hL⟩:=u.any ho I.free (by simp)
 exact I.step (g':=s.gens) (d':=s.drawn) (ch:=[]) (fun _ z=>nomatch z) (fun b o _ hb _ e n=>u.keep b o e n hb (by simp)) (fun b o _ hb _ e n=>u.slot b o e n hb (by simp)) (fun b o _ e n=>u.free b o e n (by simp)) (fun b o _ e=>u.there b o e (by simp)) u.tups u.frzs u.tbls (fun m' hm=>by
  obtain ⟨o',es',ep',ho',r'⟩:=hm
  rw [ho] at ho';cases ho'
  exact ⟨_,es',ep',hL,r'⟩) hok I.bare
theorem Inv.call {g':Array GenState}{t':Nat}{d':Drawn}{ch:List Addr}(I:Inv X pins σ H s)(u:Un (frs X.stack) ch H H' s.heap h')(hok:HOk X.prog X.w H' h')(hg:AllBare g')
  (hch:∀ b ∈ ch,(b ∈ X.ex∨X.s₀.heap.objs.size≤b)∧b≠X.env.locals∧(∀ x c,X.env.cells.lookup x=some c→c≠b)∧∀ p ∈ X.pn++pins,p.1≠b) :
  Inv X pins σ H' { s with heap:=h',gens:=g',drawn:=d',toks:=t' }:=by
 obtain ⟨m,⟨o,es,ep,ho,r⟩,_⟩:=id I.loc
 obtain ⟨sl,hL⟩:=u.any ho I.free fun z=>(hch _ z).2.1 rfl
 exact I.step (ch:=ch) hch (fun b o hL hb hc e n=>u.keep b o e n (fun z=>(List.mem_cons.mp (I.Zco b z)).elim hL hb) hc) (fun b o _ _ hc e n=>u.any e n hc) (fun b o hc e n=>u.free b o e n hc) (fun b o hc e=>u.there b o e hc) u.tups u.frzs u.tbls (fun m' hm=>by
  obtain ⟨o',es',ep',ho',r'⟩:=hm
  rw [ho] at ho';cases ho'
  exact ⟨_,es',ep',hL,r'⟩) hok hg
theorem Inv.turned {t':Nat}{it:Addr}(I:Inv X pins σ H s)(k:∀ b o,b≠it→s.heap.get? b=some o→h'.get? b=some o)(hn:H it=none)(hL:it≠X.env.locals)
  (h1:it ∈ X.ex∨X.s₀.heap.objs.size≤it) (h2:∀ x c,X.env.cells.lookup x=some c→c≠it) (h3:∀ p ∈ X.pn++pins,p.1≠it):Inv X pins σ H { s with heap:=h',toks:=t' }:=by
 have nit:∀ b u,H b=some u→b≠it:=fun b u e z=>by rw [z,hn] at e;cases e
 refine I.step (g':=s.gens) (d':=s.drawn) (ch:=[it]) (fun b hb=>?_) (fun b o _ _ hc e _=>k b o (fun z=>hc (by simp [z])) e) (fun b o _ _ hc e _=>⟨o.slots,k b o (fun z=>hc (by simp [z])) e⟩) (fun _ _ _ _ n=>n)
  (fun b o hc e=>⟨o,k b o (fun z=>hc (by simp [z])) e⟩) (fun _ _ e=>e) (fun _ _ _ e=>e) (fun b ps e=>⟨#[],by rw [e];simp⟩) (fun m hm=>?_) (fun b u e=>?_) I.bare
 ·have e:b=it:=by simpa using hb
  subst e
  exact ⟨h1,hL,h2,h3⟩
 ·obtain ⟨o,es,ep,ho,r⟩:=hm
  exact ⟨o,es,ep,k _ o (Ne.symm hL) ho,r⟩
 ·refine (I.hok b u e).stay (fun c v hc q=>k c v ?_ q) (fun _ q=>q) fun _ _ q=>q
  rcases hc with z | z
  ·rw [z];exact nit b u e
  ·exact nit c _ z
theorem Inv.tok (I:Inv X pins σ H s)(t:Nat):Inv X pins σ H { s with toks:=t }:=I.un (h':=s.heap) (t':=t) Un.refl I.hok
theorem Inv.kept {t':Nat}(I:Inv X pins σ H s)(k:∀ b u,s.heap.get? b=some u→h'.get? b=some u):Inv X pins σ H { s with heap:=h',toks:=t' }:=I.un (Un.kept k) (I.hok.kept k)
theorem Inv.laid {a:Addr}{o:HO}{t':Nat}(I:Inv X pins σ H s)(k:∀ b u,s.heap.get? b=some u→h'.get? b=some u)(hp:s.heap.objs.size≤a)(new:Yy X.prog X.w (upd H a o) h' a o) :
  Inv X pins σ (upd H a o) { s with heap:=h',toks:=t' }:=I.un (Un.laid k hp (I.hok.fresh hp)) (I.hok.laid k hp new)
theorem Inv.write {x e:Addr}{o:HO}{t':Nat}(I:Inv X pins σ H s)(mu:Mut (H x))(he:e=x∨H e=some (.own x))(k:∀ b u,b≠e→s.heap.get? b=some u→h'.get? b=some u)(heo:∃ u,h'.get? e=some u)
  (new:Yy X.prog X.w (upd H x o) h' x o):Inv X pins σ (upd H x o) { s with heap:=h',toks:=t' }:=I.un (Un.write mu he k heo) (I.hok.write mu he k heo new)
theorem Inv.Zfm {pins':List (Addr × Obj)}(I:Inv X pins σ H s)(h:∀ p ∈ pins',s.heap.get? p.1=some p.2∧H p.1=none∧p.1≠X.env.locals∧p.1 ∉ X.fs∧∀ v,p.2.data≠.cell v):Inv X pins' σ H s :=
 ⟨I.ok,I.os,I.bare,I.base,I.loc,I.cell,I.free,I.freeC,fun p hp=>(List.mem_append.mp hp).elim (fun z=>I.pin p (List.mem_append_left _ z)) (h p),I.hok,I.len⟩
theorem Zep {N:List Str}(hN:N.Nodup){i j:Nat}{x:Str}(a:N[i]?=some x)(b:N[j]?=some x):i=j:=by
 obtain ⟨h1,e1⟩:=List.getElem?_eq_some_iff.mp a
 obtain ⟨h2,e2⟩:=List.getElem?_eq_some_iff.mp b
 exact (List.getElem_inj hN).mp (e1.trans e2.symm)
theorem ZiE {M : Model}{A : Around}{E : Value → Shared → Prop}{i : Nat}{x : Str}{v : V}{u : Value}{Q : Unit → Shared → Prop}(I : Inv X pins σ H s)(hN : X.N.Nodup)(hi : X.N[i]? = some x)(hx : Loc X.env.scope x)(r : RelV v u)
    (h : ∀ s', Inv X pins (σ.set i (some v)) H s' → (∃ a, Heap.SameBut a s.heap s'.heap ∧ (a = X.env.locals ∨ X.env.cells.lookup x = some a)) → Q () s') (hf : X.fn x = true ∨ X.env.scope.names.lookup x = some .local := by first | exact .inl rfl | exact .inr rfl | assumption) : wpAny M A (storeName X.env x u) Q E s := by
  obtain ⟨m, hn, hl⟩ := id I.loc
  have hcls : (X.env.scope.kind == .class || (X.env.scope.kind == .module && X.env.locals != X.env.globals)) = false := by rw [I.ok.kind]; rfl
  have hiσ : i < σ.length := by rw [I.len]; exact (List.getElem?_eq_some_iff.mp hi).1
  have cne := I.cne
  have tracked : ∀ {a : Addr} {h' : Heap}, (∃ o, s.heap.get? a = some o ∧ H a = none) → Heap.SameBut a s.heap h' → HOk X.prog X.w H h' := fun {a h'} ha hs b ob e => by
    obtain ⟨_, _, hfree⟩ := ha
    refine (I.hok b ob e).stay (fun c w' hc q => (hs.2 c ?_).trans q) (fun _ q => q) fun _ _ q => q
    rintro rfl
    rcases hc with rfl | hc
    · rw [hfree] at e; cases e
    · rw [hfree] at hc; cases hc
  rcases hx with hk | hk
  · refine wpAny_storeName_local hk hn (fun h' hn' hs => ?_) hcls
    obtain ⟨oL, _, _, hoL, _⟩ := id hn
    refine h _ ⟨I.ok, I.os, I.bare, ⟨fun b o e n hb hx => ?_, fun b o e n hb hx => ?_, I.base.free, fun b o e hx => ?_, I.base.tups, I.base.frzs, I.base.tbls⟩, ⟨_, hn', fun j y v' e1 e2 e3 => ?_⟩, fun y c e => ?_, I.free, I.freeC, fun p hp => ?_, tracked ⟨oL, hoL, I.free⟩ hs, by simpa using I.len⟩ ⟨_, hs, .inl rfl⟩
    · exact (hs.2 b (Nat.ne_of_lt (Nat.lt_of_lt_of_le (Heap.lt_size e) I.ok.above))).trans (I.base.keep b o e n hb hx)
    · obtain ⟨sl, e1⟩ := I.base.slot b o e n hb hx
      exact ⟨sl, (hs.2 b (Nat.ne_of_lt (Nat.lt_of_lt_of_le (Heap.lt_size e) I.ok.above))).trans e1⟩
    · obtain ⟨o', e1⟩ := I.base.there b o e hx
      exact ⟨o', (hs.2 b (Nat.ne_of_lt (Nat.lt_of_lt_of_le (Heap.lt_size e) I.ok.above))).trans e1⟩
    · by_cases hj : j = i
      · subst hj
        rw [hi] at e1; cases e1
        rw [List.getElem?_set_self hiσ] at e2
        cases e2
        exact ⟨u, r, .inl ⟨hk, by simp⟩⟩
      · rw [List.getElem?_set_ne (Ne.symm hj)] at e2
        obtain ⟨u', r', q⟩ := hl j y v' e1 e2 e3
        refine ⟨u', r', ?_⟩
        rcases q with ⟨k, e⟩ | ⟨k, c, e, z⟩
        · refine .inl ⟨k, ?_⟩
          have : y ≠ x := fun e => hj (Zep hN e1 (e ▸ hi))
          simp [this, e]
        · exact .inr ⟨k, c, e, z.sameBut hs (cne y c e)⟩
    · obtain ⟨w', z⟩ := I.cell y c e
      exact ⟨w', z.sameBut hs (cne y c e)⟩
    · obtain ⟨e, n, ne, nf, d⟩ := I.pin p hp
      exact ⟨(hs.2 p.1 ne).trans e, n, ne, nf, d⟩
  · have hfn : X.fn x = true := by
      rcases hf with z | z
      · exact z
      · rw [z] at hk; cases hk
    obtain ⟨c, hc⟩ := I.ok.has x (.inl hk)
    obtain ⟨w', z⟩ := I.cell x c hc
    refine wpAny_storeName_cell I.ok.kind hk hc z (fun h' hc' hs => ?_)
    obtain ⟨oc, hoc, hocd⟩ := id z
    refine h { s with heap := h' } ⟨I.ok, I.os, I.bare, ⟨fun b o e n hb hx => ?_, fun b o e n hb hx => ?_, I.base.free, fun b o e hx => ?_, I.base.tups, I.base.frzs, I.base.tbls⟩, ⟨m, hn.sameBut hs (Ne.symm (cne x c hc)), fun j y v' e1 e2 e3 => ?_⟩, fun y c' e => ?_, I.free, I.freeC, fun p hp => ?_, tracked ⟨oc, hoc, I.freeC x c hc⟩ hs, by simpa using I.len⟩ ⟨c, hs, .inr hc⟩
    · exact (hs.2 b (Nat.ne_of_lt (Nat.lt_of_lt_of_le (Heap.lt_size e) (I.ok.cab x c hfn hc)))).trans (I.base.keep b o e n hb hx)
    · obtain ⟨sl, e1⟩ := I.base.slot b o e n hb hx
      exact ⟨sl, (hs.2 b (Nat.ne_of_lt (Nat.lt_of_lt_of_le (Heap.lt_size e) (I.ok.cab x c hfn hc)))).trans e1⟩
    · obtain ⟨o', e1⟩ := I.base.there b o e hx
      exact ⟨o', (hs.2 b (Nat.ne_of_lt (Nat.lt_of_lt_of_le (Heap.lt_size e) (I.ok.cab x c hfn hc)))).trans e1⟩
    · by_cases hj : j = i
      · subst hj
        rw [hi] at e1; cases e1
        rw [List.getElem?_set_self hiσ] at e2
        cases e2
        exact ⟨u, r, .inr ⟨.inl hk, c, hc, hc'⟩⟩
      · rw [List.getElem?_set_ne (Ne.symm hj)] at e2
        obtain ⟨u', r', q⟩ := hl j y v' e1 e2 e3
        refine ⟨u', r', ?_⟩
        rcases q with q | ⟨k, c', e, z'⟩
        · exact .inl q
        · refine .inr ⟨k, c', e, z'.sameBut hs ?_⟩
          rintro rfl
          exact hj (Zep hN e1 (I.ok.inj _ _ _ e hc ▸ hi))
    · by_cases hcc : c' = c
      · subst hcc; exact ⟨_, hc'⟩
      · obtain ⟨w2, z2⟩ := I.cell y c' e
        exact ⟨w2, z2.sameBut hs hcc⟩
    · obtain ⟨e, n, ne, nf, d⟩ := I.pin p hp
      refine ⟨(hs.2 p.1 ?_).trans e, n, ne, nf, d⟩
      intro q
      rw [q, hoc] at e
      have q' : oc = p.2 := Option.some.inj e
      exact d w' (by rw [← q']; exact hocd)
theorem ZcM {M:Model}{A:Around}{E:Value→Shared→Prop}{i:Nat}{x:Str}{v:V}{u:Value}{Q:Unit→Shared→Prop}(I:Inv X pins σ H s)(hN:X.N.Nodup)(hi:X.N[i]?=some x)(hx:Loc X.env.scope x)(r:RelV v u)
  (h:∀ s',Inv X pins (σ.set i (some v)) H s'→Q () s') (hf:X.fn x=true∨X.env.scope.names.lookup x=some .local:=by first | exact .inl rfl | exact .inr rfl | assumption):wpAny M A (storeName X.env x u) Q E s :=
 ZiE I hN hi hx r (fun s' I' _=>h s' I') hf
theorem Inv.call' {s':Shared}{ch:List Addr}(I:Inv X pins σ H s)(ho:s'.os=s.os)(u:Un (frs X.stack) ch H H' s.heap s'.heap)(hok:HOk X.prog X.w H' s'.heap)(hg:AllBare s'.gens)
  (hch:∀ b ∈ ch,(b ∈ X.ex∨X.s₀.heap.objs.size≤b)∧b≠X.env.locals∧(∀ x c,X.env.cells.lookup x=some c→c≠b)∧∀ p ∈ X.pn++pins,p.1≠b):Inv X pins σ H' s':=by
 obtain ⟨h',g',d',t',o'⟩:=s'
 have e:o'=s.os:=ho
 subst e
 exact I.call (g':=g') (t':=t') (d':=d') u hok hg hch
end
noncomputable abbrev XK:=Value→Option Addr→Hp→Prop
noncomputable abbrev St:=List (Option V)
noncomputable abbrev VK:=V→Hp→Prop
noncomputable abbrev TE:=St→Hp→VK→Prop
noncomputable abbrev TT:=St→Hp→(Bool→Hp→Prop)→Prop
noncomputable abbrev TA:=St→Hp→(List V→Hp→Prop)→Prop
structure Ends where
 nx:St→Hp→Prop
 rt:VK
 bk:St→Hp→Prop:=fun _ _=>False
 ct:St→Hp→Prop:=fun _ _=>False
noncomputable abbrev TS:=Ends→St→Hp→Prop
noncomputable def EP (X:Cx) (pins:List (Addr × Obj)) (σ:St) (Q:VK) (u:Value) (s':Shared):Prop:=∃ v H',Inv X pins σ H' s'∧RelV v u∧Q v H'
noncomputable def TP (X:Cx) (pins:List (Addr × Obj)) (σ:St) (Q:Bool→Hp→Prop) (b:Bool) (s':Shared):Prop:=∃ H',Inv X pins σ H' s'∧Q b H'
noncomputable def AP (X:Cx) (pins:List (Addr × Obj)) (σ:St) (Q:List V→Hp→Prop) (us:List Value) (s':Shared):Prop:=∃ vs H',Inv X pins σ H' s'∧Vals vs us∧Q vs H'
noncomputable def SP (X:Cx) (pins:List (Addr × Obj)) (D:Ends) (f:Flow) (s':Shared):Prop :=
 match f with
 | .next=>∃ σ' H',Inv X pins σ' H' s'∧D.nx σ' H'
 | .brk=>∃ σ' H',Inv X pins σ' H' s'∧D.bk σ' H'
 | .cont=>∃ σ' H',Inv X pins σ' H' s'∧D.ct σ' H'
 | .ret u=>∃ v σ' H',Inv X pins σ' H' s'∧RelV v u∧D.rt v H'
noncomputable def PE (X:Cx) (e:Expr) (t:TE):Prop :=
 ∀ (pins:List (Addr × Obj)) (s:Shared) (σ:St) (H:Hp) (Q:VK),Inv X pins σ H s→t σ H Q→wpAny (model X.prog X.w) X.A (eval e X.env) (EP X pins σ Q) X.xe s
noncomputable def PT (X:Cx) (e:Expr) (t:TT):Prop :=
 ∀ (pins:List (Addr × Obj)) (s:Shared) (σ:St) (H:Hp) (Q:Bool→Hp→Prop),Inv X pins σ H s→t σ H Q→wpAny (model X.prog X.w) X.A (isTrue e X.env (eval e X.env)) (TP X pins σ Q) X.xe s
noncomputable def PW (X:Cx) (e:Expr) (t:TT):Prop :=
 ∀ (whole:Sem Value) (pins:List (Addr × Obj)) (s:Shared) (σ:St) (H:Hp) (Q:Bool→Hp→Prop),Inv X pins σ H s→t σ H Q→wpAny (model X.prog X.w) X.A (isTrue e X.env whole) (TP X pins σ Q) X.xe s
noncomputable def PA (X:Cx) (es:List Expr) (t:TA):Prop :=
 ∀ (pos:Pos) (pins:List (Addr × Obj)) (s:Shared) (σ:St) (H:Hp) (Q:List V→Hp→Prop),Inv X pins σ H s→t σ H Q→wpAny (model X.prog X.w) X.A (spliced (backTo pos (starEach es X.env))) (AP X pins σ Q) X.xe s
noncomputable def PS (X:Cx) (st:Stmt) (t:TS):Prop :=
 ∀ (pins:List (Addr × Obj)) (s:Shared) (σ:St) (H:Hp) (D:Ends),Inv X pins σ H s→t D σ H→wpAny (model X.prog X.w) X.A (exec st X.env) (SP X pins D) X.xe s
noncomputable def PSs (X:Cx) (st:List Stmt) (t:TS):Prop :=
 ∀ (pins:List (Addr × Obj)) (s:Shared) (σ:St) (H:Hp) (D:Ends),Inv X pins σ H s→t D σ H→wpAny (model X.prog X.w) X.A (execs st X.env) (SP X pins D) X.xe s
theorem thn {α:Type}{t:Sem α}{Q Q':α→Shared→Prop}{M:Model}{A:Around}{E:Value→Shared→Prop}{s:Shared}(h:wpAny M A t Q E s)(hQ:∀ a s,Q a s→Q' a s):wpAny M A t Q' E s:=wpAny_mono h hQ fun _ _ x=>x
end L2
namespace L2
open PySem PySem.Spec PyProof.Rows
section
variable {X:Cx}
noncomputable def tVar (i:Nat):TE:=fun σ H Q=>∃ v,σ[i]?=some (some v)∧Q v H
noncomputable def tC (v:V):TE:=fun _ H Q=>Q v H
theorem JW {i:Nat} {x:Str} {pos:Pos} (hN:X.N[i]?=some x) (hv:Vis X.env.scope x) (hd:(x == ("__debug__":Str))=false:=by decide) (hcd:(x == ("__classdict__":Str))=false:=by decide):PE X (.Name x pos) (tVar i):=by
 intro pins s σ H Q I h
 obtain ⟨v,e,h⟩:=h
 obtain ⟨m,hn,hl⟩:=I.loc
 obtain ⟨u,r,l⟩:=hl i x v hN e hv
 have fin:EP X pins σ Q u s:=⟨v,H,I,r,h⟩
 rcases l with ⟨hk,hm⟩ | ⟨hk,c,hc,hcell⟩
 ·exact wpAny_Name (wpAny_loadName_local I.ok.kind hk hn hm fin) hd
 ·rcases hk with hk | hk
  ·exact wpAny_Name (wpAny_loadName_cell I.ok.kind hk hc hcell fin) hd
  ·exact wpAny_Name (wpAny_loadName_free I.ok.kind hk hc hcell fin hcd) hd
theorem ZgF {i j pos}:PE X (.Constant (.int i) j pos) (tC (.int i)):=fun _ _ _ H _ I h=>wpAny_Constant_int ⟨.int i,H,I.tok _,⟨_,rfl⟩,h⟩
theorem Zm0 {b j pos}:PE X (.Constant (.bool b) j pos) (tC (.bl b)):=fun _ _ _ H _ I h=>Constant_bool ⟨.bl b,H,I,rfl,h⟩
theorem Zja {j pos}:PE X (.Constant .none j pos) (tC .non):=fun _ _ _ H _ I h=>Constant_none ⟨.non,H,I,rfl,h⟩
theorem Zjh {x j pos}:PE X (.Constant (.str x) j pos) (tC (.str x)):=fun _ _ _ H _ I h=>Calls.Constant_str ⟨.str x,H,I.tok _,⟨_,rfl⟩,h⟩
noncomputable def Gl (X:Cx) (x:Str):Prop:=X.env.kindOf x=some .globalImplicit
theorem ZaI {E:Value→Shared→Prop}{pins:List (Addr × Obj)}{s:Shared}{σ:St}{H:Hp}{x:Str}{u:Value}{pos:Pos}{Q:Value→Shared→Prop}(I:Inv X pins σ H s)(hg:Gl X x)(hm:X.mg x=some u)(h:Q u s)
  (hd:(x == ("__debug__":Str))=false:=by decide):wpAny (model X.prog X.w) X.A (eval (.Name x pos) X.env) Q E s :=
 Calls.Name_function_global I.ok.kind hg (Calls.loadGlobal_global (by rw [I.ok.glob];exact I.mod.glob.keeps I.bk) hm h) hd
theorem ZcC {E:Value→Shared→Prop}{pins:List (Addr × Obj)}{s:Shared}{σ:St}{H:Hp}{x:Str}{u:Value}{pos:Pos}{Q:Value→Shared→Prop}(I:Inv X pins σ H s)(hg:Gl X x)(hm:X.mg x=none)(hv:bootBuiltins x=some u)(h:Q u s)
  (hn:x≠"__name__":=by decide) (hd:(x == ("__debug__":Str))=false:=by decide):wpAny (model X.prog X.w) X.A (eval (.Name x pos) X.env) Q E s:=by
 obtain ⟨mb,h1,h2⟩:=I.mod.blt
 exact Calls.Name_function_global I.ok.kind hg (Calls.loadGlobal_builtin (by rw [I.ok.glob];exact I.mod.glob.keeps I.bk) hm (by rw [I.ok.blt];exact h1.keeps I.bk) ((h2 x hn).trans hv) h) hd
theorem Zlr {x:Str} {v:V} {u:Value} {pos:Pos} (hg:Gl X x) (hm:X.mg x=some u) (r:RelV v u) (hd:(x == ("__debug__":Str))=false:=by decide):PE X (.Name x pos) (tC v) :=
 fun _ _ _ H _ I h=>ZaI I hg hm ⟨v,H,I,r,h⟩ hd
theorem ZhY {x:Str} {v:V} {u:Value} {pos:Pos} (hg:Gl X x) (hm:X.mg x=none) (hv:bootBuiltins x=some u) (r:RelV v u) (hn:x≠"__name__":=by decide) (hd:(x == ("__debug__":Str))=false:=by decide):PE X (.Name x pos) (tC v) :=
 fun _ _ _ H _ I h=>ZcC I hg hm hv ⟨v,H,I,r,h⟩ hn hd
noncomputable def t2I (ta tb:TE) (k:Int→Int→Hp→Prop):St→Hp→Prop:=fun σ H=>ta σ H fun x H1=>tb σ H1 fun y H2=>∃ i j,x=.int i∧y=.int j∧k i j H2
variable {a b:Expr} {ta tb:TE} {pos:Pos}
noncomputable def PC (X:Cx) (op:CmpOp) (a b:Expr) (t:TE):Prop :=
 ∀ (pins:List (Addr × Obj)) (s:Shared) (σ:St) (H:Hp) (Q:VK),Inv X pins σ H s→t σ H Q →
  wpAny (model X.prog X.w) X.A (eval a X.env) (fun v s₁=>wpAny (model X.prog X.w) X.A (eval b X.env) (fun u s₂=>wpAny (model X.prog X.w) X.A (compareOp op v u) (EP X pins σ Q) X.xe s₂) X.xe s₁) X.xe s
noncomputable def tIsN (ta:TE):TE:=fun σ H Q=>ta σ H fun x H1=>Q (.bl (decide (x=.non))) H1
noncomputable def tB (t:TE):TT:=fun σ H Q=>t σ H fun x H1=>∃ c,x=.bl c∧Q c H1
theorem ZaO {op:CmpOp}{t:TE}(h:PC X op a b t)(h1:behindInMarks op b=false:=by first | exact nobehind _ (by decide) (by decide) | rfl):PT X (.Compare a [op] [b] pos) (tB t):=by
 intro pins s σ H Q I hw
 refine wpAny_isTrue_Compare1 (thn (h pins s σ H _ I hw) fun v s1 h1=>thn h1 fun u s2 h2=>thn h2 fun c s3 ⟨x,H1,I1,r1,q1⟩=>?_) h1
 obtain ⟨d,rfl,q⟩:=q1
 cases r1
 exact wpAny_truthy_bool ⟨H1,I1,q⟩
theorem ZmN {e:Expr}{t:TE}(h:PE X e t)(he:∀ whole,isTrue e X.env whole=(do let v ← whole;standAt e.pos;holding [v] (truthy v)):=by intro _;rfl):PT X e (tB t):=by
 intro pins s σ H Q I hw
 refine isTrue_plain (thn (h pins s σ H _ I hw) fun v s1 ⟨x,H1,I1,r1,q1⟩=>?_) (he _)
 obtain ⟨d,rfl,q⟩:=q1
 cases r1
 exact wpAny_truthy_bool ⟨H1,I1,q⟩
variable {tA tB':TT} {rest:List Expr}
noncomputable def tAnd (t u:TT):TT:=fun σ H Q=>t σ H fun c H1=>if c=true then u σ H1 Q else Q false H1
noncomputable def tOr (t u:TT):TT:=fun σ H Q=>t σ H fun c H1=>if c=true then Q true H1 else u σ H1 Q
noncomputable def tNot (t:TT):TT:=fun σ H Q=>t σ H fun c H1=>Q (!c) H1
theorem ZkM (ha:PT X a tA):PW X (.BoolOp .And [a] pos) tA:=by
 intro wh pins s σ H Q I h
 refine isTrue_and (thn (ha pins s σ H Q I h) fun c s1 e=>?_)
 cases c with
 | true=>exact isTrue_and_nil e
 | false=>exact e
theorem Zl2 (ha:PT X a tA):PW X (.BoolOp .Or [a] pos) tA:=by
 intro wh pins s σ H Q I h
 refine isTrue_or (thn (ha pins s σ H Q I h) fun c s1 e=>?_)
 cases c with
 | false=>exact isTrue_or_nil e
 | true=>exact e
theorem Zmn (ha:PT X a tA)(hb:PW X (.BoolOp .And (b::rest) pos) tB'):PW X (.BoolOp .And (a::b::rest) pos) (tAnd tA tB'):=by
 intro wh pins s σ H Q I h
 refine isTrue_and (thn (ha pins s σ H _ I h) fun c s1 ⟨H1,I1,q1⟩=>?_)
 cases c with
 | true=>exact hb wh pins s1 σ H1 Q I1 q1
 | false=>exact ⟨H1,I1,q1⟩
theorem Zm5 (ha:PT X a tA)(hb:PW X (.BoolOp .Or (b::rest) pos) tB'):PW X (.BoolOp .Or (a::b::rest) pos) (tOr tA tB'):=by
 intro wh pins s σ H Q I h
 refine isTrue_or (thn (ha pins s σ H _ I h) fun c s1 ⟨H1,I1,q1⟩=>?_)
 cases c with
 | true=>exact ⟨H1,I1,q1⟩
 | false=>exact hb wh pins s1 σ H1 Q I1 q1
theorem ZaT (ha:PT X a tA):PT X (.UnaryOp .Not a pos) (tNot tA):=by
 intro pins s σ H Q I h
 exact isTrue_not (ha pins s σ H (fun c H1=>Q (!c) H1) I h)
noncomputable def Zni (ta tb:TE):TE:=fun σ H Q=>ta σ H fun x H1=>∃ c,x=.bl c∧if c=true then tb σ H1 Q else Q (.bl false) H1
noncomputable def Znt (ta:TE):TE:=fun σ H Q=>ta σ H fun x H1=>∃ c,x=.bl c∧Q (.bl (!c)) H1
theorem Zl0 {op}{t:TE}(h:PE X a t):PE X (.BoolOp op [a] pos) t:=fun pins s σ H Q I hw=>BoolOp_one (h pins s σ H Q I hw)
theorem ZmK (ha:PE X a ta)(hb:PE X (.BoolOp .And (b::rest) pos) tb):PE X (.BoolOp .And (a::b::rest) pos) (Zni ta tb):=by
 intro pins s σ H Q I h
 refine BoolOp_and (thn (ha pins s σ H _ I h) fun v s1 ⟨x,H1,I1,r1,q1⟩=>?_)
 obtain ⟨c,rfl,q1⟩:=q1
 cases r1
 refine wpAny_truthy_bool ?_
 cases c with
 | true=>exact hb pins s1 σ H1 Q I1 q1
 | false=>exact ⟨.bl false,H1,I1,rfl,q1⟩
theorem ZlV (ha:PE X a ta):PE X (.UnaryOp .Not a pos) (Znt ta):=by
 intro pins s σ H Q I h
 refine UnaryOp_ (thn (ha pins s σ H _ I h) fun v s1 ⟨x,H1,I1,r1,q1⟩=>?_)
 obtain ⟨c,rfl,q1⟩:=q1
 cases r1
 exact not_of (wpAny_truthy_bool ⟨.bl (!c),H1,I1,rfl,q1⟩)
end
end L2
namespace L2
open PySem PySem.Spec PyProof.Rows
noncomputable def SqL (K:PySem.W.Frag) (H:Hp) (a:Addr) (xs:List V):Prop :=
 Rd H a (.lst xs) ∨
  ∃ (o:Obj) (its:Array Value) (n:Nat),K.lookup a=some o∧o.cls=.type "list"∧o.dict=none∧o.data=.seq its n∧its.size≤sizeLine∧Vals xs its.toList
noncomputable def SqT (K:PySem.W.Frag) (H:Hp) (a:Addr) (xs:List V):Prop :=
 Rd H a (.tup xs) ∨
  ∃ (o:Obj) (its:Array Value) (n:Nat),K.lookup a=some o∧o.cls=.type "tuple"∧o.data=.seq its n∧its.size≤sizeLine∧Vals xs its.toList
noncomputable def absV:Value→Option V
 | .none=>some .non
 | .bool b=>some (.bl b)
 | .int i _=>some (.int i)
 | .str x _=>some (.str x)
 | .bytes b _=>some (.byt b)
 | .float b _=>some (.flt b)
 | .ref a=>some (.ref a)
 | .type n=>some (.ty n)
 | _=>none
theorem RelV.abs {x:V}{u:Value}(r:RelV x u):absV u=some x:=by
 cases x with
 | non=>cases r;rfl
 | bl _=>cases r;rfl
 | int _=>obtain ⟨t,rfl⟩:=r;rfl
 | str _=>obtain ⟨t,rfl⟩:=r;rfl
 | byt _=>obtain ⟨t,rfl⟩:=r;rfl
 | flt _=>obtain ⟨t,rfl⟩:=r;rfl
 | ref _=>cases r;rfl
 | ty _=>cases r;rfl
theorem RelV.inj {x y:V}{u:Value}(r:RelV x u)(q:RelV y u):x=y:=Option.some.inj (r.abs.symm.trans q.abs)
theorem Vals.inj:∀ {xs ys:List V} {us:List Value},Vals xs us→Vals ys us→xs=ys
 | _,_,_,.nil,.nil=>rfl
 | _,_,_,.cons r t,.cons r' t'=>by rw [r.inj r',Vals.inj t t']
section
variable {X:Cx} {pins:List (Addr × Obj)} {σ:St} {H:Hp} {s:Shared} {a:Addr} {xs ys:List V}
theorem Inv.list (I:Inv X pins σ H s)(h:SqL X.K H a xs):∃ its:List Value,Vals xs its∧PlainL s.heap a its.toArray∧xs.length≤sizeLine:=by
 rcases h with h | ⟨o,its,n,hk,hc,hd,hs,hz,r⟩
 ·obtain ⟨z,its,n,r,e⟩:=h.ok I.hok
  exact ⟨its,r,⟨_,n,e,rfl,rfl,rfl⟩,z⟩
 ·refine ⟨its.toList,r,⟨o,n,I.kIn a o hk,hc,hd,by simpa using hs⟩,?_⟩
  have e:=r.length
  simp only [Array.length_toList] at e
  omega
theorem Inv.tuple (I:Inv X pins σ H s)(h:SqT X.K H a xs):∃ its:List Value,Vals xs its∧IsTup s.heap a its.toArray∧xs.length≤sizeLine:=by
 rcases h with h | ⟨o,its,n,hk,hc,hs,hz,r⟩
 ·obtain ⟨z,its,r,p⟩:=h.ok I.hok
  exact ⟨its,r,p,z⟩
 ·refine ⟨its.toList,r,⟨o,I.kIn a o hk,hc,n,by simpa using hs⟩,?_⟩
  have e:=r.length
  simp only [Array.length_toList] at e
  omega
theorem Inv.Zkf (I:Inv X pins σ H s)(h:SqL X.K H a xs)(h':SqL X.K H a ys):xs=ys:=by
 obtain ⟨its,r,⟨o,n,e,_,_,d⟩,_⟩:=I.list h
 obtain ⟨its',r',⟨o',n',e',_,_,d'⟩,_⟩:=I.list h'
 rw [e] at e';cases e'
 rw [d] at d'
 injection d' with d1 _
 have:its=its':=by simpa using congrArg Array.toList d1
 subst this
 exact r.inj r'
theorem Inv.ZiS (I:Inv X pins σ H s)(h:SqT X.K H a xs)(h':SqT X.K H a ys):xs=ys:=by
 obtain ⟨its,r,⟨o,e,_,n,d⟩,_⟩:=I.tuple h
 obtain ⟨its',r',⟨o',e',_,n',d'⟩,_⟩:=I.tuple h'
 rw [e] at e';cases e'
 rw [d] at d'
 injection d' with d1 _
 have:its=its':=by simpa using congrArg Array.toList d1
 subst this
 exact r.inj r'
end
noncomputable abbrev Cx.wish (X:Cx) (E:Value→Shared→Prop):Cx:={ X with xe:=E }
noncomputable abbrev Cx.nox (X:Cx):Cx:=X.wish fun _ _=>False
theorem Cx.Ok.wish {X:Cx}(ok:X.Ok)(E:Value→Shared→Prop):(X.wish E).Ok :=
 ⟨ok.mod,ok.kind,ok.glob,ok.blt,ok.above,ok.inj,ok.has,ok.cab,ok.hd,ok.frames,ok.stk,ok.exf,ok.bs,ok.bsz,ok.noex,ok.exfs,ok.funs,ok.frf⟩
theorem Cx.Ok.Z4 {X:Cx}{E:Value→Shared→Prop}(ok:(X.wish E).Ok):X.Ok :=
 ⟨ok.mod,ok.kind,ok.glob,ok.blt,ok.above,ok.inj,ok.has,ok.cab,ok.hd,ok.frames,ok.stk,ok.exf,ok.bs,ok.bsz,ok.noex,ok.exfs,ok.funs,ok.frf⟩
section
variable {X:Cx} {pins:List (Addr × Obj)} {σ:St} {H:Hp} {s:Shared} {E:Value→Shared→Prop}
theorem Inv.wish (I:Inv X pins σ H s)(E:Value→Shared→Prop):Inv (X.wish E) pins σ H s:=⟨I.ok.wish E,I.os,I.bare,I.base,I.loc,I.cell,I.free,I.freeC,I.pin,I.hok,I.len⟩
theorem Inv.Z4 (I:Inv (X.wish E) pins σ H s):Inv X pins σ H s:=⟨I.ok.Z4,I.os,I.bare,I.base,I.loc,I.cell,I.free,I.freeC,I.pin,I.hok,I.len⟩
theorem SP.Z4 {D:Ends}{f:Flow}{s':Shared}(h:SP (X.wish E) pins D f s'):SP X pins D f s':=by
 cases f with
 | next=>obtain ⟨σ',H',I,q⟩:=h;exact ⟨σ',H',I.Z4,q⟩
 | brk=>obtain ⟨σ',H',I,q⟩:=h;exact ⟨σ',H',I.Z4,q⟩
 | cont=>obtain ⟨σ',H',I,q⟩:=h;exact ⟨σ',H',I.Z4,q⟩
 | ret u=>obtain ⟨v,σ',H',I,r,q⟩:=h;exact ⟨v,σ',H',I.Z4,r,q⟩
theorem PT.nox {e:Expr}{t:TT}(h:PT X.nox e t):PT X e t:=fun pins s σ H Q I hw =>
 wpAny_mono (h pins s σ H Q (I.wish _) hw) (fun _ _ ⟨H',I',q⟩=>⟨H',I'.Z4,q⟩) fun _ _ z=>False.elim z
theorem PSs.nox {st:List Stmt}{t:TS}(h:PSs X.nox st t):PSs X st t:=fun pins s σ H D I hw =>
 wpAny_mono (h pins s σ H D (I.wish _) hw) (fun _ _ q=>q.Z4) fun _ _ z=>False.elim z
end
section
variable {X:Cx} {st:Stmt} {rest:List Stmt} {t u:TS} {e:Expr} {te:TE} {pos:Pos}
noncomputable def Znv:TS:=fun D σ H=>D.nx σ H
noncomputable def tSeq (t u:TS):TS:=fun D σ H=>t { D with nx:=u D } σ H
theorem ZkS:PSs X [] Znv:=fun _ _ σ H _ I h=>wpAny_execs_nil ⟨σ,H,I,h⟩
theorem Zkj (h1:PS X st t)(h2:PSs X rest u):PSs X (st::rest) (tSeq t u):=by
 intro pins s σ H D I h
 refine wpAny_execs_cons (thn (h1 pins s σ H { D with nx:=u D } I h) fun f s1 q=>?_)
 cases f with
 | next =>
  obtain ⟨σ',H',I',q⟩:=q
  exact h2 pins s1 σ' H' D I' q
 | ret v=>exact q
 | brk=>exact q
 | cont=>exact q
theorem ZkL (h1:PS X st t):PSs X [st] t:=by
 intro pins s σ H D I h
 refine wpAny_execs_cons (thn (h1 pins s σ H D I h) fun f s1 q=>?_)
 cases f with
 | next=>exact wpAny_execs_nil q
 | ret v=>exact q
 | brk=>exact q
 | cont=>exact q
theorem Inv.quiet {pins:List (Addr × Obj)}{σ:St}{H:Hp}{s:Shared}(I:Inv X pins σ H s):interactive X.env=false:=by simp [interactive,I.ok.kind]
noncomputable def Znc (te:TE):TS:=fun D σ H=>te σ H fun _ H1=>D.nx σ H1
theorem Zcu (he:PE X e te)(hs:swapsWith e none pos.line X.env=pure false:=by rfl):PS X (.Expr e pos) (Znc te):=by
 intro pins s σ H D I h
 exact wpAny_Expr_any (thn (he pins s σ H _ I h) fun v s1 ⟨x,H1,I1,r1,q1⟩=>⟨σ,H1,I1,q1⟩) I.quiet hs
noncomputable def tRet (te:TE):TS:=fun D σ H=>te σ H D.rt
theorem Ze3 (he:PE X e te):PS X (.Return (some e) pos) (tRet te):=by
 intro pins s σ H D I h
 exact wpAny_Return_some (thn (he pins s σ H _ I h) fun v s1 ⟨x,H1,I1,r1,q1⟩=>⟨x,σ,H1,I1,r1,q1⟩)
noncomputable def tIfS (c:TT) (t u:TS):TS:=fun D σ H=>c σ H fun b H1=>if b=true then t D σ H1 else u D σ H1
theorem Znf {c:Expr}{a b:List Stmt}{tc:TT}(hc:PT X c tc)(ha:PSs X a t)(hb:PSs X b u):PS X (.If c a b pos) (tIfS tc t u):=by
 intro pins s σ H D I h
 refine wpAny_If (thn (hc pins s σ H _ I h) fun d s1 ⟨H1,I1,q1⟩=>?_)
 cases d with
 | true=>exact ha pins s1 σ H1 D I1 q1
 | false=>exact hb pins s1 σ H1 D I1 q1
noncomputable def ZmQ:TS:=fun _ _ _=>False
theorem ZjQ:PS X st ZmQ:=fun _ _ _ _ _ _ h=>h.elim
end
noncomputable abbrev TG:=V→St→Hp→(St→Hp→Prop)→Prop
noncomputable def PG (X:Cx) (target:Expr) (t:TG):Prop :=
 ∀ (pins:List (Addr × Obj)) (s:Shared) (σ:St) (H:Hp) (v:V) (u:Value) (Q:St→Hp→Prop),Inv X pins σ H s→RelV v u→t v σ H Q →
  wpAny (model X.prog X.w) X.A (assign target X.env u) (fun _ s'=>∃ σ' H',Inv X pins σ' H' s'∧Q σ' H') X.xe s
noncomputable abbrev TSet:=V→V→V→Hp→(Hp→Prop)→Prop
noncomputable def PSet (X:Cx) (t:TSet):Prop :=
 ∀ (pins:List (Addr × Obj)) (s:Shared) (σ:St) (H:Hp) (o i v:V) (ov iv u:Value) (Q:Hp→Prop),Inv X pins σ H s→RelV o ov→RelV i iv→RelV v u→t o i v H Q →
  wpAny (model X.prog X.w) X.A (setItem ov iv u) (fun _ s'=>∃ H',Inv X pins σ H' s'∧Q H') X.xe s
section
variable {X:Cx} {pos:Pos}
noncomputable def Zf6 (i:Nat):TG:=fun v σ H Q=>Q (σ.set i (some v)) H
theorem Zhu {i:Nat}{x:Str}(hN:X.N.Nodup)(hi:X.N[i]?=some x)(hx:Loc X.env.scope x)(hf:X.fn x=true∨X.env.scope.names.lookup x=some .local:=by first | exact .inl rfl | exact .inr rfl | assumption):PG X (.Name x pos) (Zf6 i):=by
 intro pins s σ H v u Q I r h
 exact wpAny_assign_Name (ZcM I hN hi hx r (fun s' I'=>⟨_,H,I',h⟩) hf)
noncomputable def gSub (to ti:TE) (t:TSet):TG:=fun v σ H Q=>to σ H fun o H1=>ti σ H1 fun i H2=>t o i v H2 fun H3=>Q σ H3
theorem Zmd {o i:Expr}{to ti:TE}{t:TSet}(ho:PE X o to)(hi:PE X i ti)(hs:PSet X t)
  (ha:∀ v,assign (.Subscript o i pos) X.env v=(do
   let ov ← holding [v] (eval o X.env)
   let iv ← holding [v,ov] (eval i X.env)
   standAt pos
   holding [v,ov,iv] (setItem ov iv v)
   release [v,ov,iv] []):=by intro _;rfl):PG X (.Subscript o i pos) (gSub to ti t):=by
 intro pins s σ H v u Q I r h
 rw [ha]
 refine wpAny_bind (wpAny_holding (thn (ho pins s σ H _ I h) fun ov s1 ⟨x,H1,I1,r1,q1⟩=>?_))
 refine wpAny_bind (wpAny_holding (thn (hi pins s1 σ H1 _ I1 q1) fun iv s2 ⟨y,H2,I2,r2,q2⟩=>?_))
 refine wpAny_bind (wpAny_standAt (wpAny_bind (wpAny_holding (thn (hs pins s2 σ H2 x y v ov iv u _ I2 r1 r2 r q2) fun _ s3 ⟨H3,I3,q3⟩=>?_))))
 exact wpAny_release ⟨σ,H3,I3,q3⟩
noncomputable def tAsg (te:TE) (g:TG):TS:=fun D σ H=>te σ H fun x H1=>g x σ H1 D.nx
theorem ZmW {tg e:Expr}{te:TE}{g:TG}(he:PE X e te)(hg:PG X tg g)(hs:swapsWithSole [tg] e pos.line X.env=pure false:=by rfl)(hw:swappedStores [tg] e X.env=pure none:=by rfl)
  (h1:(assignEach [tg] X.env).map (·.2)=[assign tg X.env]:=by rfl):PS X (.Assign [tg] e pos) (tAsg te g):=by
 intro pins s σ H D I h
 refine wpAny_Assign_stores (thn (he pins s σ H _ I h) fun v s1 ⟨x,H1,I1,r1,q1⟩=>?_) hs hw
 rw [h1]
 exact thn (hg pins s1 σ H1 x v _ I1 r1 q1) fun _ s2 q=>q
theorem Zch {i:Nat}{x:Str}{e:Expr}{te:TE}{pos':Pos}(hN:X.N.Nodup)(hi:X.N[i]?=some x)(hx:Loc X.env.scope x)(he:PE X e te)(hs:swapsWith e (some (.Name x pos')) pos.line X.env=pure false:=by rfl)(hf:X.fn x=true∨X.env.scope.names.lookup x=some .local:=by first | exact .inl rfl | exact .inr rfl | assumption) :
  PS X (.Assign [.Name x pos'] e pos) (tAsg te (Zf6 i)):=by
 intro pins s σ H D I h
 refine wpAny_Assign_Name (thn (he pins s σ H _ I h) fun v s1 ⟨y,H1,I1,r1,q1⟩=>?_) hs
 exact ZcM I1 hN hi hx r1 (fun s2 I2=>⟨_,H1,I2,q1⟩) hf
end
section
variable {X:Cx} {pos:Pos}
noncomputable def ZlR (c:TT) (tb:TS):TS:=fun D σ H=>∃ W:Nat→St→Hp→Prop,(∃ m,W m σ H)∧∀ m σ H,W m σ H →
 c σ H fun b H1=>if b=true then ∃ N:St→Hp→Prop,(∀ σ' H',N σ' H'→∃ m',m' < m∧W m' σ' H')∧tb { D with nx:=N,ct:=N,bk:=D.nx } σ H1 else D.nx σ H1
theorem ZjH {c:Expr}{body:List Stmt}{tc:TT}{tb:TS}(hp:PassesOwn (model X.prog X.w) X.A X.env X.xe)(hc:PT X c tc)(hb:PSs X body tb):PS X (.While c body [] pos) (ZlR tc tb):=by
 intro pins s σ H D I h
 obtain ⟨W,⟨m0,w0⟩,turn⟩:=h
 refine wpAny_While (codeAny_whileLoop (fun n s'=>∃ σ' H',Inv X pins σ' H' s'∧W n σ' H') ?_ m0 ⟨σ,H,I,w0⟩)
 rintro n s1 ⟨σ1,H1,I1,w1⟩
 refine wpAny_passesOwn hp (thn (hc pins s1 σ1 H1 _ I1 (turn n σ1 H1 w1)) fun b s2 ⟨H2,I2,q2⟩=>?_)
 cases b with
 | true =>
  obtain ⟨N,hN,q2⟩:=q2
  rw [if_pos rfl]
  refine wpAny_passesOwn hp (thn (hb pins s2 σ1 H2 _ I2 q2) fun f s3 q3=>?_)
  cases f with
  | next =>
   obtain ⟨σ3,H3,I3,n3⟩:=q3
   obtain ⟨m',hm,w3⟩:=hN σ3 H3 n3
   exact ⟨m',hm,σ3,H3,I3,w3⟩
  | cont =>
   obtain ⟨σ3,H3,I3,n3⟩:=q3
   obtain ⟨m',hm,w3⟩:=hN σ3 H3 n3
   exact ⟨m',hm,σ3,H3,I3,w3⟩
  | brk=>exact q3
  | ret v=>exact q3
 | false =>
  rw [if_neg Bool.false_ne_true]
  exact wpAny_execs_nil ⟨σ1,H2,I2,q2⟩
end
structure It where
 go:Nat→Hp→Prop
 yld:Nat→Hp→V→Hp→Prop
 stop:Nat→Hp→Prop
noncomputable def FpOk (X:Cx) (pins:List (Addr × Obj)) (H:Hp) (b:Addr):Prop :=
 H b=none∧b≠X.env.locals∧b ∉ X.fs∧(b ∈ X.ex∨X.s₀.heap.objs.size≤b)∧(∀ x c,X.env.cells.lookup x=some c→c≠b)∧∀ p ∈ X.pn++pins,p.1≠b
theorem Inv.fpOk {X:Cx}{pins:List (Addr × Obj)}{σ:St}{H H':Hp}{s:Shared}{b:Addr}(I:Inv X pins σ H s)(hb:s.heap.objs.size≤b)(hn:H' b=none):FpOk X pins H' b:=by
 refine ⟨hn,Nat.ne_of_gt (Nat.lt_of_lt_of_le I.lt hb),I.nofs hb,.inr (Nat.le_trans I.sz hb),fun x c e z=>?_,fun p hp z=>?_⟩
 ·obtain ⟨v,q⟩:=I.cell x c e
  exact absurd (Nat.lt_of_lt_of_le q.lt (by rw [z];exact hb)) (Nat.lt_irrefl _)
 ·exact absurd (Nat.lt_of_lt_of_le (Heap.lt_size (I.pin p hp).1) (by rw [z];exact hb)) (Nat.lt_irrefl _)
structure Turn (P:Program)(w:World)(K:PySem.W.Frag)(tg:Expr)(J:It)(fp:List Addr)(it:Addr)(tn:Nat→Heap→Prop):Prop where
 mem:it ∈ fp
 obj:∀ i h,tn i h→∀ b ∈ fp,∃ o,h.get? b=some o∧∀ v,o.data≠.cell v
 keep:∀ i h h',tn i h→(∀ b ∈ fp,∀ o,h.get? b=some o→h'.get? b=some o)→tn i h'
 item:∀ (X:Cx),X.prog=P→X.w=w→X.K=K→X.calm=true→∀ (i:Nat) (pins:List (Addr × Obj)) (s:Shared) (σ:St) (H:Hp) (E:Value→Shared→Prop),Inv X pins σ H s→(∀ b ∈ fp,FpOk X pins H b)→tn i s.heap→J.go i H →
  wpAny (model P w) X.A (pyNext (.ref it)) (fun r s1=>∃ u,r=some u ∧
   wpAny (model P w) X.A (letOwnedTupleGo tg (.ref it) u) (fun _ s2=>∃ x H',Inv X pins σ H' s2∧RelV x u∧J.yld i H x H'∧tn (i + 1) s2.heap∧∀ b ∈ fp,H' b=none) E s1) E s
 done:∀ (X:Cx),X.prog=P→X.w=w→X.K=K→X.calm=true→∀ (i:Nat) (pins:List (Addr × Obj)) (s:Shared) (σ:St) (H:Hp) (E:Value→Shared→Prop),Inv X pins σ H s→(∀ b ∈ fp,FpOk X pins H b)→tn i s.heap→J.stop i H →
  wpAny (model P w) X.A (pyNext (.ref it)) (fun r s1=>r=none∧Inv X pins σ H s1) E s
 self:∀ (A:Around) (i:Nat) (s:Shared) (Q:Value→Shared→Prop) (E:Value→Shared→Prop),tn i s.heap→Q (.ref it) s→wpAny (model P w) A (pyIter (.ref it)) Q E s
noncomputable abbrev TI:=St→Hp→(It→Hp→Prop)→Prop
noncomputable def PIE (X:Cx) (pins:List (Addr × Obj)) (σ:St) (tg:Expr) (R:It→Hp→Prop) (itv:Value) (s2:Shared):Prop :=
 ∃ (it:Addr) (fp:List Addr) (tn:Nat→Heap→Prop) (J:It) (H':Hp),itv=.ref it∧Inv X pins σ H' s2∧Turn X.prog X.w X.K tg J fp it tn∧tn 0 s2.heap∧(∀ b ∈ fp,FpOk X pins H' b)∧R J H'
noncomputable def PI (X:Cx) (tg iter:Expr) (wi:TI):Prop :=
 ∀ (pins:List (Addr × Obj)) (s:Shared) (σ:St) (H:Hp) (R:It→Hp→Prop),Inv X pins σ H s→wi σ H R →
  wpAny (model X.prog X.w) X.A (eval iter X.env) (fun v s1=>wpAny (model X.prog X.w) X.A (pyIter v) (PIE X pins σ tg R) X.xe s1) X.xe s
theorem Zf1 {M : Model}{A : Around}{E : Value → Shared → Prop}{s : Shared}{tg : Expr}{it : Addr}{u : Value}{o : Obj}{n : String}{vs : Array Value}{Q : Unit → Shared → Prop}(ho : s.heap.get? it = some o)(hc : o.cls = .type n)(hd : o.data = .fields vs)
    (hn : ["enumerate", "zip", "dict_itemiterator", "dict_reverseitemiterator", "odict_iterator", "itertools.zip_longest", "itertools.pairwise"].contains n = false) (hQ : Q () s) : wpAny M A (letOwnedTupleGo tg (.ref it) u) Q E s := by
  unfold letOwnedTupleGo
  cases tg <;> first
    | exact wpAny_pure hQ
    | (cases u <;> first
        | exact wpAny_pure hQ
        | (refine wpAny_bind (wpAny_load ho ?_)
           rw [hc, hd]
           show wpAny M A (if (["enumerate", "zip", "dict_itemiterator", "dict_reverseitemiterator", "odict_iterator", "itertools.zip_longest", "itertools.pairwise"].contains n && vs[0]? == some (rawInt _)) = true then _ else _) Q E s
           rw [if_neg (by intro h; rw [hn, Bool.false_and] at h; cases h)]
           exact wpAny_pure hQ))
noncomputable def Itl (K:PySem.W.Frag) (a:Addr):It :=
 ⟨fun i H=>∃ xs x,SqL K H a xs∧xs[i]?=some x,fun i H x H'=>H'=H∧∀ xs,SqL K H a xs→xs[i]?=some x,fun i H=>∃ xs,SqL K H a xs∧xs.length≤i⟩
noncomputable def Itt (K:PySem.W.Frag) (a:Addr):It :=
 ⟨fun i H=>∃ xs x,SqT K H a xs∧xs[i]?=some x,fun i H x H'=>H'=H∧∀ xs,SqT K H a xs→xs[i]?=some x,fun i H=>∃ xs,SqT K H a xs∧xs.length≤i⟩
noncomputable def Itr (lo:Int) (n:Nat):It:=⟨fun i _=>i < n,fun i H x H'=>H'=H∧x=.int (lo + i),fun i _=>n≤i⟩
theorem ZiD {P:Program}{w:World}{K:PySem.W.Frag}{tg:Expr}(a it:Addr):Turn P w K tg (Itl K a) [it] it (fun i h=>h.IsListIter it a i) where
 mem:=by simp
 obj:=fun i h st b hb=>by
  have e:b=it:=by simpa using hb
  subst e
  obtain ⟨o,e,c,d⟩:=st
  exact ⟨o,e,fun v z=>by rw [d] at z;cases z⟩
 keep:=fun i h h' st k=>st.at fun o e=>k it (by simp) o e
 item:=by
  intro X hP hw hK hc i pins s σ H E I hf st hg
  subst hP hw hK
  obtain ⟨xs,x,hq,hx⟩:=hg
  obtain ⟨its,rv,p,hz⟩:=I.list hq
  obtain ⟨u,hu,ru⟩:=rv.get hx
  obtain ⟨f0,f1,f2,f3,f4,f5⟩:=hf it (by simp)
  refine wpAny_pyNext_list_item st p.isList (x:=u) (by simpa using hu) fun h' st' sb=>?_
  have I1:Inv X pins σ H { s with heap:=h' }:=I.turned (t':=s.toks) (fun b o hb e=>(sb.2 b hb).trans e) f0 f1 f3 f4 f5
  obtain ⟨o,e,c,d⟩:=id st'
  exact ⟨u,rfl,Zf1 (s:={ s with heap:=h' }) e c d (by decide) ⟨x,H,I1,ru,⟨rfl,fun ys hy=>by rw [I.Zkf hy hq];exact hx⟩,st',fun b hb=>(hf b hb).1⟩⟩
 done:=by
  intro X hP hw hK hc i pins s σ H E I hf st hg
  subst hP hw hK
  obtain ⟨xs,hq,hx⟩:=hg
  obtain ⟨its,rv,p,hz⟩:=I.list hq
  obtain ⟨f0,f1,f2,f3,f4,f5⟩:=hf it (by simp)
  have hl:=rv.length
  exact wpAny_pyNext_list_end (I.ok.hd hc) st p.isList (by simp;omega) fun h' eb=>⟨rfl,I.turned (t':=s.toks) (fun b o hb e=>eb b o hb e) f0 f1 f3 f4 f5⟩
 self:=fun _ _ _ _ _ st h=>wpAny_pyIter_listiter st h
theorem Ziu {P:Program}{w:World}{K:PySem.W.Frag}{tg:Expr}(a it:Addr):Turn P w K tg (Itt K a) [it] it (fun i h=>h.IsTupleIter it a i) where
 mem:=by simp
 obj:=fun i h st b hb=>by
  have e:b=it:=by simpa using hb
  subst e
  obtain ⟨o,e,c,d⟩:=st
  exact ⟨o,e,fun v z=>by rw [d] at z;cases z⟩
 keep:=fun i h h' st k=>st.at fun o e=>k it (by simp) o e
 item:=by
  intro X hP hw hK hc i pins s σ H E I hf st hg
  subst hP hw hK
  obtain ⟨xs,x,hq,hx⟩:=hg
  obtain ⟨its,rv,p,hz⟩:=I.tuple hq
  obtain ⟨u,hu,ru⟩:=rv.get hx
  obtain ⟨f0,f1,f2,f3,f4,f5⟩:=hf it (by simp)
  refine wpAny_pyNext_tuple_item st (show s.heap.IsTuple a its.toArray from p) (x:=u) (by simpa using hu) fun h' st' sb=>?_
  have I1:Inv X pins σ H { s with heap:=h' }:=I.turned (t':=s.toks) (fun b o hb e=>(sb.2 b hb).trans e) f0 f1 f3 f4 f5
  obtain ⟨o,e,c,d⟩:=id st'
  exact ⟨u,rfl,Zf1 (s:={ s with heap:=h' }) e c d (by decide) ⟨x,H,I1,ru,⟨rfl,fun ys hy=>by rw [I.ZiS hy hq];exact hx⟩,st',fun b hb=>(hf b hb).1⟩⟩
 done:=by
  intro X hP hw hK hc i pins s σ H E I hf st hg
  subst hP hw hK
  obtain ⟨xs,hq,hx⟩:=hg
  obtain ⟨its,rv,p,hz⟩:=I.tuple hq
  obtain ⟨f0,f1,f2,f3,f4,f5⟩:=hf it (by simp)
  have hl:=rv.length
  exact wpAny_pyNext_tuple_end (I.ok.hd hc) st (show s.heap.IsTuple a its.toArray from p) (by simp;omega) fun h' eb=>⟨rfl,I.turned (t':=s.toks) (fun b o hb e=>eb b o hb e) f0 f1 f3 f4 f5⟩
 self:=fun _ _ _ _ _ st h=>wpAny_pyIter_tupleiter st h
theorem Zih {P:Program}{w:World}{K:PySem.W.Frag}{tg:Expr}(it:Addr)(lo:Int)(n:Nat):Turn P w K tg (Itr lo n) [it] it (fun i h=>IsRangeIter h it (lo + (i:Nat) * 1) ((n:Int) - (i:Nat)) 1) where
 mem:=by simp
 obj:=fun i h st b hb=>by
  have e:b=it:=by simpa using hb
  subst e
  exact ⟨_,st,fun v z=>by
   have z':Data.fields _=Data.cell v:=z
   cases z'⟩
 keep:=fun i h h' st k=>k it (by simp) _ st
 item:=by
  intro X hP hw hK hc i pins s σ H E I hf st hg
  subst hP hw hK
  obtain ⟨f0,f1,f2,f3,f4,f5⟩:=hf it (by simp)
  have W:=Walks.range (prog:=X.prog) (w:=X.w) (I.ok.hd hc) it lo 1 n
  refine W.item i s _ _ hg st fun v h' tk hv st' kk=>?_
  obtain ⟨t,rfl⟩:=hv
  have I1:Inv X pins σ H { s with heap:=h',toks:=tk }:=I.turned (fun b o hb e=>kk b o (by simpa using hb) e) f0 f1 f3 f4 f5
  refine ⟨_,rfl,Zf1 (s:={ s with heap:=h',toks:=tk }) (n:="range_iterator") st' rfl rfl (by decide) ⟨.int (lo + i),H,I1,⟨t,?_⟩,⟨rfl,rfl⟩,st',fun b hb=>(hf b hb).1⟩⟩
  rw [Int.mul_one]
 done:=by
  intro X hP hw hK hc i pins s σ H E I hf st hg
  subst hP hw hK
  obtain ⟨f0,f1,f2,f3,f4,f5⟩:=hf it (by simp)
  exact wpAny_pyNext_range_end (I.ok.hd hc) st (by have:n≤i:=hg;omega) fun h' eb=>⟨rfl,I.turned (t':=s.toks) (fun b o hb e=>eb b o hb e) f0 f1 f3 f4 f5⟩
 self:=fun _ _ _ _ _ st h=>wpAny_pyIter_rangeiter st h
end L2
namespace L2
open PySem PySem.Spec PyProof.Rows
section
variable {X:Cx} {tg:Expr}
theorem ZjI {pins:List (Addr × Obj)}{σ:St}{H:Hp}{s:Shared}{R:It→Hp→Prop}{E:Value→Shared→Prop}{lo hi:Int}{t u v:Tok}{tk:Nat}(I:Inv X pins σ H s)(h1:-(2 ^ 62)≤lo)(h2:lo < 2 ^ 62)(h3:-(2 ^ 62)≤hi)(h4:hi < 2 ^ 62)
  (q:R (Itr lo (hi - lo).toNat) H):wpAny (model X.prog X.w) X.A (pyIter (.ref s.heap.objs.size)) (PIE X pins σ tg R) E { s with heap:=s.heap.push { cls:=.type "range",data:=.fields #[.int lo t,.int hi u,.int 1 v] },toks:=tk }:=by
 refine wpAny_pyIter_range (IsRange.new ..) (small_one h1 h2 h3 h4) ?_
 have I1:Inv X pins σ H { s with heap:=s.heap.push { cls:=.type "range",data:=.fields #[.int lo t,.int hi u,.int 1 v] },toks:=tk }:=I.kept fun b o e=>Heap.get?_push_of_some _ e
 refine ⟨(s.heap.push { cls:=.type "range",data:=.fields #[.int lo t,.int hi u,.int 1 v] }).objs.size,[(s.heap.push { cls:=.type "range",data:=.fields #[.int lo t,.int hi u,.int 1 v] }).objs.size],_,_,H,rfl,
  I1.kept (t':=tk) fun b o e=>Heap.get?_push_of_some _ e,Zih _ lo (hi - lo).toNat,?_,fun b hb=>?_,q⟩
 ·have e1:lo + ((0:Nat):Int) * 1=lo:=by simp
  have e2:(((hi - lo).toNat:Nat):Int) - ((0:Nat):Int)=Builtin.Range.rangeSize lo hi 1:=by rw [rangeSize_one];split <;> omega
  show IsRangeIter _ _ (lo + ((0:Nat):Int) * 1) ((((hi - lo).toNat:Nat):Int) - ((0:Nat):Int)) 1
  rw [e1,e2]
  exact Heap.get?_push_size _ rfl
 ·have e:b=(s.heap.push { cls:=.type "range",data:=.fields #[.int lo t,.int hi u,.int 1 v] }).objs.size:=by simpa using hb
  subst e
  exact I1.fpOk (Nat.le_refl _) (I1.hok.fresh (Nat.le_refl _))
noncomputable def Zns (ta:TA):TI:=fun σ H R=>ta σ H fun vs H1=>∃ j:Int,vs=[.int j]∧-(2 ^ 62)≤j∧j < 2 ^ 62∧R (Itr 0 j.toNat) H1
theorem ZiY {a:Expr} {ta:TA} {p pos:Pos} (hg:Gl X "range") (hm:X.mg "range"=none) (ha:PA X [a] ta) (hs:starEach [a] X.env=[(false,eval a X.env)]:=by rfl):PI X tg (.Call (.Name "range" p) [a] [] pos) (Zns ta):=by
 intro pins s σ H R I h
 refine Call_ (ZcC I hg hm boot_range (PyProof.Rows.callWith_type1 (thn (ha pos pins s σ H _ I h) fun us s1 ⟨vs,H1,I1,r1,q1⟩=>?_) hs rfl))
 obtain ⟨j,e,q1,q2,q⟩:=q1
 subst e
 cases r1 with
 | cons r rr =>
  cases rr
  obtain ⟨t,rfl⟩:=r
  exact call_range_1 (ZjI I1 (by omega) (by omega) q1 q2 (by simpa using q))
noncomputable def tFor (wi:TI) (g:TG) (tb:TS):TS:=fun D σ H=>wi σ H fun J H1=>∃ W:Nat→Nat→St→Hp→Prop,(∃ m,W 0 m σ H1)∧∀ i m σ H,W i m σ H →
 (J.stop i H∧D.nx σ H)∨(J.go i H∧∃ N:St→Hp→Prop,(∀ σ' H',N σ' H'→∃ m',m' < m∧W (i + 1) m' σ' H')∧∀ x H',J.yld i H x H'→g x σ H' fun σ2 H2=>tb { D with nx:=N,ct:=N,bk:=D.nx } σ2 H2)
noncomputable def Zc2 (fp:List Addr) (h:Heap):List (Addr × Obj):=fp.filterMap fun b=>(h.get? b).map fun o=>(b,o)
theorem ZbA {fp:List Addr}{h:Heap}{b:Addr}{o:Obj}(hb:b ∈ fp)(e:h.get? b=some o):(b,o) ∈ Zc2 fp h:=List.mem_filterMap.mpr ⟨b,hb,by rw [e];rfl⟩
theorem Zi2 {fp:List Addr}{h:Heap}{p:Addr × Obj}(hp:p ∈ Zc2 fp h):p.1 ∈ fp∧h.get? p.1=some p.2:=by
 obtain ⟨b,hb,e⟩:=List.mem_filterMap.mp hp
 cases q:h.get? b with
 | none=>rw [q] at e;cases e
 | some o =>
  rw [q] at e
  have e':(b,o)=p:=Option.some.inj e
  subst e'
  exact ⟨hb,q⟩
theorem Inv.pinned {pins:List (Addr × Obj)}{σ:St}{H:Hp}{s:Shared}{fp:List Addr}(I:Inv X pins σ H s)(hf:∀ b ∈ fp,FpOk X pins H b)(ho:∀ b ∈ fp,∃ o,s.heap.get? b=some o∧∀ v,o.data≠.cell v):Inv X (pins++Zc2 fp s.heap) σ H s :=
 I.Zfm fun p hp=>(List.mem_append.mp hp).elim (fun z=>I.pin p (List.mem_append_right _ z)) fun z=>by
  obtain ⟨hb,e⟩:=Zi2 z
  obtain ⟨f0,f1,f2,_⟩:=hf p.1 hb
  obtain ⟨o,e',d⟩:=ho p.1 hb
  rw [e] at e';cases e'
  exact ⟨e,f0,f1,f2,d⟩
theorem Inv.ZbT {pins pl:List (Addr × Obj)}{σ:St}{H:Hp}{s:Shared}(I:Inv X (pins++pl) σ H s):Inv X pins σ H s:=I.Zfm fun p hp=>I.pin p (List.mem_append_right _ (List.mem_append_left _ hp))
theorem ZmF {iter:Expr}{body:List Stmt}{wi:TI}{g:TG}{tb:TS}{pos:Pos}(hp:PassesOwn (model X.prog X.w) X.A X.env X.xe)(hc:X.calm=true)(hi:PI X tg iter wi)(hg:PG X tg g)(hb:PSs X body tb)
  (hs:∀ x,foldedSetIterable iter X.env x=pure x:=by intro _;rfl):PS X (.For tg iter body [] pos) (tFor wi g tb):=by
 intro pins s σ H D I h
 refine wpAny_For (thn (hi pins s σ H _ I h) fun v s1 h1=>thn h1 fun itv s2 h2=>?_) hs
 obtain ⟨it,fp,tn,J,H2,e,I2,T,st2,f2,W,⟨m0,w0⟩,turn⟩:=h2
 subst e
 have stat:∀ {H':Hp},(∀ b ∈ fp,H' b=none)→∀ b ∈ fp,FpOk X pins H' b:=fun hn b hb=>⟨hn b hb,(f2 b hb).2⟩
 refine codeAny_forLoop_any (fun n s'=>∃ i σ' H',Inv X pins σ' H' s'∧tn i s'.heap∧(∀ b ∈ fp,H' b=none)∧W i n σ' H') ?_ m0 ⟨0,σ,H2,I2,st2,fun b hb=>(f2 b hb).1,w0⟩
 rintro n s3 ⟨i,σ3,H3,I3,st3,fr3,w3⟩
 rcases turn i n σ3 H3 w3 with ⟨stop,qn⟩ | ⟨go,N,hN,step⟩
 ·refine wpAny_passesOwn hp (thn (T.done X rfl rfl rfl hc i pins s3 σ3 H3 X.xe I3 (stat fr3) st3 stop) fun r s4 ⟨hr,I4⟩=>?_)
  subst hr
  exact wpAny_execs_nil ⟨σ3,H3,I4,qn⟩
 ·refine wpAny_passesOwn hp (thn (T.item X rfl rfl rfl hc i pins s3 σ3 H3 X.xe I3 (stat fr3) st3 go) fun r s4 ⟨u,hr,h4⟩=>?_)
  subst hr
  refine wpAny_passesOwn hp (thn h4 fun _ s5 ⟨x,H5,I5,r5,y5,st5,fr5⟩=>?_)
  have I5':=I5.pinned (stat fr5) (T.obj _ _ st5)
  refine wpAny_passesOwn hp (thn (hg _ s5 σ3 H5 x u _ I5' r5 (step x H5 y5)) fun _ s6 ⟨σ6,H6,I6,q6⟩=>?_)
  refine wpAny_passesOwn hp (thn (hb _ s6 σ6 H6 _ I6 q6) fun f s7 q7=>?_)
  have again:∀ {σ7:St} {H7:Hp},Inv X (pins++Zc2 fp s5.heap) σ7 H7 s7→N σ7 H7→∃ m,m < n∧∃ i σ' H',Inv X pins σ' H' s7∧tn i s7.heap∧(∀ b ∈ fp,H' b=none)∧W i m σ' H':=fun {σ7 H7} I7 n7=>by
   obtain ⟨m',hm,w7⟩:=hN σ7 H7 n7
   refine ⟨m',hm,i + 1,σ7,H7,I7.ZbT,T.keep _ _ _ st5 fun b hb o e=>(I7.pin (b,o) (List.mem_append_right _ (List.mem_append_right _ (ZbA hb e)))).1,fun b hb=>?_,w7⟩
   obtain ⟨o,e,d⟩:=T.obj _ _ st5 b hb
   exact (I7.pin (b,o) (List.mem_append_right _ (List.mem_append_right _ (ZbA hb e)))).2.1
  cases f with
  | next=>obtain ⟨σ7,H7,I7,n7⟩:=q7;exact again I7 n7
  | cont=>obtain ⟨σ7,H7,I7,n7⟩:=q7;exact again I7 n7
  | brk=>obtain ⟨σ7,H7,I7,q7⟩:=q7;exact ⟨σ7,H7,I7.ZbT,q7⟩
  | ret v=>obtain ⟨x7,σ7,H7,I7,r7,q7⟩:=q7;exact ⟨x7,σ7,H7,I7.ZbT,r7,q7⟩
end
end L2
namespace L2
open PySem PySem.Spec PyProof.Rows
noncomputable abbrev R2:=V→V→Hp→VK→Prop
noncomputable def OpR (X:Cx) (f:Value→Value→Sem Value) (r:R2):Prop :=
 ∀ (pins:List (Addr × Obj)) (s:Shared) (σ:St) (H:Hp) (x y:V) (v u:Value) (Q:VK),Inv X pins σ H s→RelV x v→RelV y u→r x y H Q →
  wpAny (model X.prog X.w) X.A (f v u) (EP X pins σ Q) X.xe s
noncomputable def Zbo (X:Cx) (f:Value) (r:List V→Hp→VK→Prop):Prop :=
 ∀ (pins:List (Addr × Obj)) (s:Shared) (σ:St) (H:Hp) (xs:List V) (us:List Value) (Q:VK),Inv X pins σ H s→Vals xs us→r xs H Q →
  wpAny (model X.prog X.w) X.A (call f us) (EP X pins σ Q) X.xe s
noncomputable def tOp (r:R2) (ta tb:TE):TE:=fun σ H Q=>ta σ H fun x H1=>tb σ H1 fun y H2=>r x y H2 Q
noncomputable def rI (C:Int→Int→Prop) (g:Int→Int→V):R2:=fun x y H Q=>∃ i j,x=.int i∧y=.int j∧C i j∧Q (g i j) H
noncomputable def rI0 (g:Int→Int→V):R2:=fun x y H Q=>∃ i j,x=.int i∧y=.int j∧Q (g i j) H
section
variable {X:Cx} {a b c:Expr} {ta tb tc:TE} {pos:Pos}
theorem binT (ha:PE X a ta)(hb:PE X b tb){pins:List (Addr × Obj)}{s:Shared}{σ:St}{H:Hp}{R:V→V→Hp→Prop}(I:Inv X pins σ H s)
  (h:ta σ H fun x H1=>tb σ H1 fun y H2=>R x y H2) {Q:Value→Shared→Prop} {f:Value→Value→Sem Value}
  (hf:∀ v u s2 x y H2,Inv X pins σ H2 s2→RelV x v→RelV y u→R x y H2→wpAny (model X.prog X.w) X.A (f v u) Q X.xe s2) :
  wpAny (model X.prog X.w) X.A (eval a X.env) (fun v s₁=>wpAny (model X.prog X.w) X.A (eval b X.env) (fun u s₂=>wpAny (model X.prog X.w) X.A (f v u) Q X.xe s₂) X.xe s₁) X.xe s:=by
 refine thn (ha pins s σ H _ I h) fun v s1 ⟨x,H1,I1,r1,q1⟩=>?_
 refine thn (hb pins s1 σ H1 _ I1 q1) fun u s2 ⟨y,H2,I2,r2,q2⟩=>?_
 exact hf v u s2 x y H2 I2 r1 r2 q2
theorem Zie {op:Operator}{r:R2}(ho:OpR X (binaryOp op) r)(ha:PE X a ta)(hb:PE X b tb):PE X (.BinOp a op b pos) (tOp r ta tb):=by
 intro pins s σ H Q I h
 exact wpAny_BinOp (binT ha hb I h fun v u s2 x y H2 I2 rx ry q=>ho pins s2 σ H2 x y v u Q I2 rx ry q)
theorem opI {f:Value→Value→Sem Value}{C:Int→Int→Prop}{g:Int→Int→Int}
  (rule:∀ (i j:Int) (t u:Tok) (s:Shared) (Q:Value→Shared→Prop) (E:Value→Shared→Prop),C i j→Q (.int (g i j) s.toks) { s with toks:=s.toks + 1 }→wpAny (model X.prog X.w) X.A (f (.int i t) (.int j u)) Q E s) :
  OpR X f (rI C fun i j=>.int (g i j)):=by
 intro pins s σ H x y v u Q I rx ry h
 obtain ⟨i,j,rfl,rfl,hc,q⟩:=h
 obtain ⟨t,rfl⟩:=rx
 obtain ⟨t',rfl⟩:=ry
 exact rule i j t t' s _ _ hc ⟨.int (g i j),H,I.tok _,⟨_,rfl⟩,q⟩
theorem opI0 {f:Value→Value→Sem Value}{g:Int→Int→Int}
  (rule:∀ (i j:Int) (t u:Tok) (s:Shared) (Q:Value→Shared→Prop) (E:Value→Shared→Prop),Q (.int (g i j) s.toks) { s with toks:=s.toks + 1 }→wpAny (model X.prog X.w) X.A (f (.int i t) (.int j u)) Q E s) :
  OpR X f (rI0 fun i j=>.int (g i j)):=by
 intro pins s σ H x y v u Q I rx ry h
 obtain ⟨i,j,rfl,rfl,q⟩:=h
 obtain ⟨t,rfl⟩:=rx
 obtain ⟨t',rfl⟩:=ry
 exact rule i j t t' s _ _ ⟨.int (g i j),H,I.tok _,⟨_,rfl⟩,q⟩
theorem opB0 {f:Value→Value→Sem Value}{g:Int→Int→Bool}
  (rule:∀ (i j:Int) (t u:Tok) (s:Shared) (Q:Value→Shared→Prop) (E:Value→Shared→Prop),Q (.bool (g i j)) s→wpAny (model X.prog X.w) X.A (f (.int i t) (.int j u)) Q E s) :
  OpR X f (rI0 fun i j=>.bl (g i j)):=by
 intro pins s σ H x y v u Q I rx ry h
 obtain ⟨i,j,rfl,rfl,q⟩:=h
 obtain ⟨t,rfl⟩:=rx
 obtain ⟨t',rfl⟩:=ry
 exact rule i j t t' s _ _ ⟨.bl (g i j),H,I,rfl,q⟩
noncomputable def CDiv (i j:Int):Prop:=0 < j∧j < 1073741824
noncomputable def CMul (i j:Int):Prop:=(-(2 ^ 64) < i∧i < 2 ^ 64)∨(-(2 ^ 64) < j∧j < 2 ^ 64)
theorem CMul.ok {i j:Int}(h:CMul i j):IntMulOk i j:=by
 rcases h with ⟨h1,h2⟩ | ⟨h1,h2⟩
 ·exact .of_left (intBits_le_64 h1 h2)
 ·exact .of_right (intBits_le_64 h1 h2)
theorem Zl5:OpR X (binaryOp .Add) (rI0 fun i j=>.int (i + j)):=opI0 fun _ _ _ _ _ _ _ q=>add_int q
theorem Zmt:OpR X (binaryOp .Sub) (rI0 fun i j=>.int (i - j)):=opI0 fun _ _ _ _ _ _ _ q=>sub_int q
theorem Zmz:OpR X (binaryOp .Mult) (rI CMul fun i j=>.int (i * j)):=opI fun _ _ _ _ _ _ _ hc q=>mul_int q hc.ok
theorem ZlP:OpR X (binaryOp .FloorDiv) (rI CDiv fun i j=>.int (i / j)):=opI fun i j _ _ _ _ _ hc q=>by
 have h1:(0:Int) < j:=hc.1
 have h2:j < 1073741824:=hc.2
 exact floordiv_int (by omega) (by rw [Int.fdiv_eq_ediv_of_nonneg i (by omega)];exact q) (.inl (PyProof.noPylong_small (by omega)))
theorem ZlU:OpR X (binaryOp .Mod) (rI (fun _ j=>0 < j) fun i j=>.int (i % j)):=opI fun i j _ _ _ _ _ hc q=>by
 have h1:(0:Int) < j:=hc
 exact mod_int' (by omega) (by rw [Int.fmod_eq_emod_of_nonneg i (by omega)];exact q)
end
section
variable {X:Cx} {a b c:Expr} {ta tb tc:TE} {pos:Pos}
theorem ZiG {pins:List (Addr × Obj)}{σ:St}{H:Hp}{s:Shared}{Q:VK}{k k':Bool}(I:Inv X pins σ H s)(q:Q (.bl k) H)(e:k=k'):EP X pins σ Q (.bool k') s:=by
 subst e
 exact ⟨.bl k,H,I,rfl,q⟩
theorem Zky:OpR X (compareOp .Lt) (rI0 fun i j=>.bl (decide (i < j))):=opB0 fun _ _ _ _ _ _ _ q=>lt_int q
theorem Zny:OpR X (compareOp .Gt) (rI0 fun i j=>.bl (decide (j < i))):=opB0 fun _ _ _ _ _ _ _ q=>gt_int q
theorem Znj:OpR X (compareOp .GtE) (rI0 fun i j=>.bl (decide (j≤i))):=opB0 fun _ _ _ _ _ _ _ q=>ge_int q
theorem ZmG:OpR X (compareOp .Is) (fun x y H Q=>y=.non∧Q (.bl (decide (x=.non))) H):=by
 intro pins s σ H x y v u Q I rx ry h
 obtain ⟨rfl,q⟩:=h
 cases ry
 refine is_none_gen (ZiG I q ?_)
 cases x <;> first
  | (cases rx;rfl)
  | (obtain ⟨t,rfl⟩:=rx;rfl)
theorem ZkR:OpR X (compareOp .IsNot) (fun x y H Q=>y=.non∧Q (.bl (!decide (x=.non))) H):=by
 intro pins s σ H x y v u Q I rx ry h
 obtain ⟨rfl,q⟩:=h
 cases ry
 refine isnot_none_gen (ZiG I q ?_)
 cases x <;> first
  | (cases rx;rfl)
  | (obtain ⟨t,rfl⟩:=rx;rfl)
theorem OpR.or {f:Value→Value→Sem Value}{r r':R2}(h:OpR X f r)(h':OpR X f r'):OpR X f (fun x y H Q=>r x y H Q∨r' x y H Q):=by
 intro pins s σ H x y v u Q I rx ry q
 rcases q with q | q
 ·exact h pins s σ H x y v u Q I rx ry q
 ·exact h' pins s σ H x y v u Q I rx ry q
theorem Za0 (b:Expr){op:CmpOp}(h:op≠.In:=by decide)(h2:op≠.NotIn:=by decide):behindInMarks op b=false:=by
 have e1:(op == CmpOp.In)=false:=by cases op <;> first | rfl | exact absurd rfl h
 have e2:(op == CmpOp.NotIn)=false:=by cases op <;> first | rfl | exact absurd rfl h2
 cases b <;> simp [behindInMarks,e1,e2]
theorem Zla {op:CmpOp}{r:R2}(ho:OpR X (compareOp op) r)(ha:PE X a ta)(hb:PE X b tb)(hm:behindInMarks op b=false):PE X (.Compare a [op] [b] pos) (tOp r ta tb):=by
 intro pins s σ H Q I h
 exact wpAny_Compare1 (binT ha hb I h fun v u s2 x y H2 I2 rx ry q=>ho pins s2 σ H2 x y v u Q I2 rx ry q) hm
noncomputable def Znh (t:TE):TT:=fun σ H Q=>t σ H fun x H'=>∃ k,x=.bl k∧Q k H'
theorem ZkO {op:CmpOp}{r:R2}(ho:OpR X (compareOp op) r)(ha:PE X a ta)(hb:PE X b tb)(hm:behindInMarks op b=false):PT X (.Compare a [op] [b] pos) (Znh (tOp r ta tb)):=by
 intro pins s σ H Q I h
 refine wpAny_isTrue_Compare1 (thn (ha pins s σ H _ I h) fun v s1 ⟨x,H1,I1,r1,q1⟩=>thn (hb pins s1 σ H1 _ I1 q1) fun u s2 ⟨y,H2,I2,r2,q2⟩ =>
  thn (ho pins s2 σ H2 x y v u _ I2 r1 r2 q2) fun c s3 ⟨z,H3,I3,r3,k,e,q3⟩=>?_) hm
 subst e
 cases r3
 exact wpAny_truthy_bool ⟨H3,I3,q3⟩
theorem ZcW:(sizeLine:Nat) < 2 ^ 63:=by rw [sizeLine_eq];decide
theorem vals1 {x:V}{us:List Value}(r:Vals [x] us):∃ u,us=[u]∧RelV x u:=by
 cases r with
 | cons r1 r2=>cases r2;exact ⟨_,rfl,r1⟩
end
end L2
namespace L2
open PySem PySem.Spec PyProof.Rows
section
variable {prog:Program} {w:World} {A:Around} {E:Value→Shared→Prop} {s:Shared} {K:PySem.W.Frag} {x dx C f:Addr} {mA:Str→Option Value} {name:Str} {v:Value}
end
theorem RelO.some_of {v:V}{o:Option Value}(r:RelO (some v) o):∃ u,o=some u∧RelV v u:=by
 cases o with
 | none=>exact (show False from r).elim
 | some u=>exact ⟨u,rfl,r⟩
section
variable {P:Program} {w:World} {H H':Hp} {h h':Heap} {a C dx:Addr} {fs fs':List (Str × V)}
end
structure Cls (K:PySem.W.Frag)(C:Addr):Prop where
 pg:PySem.W.plainGet K C Str.empty=true
 hd:PySem.W.hasDictIn K C=true
 po:PySem.W.plainOver K C=true
 sa:PySem.W.findIn K (.ref C) "__setattr__"=some (some (.builtin "object.__setattr__"))
section
variable {X:Cx} {pins:List (Addr × Obj)} {σ:St} {H:Hp} {s:Shared} {a C dx:Addr} {fs:List (Str × V)} {f:Str} {v:V} {A:Around} {E:Value→Shared→Prop}
end
section
variable {X:Cx} {o e value:Expr} {f:Str} {pos pos' tpos:Pos} {ta tv:TE}
end
section
variable {X:Cx} {pins:List (Addr × Obj)} {σ:St} {H:Hp} {s:Shared} {A:Around} {E:Value→Shared→Prop} {Q:Value→Shared→Prop} {c:Value} {b:Bool}
end
end L2
namespace L2
open PySem PySem.Spec PyProof.Rows
structure Room (k:Nat)(A:Around):Prop where
 hd:A.handled=none
 dp:A.depth + 3 * k + 5 < recursionLimit
 un:A.units + 16 * k + 200 < cLine
theorem Room.mono {j k:Nat}{A:Around}(r:Room k A)(h:j≤k):Room j A:=⟨r.hd,by have:=r.dp;omega,by have:=r.un;omega⟩
theorem Room.deeper {k:Nat}{A:Around}(r:Room (k + 1) A)(env:Env):Room k (A.deeper env) :=
 ⟨r.hd,by have:=r.dp;show A.depth + 1 + 3 * k + 5 < _;omega,by have:=r.un;show A.units + 3 + 16 * k + 200 < _;omega⟩
theorem Room.depth {k:Nat}{A:Around}(r:Room k A):A.depth < recursionLimit:=by have:=r.dp;omega
theorem Room.units {k:Nat}{A:Around}(r:Room k A):A.units + 64 < cLine:=by have:=r.un;omega
noncomputable def tNil:TA:=fun _ H Q=>Q [] H
noncomputable def Znr (ta:TE) (tr:TA):TA:=fun σ H Q=>ta σ H fun x H1=>tr σ H1 fun xs H2=>Q (x::xs) H2
section
variable {X:Cx} {e:Expr} {es:List Expr} {te:TE} {t:TA} {pos:Pos}
theorem ZJ:PA X [] tNil:=fun _ _ _ _ H Q I h=>Calls.spliced_nil ⟨[],H,I,.nil,h⟩
theorem Zt (ha:PE X e te)(hr:PA X es t)(hs:starEach (e::es) X.env=(false,eval e X.env)::starEach es X.env:=by rfl):PA X (e::es) (Znr te t):=by
 intro pos pins s σ H Q I h
 rw [hs]
 show wpAny _ _ (spliced ((false,eval e X.env)::backTo pos (starEach es X.env))) _ _ s
 refine Calls.spliced_cons (thn (ha pins s σ H _ I h) fun u s1 ⟨x,H1,I1,r1,q1⟩=>?_)
 exact thn (hr pos pins s1 σ H1 _ I1 q1) fun us s2 ⟨xs,H2,I2,r2,q2⟩=>⟨x::xs,H2,I2,.cons r1 r2,q2⟩
noncomputable def tTup (t:TA):TE:=fun σ H Q=>t σ H fun xs H1=>xs.length≤sizeLine∧∀ p,H1 p=none→Q (.ref p) (upd H1 p (.tup xs))
noncomputable def tLst (t:TA):TE:=fun σ H Q=>t σ H fun xs H1=>xs.length≤sizeLine∧∀ p,H1 p=none→Q (.ref p) (upd H1 p (.lst xs))
theorem Zmo {x1}(h:PA X es t):PE X (.Tuple es x1 pos) (tTup t):=by
 intro pins s σ H Q I hq
 refine wpAny_Tuple_spliced (thn (h pos pins s σ H _ I hq) fun us s1 ⟨xs,H1,I1,r,z,q⟩=>⟨by rw [← r.length];exact z,?_⟩)
 have hf:H1 s1.heap.objs.size=none:=I1.hok.fresh (Nat.le_refl _)
 refine ⟨.ref s1.heap.objs.size,upd H1 s1.heap.objs.size (.tup xs),I1.laid (t':=s1.toks) (fun b u e=>Heap.get?_push_of_some _ e) (Nat.le_refl _) ?_,rfl,q _ hf⟩
 exact ⟨z,us,r,⟨_,Heap.get?_push_size _ rfl,rfl,_,rfl⟩⟩
theorem ZmL (h:PA X es t):PE X (.List es pos) (tLst t):=by
 intro pins s σ H Q I hq
 refine wpAny_List_spliced (thn (h pos pins s σ H _ I hq) fun us s1 ⟨xs,H1,I1,r,z,q⟩=>⟨by rw [← r.length];exact z,?_⟩)
 have hf:H1 s1.heap.objs.size=none:=I1.hok.fresh (Nat.le_refl _)
 refine ⟨.ref s1.heap.objs.size,upd H1 s1.heap.objs.size (.lst xs),I1.laid (t':=s1.toks) (fun b u e=>Heap.get?_push_of_some _ e) (Nat.le_refl _) ?_,rfl,q _ hf⟩
 exact ⟨z,us,0,r,Heap.get?_push_size _ rfl⟩
end
noncomputable abbrev Sp:=List V→Hp→VK→XK→Prop
noncomputable abbrev CXT:=List Env→Hp→Shared→XK→Value→Shared→Prop
structure Env0 (P:Program)(w:World)(K:PySem.W.Frag)(mg:Str→Option Value)(base:Heap)(A:Around)(outer:List Env)(s:Shared)(H:Hp):Prop where
 frames:A.frames=some outer
 mod:Mod K mg base
 bs:∀ b o,base.get? b=some o→s.heap.get? b=some o∧H b=none
 bsz:base.objs.size≤s.heap.objs.size
 funs:s.heap.FunFrames base outer
 frf:∀ b ∈ frs outer,H b=none
 hok:HOk P w H s.heap
 bare:AllBare s.gens
noncomputable def CE (outer:List Env) (P:Program) (w:World) (H:Hp) (s:Shared) (Q:VK) (u:Value) (s':Shared):Prop :=
 ∃ v H',s'.os=s.os∧AllBare s'.gens∧Un (frs outer) [] H H' s.heap s'.heap∧HOk P w H' s'.heap∧RelV v u∧Q v H'
noncomputable def CR (CX:CXT) (outer:List Env) (P:Program) (w:World) (H:Hp) (s:Shared) (Q:VK) (E:XK) (r:Result) (s':Shared):Prop :=
 match r with
 | .ok (.ret u)=>CE outer P w H s Q u s'
 | .ok _=>False
 | .error e=>CX outer H s E e s'
structure FnOk (P:Program)(w:World)(K:PySem.W.Frag)(mg:Str→Option Value)(base:Heap)(CX:CXT)(k:Nat)(f:Addr)(fd:FuncData)(ps:List Str)(sp:Sp):Prop where
 len:∀ vs H Q E,sp vs H Q E→vs.length=ps.length
 run:∀ (A:Around) (outer:List Env) (s:Shared) (H:Hp) (args:Args) (us:List Value) (vs:List V) (Q:VK) (E:XK),Room k A→Env0 P w K mg base A outer s H→BindsTo s fd args (ps.zip us)→Vals vs us→sp vs H Q E →
  codeAny (model P w) A (.call (.ref f) args) (CR CX outer P w H s Q E) s
section
variable {X:Cx} {pins:List (Addr × Obj)} {σ:St} {H:Hp} {s s':Shared}
theorem Inv.env0 (I:Inv X pins σ H s):Env0 X.prog X.w X.K X.mg X.base X.A X.stack s H :=
 ⟨I.ok.frames,I.ok.mod,I.bs,Nat.le_trans I.ok.bsz I.sz,I.stack,I.Zfe,I.hok,I.bare⟩
theorem Inv.after {Q:VK}{u:Value}(I:Inv X pins σ H s)(h:CE X.stack X.prog X.w H s Q u s'):EP X pins σ Q u s':=by
 obtain ⟨v,H',os,bare,un,hok,r,q⟩:=h
 obtain ⟨hh,g,d,t,os'⟩:=s'
 obtain rfl:os'=s.os:=os
 exact ⟨v,H',I.call (h':=hh) (g':=g) (d':=d) (t':=t) (ch:=[]) un hok bare (fun b z=>absurd z (by simp)),r,q⟩
end
noncomputable def Zkv (sp:Sp) (dvs:List V) (E:XK) (t:TA):TE:=fun σ H Q=>t σ H fun vs H1=>sp (vs++dvs) H1 Q E
noncomputable def Binds (K:PySem.W.Frag) (fd:FuncData) (ps:List Str) (ds:List Value):Prop :=
 ∀ (s:Shared) (us:List Value),K.In s.heap→(us++ds).length=ps.length→BindsTo s fd ⟨us,[]⟩ (ps.zip (us++ds))
theorem Binds.all {K:PySem.W.Frag}{fd:FuncData}{ps:List Str}(h:∀ us:List Value,us.length=ps.length→bindArgs fd ⟨us,[]⟩=pure (ps.zip us)):Binds K fd ps []:=fun s us _ hl=>by
 rw [List.append_nil] at hl ⊢
 exact .of_eq (h us hl)
noncomputable def Passes (CX:CXT) (X:Cx) (E:XK):Prop:=∀ (pins:List (Addr × Obj)) (σ:St) (H:Hp) (s:Shared) (e:Value) (s':Shared),Inv X pins σ H s→CX X.stack H s E e s'→X.xe e s'
section
variable {X:Cx} {CX:CXT} {k:Nat} {f C:Addr} {fd:FuncData} {ps:List Str} {sp:Sp} {dvs:List V} {ds:List Value} {E:XK} {x m:Str} {p pos apos:Pos} {e o:Expr} {es:List Expr} {ta:TE} {t:TA}
theorem ZiN {pins:List (Addr × Obj)}{σ:St}{H:Hp}{s:Shared}{Q:VK}{us:List Value}{vs:List V}(F:FnOk X.prog X.w X.K X.mg X.base CX k f fd ps sp)(hr:Room k X.A)(hb:Binds X.K fd ps ds)(hd:Vals dvs ds)(hx:Passes CX X E)
  (I:Inv X pins σ H s) (r:Vals vs us) (h:sp (vs++dvs) H Q E):wpAny (model X.prog X.w) X.A (call (.ref f) us) (EP X pins σ Q) X.xe s:=by
 have r2:Vals (vs++dvs) (us++ds):=r.append hd
 have hl:(us++ds).length=ps.length:=by rw [← r2.length];exact F.len _ _ _ _ h
 refine wpAny_call (codeAny_mono (F.run X.A X.stack s H ⟨us,[]⟩ (us++ds) (vs++dvs) Q E hr I.env0 (hb s us I.kIn hl) r2 h) fun r s' hq=>?_)
 cases r with
 | error e=>exact hx pins σ H s e s' I hq
 | ok fl =>
  cases fl with
  | ret u=>exact I.after hq
  | next=>exact False.elim hq
  | brk=>exact False.elim hq
  | cont=>exact False.elim hq
theorem ZkU (F:FnOk X.prog X.w X.K X.mg X.base CX k f fd ps sp)(hr:Room k X.A)(hg:Gl X x)(hm:X.mg x=some (.ref f))(hk:PySem.W.keepIn X.K (.ref f)=true)(hb:Binds X.K fd ps ds)(hd:Vals dvs ds)(hx:Passes CX X E)
  (ha:PA X (e::es) t) (hdb:(x == ("__debug__":Str))=false:=by decide) (he:starEach (e::es) X.env=(false,eval e X.env)::starEach es X.env:=by rfl) (hpl:(backTo pos (starEach es X.env)).any (·.1)=false:=by rfl) :
  PE X (.Call (.Name x p) (e::es) [] pos) (Zkv sp dvs E t):=by
 intro pins s σ H Q I h
 refine wpAny_Call_Name_kw (ZaI I hg hm ?_ hdb)
 refine PySem.W.callWith_K (h₀:=X.base) I.ok.mod.kin hk (thn (ha pos pins s σ H _ I h) fun us s1 ⟨vs,H1,I1,r,q⟩=>⟨I1.kIn,?_⟩) he hpl
 exact ZiN F hr hb hd hx I1 r q
theorem ZjG (F:FnOk X.prog X.w X.K X.mg X.base CX k f fd ps sp)(hr:Room k X.A)(hg:Gl X x)(hm:X.mg x=some (.ref f))(hk:PySem.W.keepIn X.K (.ref f)=true)(hb:Binds X.K fd ps ds)(hd:Vals dvs ds)(hx:Passes CX X E)
  (hdb:(x == ("__debug__":Str))=false:=by decide):PE X (.Call (.Name x p) [] [] pos) (Zkv sp dvs E tNil):=by
 intro pins s σ H Q I h
 refine wpAny_Call_Name_kw (ZaI I hg hm ?_ hdb)
 exact PySem.W.callWith_K0 I.kIn hk (ZiN (us:=[]) F hr hb hd hx I .nil h)
end
section
variable {X:Cx} {CX:CXT} {k:Nat} {f C:Addr} {fd:FuncData} {ps ks:List Str} {sp:Sp} {E:XK} {x m:Str} {p pos apos kpos:Pos} {e o:Expr} {es:List Expr} {kws:List Keyword} {te ta:TE} {t tk:TA} {nm:Option Str}
variable {g:List Value→List Value→List Value} {gV:List V→List V→List V}
end
structure Zi (N P:List Str)(sc:Scope):Prop where
 kind:sc.kind=.function
 co:sc.isCoroutine=false
 gen:sc.isGenerator=false
 nd:N.Nodup
 pre:N.take P.length=P
 par:∀ x ∈ P,sc.names.lookup x=some .local∨sc.names.lookup x=some .cell
 nofree:∀ y ∈ sc.names,y.2≠.free
theorem ZfO {kindOf:Str→Option NameKind}{x:Str}:∀ {binds:List (Str × Value)} {m:Str→Option Value},(∀ v,(x,v) ∉ binds)→bindL kindOf binds m x=m x
 | [],_,_=>rfl
 | (n,v)::r,m,h=>by
  unfold bindL
  rw [ZfO fun w hw=>h w (List.mem_cons_of_mem _ hw)]
  split
  ·have:x≠n:=by rintro rfl;exact h v List.mem_cons_self
   simp [this]
  ·rfl
theorem ZfH {kindOf:Str→Option NameKind}{x:Str}:∀ {binds:List (Str × Value)} {m:Str→Option Value},(∀ v,(x,v) ∉ binds)→bindC kindOf binds m x=m x
 | [],_,_=>rfl
 | (n,v)::r,m,h=>by
  unfold bindC
  rw [ZfH fun w hw=>h w (List.mem_cons_of_mem _ hw)]
  split
  ·rfl
  ·have:x≠n:=by rintro rfl;exact h v List.mem_cons_self
   simp [this]
theorem ZfN {kindOf:Str→Option NameKind}{x:Str}{v:Value}:∀ {P:List Str} {vs:List Value} {i:Nat} {m:Str→Option Value},P.Nodup→P[i]?=some x→vs[i]?=some v→kindOf x=some .local →
  bindL kindOf (P.zip vs) m x=some v
 | [],_,_,_,_,h,_,_=>by simp at h
 | _::_,[],_,_,_,_,h,_=>by simp at h
 | p::P,w::vs,0,m,nd,h1,h2,hk=>by
  simp at h1 h2;subst h1;subst h2
  show bindL kindOf ((p,w)::P.zip vs) m p=_
  unfold bindL
  rw [ZfO fun v hv=>(List.nodup_cons.mp nd).1 (List.of_mem_zip hv).1,if_pos hk]
  simp
 | p::P,w::vs,i + 1,m,nd,h1,h2,hk=>by
  show bindL kindOf ((p,w)::P.zip vs) m x=_
  unfold bindL
  exact ZfN (i:=i) (List.nodup_cons.mp nd).2 (by simpa using h1) (by simpa using h2) hk
theorem Zfv {kindOf:Str→Option NameKind}{x:Str}{v:Value}:∀ {P:List Str} {vs:List Value} {i:Nat} {m:Str→Option Value},P.Nodup→P[i]?=some x→vs[i]?=some v→kindOf x≠some .local →
  bindC kindOf (P.zip vs) m x=some v
 | [],_,_,_,_,h,_,_=>by simp at h
 | _::_,[],_,_,_,_,h,_=>by simp at h
 | p::P,w::vs,0,m,nd,h1,h2,hk=>by
  simp at h1 h2;subst h1;subst h2
  show bindC kindOf ((p,w)::P.zip vs) m p=_
  unfold bindC
  rw [ZfH fun v hv=>(List.nodup_cons.mp nd).1 (List.of_mem_zip hv).1,if_neg hk]
  simp
 | p::P,w::vs,i + 1,m,nd,h1,h2,hk=>by
  show bindC kindOf ((p,w)::P.zip vs) m x=_
  unfold bindC
  exact Zfv (i:=i) (List.nodup_cons.mp nd).2 (by simpa using h1) (by simpa using h2) hk
noncomputable def start (N:List Str) (vs:List V):St:=vs.map some++List.replicate (N.length - vs.length) none
noncomputable def cxOf (CX:CXT) (P:Program) (w:World) (K:PySem.W.Frag) (mg:Str→Option Value) (base:Heap) (N:List Str) (qual:Str) (scope:Scope) (f:Addr) (cd:Value) (A:Around) (outer:List Env) (s:Shared) (H:Hp) (E:XK):Cx where
 prog:=P
 w:=w
 K:=K
 mg:=mg
 base:=base
 A:=A.deeper (envOfC qual scope s.heap.objs.size f cd)
 N:=N
 s₀:=s
 H₀:=H
 env:=envOfC qual scope s.heap.objs.size f cd
 outer:=outer
 stack:=envOfC qual scope s.heap.objs.size f cd::outer
 ex:=[]
 calm:=true
 fn:=fun _=>true
 pn:=[]
 xe:=fun e s'=>wpAny (model P w) (A.deeper (envOfC qual scope s.heap.objs.size f cd)) (leaving (envOfC qual scope s.heap.objs.size f cd) e) (fun _ s''=>CX outer H s E e s'') (fun e' s''=>CX outer H s E e' s'') s'
theorem Zgd {sc:Scope}{n:Nat}{x:Str}(h:sc.names.lookup x=some .cell):∃ c,(cellsFrom n sc.names []).lookup x=some c:=by
 have q:=PySem.W.cellsFrom_some sc.names n [] (.inl h)
 exact Option.isSome_iff_exists.mp q
theorem Zfx {CX : CXT}{P : Program}{w : World}{K : PySem.W.Frag}{mg : Str → Option Value}{base : Heap}{N ps : List Str}{qual : Str}{scope : Scope}{f : Addr}{cd : Value}{A : Around}{outer : List Env}{s s1 : Shared}{H : Hp}{E : XK}{us : List Value}{vs : List V}
    (S : Zi N ps scope) (hd : A.handled = none) (e0 : Env0 P w K mg base A outer s H) (hl : vs.length = ps.length) (r : Vals vs us)
    (x : InCallC s s.heap.objs.size (bindL (envOfC qual scope s.heap.objs.size f cd).kindOf (ps.zip us) fun _ => none) (cellsFrom (s.heap.objs.size + 1) scope.names []) (bindC (envOfC qual scope s.heap.objs.size f cd).kindOf (ps.zip us) fun _ => none) s1) :
    Inv (cxOf CX P w K mg base N qual scope f cd A outer s H E) [] (start N vs) H s1 := by
  have hpl : ps.length ≤ N.length := by have := congrArg List.length S.pre; rw [List.length_take] at this; omega
  obtain ⟨h1, tk, rfl, hk⟩ := x.done
  have noA : ∀ b : Addr, b ∉ (cxOf CX P w K mg base N qual scope f cd A outer s H E).ex := fun b z => absurd (show b ∈ ([] : List Addr) from z) (by simp)
  refine ⟨⟨e0.mod, S.kind, rfl, rfl, Nat.le_refl _, fun y z c h1 h2 => ?_, fun y hy => ?_, fun y c _ h => ?_, fun _ => hd, Around.frames_deeper e0.frames, .inr ⟨rfl, rfl⟩, fun b z => absurd z (noA b), e0.bs, e0.bsz, fun b _ _ => noA b, fun b z => absurd z (noA b), e0.funs, e0.frf⟩,
    rfl, e0.bare, Un.kept hk, ⟨_, x.toInCall.ns, fun i y v h1 h2 h3 => ?_⟩, fun y c h => ⟨_, x.cell y c h⟩, e0.hok.fresh (Nat.le_refl _), fun y c h => ?_, fun p hp => absurd (show p ∈ ([] : List (Addr × Obj)) from hp) (by simp), e0.hok.kept hk, ?_⟩
  · exact name_of_addr x.apart (PySem.mem_of_lookup h1) (PySem.mem_of_lookup h2)
  · have hy : scope.names.lookup y = some .cell ∨ scope.names.lookup y = some .free := hy
    rcases hy with hy | hy
    · exact Zgd hy
    · exact absurd rfl (S.nofree _ (PySem.mem_of_lookup hy))
  · exact Nat.le_of_lt (x.above y c (PySem.mem_of_lookup h))
  · have hi : i < vs.length := by
      unfold start at h2
      by_cases hi : i < vs.length
      · exact hi
      · rw [List.getElem?_append_right (by simpa using hi)] at h2
        rw [List.getElem?_replicate] at h2
        split at h2 <;> cases h2
    have ha : vs[i]? = some v := by
      unfold start at h2
      rw [List.getElem?_append_left (by simpa using hi), List.getElem?_map] at h2
      cases e : vs[i]? with
      | none => rw [e] at h2; cases h2
      | some a => rw [e] at h2; cases h2; rfl
    obtain ⟨u, hu, rv⟩ := r.get ha
    have hp : ps[i]? = some y := by
      rw [← S.pre, List.getElem?_take_of_lt (by omega)]; exact h1
    have ndP : ps.Nodup := by rw [← S.pre]; exact S.nd.sublist (List.take_sublist _ _)
    refine ⟨u, rv, ?_⟩
    rcases S.par y (List.mem_of_getElem? hp) with k | k
    · exact .inl ⟨k, ZfN ndP hp hu k⟩
    · obtain ⟨c, e⟩ := Zgd (n := s.heap.objs.size + 1) k
      refine .inr ⟨.inl k, c, e, ?_⟩
      have q := x.cell y c e
      rw [Zfv ndP hp hu (by show scope.names.lookup y ≠ _; rw [k]; decide)] at q
      exact q
  · exact e0.hok.fresh (Nat.le_of_lt (x.above y c (PySem.mem_of_lookup h)))
  · unfold start
    show _ = N.length
    rw [List.length_append, List.length_map, List.length_replicate]
    omega
theorem Zku {CX:CXT}{P:Program}{w:World}{K:PySem.W.Frag}{mg:Str→Option Value}{base:Heap}{k:Nat}{f:Addr}{name qual:Str}{params:Arguments}{body:List Stmt}{scope:Scope}{dV kV doc pm cdv ct oc:Value}{an od:Option Addr}
  {osl:Array (Option Value)} {N ps:List Str} {sp:Sp} (lk:K.lookup f=some ⟨oc,od,.func (PySem.W.fnOf name qual params body scope dV kV doc pm an cdv ct),osl⟩) (hcd:PySem.W.codeIn K cdv qual=true) (S:Zi N ps scope)
  (len:∀ vs H Q E,sp vs H Q E→vs.length=ps.length)
  (hbody:∀ (A:Around) (outer:List Env) (s:Shared) (H:Hp) (vs:List V) (Q:VK) (E:XK),Room k (A.deeper (envOfC qual scope s.heap.objs.size f cdv))→sp vs H Q E →
   ∃ t,PSs (cxOf CX P w K mg base N qual scope f cdv A outer s H E) body t∧t { nx:=fun _ H'=>Q .non H',rt:=Q } (start N vs) H) :
  FnOk P w K mg base CX (k + 1) f (PySem.W.fnOf name qual params body scope dV kV doc pm an cdv ct) ps sp:=by
 refine ⟨len,fun A outer s H args us vs Q E hr e0 hb r hsp=>?_⟩
 have hl:=len _ _ _ _ hsp
 have KX:K.In s.heap:=e0.mod.kin.keeps fun b o e=>(e0.bs b o e).1
 have lim:s.heap.NoLimit:=e0.mod.nolimit.keeps fun b o e=>(e0.bs b o e).1
 have hkind:∀ y ∈ ps.zip us,scope.names.lookup y.1=some .local∨(scope.names.lookup y.1=some .cell∧((cellsFrom (s.heap.objs.size + 1) scope.names []).lookup y.1).isSome=true):=fun ⟨n,v⟩ hy=>by
  rcases S.par n (List.of_mem_zip hy).1 with q | q
  ·exact .inl q
  ·exact .inr ⟨q,PySem.W.cellsFrom_some _ _ _ (.inl q)⟩
 refine codeAny_call_function hr.depth (KX _ _ lk) rfl S.co S.gen rfl (PySem.W.codeRec_of KX hcd) (hb _ _ _ _ ?_)
 refine wpAny_newFunctionEnv_cells S.kind hkind fun env he s1 x=>?_
 subst he
 refine ⟨lim.keeps x.toInCall.keep,codeAny_func ?_⟩
 obtain ⟨t,ht,hq⟩:=hbody A outer s H vs Q E (hr.deeper _) hsp
 have I:Inv (cxOf CX P w K mg base N qual scope f cdv A outer s H E) [] (start N vs) H s1:=Zfx S hr.hd e0 hl r x
 refine wpAny_mono (ht [] s1 (start N vs) H _ I hq) (fun fl s' hs=>?_) fun e s' hs=>hs
 have fin:∀ {σ':St} {H':Hp} {v:V} {u:Value},Inv (cxOf CX P w K mg base N qual scope f cdv A outer s H E) [] σ' H' s'→RelV v u→Q v H'→CE outer P w H s Q u s' :=
  fun {σ' H' v u} J rv q=>⟨v,H',J.os,J.bare,J.base,J.hok,rv,q⟩
 cases fl with
 | ret u =>
  obtain ⟨v,σ',H',J,rv,q⟩:=hs
  exact fin J rv q
 | next =>
  obtain ⟨σ',H',J,q⟩:=hs
  exact fin (v:=V.non) (u:=Value.none) J rfl q
 | brk =>
  obtain ⟨_,_,_,q⟩:=hs
  exact False.elim q
 | cont =>
  obtain ⟨_,_,_,q⟩:=hs
  exact False.elim q
end L2
namespace L2
open PySem PySem.Spec PyProof.Rows
section
variable {X:Cx} {x:Str} {p pos:Pos} {e:Expr} {es:List Expr} {t:TA} {id T:String} {r:List V→Hp→VK→Prop}
noncomputable def tCB (r:List V→Hp→VK→Prop) (t:TA):TE:=fun σ H Q=>t σ H fun vs H1=>r vs H1 Q
theorem ZcI (hc:Zbo X (.builtin id) r) (hg:Gl X x) (hm:X.mg x=none) (hv:bootBuiltins x=some (.builtin id)) (ha:PA X (e::es) t) (hn:x≠"__name__":=by decide) (hdb:(x == ("__debug__":Str))=false:=by decide)
  (he:starEach (e::es) X.env=(false,eval e X.env)::starEach es X.env:=by rfl) (hpl:(backTo pos (starEach es X.env)).any (·.1)=false:=by rfl):PE X (.Call (.Name x p) (e::es) [] pos) (tCB r t):=by
 intro pins s σ H Q I h
 refine wpAny_Call_Name_kw (ZcC I hg hm hv ?_ hn hdb)
 exact PyProof.Rows.callWith_builtin1 (thn (ha pos pins s σ H _ I h) fun us s1 ⟨vs,H1,I1,r1,q1⟩=>hc pins s1 σ H1 vs us Q I1 r1 q1) he hpl
theorem ZfG (hc:Zbo X (.type T) r) (hg:Gl X x) (hm:X.mg x=none) (hv:bootBuiltins x=some (.type T)) (ha:PA X (e::es) t) (hn:x≠"__name__":=by decide) (hdb:(x == ("__debug__":Str))=false:=by decide)
  (he:starEach (e::es) X.env=(false,eval e X.env)::starEach es X.env:=by rfl) (hpl:(backTo pos (starEach es X.env)).any (·.1)=false:=by rfl):PE X (.Call (.Name x p) (e::es) [] pos) (tCB r t):=by
 intro pins s σ H Q I h
 refine wpAny_Call_Name_kw (ZcC I hg hm hv ?_ hn hdb)
 exact PyProof.Rows.callWith_type1 (thn (ha pos pins s σ H _ I h) fun us s1 ⟨vs,H1,I1,r1,q1⟩=>hc pins s1 σ H1 vs us Q I1 r1 q1) he hpl
end
end L2
namespace HT
open PySem PyProof.Rows
section
open PySem.SeqAt
open PySem.AutoSeq1 (wpAny_loadPart')
open PySem.MeetsSeq PySem.MeetsSeq2 PySem.MeetsSeq3
end
section
variable {prog:Program} {w:World} {A:Around} {E:Value→Shared→Prop} {s:Shared}
end
end HT
namespace L2
open PySem PySem.Spec PyProof.Rows
noncomputable abbrev TO:=St→Hp→(Option Int→Hp→Prop)→Prop
section
variable {X:Cx} {e:Expr} {te:TE} {lo hi:Option Expr} {tl th:TO} {pos p2:Pos}
noncomputable def SlR (X:Cx) (r:V→Option Int→Option Int→Hp→VK→Prop):Prop :=
 ∀ (pins:List (Addr × Obj)) (s:Shared) (σ:St) (H:Hp) (x:V) (v vl vu:Value) (lo hi:Option Int) (sl:Addr) (Q:VK),Inv X pins σ H s→RelV x v→s.heap.IsSliceOf sl vl vu .none→IsPart vl lo→IsPart vu hi→r x lo hi H Q →
  ∃ T id,typeLookup (.type T) "__getitem__"=pure (some (.builtin id))∧s.TypeIs v T∧wpAny (model X.prog X.w) X.A (getItem v (.ref sl)) (EP X pins σ Q) X.xe s
end
end L2
namespace L2
open PySem PySem.Spec PyProof.Rows
noncomputable def ixN (n:Nat) (i:Int):Option Nat:=if 0≤i then (if i < n then some i.toNat else none) else if -(n:Int)≤i then some (i + n).toNat else none
noncomputable def atI {α:Type} (xs:List α) (i:Int):Option α:=(ixN xs.length i).bind fun j=>xs[j]?
theorem ZhO {n:Nat}{i:Int}{j:Nat}(h:ixN n i=some j):seqIndex? i n=some j∧j < n∧-(n:Int)≤i∧i < n:=by
 unfold ixN at h
 by_cases h0:0≤i
 ·rw [if_pos h0] at h
  by_cases h1:i < n
  ·rw [if_pos h1] at h
   have e:i.toNat=j:=Option.some.inj h
   exact ⟨by rw [seqIndex_of h0 h1,e],by omega,by omega,h1⟩
  ·rw [if_neg h1] at h;cases h
 ·rw [if_neg h0] at h
  by_cases h1:-(n:Int)≤i
  ·rw [if_pos h1] at h
   have e:(i + n).toNat=j:=Option.some.inj h
   exact ⟨by rw [seqIndex_neg (by omega) h1,e],by omega,h1,by omega⟩
  ·rw [if_neg h1] at h;cases h
theorem Zfk {α:Type}{xs:List α}{i:Int}{v:α}(h:atI xs i=some v):∃ j,seqIndex? i xs.length=some j∧xs[j]?=some v∧j < xs.length∧-(xs.length:Int)≤i∧i < xs.length:=by
 unfold atI at h
 cases e:ixN xs.length i with
 | none=>rw [e] at h;cases h
 | some j =>
  rw [e] at h
  obtain ⟨h1,h2,h3,h4⟩:=ZhO e
  exact ⟨j,h1,h,h2,h3,h4⟩
noncomputable def Ze7 (b:Expr):Prop:=∀ o i,subscripted b false o i=operate [o,i] (getItem o i)
noncomputable def IxR (X:Cx) (r:R2):Prop :=
 ∀ (value slice:Expr) (pins:List (Addr × Obj)) (s:Shared) (σ:St) (H:Hp) (x y:V) (v u:Value) (Q:VK),Inv X pins σ H s→RelV x v→RelV y u→r x y H Q →
  subscripted slice false v u=operate [v,u] (getItem v u)→wpAny (model X.prog X.w) X.A (subscriptTail value slice v u) (EP X pins σ Q) X.xe s
noncomputable def MtR (X:Cx) (id:String) (r:V→List V→Hp→VK→Prop):Prop :=
 ∀ (pins:List (Addr × Obj)) (s:Shared) (σ:St) (H:Hp) (x:V) (xs:List V) (v:Value) (us:List Value) (Q:VK),Inv X pins σ H s→RelV x v→Vals xs us→r x xs H Q →
  wpAny (model X.prog X.w) X.A (call (.builtin id) (v::us)) (EP X pins σ Q) X.xe s
section
variable {X:Cx} {a b:Expr} {ta tb:TE} {pos:Pos}
theorem IxR.or {r r':R2}(h:IxR X r)(h':IxR X r'):IxR X (fun x y H Q=>r x y H Q∨r' x y H Q):=by
 intro value slice pins s σ H x y v u Q I rx ry q hs
 rcases q with q | q
 ·exact h value slice pins s σ H x y v u Q I rx ry q hs
 ·exact h' value slice pins s σ H x y v u Q I rx ry q hs
theorem Zii {r:R2}(hr:IxR X r)(ha:PE X a ta)(hb:PE X b tb)(hs:Ze7 b):PE X (.Subscript a b pos) (tOp r ta tb):=by
 intro pins s σ H Q I h
 exact Subscript_ (binT ha hb I h fun v u s2 x y H2 I2 rx ry q=>hr a b pins s2 σ H2 x y v u Q I2 rx ry q (hs _ _))
noncomputable def rIxL (K:PySem.W.Frag):R2:=fun x y H Q=>∃ p xs i v,x=.ref p∧y=.int i∧SqL K H p xs∧atI xs i=some v∧Q v H
noncomputable def rIxT (K:PySem.W.Frag):R2:=fun x y H Q=>∃ p xs i v,x=.ref p∧y=.int i∧SqT K H p xs∧atI xs i=some v∧Q v H
noncomputable def rIxS:R2:=fun x y H Q=>∃ z i c,x=.str z∧y=.int i∧z.length≤sizeLine∧atI z.cps.toList i=some c∧Q (.str ⟨#[c]⟩) H
theorem Zhs : IxR X (rIxL X.K) := by
  intro value slice pins s σ H x y v u Q I rx ry h hs
  obtain ⟨p, xs, i, z, rfl, rfl, hq, he, q⟩ := h
  cases rx
  obtain ⟨t, rfl⟩ := ry
  obtain ⟨its, r, pl, hz⟩ := I.list hq
  obtain ⟨j, h1, h2, h3, h4, h5⟩ := Zfk he
  obtain ⟨w, ew, rw'⟩ := r.get h2
  have hl := r.length
  have hn := ZcW
  have fin : EP X pins σ Q w s := ⟨z, H, I, rw', q⟩
  by_cases h0 : 0 ≤ i
  · have hj : i.toNat = j := by
      rw [seqIndex_of h0 h5] at h1
      exact Option.some.inj h1
    exact item_listR pl.isList h0 (by omega) (by rw [hj]; simpa using ew) fin hs
  · have hj : (i + (its.toArray.size : Int)).toNat = j := by
      rw [seqIndex_neg (by omega) h4] at h1
      rw [List.size_toArray, ← hl]
      exact Option.some.inj h1
    exact subscriptTail_builtinR (x := w) pl.isList.typeIs slot_list_getitem.lookup
      (wpAny_getItem_list_neg (Q := fun r s' => r = w ∧ EP X pins σ Q r s') pl.isList (by omega) (by rw [List.size_toArray] <;> omega) (by omega) (by rw [hj]; simpa using ew) ⟨rfl, fin⟩) hs
theorem Zml:IxR X (rIxT X.K):=by
 intro value slice pins s σ H x y v u Q I rx ry h hs
 obtain ⟨p,xs,i,z,rfl,rfl,hq,he,q⟩:=h
 cases rx
 obtain ⟨t,rfl⟩:=ry
 obtain ⟨its,r,pl,hz⟩:=I.tuple hq
 obtain ⟨j,h1,h2,h3,h4,h5⟩:=Zfk he
 obtain ⟨w,ew,rw'⟩:=r.get h2
 have hl:=r.length
 have hn:=ZcW
 have fin:EP X pins σ Q w s:=⟨z,H,I,rw',q⟩
 exact subscriptTail_builtinR (x:=w) pl.typeIs slot_tuple_getitem.lookup
  (getItem_tuple (j:=j) (Q:=fun r s'=>r=w∧EP X pins σ Q r s') pl (by omega) (by omega) (by rw [List.size_toArray,← hl];exact h1) (by simpa using ew) ⟨rfl,fin⟩) hs
theorem ZmS:IxR X rIxS:=by
 intro value slice pins s σ H x y v u Q I rx ry h hs
 obtain ⟨z,i,c,rfl,rfl,hz,he,q⟩:=h
 obtain ⟨t,rfl⟩:=rx
 obtain ⟨t',rfl⟩:=ry
 obtain ⟨j,h1,h2,h3,h4,h5⟩:=Zfk he
 have hl:z.cps.toList.length=z.length:=by simp [Str.length]
 rw [hl] at h1 h4 h5
 have hn:=ZcW
 exact tail_any (typeIs_str s z t) slot_str_getitem.lookup (getItem_str (c:=c) (by
  have e1:decide (i < -(2 ^ 63:Int))=false:=decide_eq_false (by omega)
  have e2:decide (i ≥ 2 ^ 63)=false:=decide_eq_false (by omega)
  rw [e1,e2,Bool.or_false]) (by rw [h1];simpa using h2) ⟨.str ⟨#[c]⟩,H,I.tok _,⟨_,rfl⟩,q⟩) hs
noncomputable def rIx (K:PySem.W.Frag):R2:=fun x y H Q=>rIxL K x y H Q∨rIxT K x y H Q∨rIxS x y H Q
theorem Zjo:IxR X (rIx X.K):=Zhs.or (Zml.or ZmS)
theorem Zh8 (its:List Value)(n j:Nat)(u:Value):Obj.mapSeq (·.setIfInBounds j u) { cls:=.type "list",data:=.seq its.toArray n }={ cls:=.type "list",data:=.seq (its.set j u).toArray n }:=by
 simp [Obj.mapSeq]
theorem Inv.lst {pins:List (Addr × Obj)}{σ:St}{H:Hp}{s:Shared}{p:Addr}{xs:List V}(I:Inv X pins σ H s)(h:H p=some (.lst xs)) :
  ∃ (its:List Value) (n:Nat),Vals xs its∧s.heap.get? p=some { cls:=.type "list",data:=.seq its.toArray n }∧xs.length≤sizeLine:=by
 obtain ⟨z,its,n,r,e⟩:=I.hok p _ h
 exact ⟨its,n,r,e,z⟩
theorem Inv.Zmv {pins:List (Addr × Obj)}{σ:St}{H:Hp}{s:Shared}{p:Addr}{xs ys:List V}{its its':List Value}{n n':Nat}{f:Obj→Obj}(I:Inv X pins σ H s)(h:H p=some (.lst xs))
  (ho:s.heap.get? p=some { cls:=.type "list",data:=.seq its.toArray n }) (hf:f { cls:=.type "list",data:=.seq its.toArray n }={ cls:=.type "list",data:=.seq its'.toArray n' }) (r:Vals ys its') (hz:ys.length≤sizeLine) (t:Nat) :
  Inv X pins σ (upd H p (.lst ys)) { s with heap:=s.heap.update p f,toks:=t }:=by
 have e:(s.heap.update p f).get? p=some { cls:=.type "list",data:=.seq its'.toArray n' }:=by
  rw [Heap.get?_update_self f ho (by rw [hf] <;> rfl),hf]
 refine I.write (x:=p) (e:=p) (by rw [h];trivial) (.inl rfl) (fun b u hb q=>(Heap.get?_update_other _ _ (Ne.symm hb)).trans q) ⟨_,e⟩ ?_
 exact ⟨hz,its',n',r,e⟩
noncomputable def Znn:V→V→V→Hp→(Hp→Prop)→Prop:=fun o i v H Q=>∃ p xs k j,o=.ref p∧i=.int k∧H p=some (.lst xs)∧ixN xs.length k=some j∧Q (upd H p (.lst (xs.set j v)))
theorem set_list : PSet X Znn := by
  intro pins s σ H o i v ov iv u Q I ro ri rv h
  obtain ⟨p, xs, k, j, rfl, rfl, hp, hj, q⟩ := h
  cases ro
  obtain ⟨t, rfl⟩ := ri
  obtain ⟨its, n, r, ho, hz⟩ := I.lst hp
  obtain ⟨h1, h2, h3, h4⟩ := ZhO hj
  have hl := r.length
  have hn := ZcW
  have I' : Inv X pins σ (upd H p (.lst (xs.set j v))) { s with heap := s.heap.update p (Obj.mapSeq (·.setIfInBounds j u)) } :=
    I.Zmv hp ho (Zh8 its n j u) (r.set rv j) (by rw [List.length_set]; exact hz) s.toks
  by_cases h0 : 0 ≤ k
  · have hk : k.toNat = j := by
      rw [seqIndex_of h0 h4] at h1
      exact Option.some.inj h1
    exact PySem.W.ki_setAt ho h0 (by omega) (by rw [List.size_toArray, ← hl]; exact h4) (by rw [hk]; exact ⟨_, I', q⟩)
  · have hk : (k + (its.toArray.size : Int)).toNat = j := by
      rw [seqIndex_neg (by omega) h3] at h1
      rw [List.size_toArray, ← hl]
      exact Option.some.inj h1
    exact PySem.W.ki_setBack ho (by omega) (by rw [List.size_toArray, ← hl]; exact h3) (by omega) (by rw [hk]; exact ⟨_, I', q⟩)
theorem Zgm:Zbo X (.builtin "len") (fun xs H Q=>∃ p ys,xs=[.ref p]∧(SqL X.K H p ys∨SqT X.K H p ys)∧Q (.int ys.length) H):=by
 intro pins s σ H xs us Q I r h
 obtain ⟨p,ys,rfl,hq,q⟩:=h
 obtain ⟨u,rfl,rx⟩:=vals1 r
 cases rx
 have hn:=ZcW
 rcases hq with hq | hq
 ·obtain ⟨its,r',pl,hz⟩:=I.list hq
  have hlen:=r'.length
  exact Calls.call_len_list pl.isList (by simp only [List.size_toArray] <;> omega) ⟨.int ys.length,H,I.tok _,⟨s.toks + 1,by rw [List.size_toArray,hlen]⟩,q⟩
 ·obtain ⟨its,r',pl,hz⟩:=I.tuple hq
  have hlen:=r'.length
  exact len_tuple pl (by simp only [List.size_toArray] <;> omega) ⟨.int ys.length,H,I.tok _,⟨s.toks + 1,by rw [List.size_toArray,hlen]⟩,q⟩
theorem Zg0 : Zbo X (.type "list") (fun xs H Q => ∃ p ys, xs = [.ref p] ∧ (SqL X.K H p ys ∨ SqT X.K H p ys) ∧ ∀ l, H l = none → Q (.ref l) (upd H l (.lst ys))) := by
  intro pins s σ H xs us Q I r h
  obtain ⟨p, ys, rfl, hq, q⟩ := h
  obtain ⟨u, rfl, rx⟩ := vals1 r
  cases rx
  have fin : ∀ (its : List Value), Vals ys its → ys.length ≤ sizeLine → ∀ (h' : Heap) (c' : Nat), (∀ b o', s.heap.get? b = some o' → h'.get? b = some o') →
      h'.get? s.heap.objs.size = some { cls := .type "list", dict := none, data := .seq its.toArray c', slots := #[] } → EP X pins σ Q (.ref s.heap.objs.size) { s with heap := h' } := fun its r' hz h' c' kp e =>
    ⟨.ref s.heap.objs.size, _, I.laid (t' := s.toks) kp (Nat.le_refl _) (show Yy X.prog X.w _ h' _ (.lst ys) from ⟨hz, its, c', r', e⟩), rfl, q _ (I.hok.fresh (Nat.le_refl _))⟩
  rcases hq with hq | hq
  · obtain ⟨its, r', pl, hz⟩ := I.list hq
    have hlen := r'.length
    obtain ⟨o, ho, hc, n, hd⟩ := pl.isList
    exact call_list_seq p (.inl rfl) ho hc hd (fun h' c' kp e => fin its r' hz h' c' kp e) (by simp only [List.size_toArray] <;> omega)
  · obtain ⟨its, r', pl, hz⟩ := I.tuple hq
    have hlen := r'.length
    obtain ⟨o, ho, hc, n, hd⟩ := pl
    exact call_list_seq p (.inr rfl) ho hc hd (fun h' c' kp e => fin its r' hz h' c' kp e) (by simp only [List.size_toArray] <;> omega)
noncomputable def tyV (K : PySem.W.Frag) (T : String) (x : V) (H : Hp) : Prop := match x with
  | .str _ => T = "str"
  | .int _ => T = "int"
  | .ref p => (T = "list" ∧ ∃ xs, SqL K H p xs) ∨ (T = "tuple" ∧ ∃ o, K.lookup p = some o ∧ o.cls = .type "tuple" ∧ o.dict = none) ∨
      (T = "dict" ∧ ((∃ kvs, H p = some (.dK kvs)) ∨ ∃ kvs, H p = some (.dT kvs))) ∨ (T = "set" ∧ ∃ S n, H p = some (.set S n))
  | _ => False
theorem Zme {pins : List (Addr × Obj)}{σ : St}{H : Hp}{s : Shared}{T : String}{x : V}{v : Value}(I : Inv X pins σ H s)(r : RelV x v)(ty : tyV X.K T x H) :
    s.TypeIs v T ∧ ∀ a, v = .ref a → ∃ ob, s.heap.get? a = some ob ∧ ob.dict = none := by
  cases x with
  | str z =>
    obtain ⟨t, rfl⟩ := r
    cases (show T = "str" from ty)
    exact ⟨typeIs_str s z t, fun _ e => nomatch e⟩
  | int i =>
    obtain ⟨t, rfl⟩ := r
    cases (show T = "int" from ty)
    exact ⟨typeIs_int s i t, fun _ e => nomatch e⟩
  | ref p =>
    cases r
    rcases ty with ⟨rfl, xs, hq⟩ | ⟨rfl, o, hk, hc, hd⟩ | ⟨rfl, hk⟩ | ⟨rfl, S, n, hk⟩
    · obtain ⟨its, _, pl, _⟩ := I.list hq
      refine ⟨pl.isList.typeIs, fun a e => ?_⟩
      cases e
      obtain ⟨o, n, e, c, hd, _⟩ := pl
      exact ⟨o, e, hd⟩
    · refine ⟨⟨o, I.kIn p o hk, hc⟩, fun a e => ?_⟩
      cases e
      exact ⟨o, I.kIn _ o hk, hd⟩
    · have z : ∃ o, s.heap.get? p = some o ∧ o.ExactDict := by
        rcases hk with ⟨kvs, hk⟩ | ⟨kvs, hk⟩
        · obtain ⟨_, _, _, _, o, _, _, e, ex, _⟩ := I.hok p _ hk
          exact ⟨o, e, ex⟩
        · obtain ⟨_, _, _, _, o, _, _, e, ex, _⟩ := I.hok p _ hk
          exact ⟨o, e, ex⟩
      obtain ⟨o, e, ex⟩ := z
      refine ⟨⟨o, e, ex.1⟩, fun a e2 => ?_⟩
      cases e2
      exact ⟨o, e, ex.2.1⟩
    · obtain ⟨o, _, _, _, e, ex, _⟩ := I.hok p _ hk
      refine ⟨⟨o, e, ex.1⟩, fun a e2 => ?_⟩
      cases e2
      exact ⟨o, e, ex.2.1⟩
  | _ => exact False.elim ty
noncomputable def tBM (K:PySem.W.Frag) (T:String) (r:V→List V→Hp→VK→Prop) (to:TE) (t:TA):TE:=fun σ H Q=>to σ H fun x H1=>tyV K T x H1∧t σ H1 fun xs H2=>r x xs H2 Q
variable {o e:Expr} {es:List Expr} {to:TE} {t:TA} {name:Str} {apos cpos:Pos} {T id:String} {r:V→List V→Hp→VK→Prop}
theorem Zdy (pa:PlainAttrs T) (slot:Slot T name id) (hty:typeOf (.builtin id)=pure (.type "method_descriptor")) (hm:MtR X id r) (ho:PE X o to) (ha:PA X (e::es) t)
  (hbase:attributeBase o name X.env (eval o X.env)=eval o X.env:=by rfl)
  (hfew:((backTo cpos (starEach (e::es) X.env)).all (fun x=>!x.1) && (backToKw cpos (keywordEach [] X.env)).all (fun x=>x.1.isSome)
   && decide ((e::es).length + ([]:List Keyword).length + (if ([]:List Keyword).isEmpty then 0 else 1) < 30))=true:=by rfl)
  (hline:(apos.endLine == cpos.line)=true:=by rfl) (hs:starEach (e::es) X.env=(false,eval e X.env)::starEach es X.env:=by rfl) (hplain:(backTo cpos (starEach es X.env)).any (·.1)=false:=by rfl) :
  PE X (.Call (.Attribute o name apos) (e::es) [] cpos) (tBM X.K T r to t):=by
 intro pins s σ H Q I h
 refine wpAny_Call_method_late hbase hfew hline rfl (thn (ho pins s σ H _ I h) fun v s1 ⟨x,H1,I1,r1,ty,q1⟩=>?_)
 obtain ⟨h1,h2⟩:=Zme I1 r1 ty
 refine ⟨T,id,pa,slot,hty,h1,h2,?_⟩
 have hA:=ha cpos pins s1 σ H1 _ I1 q1
 rw [hs] at hA ⊢
 refine Calls.callWith_builtin (by show (false || (backTo cpos (starEach es X.env)).any (·.1))=false;rw [hplain] <;> rfl) (Calls.evalArgs_plain ?_)
 exact thn hA fun us s2 ⟨vs,H2,I2,r2,q2⟩=>hm pins s2 σ H2 x vs v us Q I2 r1 r2 q2
end
end L2
namespace L2
open PySem PySem.Spec PyProof.Rows
noncomputable def MtM (X:Cx) (id:String) (r:V→List V→Hp→VK→Prop):Prop :=
 ∀ (pins:List (Addr × Obj)) (s:Shared) (σ:St) (H:Hp) (x:V) (xs:List V) (v:Value) (us:List Value) (Q:VK),Inv X pins σ H s→RelV x v→Vals xs us→r x xs H Q →
  wpAny (model X.prog X.w) X.A (call (.builtin id) (v::us)) (EP X pins σ Q) X.xe s
theorem Vals.one:∀ {x:V} {us:List Value},Vals [x] us→∃ u,us=[u]∧RelV x u
 | _,_,.cons r .nil=>⟨_,rfl,r⟩
theorem Vals.two:∀ {x y:V} {us:List Value},Vals [x,y] us→∃ u v,us=[u,v]∧RelV x u∧RelV y v
 | _,_,_,.cons r (.cons q .nil)=>⟨_,_,rfl,r,q⟩
section
variable {X:Cx} {pins:List (Addr × Obj)} {σ:St} {H:Hp} {s:Shared} {l b:Addr} {xs ys zs:List V}
theorem Inv.lset {its its':List Value}{n:Nat}{f:Array Value→Array Value}{t':Nat}(I:Inv X pins σ H s)(hH:H l=some (.lst xs))
  (e:s.heap.get? l=some { cls:=.type "list",data:=.seq its.toArray n }) (hf:f its.toArray=its'.toArray) (hv:Vals ys its') (hz:ys.length≤sizeLine) :
  Inv X pins σ (upd H l (.lst ys)) { s with heap:=s.heap.update l (Obj.mapSeq f),toks:=t' }:=by
 have q:=PySem.IsL.update e f
 rw [hf] at q
 refine I.write (x:=l) (e:=l) (by rw [hH];exact trivial) (.inl rfl) (fun b' u hb hu=>(Heap.get?_update_other s.heap (Obj.mapSeq f) (Ne.symm hb)).trans hu) ⟨_,q⟩ ?_
 exact ⟨hz,its',_,hv,q⟩
theorem Inv.lnew {its:List Value}{t':Nat}(I:Inv X pins σ H s)(hv:Vals ys its)(hz:ys.length≤sizeLine) :
  Inv X pins σ (upd H s.heap.objs.size (.lst ys)) { s with heap:=s.heap.push { cls:=.type "list",data:=.seq its.toArray },toks:=t' } :=
 I.laid (fun _ _ q=>Heap.get?_push_of_some _ q) (Nat.le_refl _) ⟨hz,its,0,hv,Heap.get?_push_size _ rfl⟩
theorem Inv.fresh (I:Inv X pins σ H s):H s.heap.objs.size=none:=I.hok.fresh (Nat.le_refl _)
theorem Inv.lstM (I:Inv X pins σ H s)(hH:H l=some (.lst xs)):xs.length≤sizeLine∧∃ (its:List Value) (n:Nat),Vals xs its∧xs.length=its.length∧s.heap.get? l=some { cls:=.type "list",data:=.seq its.toArray n }:=by
 obtain ⟨z,its,n,r,e⟩:=I.hok l _ hH
 exact ⟨z,its,n,r,r.length,e⟩
end
section
variable {X:Cx}
noncomputable def Zll:V→List V→Hp→VK→Prop:=fun x vs H Q=>∃ l xs y,x=.ref l∧vs=[y]∧H l=some (.lst xs)∧xs.length < sizeLine∧Q .non (upd H l (.lst (xs++[y])))
theorem Zb9:MtM X "list.append" Zll:=by
 intro pins s σ H x vs v us Q I rx rv h
 obtain ⟨l,xs,y,rfl,rfl,hH,hz,q⟩:=h
 cases rx
 obtain ⟨u,rfl,ru⟩:=rv.one
 obtain ⟨z,its,n,r,hl,e⟩:=I.lstM hH
 refine call_meets F.slot_list_append ⟨_,e,rfl⟩ F.entry_list_append (F.args_list_append_2 _ _) (PySem.list_append l its.toArray n u (by rw [List.size_toArray];omega)) ⟨e,?_⟩
 refine ⟨.non,_,I.lset (its':=its++[u]) hH e (by simp) (r.append (.cons ru .nil)) ?_,rfl,q⟩
 rw [List.length_append,List.length_singleton]
 omega
end
section
variable {prog:Program} {w:World} {A:Around} {E:Value→Shared→Prop} {s:Shared}
end
section
variable {X:Cx}
end
end L2
namespace Att
open PySem PySem.W PySem.Calls PyProof.Rows
theorem ZeA {P:Params}{h:Heap}:∀ (ns:List Int) (vs:List Value),WellAll P h vs (ns.map WData.int)→IntsAre vs ns:=by
 intro ns
 induction ns with
 | nil =>
  intro vs w
  rw [List.map_nil] at w
  cases w
  exact .nil
 | cons n ns ih =>
  intro vs w
  rw [List.map_cons] at w
  cases w with
  | cons a b =>
   cases a
   exact .cons _ _ (ih _ b)
theorem ZiA {l:OpenLaw}{n:Nat}(hn:l.most=some n){P:Params}{h:Heap}{args:List WData}{vals:List Value}
  (hpre:l.row.toRowW.claim.pre args=true) (hwl:WellAll P h vals args) :
  ∃ a vs ns,vals=[Value.ref a]∧args=[WData.list (ns.map WData.int)]∧h.get? a=some { cls:=.type "list",data:=.seq vs.toArray }∧IntsAre vs ns∧ns.length≤n:=by
 have hsh:WShape.hasAll [] args [.list .int]=true:=(pre_splitW hpre).1
 have hc:l.pre.holds [] { args:=args }=true:=(pre_splitW hpre).2
 obtain ⟨d,r,rfl,h1,h2⟩:=hasAllW_cons hsh
 obtain rfl:=hasAllW_nil h2
 obtain ⟨xs,rfl,h3⟩:=hasW_list h1
 obtain ⟨ns,rfl⟩:=items_int h3
 have hlen:ns.length≤n:=by
  unfold OpenLaw.pre at hc
  have h4:(WTm.not (.lt (.lit (.int (n:Int))) (.len (.arg 0)))).holds [] { args:=[.list (ns.map .int)] }=true:=by
   have h4:=(holds_andW hc).1
   rw [hn] at h4
   exact h4
  have h5:=condW_of h4 (w_not (w_lt w_lit (w_len_list (w_arg rfl))))
  rw [List.length_map] at h5
  refine Nat.le_of_not_lt fun q=>?_
  have q':(n:Int) < ((ns.length:Nat):Int):=by omega
  first
   | (rw [decide_eq_true q'] at h5;exact absurd h5 (by decide))
   | (simp at h5;omega)
 cases hwl with
 | cons w1 w2 =>
  cases w2
  cases w1 with
  | list ho hall=>exact ⟨_,_,ns,rfl,rfl,ho,ZeA ns _ hall,hlen⟩
theorem Zi8 (l:OpenLaw)(args:List WData):l.row.toRowW.claim.post args (.bool true) args=true :=
 postW_of (r:=l.row.toRowW) (X:=(true == true))
  (show WShape.has [] (.bool true) .bool=true by first | rfl | decide | simp [WShape.has,WShape.arms,WShape.armsAll])
  (show (WTm.eq .res (.lit (.bool true))).value [] { args:=args,res:=some (.bool true),after:=args }=some (.bool (true == true)) from w_eq_bool (w_res rfl) w_lit) rfl
theorem Zhj {l:OpenLaw}{n:Nat}{q:Program}{loose:List Str}{XP:(Str→Option Value)→Heap→Prop}{YP:World→Heap→Prop}{d:DefRec}
  (hn:l.most=some n) (hdf:d.params.defaults=[])
  (call:∀ (w:World) (s₀ s₁:Shared) (mg mb:Str→Option Value) (fa:Addr) (o:Obj) (pm cd doc:Value) (a:Addr) (vs:List Value) (ns:List Int),
   Ground q loose [] XP w s₀ mg mb s₁.heap→YP w s₁.heap →
   s₁.heap.get? fa=some o→o.data=.func (docDef d.name d.params d.body d.scope pm cd doc)→s₁.heap.CodeRec cd d.name→mg d.name=some (.ref fa) →
   s₁.heap.get? a=some { cls:=.type "list",data:=.seq vs.toArray }→IntsAre vs ns→ns.length≤n→s₁.gens=#[] →
   codeAny (model l.prog w) callerA (.call (.ref fa) ⟨[.ref a],[]⟩) (fun r s'=>r=.ok (.ret (.bool true))∧OldK s₁.heap s'.heap∧s'.os=s₁.os∧AllBare s'.gens) s₁) :
  WalkO q loose XP YP l.row.toRowW d [] (fun f vs=>PySem.call f vs):=by
 intro w s₀ s₁ mg mb G Y fa o pm cd doc dV kV ho hd hcd hD hmg hg args vals as hpre hlay hrd hwl hlo
 obtain rfl:dV=.none:=Dflts.none hD hdf
 obtain rfl:kV=.none:=Dflts.noKw hD
 obtain ⟨a,vs,ns,rfl,rfl,hobj,hints,hlen⟩:=ZiA hn hpre hwl
 refine enter_call (codeAny_mono (call w s₀ s₁ mg mb fa o pm cd doc a vs ns G Y ho (fd_plain hd) hcd hmg hobj hints hlen hg) fun r s' hq=>?_)
 obtain ⟨rfl,h2,h3,h4⟩:=hq
 exact ⟨.inl ⟨.bool true,.bool true,[],rfl,fun _=>rfl,.bool true,Zi8 l _,fun _=>⟨List.Pairwise.nil,fun _ hm=>(nomatch hm)⟩⟩,h2,h3,h4⟩
section
variable {prog:Program} {w:World} {A:Around} {E:Value→Shared→Prop} {s:Shared} {K:Frag}
end
end Att
namespace L2
open PySem PySem.Spec PyProof.Rows
theorem Zbt:∀ {vs:List Value} {ns:List Int},IntsAre vs ns→Vals (ns.map V.int) vs
 | _,_,.nil=>.nil
 | _,_,.cons n t h=>.cons ⟨t,rfl⟩ (Zbt h)
noncomputable def Only (H:Hp):Prop:=∀ b,H b=none∨∃ o xs,H b=some (.frz o (.lst xs))
theorem Zkd {P : Program}{w : World}{K : PySem.W.Frag}{mg mb : Str → Option Value}{CX : CXT}{k : Nat}{fa a : Addr}{fd : FuncData}{x : Str}{sp : Sp}{s₁ : Shared}{vs : List Value}{ns : List Int}
    (KX : K.In s₁.heap) (hns : s₁.heap.Ns mainGlobals mg) (hb : s₁.heap.Ns builtinsNs mb) (hbb : ∀ x : Str, x ≠ "__name__" → mb x = bootBuiltins x) (hlim : s₁.heap.NoLimit) (hg : s₁.gens = #[])
    (ha : s₁.heap.get? a = some { cls := .type "list", data := .seq vs.toArray }) (hi : IntsAre vs ns) (hl : ns.length ≤ sizeLine) (hr : Room k callerA)
    (F : ∀ base : Heap, K.In base → base.Ns mainGlobals mg → FnOk P w K mg base CX k fa fd [x] sp) (hbind : ∀ (s : Shared) (u : Value), BindsTo s fd ⟨[u], []⟩ [(x, u)])
    (hsp : ∀ H : Hp, Only H → SqL K H a (ns.map V.int) → sp [.ref a] H (fun v _ => v = .bl true) fun _ _ _ => False)
    (hCX : ∀ H e s', CX [] H s₁ (fun _ _ _ => False) e s' → False) :
    codeAny (model P w) callerA (.call (.ref fa) ⟨[.ref a], []⟩) (fun r s' => r = .ok (.ret (.bool true)) ∧ OldK s₁.heap s'.heap ∧ s'.os = s₁.os ∧ AllBare s'.gens) s₁ := by
  have rv := Zbt hi
  have lenV := hi.length
  have core : ∀ H : Hp, Only H → SqL K H a (ns.map V.int) → HOk P w H s₁.heap → (∀ b, H b ≠ none → b = a) → (H a ≠ none → K.lookup a = none) →
      codeAny (model P w) callerA (.call (.ref fa) ⟨[.ref a], []⟩) (fun r s' => r = .ok (.ret (.bool true)) ∧ OldK s₁.heap s'.heap ∧ s'.os = s₁.os ∧ AllBare s'.gens) s₁ := by
    intro H hO hS hok hA hK
    have base_of : ∀ {b : Addr} {o : Obj}, s₁.heap.get? b = some o → H b = none → (hidT s₁.heap H).get? b = some o := fun e n => Zj1 e n
    have noA : ∀ {b : Addr} {o : Obj} {es : Array DictEntry} {ep : Nat}, s₁.heap.get? b = some o → o.data = .dict es ep → H b = none := fun {b o es ep} e d => by
      cases q : H b with
      | none => rfl
      | some u =>
        have e' : b = a := hA b (by rw [q]; simp)
        subst e'
        rw [ha] at e; cases e
        have d' : Data.seq vs.toArray _ = Data.dict es ep := d
        cases d'
    have nsK : ∀ {b : Addr} {m : Str → Option Value}, s₁.heap.Ns b m → (hidT s₁.heap H).Ns b m := fun {b m} ⟨o, es, ep, e, d, r⟩ => ⟨o, es, ep, base_of e (noA e d), d, r⟩
    have hKb : K.In (hidT s₁.heap H) := fun b o e => base_of (KX b o e) (by
      cases q : H b with
      | none => rfl
      | some u =>
        have e' : b = a := hA b (by rw [q]; simp)
        subst e'
        rw [hK (by rw [q]; simp)] at e; cases e)
    have hM : Mod K mg (hidT s₁.heap H) := ⟨hKb, nsK hns, ⟨mb, nsK hb, hbb⟩, let ⟨mc, h1, h2⟩ := hlim; ⟨mc, nsK h1, h2⟩⟩
    have e0 : Env0 P w K mg (hidT s₁.heap H) callerA [] s₁ H := ⟨rfl, hM, fun b o e => Zk1 e, Nat.le_of_eq (Zjl _ _), trivial, fun b hb => absurd (show b ∈ ([] : List Addr) from hb) (by simp), hok, .of_eq hg⟩
    refine codeAny_mono ((F _ hKb (nsK hns)).run callerA [] s₁ H ⟨[.ref a], []⟩ [.ref a] [.ref a] _ _ hr e0 (hbind s₁ (.ref a)) (.cons rfl .nil) (hsp H hO hS)) fun r s' h => ?_
    cases r with
    | error e => exact (hCX H e s' h).elim
    | ok fl =>
      cases fl with
      | next => exact False.elim h
      | brk => exact False.elim h
      | cont => exact False.elim h
      | ret u =>
        obtain ⟨v, H', os, bare, un, hok', r', q⟩ := h
        have q' : v = .bl true := q
        subst q'
        obtain rfl : u = Value.bool true := r'
        refine ⟨rfl, OldK.of_keep fun b o e => ?_, os, bare⟩
        cases q : H b with
        | none => exact un.keep b o e q (by intro z; exact absurd (show b ∈ ([] : List Addr) from z) (by simp)) (by simp)
        | some u =>
          rcases hO b with z | ⟨ob, xs, z⟩
          · rw [q] at z; cases z
          · have z2 := un.frzs b ob _ z
            obtain ⟨e1, _⟩ := hok b _ z
            obtain ⟨e2, _⟩ := hok' b _ z2
            rw [e] at e1; cases e1
            exact e2
  cases hk : K.lookup a with
  | some o =>
    have e := KX a o hk
    rw [ha] at e
    cases e
    refine core (fun _ => none) (fun _ => .inl rfl) (.inr ⟨_, vs.toArray, _, hk, rfl, rfl, rfl, by rw [List.size_toArray, lenV]; exact hl, by simpa using rv⟩) (fun b u z => by have z' : (none : Option HO) = some u := z; cases z') (fun b z => absurd rfl z) fun z => absurd rfl z
  | none =>
    refine core (fun b => if b = a then some (.frz { cls := .type "list", data := .seq vs.toArray } (.lst (ns.map V.int))) else none) (fun b => ?_) (.inl (.inr ⟨{ cls := .type "list", data := .seq vs.toArray }, if_pos rfl⟩)) (fun b u z => ?_) (fun b z => ?_) fun _ => hk
    · by_cases hb : b = a
      · exact .inr ⟨_, _, if_pos hb⟩
      · exact .inl (if_neg hb)
    · by_cases hb : b = a
      · have z' := (if_pos hb).symm.trans z
        cases z'
        subst hb
        exact ⟨ha, by rw [List.length_map]; exact hl, vs, _, rv, ha⟩
      · have z' := (if_neg hb).symm.trans z
        cases z'
    · by_cases hb : b = a
      · exact hb
      · exact absurd (if_neg hb) z
end L2
namespace L2
open PySem PySem.Spec PyProof.Rows
theorem Zk8 {l:PySem.W.OpenLaw}{n k:Nat}{q:Program}{loose:List Str}{XP:(Str→Option Value)→Heap→Prop}{YP:World→Heap→Prop}{d:DefRec}{K:Params→PySem.W.Frag}{CX:World→CXT}{sp:World→Sp}{x:Str}
  (hn:l.most=some n) (hn2:n≤sizeLine) (hdf:d.params.defaults=[]) (hr:Room k callerA)
  (hY:∀ (w:World) (h:Heap),YP w h→(K w.params).In h)
  (F:∀ (w:World) (mg:Str→Option Value) (fa:Addr) (h:Heap),(K w.params).In h→h.Ns mainGlobals mg→mg d.name=some (.ref fa) →
   ∃ fd:FuncData,(∀ (s:Shared) (u:Value),BindsTo s fd ⟨[u],[]⟩ [(x,u)]) ∧
    ∀ base:Heap,(K w.params).In base→base.Ns mainGlobals mg→FnOk l.prog w (K w.params) mg base (CX w) k fa fd [x] (sp w))
  (hsp:∀ (w:World) (H:Hp) (a:Addr) (ns:List Int),ns.length≤n→Only H→SqL (K w.params) H a (ns.map V.int)→sp w [.ref a] H (fun v _=>v=.bl true) fun _ _ _=>False)
  (hCX:∀ (w:World) (H:Hp) (s:Shared) (e:Value) (s':Shared),CX w [] H s (fun _ _ _=>False) e s'→False) :
  PySem.W.WalkO q loose XP YP l.row.toRowW d [] (fun f vs=>PySem.call f vs):=by
 refine Att.Zhj hn hdf fun w s₀ s₁ mg mb fa o pm cd doc a vs ns G Y ho hd hcd hmg hobj hints hlen hg=>?_
 have KX:=hY w _ Y
 obtain ⟨fd,hb,hF⟩:=F w mg fa _ KX G.T.g hmg
 exact Zkd KX G.T.g G.T.b G.T.builtins G.T.nolimit hg hobj hints (Nat.le_trans hlen hn2) hr hF hb (fun H hO hS=>hsp w H a ns hlen hO hS) fun H e s'=>hCX w H s₁ e s'
end L2
namespace L2
open PySem PySem.Spec PyProof.Rows
noncomputable def Jg (s:Stmt):Arguments:=match s with
 | .FunctionDef _ a _ _ _ _ _ _ _ _=>a
 | _=>{ posonlyargs:=[],args:=[],vararg:=none,kwonlyargs:=[],kw_defaults:=[],kwarg:=none,defaults:=[] }
noncomputable def Jf (s:Stmt):List Stmt:=match s with
 | .FunctionDef _ _ b _ _ _ _ _ _ _=>b
 | _=>[]
noncomputable def Yb (s:Stmt):Scope:=match s with
 | .FunctionDef _ _ _ _ _ _ sc _ _ _=>sc
 | _=>{ kind:=.function,names:=[],isGenerator:=false,isCoroutine:=false }
noncomputable abbrev CX0:CXT:=fun _ _ _ _ _ _=>False
noncomputable abbrev E0:XK:=fun _ _ _=>False
theorem Zks {X:Cx}:Passes CX0 X E0:=fun _ _ _ _ _ _ _ h=>h.elim
structure Fun (K:PySem.W.Frag)(x qual:Str)(st:Stmt)(f:Addr)(fd:FuncData):Prop where
 ex:∃ (oc:Value) (od:Option Addr) (kV doc pm:Value) (an:Option Addr) (cdv ct:Value) (osl:Array (Option Value)),
  fd=PySem.W.fnOf x qual (Jg st) (Jf st) (Yb st) .none kV doc pm an cdv ct∧K.lookup f=some ⟨oc,od,.func fd,osl⟩∧PySem.W.codeIn K cdv qual=true
 kp:PySem.W.keepIn K (.ref f)=true
section
variable {P:Program} {w:World} {K:PySem.W.Frag} {mg:Str→Option Value} {base:Heap}
theorem Fun.ok {x qual:Str}{st:Stmt}{f:Addr}{fd:FuncData}{N ps:List Str}{k:Nat}{sp:Sp}(F:Fun K x qual st f fd)(S:Zi N ps (Yb st))(len:∀ vs H Q E,sp vs H Q E→vs.length=ps.length)
  (hbody:∀ (cdv:Value) (A:Around) (outer:List Env) (s:Shared) (H:Hp) (vs:List V) (Q:VK) (E:XK),Room k (A.deeper (envOfC qual (Yb st) s.heap.objs.size f cdv))→sp vs H Q E →
   ∃ t,PSs (cxOf CX0 P w K mg base N qual (Yb st) f cdv A outer s H E).nox (Jf st) t∧t { nx:=fun _ H'=>Q .non H',rt:=Q } (start N vs) H):FnOk P w K mg base CX0 (k + 1) f fd ps sp:=by
 obtain ⟨oc,od,kV,doc,pm,an,cdv,ct,osl,rfl,lk,hcd⟩:=F.ex
 refine Zku lk hcd S len fun A outer s H vs Q E hr hsp=>?_
 obtain ⟨t,h,q⟩:=hbody cdv A outer s H vs Q E hr hsp
 exact ⟨t,h.nox,q⟩
theorem Fun.binds {x qual:Str}{st:Stmt}{f:Addr}{fd:FuncData}{ps:List Str}(F:Fun K x qual st f fd)
  (h:∀ (kV doc pm:Value) (an:Option Addr) (cdv ct:Value) (us:List Value),us.length=ps.length→bindArgs (PySem.W.fnOf x qual (Jg st) (Jf st) (Yb st) .none kV doc pm an cdv ct) ⟨us,[]⟩=pure (ps.zip us)):Binds K fd ps []:=by
 obtain ⟨oc,od,kV,doc,pm,an,cdv,ct,osl,rfl,lk,hcd⟩:=F.ex
 exact .all (h kV doc pm an cdv ct)
theorem Ye {x qual:Str}{st:Stmt}{f:Addr}{oc:Value}{od an:Option Addr}{osl:Array (Option Value)}{kV doc pm cdv ct:Value}(l:K.lookup f=some ⟨oc,od,.func (PySem.W.fnOf x qual (Jg st) (Jf st) (Yb st) .none kV doc pm an cdv ct),osl⟩)
  (c:PySem.W.codeIn K cdv qual=true) (k:PySem.W.keepIn K (.ref f)=true):Fun K x qual st f (PySem.W.fnOf x qual (Jg st) (Jf st) (Yb st) .none kV doc pm an cdv ct):=⟨⟨oc,od,kV,doc,pm,an,cdv,ct,osl,rfl,l,c⟩,k⟩
end
section
variable {X:Cx}
end
theorem iteF {A B:Prop}(h:B):if false=true then A else B:=by
 rw [if_neg Bool.false_ne_true]
 exact h
theorem iteT {A B:Prop}(h:A):if true=true then A else B:=by
 rw [if_pos rfl]
 exact h
noncomputable def Same (H H':Hp):Prop:=∀ b o,H b=some o→H' b=some o
theorem Same.refl (H:Hp):Same H H:=fun _ _ h=>h
theorem Same.trans {H H1 H2:Hp}(a:Same H H1)(b:Same H1 H2):Same H H2:=fun c o h=>b c o (a c o h)
theorem Same.free {H H':Hp}(e:Same H H'){l:Addr}(h:H' l=Option.none):H l=Option.none:=by
 cases q:H l with
 | none=>rfl
 | some o =>
  rw [e l o q] at h
  cases h
theorem Same.seq {K:PySem.W.Frag}{H H':Hp}{a:Addr}{xs:List V}(e:Same H H')(h:SqL K H a xs):SqL K H' a xs:=by
 rcases h with (h | ⟨o,h⟩) | h
 ·exact .inl (.inl (e _ _ h))
 ·exact .inl (.inr ⟨o,e _ _ h⟩)
 ·exact .inr h
end L2
set_option linter.all false
set_option Elab.async false
namespace PV
theorem el9 {A1 A2 A3 A4 A5 A6:Type}{P Q R:A1→A2→A3→A4→A5→A6→Prop}{Z:Prop}(h:∃ a b c d e f,P a b c d e f∧Q a b c d e f∧R a b c d e f)(k:∀ a b c d e f,P a b c d e f→Q a b c d e f→R a b c d e f→Z):Z:=by
 obtain ⟨a,b,c,d,e,f,p,q,r⟩:=h
 exact k a b c d e f p q r
theorem el10 {A1 A2 A3 A4 A5 A6 A7:Type}{P Q R:A1→A2→A3→A4→A5→A6→A7→Prop}{Z:Prop}(h:∃ a b c d e f g,P a b c d e f g∧Q a b c d e f g∧R a b c d e f g)(k:∀ a b c d e f g,P a b c d e f g→Q a b c d e f g→R a b c d e f g→Z):Z:=by
 obtain ⟨a,b,c,d,e,f,g,p,q,r⟩:=h
 exact k a b c d e f g p q r
open PySem (Str)
inductive D where
 | non | bl (b:Bool) | int (i:Int) | str (x:Str) | lst (xs:List D) | tup (xs:List D) | dct (kvs:List (Int × Int))
 deriving Inhabited
inductive Sl where
 | un | sh (d:D) | fr (d:D) | ow (ds:List D) | tab (rows:List (List D)) | dc (kvs:List (Int × Int)) | nw (ds:List D) | jk (d:D) | jl (n:Nat) | xc (c:Nat)
 deriving Inhabited
noncomputable def lim:Nat:=100000
mutual
noncomputable def D.dep:D→Nat
 | .lst xs=>D.deps xs + 1
 | .tup xs=>D.deps xs + 1
 | .dct _=>100
 | _=>0
noncomputable def D.deps:List D→Nat
 | []=>0
 | x::xs=>max (D.dep x) (D.deps xs)
end
mutual
noncomputable def eqD:D→D→Bool
 | .non,.non=>true
 | .bl a,.bl b=>a == b
 | .bl a,.int b=>(if a then 1 else 0) == b
 | .int a,.bl b=>a == (if b then 1 else 0)
 | .int a,.int b=>a == b
 | .str a,.str b=>a == b
 | .lst a,.lst b=>eqDs a b
 | .tup a,.tup b=>eqDs a b
 | .dct a,.dct b=>decide (a=b)
 | _,_=>false
noncomputable def eqDs:List D→List D→Bool
 | [],[]=>true
 | x::xs,y::ys=>eqD x y && eqDs xs ys
 | _,_=>false
end
noncomputable abbrev Env:=List Sl
noncomputable abbrev Ex:=Env→Option D
noncomputable abbrev Tx:=Env→Option Bool
noncomputable abbrev Lx:=Env→Option (List D)
noncomputable def Sl.val:Sl→Option D
 | .un=>none
 | .sh d=>some d
 | .fr d=>some d
 | .ow ds=>some (.lst ds)
 | .tab rows=>some (.lst (rows.map .lst))
 | .nw ds=>some (.lst ds)
 | _=>none
noncomputable def Sl.shd:Sl→Option D
 | .sh d=>some d
 | .fr d=>some d
 | _=>none
noncomputable def eC (d:D):Ex:=fun _=>some d
noncomputable def eVar (i:Nat):Ex:=fun env=>env[i]?.bind Sl.shd
noncomputable def Sl.frd:Sl→Option D
 | .fr d=>some d
 | _=>none
noncomputable def ZdN (i:Nat):Ex:=fun env=>env[i]?.bind Sl.frd
noncomputable def Jw (i:Nat):Ex:=fun env=>env[i]?.bind Sl.val
noncomputable def e2I (f:Int→Int→Option D) (a b:Ex):Ex:=fun env=>match a env,b env with
 | some (.int i),some (.int j)=>f i j
 | _,_=>none
noncomputable def iSub (i j:Int):Option D:=some (.int (i - j))
noncomputable def iMul (i j:Int):Option D:=if (-18446744073709551616 < i∧i < 18446744073709551616)∨(-18446744073709551616 < j∧j < 18446744073709551616) then some (.int (i * j)) else none
noncomputable def iMod (i j:Int):Option D:=if 0 < j then some (.int (i % j)) else none
noncomputable def iDiv (i j:Int):Option D:=if 0 < j∧j < 1073741824 then some (.int (i / j)) else none
noncomputable def t2I (p:Int→Int→Bool) (a b:Ex):Tx:=fun env=>match a env,b env with
 | some (.int i),some (.int j)=>some (p i j)
 | _,_=>none
noncomputable def pLt (i j:Int):Bool:=decide (i < j)
noncomputable def pGt (i j:Int):Bool:=decide (j < i)
noncomputable def pGe (i j:Int):Bool:=decide (j≤i)
noncomputable def tEq (a b:Ex):Tx:=fun env=>match a env,b env with
 | some x,some y=>if x.dep≤8∧y.dep≤8 then some (eqD x y) else none
 | _,_=>none
noncomputable def tNe (a b:Ex):Tx:=fun env=>match a env,b env with
 | some x,some y=>if x.dep≤8∧y.dep≤8 then some (!eqD x y) else none
 | _,_=>none
noncomputable def inD (x:D) (ys:List D):Bool:=ys.any fun y=>eqD y x
noncomputable def tIn (a b:Ex):Tx:=fun env=>match a env,b env with
 | some x,some (.lst ys)=>if D.deps ys≤8∧x.dep≤8 then some (inD x ys) else none
 | some x,some (.tup ys)=>if D.deps ys≤8∧x.dep≤8 then some (inD x ys) else none
 | _,_=>none
noncomputable def tNi (a b:Ex):Tx:=fun env=>match tIn a b env with
 | some k=>some (!k)
 | none=>none
noncomputable def D.isN:D→Bool
 | .non=>true
 | _=>false
noncomputable def tIsN (a:Ex):Tx:=fun env=>match a env with
 | some x=>some x.isN
 | none=>none
noncomputable def tNoN (a:Ex):Tx:=fun env=>match a env with
 | some x=>some (!x.isN)
 | none=>none
noncomputable def tAnd (a b:Tx):Tx:=fun env=>match a env with
 | some true=>b env
 | some false=>some false
 | none=>none
noncomputable def tOr (a b:Tx):Tx:=fun env=>match a env with
 | some true=>some true
 | some false=>b env
 | none=>none
noncomputable def tNot (a:Tx):Tx:=fun env=>match a env with
 | some k=>some (!k)
 | none=>none
noncomputable def tB (a:Ex):Tx:=fun env=>match a env with
 | some (.bl k)=>some k
 | _=>none
noncomputable def eB (a:Tx):Ex:=fun env=>match a env with
 | some k=>some (.bl k)
 | none=>none
noncomputable def evs:List Ex→Env→Option (List D)
 | [],_=>some []
 | e::es,env=>match e env,evs es env with
  | some d,some ds=>some (d::ds)
  | _,_=>none
noncomputable def eLst (es:List Ex):Ex:=fun env=>match evs es env with
 | some ds=>some (.lst ds)
 | none=>none
noncomputable def eTup (es:List Ex):Ex:=fun env=>match evs es env with
 | some ds=>some (.tup ds)
 | none=>none
noncomputable def Yc (φ:List D→Option D) (es:List Ex):Ex:=fun env=>match evs es env with
 | some ds=>φ ds
 | none=>none
noncomputable def eF1 (φ:D→Option D) (a:Ex):Ex:=fun env=>match a env with
 | some x=>φ x
 | none=>none
noncomputable def eF2 (φ:D→D→Option D) (a b:Ex):Ex:=fun env=>match a env,b env with
 | some x,some y=>φ x y
 | _,_=>none
noncomputable def ixN (n:Nat) (i:Int):Option Nat:=if 0≤i then (if i < n then some i.toNat else none) else if -(n:Int)≤i then some (i + n).toNat else none
noncomputable def atD (xs:List D) (i:Int):Option D:=(ixN xs.length i).bind fun j=>xs[j]?
noncomputable def fIx:D→D→Option D
 | .lst xs,.int i=>atD xs i
 | .tup xs,.int i=>atD xs i
 | _,_=>none
noncomputable def eIx (a b:Ex):Ex:=eF2 fIx a b
noncomputable def fAdd:D→D→Option D
 | .int i,.int j=>some (.int (i + j))
 | .lst xs,.lst ys=>if xs.length + ys.length≤lim then some (.lst (xs++ys)) else none
 | _,_=>none
noncomputable def eAdd (a b:Ex):Ex:=eF2 fAdd a b
noncomputable def fLen:D→Option D
 | .lst xs=>some (.int xs.length)
 | .tup xs=>some (.int xs.length)
 | _=>none
noncomputable def Zbm:D→Option D
 | .lst xs=>some (.lst xs)
 | .tup xs=>some (.lst xs)
 | _=>none
noncomputable def allB:List D→Option Bool
 | []=>some true
 | .bl b::xs=>match allB xs with
  | some c=>some (b && c)
  | none=>none
 | _::_=>none
noncomputable def fAll:D→Option D
 | .lst xs=>match allB xs with
  | some b=>some (.bl b)
  | none=>none
 | _=>none
noncomputable def JC:List D→Option (List Int)
 | []=>some []
 | .int i::xs=>match JC xs with
  | some r=>some (i::r)
  | none=>none
 | _::_=>none
noncomputable def addv (σ:List Int) (v:Int):List Int:=if v ∈ σ then σ else σ++[v]
noncomputable def seen (vs:List Int):List Int:=vs.foldl addv []
noncomputable def ltL:List Int→List Int→Bool
 | [],[]=>false
 | [],_::_=>true
 | _::_,[]=>false
 | x::xs,y::ys=>if x=y then ltL xs ys else decide (x < y)
inductive Ty where
 | int | bool | str | list | tuple
noncomputable def isTy:Ty→D→Bool
 | .int,.int _=>true
 | .int,.bl _=>true
 | .bool,.bl _=>true
 | .str,.str _=>true
 | .list,.lst _=>true
 | .tuple,.tup _=>true
 | _,_=>false
noncomputable def fIs (t:Ty):D→Option D
 | .dct _=>none
 | x=>some (.bl (isTy t x))
noncomputable def J2:D→Bool
 | .lst _=>false
 | .tup _=>false
 | .dct _=>false
 | _=>true
noncomputable def eSc (f:Ex):Ex:=fun env=>match f env with
 | some d=>if J2 d then some d else none
 | none=>none
noncomputable def eFl (f:Ex):Ex:=fun env=>match f env with
 | some (.lst ds)=>if ds.all J2 then some (.lst ds) else none
 | _=>none
noncomputable def idxD (x:D):List D→Option Nat
 | []=>none
 | y::ys=>if eqD y x then some 0 else match idxD x ys with
  | some j=>some (j + 1)
  | none=>none
noncomputable def ZeZ:D→D→Option D
 | .lst ys,x=>if D.deps ys≤8∧x.dep≤8 then (match idxD x ys with
  | some j=>some (.int j)
  | none=>none) else none
 | _,_=>none
noncomputable def iOf (a:Ex):Lx:=fun env=>match a env with
 | some (.lst xs)=>some xs
 | some (.tup xs)=>some xs
 | _=>none
noncomputable def Yh (lo:Int) (n:Nat):List D:=(List.range n).map fun k=>.int (lo + (k:Nat))
noncomputable def iRng (a:Ex):Lx:=fun env=>match a env with
 | some (.int j)=>if -(lim:Int)≤j∧j≤lim then some (Yh 0 j.toNat) else none
 | _=>none
noncomputable def YW (i:Nat) (c:Tx) (e:Ex) (env:Env):List D→Option (List D)
 | []=>some []
 | d::ds=>match c (env.set i (.sh d)) with
  | some true=>match e (env.set i (.sh d)),YW i c e env ds with
   | some x,some xs=>some (x::xs)
   | _,_=>none
  | some false=>YW i c e env ds
  | none=>none
noncomputable def Js:Tx:=fun _=>some true
noncomputable def Yk (i:Nat) (it:Lx) (c:Tx) (e:Ex):Ex:=fun env=>match it env with
 | some ds=>if ds.length≤lim then (match YW i c e env ds with
  | some xs=>some (.lst xs)
  | none=>none) else none
 | none=>none
inductive Out where
 | nx | bk | ct | rt (d:D)
noncomputable abbrev St:=Env→Option (Out × Env)
noncomputable def Jj:St:=fun env=>some (.nx,env)
noncomputable def sSet (i:Nat) (e:Ex):St:=fun env=>match e env with
 | some d=>some (.nx,env.set i (.sh d))
 | none=>none
noncomputable def ZeG (i:Nat) (e:Ex):St:=fun env=>match e env with
 | some d=>some (.nx,env.set i (.fr d))
 | none=>none
noncomputable def sOwn (i:Nat) (e:Ex):St:=fun env=>match e env with
 | some (.lst ds)=>some (.nx,env.set i (.ow ds))
 | _=>none
noncomputable def Zdr:List D→Option (List (List D))
 | []=>some []
 | .lst r::xs=>match Zdr xs with
  | some rs=>some (r::rs)
  | none=>none
 | _::_=>none
noncomputable def sTab (i:Nat) (e:Ex):St:=fun env=>match e env with
 | some (.lst ds)=>match Zdr ds with
  | some rs=>some (.nx,env.set i (.tab rs))
  | none=>none
 | _=>none
noncomputable def sFrz (i:Nat):St:=fun env=>match env[i]? with
 | some (.ow ds)=>some (.nx,env.set i (.sh (.lst ds)))
 | some (.tab rs)=>some (.nx,env.set i (.sh (.lst (rs.map .lst))))
 | some (.nw ds)=>some (.nx,env.set i (.fr (.lst ds)))
 | some (.dc kvs)=>some (.nx,env.set i (.sh (.dct kvs)))
 | some (.sh _)=>some (.nx,env)
 | some (.fr _)=>some (.nx,env)
 | _=>none
noncomputable def sApp (i:Nat) (e:Ex):St:=fun env=>match env[i]?,e env with
 | some (.ow ds),some d=>if ds.length < lim then some (.nx,env.set i (.ow (ds++[d]))) else none
 | _,_=>none
noncomputable def sNew (i:Nat) (e:Ex):St:=fun env=>match e env with
 | some (.lst ds)=>some (.nx,env.set i (.nw ds))
 | _=>none
noncomputable def ZcJ (i:Nat) (e:Ex):St:=fun env=>match env[i]?,e env with
 | some (.nw ds),some d=>if ds.length < lim then some (.nx,env.set i (.nw (ds++[d]))) else none
 | _,_=>none
noncomputable def sJk (i:Nat) (e:Ex):St:=fun env=>match e env with
 | some d=>some (.nx,env.set i (.jk d))
 | none=>none
noncomputable def tFrz (i:Nat) (t:Tx):Tx:=fun env=>match env[i]? with
 | some (.jk d)=>t (env.set i (.sh d))
 | _=>none
noncomputable def ZdG:D→Bool
 | .lst r=>r.all J2 && decide (r.length < lim)
 | _=>false
noncomputable def Zdo (i:Nat) (k:Int):St:=fun env=>match env[i]? with
 | some (.jk (.lst (r::ds)))=>if ZdG r∧ds.length < lim then some (.nx,env.set i (.jl (ds.length + 1))) else none
 | _=>none
noncomputable def sIns (i:Nat) (a e:Ex):St:=fun env=>match env[i]?,a env,e env with
 | some (.ow ds),some (.int k),some d=>if 0≤k∧k≤ds.length∧ds.length < lim then some (.nx,env.set i (.ow (ds.insertIdx k.toNat d))) else none
 | _,_,_=>none
noncomputable def ZcN (i:Nat) (a b e:Ex):St:=fun env=>match env[i]?,e env,a env,b env with
 | some (.tab rs),some d,some (.int k),some (.int l)=>match ixN rs.length k with
  | some j=>match rs[j]? with
   | some r=>match ixN r.length l with
    | some m=>some (.nx,env.set i (.tab (rs.set j (r.set m d))))
    | none=>none
   | none=>none
  | none=>none
 | _,_,_,_=>none
noncomputable def sDo (e:Ex):St:=fun env=>match e env with
 | some _=>some (.nx,env)
 | none=>none
noncomputable def sRet (e:Ex):St:=fun env=>match e env with
 | some d=>some (.rt d,env)
 | none=>none
noncomputable def ZdA (i:Nat):St:=fun env=>match env[i]? with
 | some (.tab rs)=>some (.rt (.lst (rs.map .lst)),env)
 | _=>none
noncomputable def sSeq (a b:St):St:=fun env=>match a env with
 | some (.nx,env1)=>b env1
 | r=>r
noncomputable def sIf (c:Tx) (a b:St):St:=fun env=>match c env with
 | some true=>a env
 | some false=>b env
 | none=>none
noncomputable def ZaS:St:=fun _=>none
noncomputable abbrev Tg:=D→Env→Option Env
noncomputable def gN (i:Nat):Tg:=fun d env=>some (env.set i (.sh d))
noncomputable def g2 (i j:Nat):Tg:=fun d env=>match d with
 | .tup [x,y]=>some ((env.set i (.sh x)).set j (.sh y))
 | _=>none
noncomputable def forL (g:Tg) (b:St):List D→St
 | [],env=>some (.nx,env)
 | d::ds,env=>match g d env with
  | some e0=>match b e0 with
   | some (.nx,e1)=>forL g b ds e1
   | some (.ct,e1)=>forL g b ds e1
   | some (.bk,e1)=>some (.nx,e1)
   | some (.rt r,e1)=>some (.rt r,e1)
   | none=>none
  | none=>none
noncomputable def sFor (g:Tg) (it:Lx) (b:St):St:=fun env=>match it env with
 | some ds=>forL g b ds env
 | none=>none
noncomputable def YJ (c:Tx) (b:St):Nat→St
 | 0,_=>none
 | n + 1,env=>match c env with
  | some true=>match b env with
   | some (.nx,e1)=>YJ c b n e1
   | some (.ct,e1)=>YJ c b n e1
   | some (.bk,e1)=>some (.nx,e1)
   | some (.rt r,e1)=>some (.rt r,e1)
   | none=>none
  | some false=>some (.nx,env)
  | none=>none
noncomputable def enter (n:Nat) (ds:List D):Env:=ds.map .sh++List.replicate (n - ds.length) .un
noncomputable def run (p n:Nat) (g:St) (ds:List D):Option D:=if ds.length=p then (match g (enter n ds) with
 | some (.rt d,_)=>some d
 | some (.nx,_)=>some .non
 | _=>none) else none
end PV
set_option linter.all false
set_option Elab.async false
set_option maxHeartbeats 1000000
namespace PV
open PySem (Str)
structure Agr (S:List Nat)(env env0:Env):Prop where
 len:env.length=env0.length
 out:∀ i,i ∉ S→env[i]?=env0[i]?
theorem Agr.refl (S:List Nat)(env:Env):Agr S env env:=⟨rfl,fun _ _=>rfl⟩
theorem Agr.set {S:List Nat}{a b:Env}(h:Agr S a b){i:Nat}(hi:i ∈ S)(s:Sl):Agr S (a.set i s) b :=
 ⟨by rw [List.length_set];exact h.len,fun j hj=>by rw [List.getElem?_set_ne (by rintro rfl;exact hj hi)];exact h.out j hj⟩
theorem ZdI {env:Env}{i:Nat}{s:Sl}(h:i < env.length):(env.set i s)[i]?=some s:=by rw [List.getElem?_set_self h]
theorem Jz {env:Env}{i j:Nat}{s:Sl}(h:i≠j):eVar j (env.set i s)=eVar j env:=by unfold eVar;rw [List.getElem?_set_ne h]
theorem YC {env:Env}{i:Nat}{d:D}(h:i < env.length):eVar i (env.set i (.sh d))=some d:=by unfold eVar;rw [ZdI h];rfl
theorem Agr.var {S:List Nat}{a b:Env}(h:Agr S a b){i:Nat}(hi:i ∉ S):eVar i a=eVar i b:=by unfold eVar;rw [h.out i hi]
theorem Agr.varR {S:List Nat}{a b:Env}(h:Agr S a b){i:Nat}(hi:i ∉ S):Jw i a=Jw i b:=by unfold Jw;rw [h.out i hi]
theorem Jh {a b:St}{env e1:Env}(h:a env=some (.nx,e1)):sSeq a b env=b e1:=by unfold sSeq;rw [h]
theorem ZaL {a b:St}{env e1:Env}{r:D}(h:a env=some (.rt r,e1)):sSeq a b env=some (.rt r,e1):=by unfold sSeq;rw [h]
theorem ZbW {c:Tx}{a b:St}{env:Env}(h:c env=some true):sIf c a b env=a env:=by unfold sIf;rw [h]
theorem ZM {c:Tx}{a b:St}{env:Env}(h:c env=some false):sIf c a b env=b env:=by unfold sIf;rw [h]
theorem Z5 {g:Tg}{it:Lx}{b:St}{env:Env}{ds:List D}(h:it env=some ds):sFor g it b env=forL g b ds env:=by unfold sFor;rw [h]
theorem Jy {e:Ex}{env:Env}{d:D}(h:e env=some d):sRet e env=some (.rt d,env):=by unfold sRet;rw [h]
theorem Y4 {i:Nat}{e:Ex}{env:Env}{d:D}(h:e env=some d):sSet i e env=some (.nx,env.set i (.sh d)):=by unfold sSet;rw [h]
theorem Zbr {e:Ex}{env:Env}{d:D}(h:e env=some d):sDo e env=some (.nx,env):=by unfold sDo;rw [h]
theorem YB {env:Env}:Jj env=some (.nx,env):=rfl
theorem Yo {p n:Nat}{g:St}{ds:List D}{r:D}{e1:Env}(hp:ds.length=p)(h:g (enter n ds)=some (.rt r,e1)):run p n g ds=some r:=by unfold run;rw [if_pos hp,h]
theorem ZeM {p n:Nat}{g:St}{ds:List D}{e1:Env}(hp:ds.length=p)(h:g (enter n ds)=some (.nx,e1)):run p n g ds=some .non:=by unfold run;rw [if_pos hp,h]
theorem Jp {φ:List D→Option D}{a:Ex}{env:Env}{x:D}(h:a env=some x):Yc φ [a] env=φ [x]:=by simp [Yc,evs,h]
theorem Jx {φ:List D→Option D}{a b:Ex}{env:Env}{x y:D}(h:a env=some x)(h2:b env=some y):Yc φ [a,b] env=φ [x,y]:=by simp [Yc,evs,h,h2]
theorem Zcl {φ:List D→Option D}{a b c:Ex}{env:Env}{x y z:D}(h:a env=some x)(h2:b env=some y)(h3:c env=some z):Yc φ [a,b,c] env=φ [x,y,z]:=by simp [Yc,evs,h,h2,h3]
theorem Zcx {φ:D→Option D}{a:Ex}{env:Env}{x:D}(h:a env=some x):eF1 φ a env=φ x:=by simp [eF1,h]
theorem Zaf {g:Tg}{b:St}(P:Env→Prop)(q:D→Option D):∀ (ds:List D) (env:Env),
  (∀ d ∈ ds,∀ env,P env→∃ e0,g d env=some e0∧(∀ r,q d=some r→∃ e1,b e0=some (.rt r,e1))∧(q d=none→∃ e1,b e0=some (.nx,e1)∧P e1))→P env →
  (∀ r,ds.findSome? q=some r→∃ e1,forL g b ds env=some (.rt r,e1))∧(ds.findSome? q=none→∃ e1,forL g b ds env=some (.nx,e1)∧P e1)
 | [],env,_,p=>⟨fun r h=>by simp at h,fun _=>⟨env,rfl,p⟩⟩
 | d::ds,env,h,p=>by
  obtain ⟨e0,hg,h1,h2⟩:=h d List.mem_cons_self env p
  cases hq:q d with
  | some r =>
   obtain ⟨e1,hb⟩:=h1 r hq
   refine ⟨fun r' hr=>?_,fun hn=>?_⟩
   ·rw [List.findSome?_cons,hq] at hr
    cases hr
    exact ⟨e1,by simp only [forL,hg,hb]⟩
   ·rw [List.findSome?_cons,hq] at hn
    cases hn
  | none =>
   obtain ⟨e1,hb,p1⟩:=h2 hq
   have ih:=Zaf P q ds e1 (fun d' hd'=>h d' (List.mem_cons_of_mem _ hd')) p1
   have e:forL g b (d::ds) env=forL g b ds e1:=by simp only [forL,hg,hb]
   rw [e,List.findSome?_cons,hq]
   exact ih
theorem ZbP {g : Tg}{b : St}{ds : List D}(I : Nat → Env → Prop)
    (step : ∀ k d env, ds[k]? = some d → I k env → ∃ e0 e1, g d env = some e0 ∧ b e0 = some (.nx, e1) ∧ I (k + 1) e1) (env : Env) (h0 : I 0 env) : ∃ e1, forL g b ds env = some (.nx, e1) ∧ I ds.length e1 := by
  have go : ∀ (m k : Nat) (env : Env), k + m = ds.length → I k env → ∃ e1, forL g b (ds.drop k) env = some (.nx, e1) ∧ I ds.length e1 := by
    intro m
    induction m with
    | zero => intro k env hk hI; have : k = ds.length := by omega
              subst this; rw [List.drop_length]; exact ⟨env, rfl, hI⟩
    | succ m ih =>
      intro k env hk hI
      have hlt : k < ds.length := by omega
      obtain ⟨e0, e1, h1, h2, h3⟩ := step k ds[k] env (by simp [hlt]) hI
      rw [List.drop_eq_getElem_cons hlt]
      simp only [forL, h1, h2]
      exact ih (k + 1) e1 (by omega) h3
  simpa using go ds.length 0 env (by omega) h0
theorem ZaK {i:Nat}{e:Ex}{env:Env}(F:D→D):∀ (ds:List D),(∀ d ∈ ds,e (env.set i (.sh d))=some (F d))→YW i Js e env ds=some (ds.map F)
 | [],_=>rfl
 | d::ds,h=>by
  simp only [YW,Js,h d List.mem_cons_self,ZaK F ds fun d' hd'=>h d' (List.mem_cons_of_mem _ hd'),List.map_cons]
theorem Zda {i:Nat}{c:Tx}{e:Ex}{env:Env}(p:D→Bool)(F:D→D):∀ (ds:List D),(∀ d ∈ ds,c (env.set i (.sh d))=some (p d))→(∀ d ∈ ds,p d=true→e (env.set i (.sh d))=some (F d)) →
  YW i c e env ds=some ((ds.filter p).map F)
 | [],_,_=>rfl
 | d::ds,h,k=>by
  have ih:=Zda p F ds (fun d' hd'=>h d' (List.mem_cons_of_mem _ hd')) (fun d' hd'=>k d' (List.mem_cons_of_mem _ hd'))
  cases hp:p d with
  | true=>simp only [YW,h d List.mem_cons_self,hp,k d List.mem_cons_self hp,ih,List.filter_cons_of_pos,List.map_cons]
  | false=>simp [YW,h d List.mem_cons_self,hp,ih]
theorem Zej {p:D→Bool}:∀ ds:List D,allB (ds.map fun d=>.bl (p d))=some (ds.all p)
 | []=>rfl
 | d::ds=>by simp only [List.map_cons,allB,Zej ds,List.all_cons]
theorem Jm (lo:Int)(n:Nat):(Yh lo n).length=n:=by simp [Yh]
theorem Ym {n:Nat}{d:D}(h:d ∈ Yh 0 n):∃ k:Nat,k < n∧d=.int k:=by
 simp only [Yh,List.mem_map,List.mem_range] at h
 obtain ⟨k,hk,rfl⟩:=h
 exact ⟨k,hk,by simp⟩
theorem JM {lo:Int}{n k:Nat}(h:k < n):(Yh lo n)[k]?=some (.int (lo + k)):=by simp [Yh,h]
theorem ZD:lim=100000:=rfl
theorem JV {e:Ex}{env:Env}{n:Nat}(h:e env=some (.int n))(hn:n≤1000):iRng e env=some (Yh 0 n):=by
 unfold iRng
 simp only [h]
 rw [if_pos ⟨by rw [ZD];omega,by rw [ZD];omega⟩]
 simp
noncomputable def rowD (r:List Int):D:=.lst (r.map .int)
noncomputable def tabD (T:List (List Int)):D:=.lst (T.map rowD)
structure Tab (T:List (List Int))(n:Nat):Prop where
 len:T.length=n
 row:∀ r ∈ T,r.length=n
 ent:∀ r ∈ T,∀ x ∈ r,0≤x∧x < n
 pos:1≤n
 top:n≤12
noncomputable def tg (T:List (List Int)) (a b:Int):Int:=(T.getD a.toNat []).getD b.toNat 0
theorem Zh1 {xs:List D}{j:Nat}{d:D}(h:xs[j]?=some d):atD xs (j:Int)=some d:=by
 have hj:j < xs.length:=(List.getElem?_eq_some_iff.mp h).1
 unfold atD ixN
 rw [if_pos (by omega),if_pos (by omega)]
 simpa using h
theorem Zft {r:List Int}{b:Int}(h0:0≤b)(h1:b < r.length):fIx (rowD r) (.int b)=some (.int (r.getD b.toNat 0)):=by
 obtain ⟨k,rfl⟩:=Int.eq_ofNat_of_zero_le h0
 have hk:k < r.length:=by omega
 show atD _ _=_
 rw [Zh1 (d:=.int (r.getD k 0))]
 ·simp
 ·simp [hk,List.getD]
theorem Zlj {T:List (List Int)}{a:Int}(h0:0≤a)(h1:a < T.length):fIx (tabD T) (.int a)=some (rowD (T.getD a.toNat [])):=by
 obtain ⟨k,rfl⟩:=Int.eq_ofNat_of_zero_le h0
 have hk:k < T.length:=by omega
 show atD _ _=_
 rw [Zh1 (d:=rowD (T.getD k []))]
 ·simp
 ·simp [hk,List.getD]
theorem Tab.Zdh {T:List (List Int)}{n:Nat}(h:Tab T n){a:Int}(h0:0≤a)(h1:a < n):(T.getD a.toNat []).length=n:=by
 have hk:a.toNat < T.length:=by have:=h.len;omega
 rw [List.getD_eq_getElem?_getD,List.getElem?_eq_getElem hk]
 exact h.row _ (List.getElem_mem hk)
theorem Tab.bound {T:List (List Int)}{n:Nat}(h:Tab T n){a b:Int}(h0:0≤a)(h1:a < n)(h2:0≤b)(h3:b < n):0≤tg T a b∧tg T a b < n:=by
 have hk:a.toNat < T.length:=by have:=h.len;omega
 have hl:=h.Zdh h0 h1
 have hb:b.toNat < (T.getD a.toNat []).length:=by omega
 unfold tg
 rw [List.getD_eq_getElem?_getD (l:=T.getD a.toNat []),List.getElem?_eq_getElem hb]
 refine h.ent _ ?_ _ (List.getElem_mem hb)
 rw [List.getD_eq_getElem?_getD,List.getElem?_eq_getElem hk]
 exact List.getElem_mem hk
theorem ix2 {T:List (List Int)}{n:Nat}(h:Tab T n){env:Env}{e0 e1 e2:Ex}{a b:Int}(k0:e0 env=some (tabD T))(k1:e1 env=some (.int a))(k2:e2 env=some (.int b))
  (h0:0≤a) (h1:a < n) (h2:0≤b) (h3:b < n):eIx (eIx e0 e1) e2 env=some (.int (tg T a b)):=by
 have hl:=h.Zdh h0 h1
 unfold eIx eF2
 simp only [k0,k1,k2,Zlj h0 (show a < T.length by rw [h.len];exact h1)]
 rw [Zft h2 (by rw [hl];exact h3)]
 rfl
theorem Zeu (T:List (List Int)):fLen (tabD T)=some (.int T.length):=by simp [tabD,fLen]
theorem Zeo (r:List Int):fLen (rowD r)=some (.int r.length):=by simp [rowD,fLen]
mutual
theorem ZbR:∀ d:D,eqD d d=true
 | .non=>by simp [eqD]
 | .bl _=>by simp [eqD]
 | .int _=>by simp [eqD]
 | .str _=>by simp [eqD]
 | .lst xs=>by simp only [eqD];exact Zc1 xs
 | .tup xs=>by simp only [eqD];exact Zc1 xs
 | .dct xs=>by simp [eqD]
theorem Zc1:∀ ds:List D,eqDs ds ds=true
 | []=>by simp [eqDs]
 | d::ds=>by simp only [eqDs,ZbR d,Zc1 ds,Bool.and_self]
end
theorem ZfK:∀ xs:List Int,D.deps (xs.map .int)=0
 | []=>by simp [D.deps]
 | x::xs=>by simp [D.deps,D.dep,ZfK xs]
theorem ZlA (r:List Int):(rowD r).dep=1:=by simp [rowD,D.dep,ZfK]
theorem ZfM:∀ T:List (List Int),D.deps (T.map rowD)≤1
 | []=>by simp [D.deps]
 | r::T=>by simp only [List.map_cons,D.deps,ZlA];have:=ZfM T;omega
theorem ZbI (T:List (List Int)):(tabD T).dep≤2:=by have:=ZfM T;simp only [tabD,D.dep];omega
theorem ZbK {a b:Ex}{env:Env}{i j:Int}(h1:a env=some (.int i))(h2:b env=some (.int j)):tEq a b env=some (i == j):=by
 simp [tEq,h1,h2,D.dep,eqD]
theorem Zff {a b:Ex}{env:Env}{i j:Int}(h1:a env=some (.int i))(h2:b env=some (.int j)):tNe a b env=some (!(i == j)):=by
 simp [tNe,h1,h2,D.dep,eqD]
theorem Zk9 {σ:List Int}{v:Int}(h:σ.Nodup):(addv σ v).Nodup:=by
 unfold addv
 split
 ·exact h
 ·rename_i hv
  rw [List.nodup_append]
  exact ⟨h,by simp,fun a ha b hb=>by simp at hb;subst hb;rintro rfl;exact hv ha⟩
theorem ZjO {σ:List Int}{v x:Int}:x ∈ addv σ v↔x ∈ σ∨x=v:=by
 unfold addv
 split
 ·rename_i hv
  exact ⟨.inl,fun h=>h.elim id fun e=>e ▸ hv⟩
 ·simp
theorem ZhA:∀ (vs σ:List Int),σ.Nodup→(vs.foldl addv σ).Nodup∧∀ x,x ∈ vs.foldl addv σ↔x ∈ σ∨x ∈ vs
 | [],σ,h=>⟨h,fun x=>by simp⟩
 | v::vs,σ,h=>by
  have ih:=ZhA vs (addv σ v) (Zk9 h)
  refine ⟨ih.1,fun x=>?_⟩
  rw [List.foldl_cons,ih.2 x,ZjO,List.mem_cons,or_assoc]
theorem ZjP {vs:List Int}{x:Int}:x ∈ seen vs↔x ∈ vs:=by
 have:=(ZhA vs [] List.nodup_nil).2 x
 unfold seen
 rw [this];simp
theorem Zi7 (vs:List Int)(v:Int):seen (vs++[v])=addv (seen vs) v:=by simp [seen]
theorem Zkh (σ:List Int)(v:Int):(addv σ v).length≤σ.length + 1:=by unfold addv;split <;> simp
theorem Zeq (vs:List Int):(seen vs).length≤vs.length:=by
 have go:∀ (vs σ:List Int),(vs.foldl addv σ).length≤σ.length + vs.length:=by
  intro vs
  induction vs with
  | nil=>intro σ;simp
  | cons v vs ih=>intro σ;have:=ih (addv σ v);have:=Zkh σ v;simp only [List.foldl_cons,List.length_cons];omega
 simpa [seen] using go vs []
theorem ints_map (r:List Int):JC (r.map .int)=some r:=by
 induction r with
 | nil=>rfl
 | cons x r ih=>simp [JC,ih]
noncomputable def leL (x y:List Int):Prop:=ltL y x=false
end PV
set_option linter.all false
set_option Elab.async false
set_option maxHeartbeats 1000000
namespace PV
open PySem (Str)
noncomputable def ev (e:Ex) (env:Env) (P:D→Prop):Prop:=∃ d,e env=some d∧P d
noncomputable def evI (e:Ex) (env:Env) (P:Int→Prop):Prop:=∃ i,e env=some (.int i)∧P i
noncomputable def evR (e:Ex) (env:Env) (P:List Int→Prop):Prop:=∃ r,e env=some (rowD r)∧P r
noncomputable def evT (e:Ex) (env:Env) (P:List (List Int)→Prop):Prop:=∃ T,e env=some (tabD T)∧P T
noncomputable def tv (t:Tx) (env:Env) (P:Bool→Prop):Prop:=∃ k,t env=some k∧P k
noncomputable def wp (s:St) (env:Env) (Q:Out→Env→Prop):Prop:=∃ o e,s env=some (o,e)∧Q o e
theorem wp.mono {s:St}{env:Env}{Q Q':Out→Env→Prop}(h:wp s env Q)(k:∀ o e,Q o e→Q' o e):wp s env Q':=let ⟨o,e,a,b⟩:=h;⟨o,e,a,k o e b⟩
theorem tv.mono {t:Tx}{env:Env}{P P':Bool→Prop}(h:tv t env P)(k:∀ d,P d→P' d):tv t env P':=let ⟨d,a,b⟩:=h;⟨d,a,k d b⟩
theorem evI.ev {e:Ex}{env:Env}{P:D→Prop}(h:evI e env fun i=>P (.int i)):ev e env P:=let ⟨i,a,b⟩:=h;⟨_,a,b⟩
theorem evR.ev {e:Ex}{env:Env}{P:D→Prop}(h:evR e env fun r=>P (rowD r)):ev e env P:=let ⟨i,a,b⟩:=h;⟨_,a,b⟩
theorem ev.eq {e:Ex}{env:Env}{d:D}(h:ev e env (·=d)):e env=some d:=let ⟨x,a,b⟩:=h;b ▸ a
theorem evI.eq {e:Ex}{env:Env}{i:Int}(h:evI e env (·=i)):e env=some (.int i):=let ⟨x,a,b⟩:=h;b ▸ a
theorem tv.eq {e:Tx}{env:Env}{d:Bool}(h:tv e env (·=d)):e env=some d:=let ⟨x,a,b⟩:=h;b ▸ a
theorem Yg {e:Ex}{env:Env}{d:D}{P:D→Prop}(h:e env=some d)(k:P d):ev e env P:=⟨d,h,k⟩
theorem Zd {e:Ex}{env:Env}{d:Int}{P:Int→Prop}(h:e env=some (.int d))(k:P d):evI e env P:=⟨d,h,k⟩
theorem Zi1 {e:Ex}{env:Env}{d:List Int}{P:List Int→Prop}(h:e env=some (rowD d))(k:P d):evR e env P:=⟨d,h,k⟩
theorem ZeY {e:Ex}{env:Env}{d:List (List Int)}{P:List (List Int)→Prop}(h:e env=some (tabD d))(k:P d):evT e env P:=⟨d,h,k⟩
theorem Zf2 {e:Tx}{env:Env}{d:Bool}{P:Bool→Prop}(h:e env=some d)(k:P d):tv e env P:=⟨d,h,k⟩
theorem ZbO {a b:Ex}{env:Env}{P:Int→Prop}(h:evI a env fun i=>evI b env fun j=>P (i + j)):evI (eAdd a b) env P:=by
 obtain ⟨i,h1,j,h2,p⟩:=h;exact ⟨_,by simp [eAdd,eF2,h1,h2,fAdd],p⟩
theorem ZbL {a b:Ex}{env:Env}{P:Int→Prop}(h:evI a env fun i=>evI b env fun j=>((-18446744073709551616 < i∧i < 18446744073709551616)∨(-18446744073709551616 < j∧j < 18446744073709551616))∧P (i * j)):evI (e2I iMul a b) env P:=by
 obtain ⟨i,h1,j,h2,q,p⟩:=h;exact ⟨_,by simp only [e2I,h1,h2,iMul,if_pos q],p⟩
theorem J9 {a b:Ex}{env:Env}{P:Int→Prop}(h:evI a env fun i=>evI b env fun j=>0 < j∧P (i % j)):evI (e2I iMod a b) env P:=by
 obtain ⟨i,h1,j,h2,q,p⟩:=h;exact ⟨_,by simp only [e2I,h1,h2,iMod,if_pos q],p⟩
theorem Zdu {a b:Ex}{env:Env}{P:Int→Prop}(h:evI a env fun i=>evI b env fun j=>(0 < j∧j < 1073741824)∧P (i / j)):evI (e2I iDiv a b) env P:=by
 obtain ⟨i,h1,j,h2,q,p⟩:=h;exact ⟨_,by simp only [e2I,h1,h2,iDiv,if_pos q],p⟩
theorem ZjU {a:Ex}{env:Env}{P:Int→Prop}(h:evR a env fun T=>P T.length):evI (eF1 fLen a) env P:=by
 obtain ⟨T,h1,p⟩:=h;exact ⟨_,by simp [eF1,h1,Zeo],p⟩
theorem Zbj {e0 e1 e2:Ex}{env:Env}{P:Int→Prop}{T:List (List Int)}{n:Nat}(hT:Tab T n)(h0:e0 env=some (tabD T))(h:evI e1 env fun a=>evI e2 env fun b=>(0≤a∧a < n)∧(0≤b∧b < n)∧P (tg T a b)):evI (eIx (eIx e0 e1) e2) env P:=by
 obtain ⟨a,h1,b,h2,⟨a0,a1⟩,⟨b0,b1⟩,p⟩:=h;exact ⟨_,ix2 hT h0 h1 h2 a0 a1 b0 b1,p⟩
theorem Zgc {φ:List D→Option D}{a:Ex}{env:Env}{P:D→Prop}(h:ev a env fun x=>∃ d,φ [x]=some d∧P d):ev (Yc φ [a]) env P:=by
 obtain ⟨x,h1,d,h2,p⟩:=h;exact ⟨d,(Jp h1).trans h2,p⟩
theorem Zkb {φ:List D→Option D}{a b:Ex}{env:Env}{P:D→Prop}(h:ev a env fun x=>ev b env fun y=>∃ d,φ [x,y]=some d∧P d):ev (Yc φ [a,b]) env P:=by
 obtain ⟨x,h1,y,h2,d,h3,p⟩:=h;exact ⟨d,(Jx h1 h2).trans h3,p⟩
theorem ZkQ {a:Ex}{env:Env}{P:D→Prop}(h:ev a env fun x=>P (.lst [x])):ev (eLst [a]) env P:=by
 obtain ⟨x,h1,p⟩:=h;exact ⟨_,by simp [eLst,evs,h1],p⟩
theorem ZlD {a b:Ex}{env:Env}{P:D→Prop}(h:ev a env fun x=>ev b env fun y=>P (.lst [x,y])):ev (eLst [a,b]) env P:=by
 obtain ⟨x,h1,y,h2,p⟩:=h;exact ⟨_,by simp [eLst,evs,h1,h2],p⟩
theorem ev_B {t:Tx}{env:Env}{P:D→Prop}(h:tv t env fun k=>P (.bl k)):ev (eB t) env P:=by
 obtain ⟨k,h1,p⟩:=h;exact ⟨_,by simp only [eB,h1],p⟩
theorem Zno {a b:Ex}{env:Env}{P:Bool→Prop}(h:evI a env fun i=>evI b env fun j=>P (decide (i < j))):tv (t2I pLt a b) env P:=by
 obtain ⟨i,h1,j,h2,p⟩:=h;exact ⟨_,by simp [t2I,h1,h2,pLt],p⟩
theorem ZcL {a b:Ex}{env:Env}{P:Bool→Prop}(h:evI a env fun i=>evI b env fun j=>P (decide (j < i))):tv (t2I pGt a b) env P:=by
 obtain ⟨i,h1,j,h2,p⟩:=h;exact ⟨_,by simp [t2I,h1,h2,pGt],p⟩
theorem Zma {a b:Ex}{env:Env}{P:Bool→Prop}(h:evI a env fun i=>evI b env fun j=>P (decide (i=j))):tv (tEq a b) env P:=by
 obtain ⟨i,h1,j,h2,p⟩:=h;exact ⟨_,(ZbK h1 h2).trans (by congr 1),p⟩
theorem Zbs {a b:Ex}{env:Env}{P:Bool→Prop}(h:evI a env fun i=>evI b env fun j=>P (decide (i≠j))):tv (tNe a b) env P:=by
 obtain ⟨i,h1,j,h2,p⟩:=h
 exact ⟨_,(Zff h1 h2).trans (by congr 1;by_cases e:i=j <;> simp [e]),p⟩
theorem ZgT:∀ (r q:List Int),eqDs (r.map .int) (q.map .int)=decide (r=q)
 | [],[]=>by simp [eqDs]
 | [],_::_=>by simp [eqDs]
 | _::_,[]=>by simp [eqDs]
 | x::r,y::q=>by
  simp only [List.map_cons,eqDs,eqD,ZgT r q]
  by_cases h1:x=y <;> by_cases h2:r=q <;> simp [h1,h2]
theorem Zln (r q:List Int):eqD (rowD r) (rowD q)=decide (r=q):=by simp only [rowD,eqD,ZgT]
theorem ZfJ:∀ (r q:List (List Int)),eqDs (r.map rowD) (q.map rowD)=decide (r=q)
 | [],[]=>by simp [eqDs]
 | [],_::_=>by simp [eqDs]
 | _::_,[]=>by simp [eqDs]
 | x::r,y::q=>by
  simp only [List.map_cons,eqDs,Zln,ZfJ r q]
  by_cases h1:x=y <;> by_cases h2:r=q <;> simp [h1,h2]
theorem ZhG (r q:List (List Int)):eqD (tabD r) (tabD q)=decide (r=q):=by simp only [tabD,eqD,ZfJ]
theorem Zmk {a b:Ex}{env:Env}{P:Bool→Prop}(h:evT a env fun i=>evT b env fun j=>P (decide (i=j))):tv (tEq a b) env P:=by
 obtain ⟨i,h1,j,h2,p⟩:=h
 exact ⟨_,by have:=ZbI i;have:=ZbI j;simp only [tEq,h1,h2,ZhG];rw [if_pos (by omega)],p⟩
theorem Zmc {a b:Ex}{env:Env}{P:Bool→Prop}(h:evT a env fun i=>evT b env fun j=>P (decide (i≠j))):tv (tNe a b) env P:=by
 obtain ⟨i,h1,j,h2,p⟩:=h
 exact ⟨_,by have:=ZbI i;have:=ZbI j;simp only [tNe,h1,h2,ZhG];rw [if_pos (by omega)];simp,p⟩
theorem ZlY {a:Ex}{env:Env}{P:Bool→Prop}(h:ev a env fun d=>P d.isN):tv (tIsN a) env P:=by
 obtain ⟨i,h1,p⟩:=h;exact ⟨_,by simp only [tIsN,h1],p⟩
theorem ZbZ {a:Ex}{env:Env}{P:Bool→Prop}(h:ev a env fun d=>P (!d.isN)):tv (tNoN a) env P:=by
 obtain ⟨i,h1,p⟩:=h;exact ⟨_,by simp only [tNoN,h1],p⟩
theorem ZeH {a:Tx}{env:Env}{P:Bool→Prop}(h:tv a env fun d=>P (!d)):tv (tNot a) env P:=by
 obtain ⟨i,h1,p⟩:=h;exact ⟨_,by simp only [tNot,h1],p⟩
theorem Zgg {a b:Tx}{env:Env}{P:Bool→Prop}(h:tv a env fun d=>(d=true→tv b env P)∧(d=false→P false)):tv (tAnd a b) env P:=by
 obtain ⟨i,h1,p,q⟩:=h
 cases i with
 | true=>obtain ⟨j,h2,p⟩:=p rfl;exact ⟨j,by simp only [tAnd,h1,h2],p⟩
 | false=>exact ⟨false,by simp only [tAnd,h1],q rfl⟩
theorem Zf0 {a b:Tx}{env:Env}{P:Bool→Prop}(h:tv a env fun d=>(d=true→P true)∧(d=false→tv b env P)):tv (tOr a b) env P:=by
 obtain ⟨i,h1,p,q⟩:=h
 cases i with
 | false=>obtain ⟨j,h2,p⟩:=q rfl;exact ⟨j,by simp only [tOr,h1,h2],p⟩
 | true=>exact ⟨true,by simp only [tOr,h1],p rfl⟩
theorem tv_B {a:Ex}{env:Env}{P:Bool→Prop}(h:ev a env fun d=>∃ k,d=.bl k∧P k):tv (tB a) env P:=by
 obtain ⟨_,h1,k,rfl,p⟩:=h;exact ⟨_,by simp only [tB,h1],p⟩
theorem Zcr {env:Env}{Q:Out→Env→Prop}(h:Q .nx env):wp Jj env Q:=⟨_,_,rfl,h⟩
theorem Zq {i:Nat}{e:Ex}{env:Env}{Q:Out→Env→Prop}(h:ev e env fun d=>Q .nx (env.set i (.sh d))):wp (sSet i e) env Q:=by
 obtain ⟨d,h1,p⟩:=h;exact ⟨_,_,by simp only [sSet,h1],p⟩
theorem Zlh {i:Nat}{e:Ex}{env:Env}{Q:Out→Env→Prop}(h:ev e env fun d=>Q .nx (env.set i (.fr d))):wp (ZeG i e) env Q:=by
 obtain ⟨d,h1,p⟩:=h;exact ⟨_,_,by simp only [ZeG,h1],p⟩
theorem ZgW {i:Nat}{e:Ex}{env:Env}{Q:Out→Env→Prop}(h:ev e env fun d=>∃ ds,d=.lst ds∧Q .nx (env.set i (.ow ds))):wp (sOwn i e) env Q:=by
 obtain ⟨_,h1,ds,rfl,p⟩:=h;exact ⟨_,_,by simp only [sOwn,h1],p⟩
theorem Zg3 {i:Nat}{e:Ex}{env:Env}{Q:Out→Env→Prop}{ds:List D}(hi:env[i]?=some (.ow ds))(h:ev e env fun d=>ds.length < lim∧Q .nx (env.set i (.ow (ds++[d])))):wp (sApp i e) env Q:=by
 obtain ⟨d,h1,q,p⟩:=h;exact ⟨_,_,by simp only [sApp,hi,h1,if_pos q],p⟩
theorem ZgI {i:Nat}{env:Env}{Q:Out→Env→Prop}{ds:List D}(hi:env[i]?=some (.ow ds))(h:Q .nx (env.set i (.sh (.lst ds)))):wp (sFrz i) env Q:=⟨_,_,by simp only [sFrz,hi],h⟩
theorem ZhC {i:Nat}{env:Env}{Q:Out→Env→Prop}{d:D}(hi:env[i]?=some (.sh d))(h:Q .nx env):wp (sFrz i) env Q:=⟨_,_,by simp only [sFrz,hi],h⟩
theorem Zdz {e:Ex}{env:Env}{Q:Out→Env→Prop}(h:ev e env fun _=>Q .nx env):wp (sDo e) env Q:=by
 obtain ⟨d,h1,p⟩:=h;exact ⟨_,_,by simp only [sDo,h1],p⟩
theorem Yz {e:Ex}{env:Env}{Q:Out→Env→Prop}(h:ev e env fun d=>Q (.rt d) env):wp (sRet e) env Q:=by
 obtain ⟨d,h1,p⟩:=h;exact ⟨_,_,by simp only [sRet,h1],p⟩
noncomputable def thn (b:St) (Q:Out→Env→Prop):Out→Env→Prop
 | .nx,e=>wp b e Q
 | .bk,e=>Q .bk e
 | .ct,e=>Q .ct e
 | .rt d,e=>Q (.rt d) e
theorem wp_seq {a b:St}{env:Env}{Q:Out→Env→Prop}(h:wp a env (thn b Q)):wp (sSeq a b) env Q:=by
 obtain ⟨o,e,h1,p⟩:=h
 cases o with
 | nx=>obtain ⟨o,e',h2,p⟩:=p;exact ⟨o,e',by simp only [sSeq,h1,h2],p⟩
 | bk=>exact ⟨_,_,by simp only [sSeq,h1],p⟩
 | ct=>exact ⟨_,_,by simp only [sSeq,h1],p⟩
 | rt d=>exact ⟨_,_,by simp only [sSeq,h1],p⟩
theorem ZbC {c:Tx}{a b:St}{env:Env}{Q:Out→Env→Prop}(h:tv c env fun k=>(k=true→wp a env Q)∧(k=false→wp b env Q)):wp (sIf c a b) env Q:=by
 obtain ⟨k,h1,p,q⟩:=h
 cases k with
 | true=>obtain ⟨o,e,h2,p⟩:=p rfl;exact ⟨o,e,by simp only [sIf,h1,h2],p⟩
 | false=>obtain ⟨o,e,h2,p⟩:=q rfl;exact ⟨o,e,by simp only [sIf,h1,h2],p⟩
theorem Zaz {c:Tx}{a:St}{env:Env}{Q:Out→Env→Prop}(h:tv c env (·=false))(k:Q .nx env):wp (sIf c a Jj) env Q :=
 ZbC (tv.mono h fun d hd=>⟨fun e=>(by rw [hd] at e;cases e),fun _=>Zcr k⟩)
noncomputable def lps (I:Env→Prop) (Q:Out→Env→Prop):Out→Env→Prop
 | .nx,e=>I e
 | .ct,e=>I e
 | .bk,e=>Q .nx e
 | .rt d,e=>Q (.rt d) e
theorem ZgM {g : Tg}{it : Lx}{b : St}{env : Env}{Q : Out → Env → Prop}{ds : List D}(I : Nat → Env → Prop)(hit : it env = some ds)(h0 : I 0 env)
    (step : ∀ k d e, ds[k]? = some d → I k e → ∃ e0, g d e = some e0 ∧ wp b e0 (lps (I (k + 1)) Q)) (h1 : ∀ e, I ds.length e → Q .nx e) : wp (sFor g it b) env Q := by
  have go : ∀ (m k : Nat) (env : Env), k + m = ds.length → I k env → ∃ o e, forL g b (ds.drop k) env = some (o, e) ∧ Q o e := by
    intro m
    induction m with
    | zero => intro k env hk hI; have : k = ds.length := by omega
              subst this; rw [List.drop_length]; exact ⟨_, env, rfl, h1 _ hI⟩
    | succ m ih =>
      intro k env hk hI
      have hlt : k < ds.length := by omega
      obtain ⟨e0, hg, o, e1, hb, p⟩ := step k ds[k] env (by simp [hlt]) hI
      rw [List.drop_eq_getElem_cons hlt]
      cases o with
      | nx => obtain ⟨o, e, h2, p⟩ := ih (k + 1) e1 (by omega) p; exact ⟨o, e, by simp only [forL, hg, hb, h2], p⟩
      | ct => obtain ⟨o, e, h2, p⟩ := ih (k + 1) e1 (by omega) p; exact ⟨o, e, by simp only [forL, hg, hb, h2], p⟩
      | bk => exact ⟨_, _, by simp only [forL, hg, hb], p⟩
      | rt d => exact ⟨_, _, by simp only [forL, hg, hb], p⟩
  obtain ⟨o, e, h2, p⟩ := go ds.length 0 env (by omega) h0
  exact ⟨o, e, by simp only [sFor, hit]; simpa using h2, p⟩
theorem Zds {i n:Nat}{it:Lx}{b:St}{env:Env}{Q:Out→Env→Prop}(I:Nat→Env→Prop)(hit:it env=some (Yh 0 n))(h0:I 0 env)
  (step:∀ (k:Nat) e,k < n→I k e→wp b (e.set i (.sh (.int k))) (lps (I (k + 1)) Q)) (h1:∀ e,I n e→Q .nx e):wp (sFor (gN i) it b) env Q:=by
 refine ZgM I hit h0 (fun k d e hd hI=>?_) (fun e hI=>h1 e (by rwa [Jm] at hI))
 have hk:k < n:=by have:=(List.getElem?_eq_some_iff.mp hd).1;rwa [Jm] at this
 rw [JM hk] at hd
 injection hd with hd
 subst hd
 refine ⟨_,rfl,?_⟩
 have:=step k e hk hI
 rwa [show (0:Int) + (k:Nat)=k by omega]
theorem ZfC {i:Nat}{it:Lx}{r:List Int}{b:St}{env:Env}{Q:Out→Env→Prop}(I:Nat→Env→Prop)(hit:it env=some (r.map .int))(h0:I 0 env)
  (step:∀ (k:Nat) e x,r[k]?=some x→I k e→wp b (e.set i (.sh (.int x))) (lps (I (k + 1)) Q)) (h1:∀ e,I r.length e→Q .nx e):wp (sFor (gN i) it b) env Q:=by
 refine ZgM I hit h0 (fun k d e hd hI=>?_) (fun e hI=>h1 e (by rwa [List.length_map] at hI))
 rw [List.getElem?_map,Option.map_eq_some_iff] at hd
 obtain ⟨x,hx,rfl⟩:=hd
 exact ⟨_,rfl,step k e x hx hI⟩
theorem Zi6 {i:Nat}{it:Lx}{r:List (List Int)}{b:St}{env:Env}{Q:Out→Env→Prop}(I:Nat→Env→Prop)(hit:it env=some (r.map rowD))(h0:I 0 env)
  (step:∀ (k:Nat) e x,r[k]?=some x→I k e→wp b (e.set i (.sh (rowD x))) (lps (I (k + 1)) Q)) (h1:∀ e,I r.length e→Q .nx e):wp (sFor (gN i) it b) env Q:=by
 refine ZgM I hit h0 (fun k d e hd hI=>?_) (fun e hI=>h1 e (by rwa [List.length_map] at hI))
 rw [List.getElem?_map,Option.map_eq_some_iff] at hd
 obtain ⟨x,hx,rfl⟩:=hd
 exact ⟨_,rfl,step k e x hx hI⟩
theorem ZcK {c:Tx}{b:St}{env:Env}{Q:Out→Env→Prop}{m N:Nat}(I:Nat→Env→Prop)(hN:N < m)(h0:I 0 env)
  (step:∀ k e,I k e→tv c e fun t=>(t=true→k < N∧wp b e (lps (I (k + 1)) Q))∧(t=false→Q .nx e)):wp (YJ c b m) env Q:=by
 have go:∀ (m k:Nat) (env:Env),N < k + m→k≤N→I k env→∃ o e,YJ c b m env=some (o,e)∧Q o e:=by
  intro m
  induction m with
  | zero=>intro k env h1 h2;omega
  | succ m ih =>
   intro k env h1 h2 hI
   obtain ⟨t,ht,p,q⟩:=step k env hI
   cases t with
   | false=>exact ⟨_,_,by simp only [YJ,ht],q rfl⟩
   | true =>
    obtain ⟨hk,o,e1,hb,p⟩:=p rfl
    cases o with
    | nx=>obtain ⟨o,e,h3,p⟩:=ih (k + 1) e1 (by omega) (by omega) p;exact ⟨o,e,by simp only [YJ,ht,hb,h3],p⟩
    | ct=>obtain ⟨o,e,h3,p⟩:=ih (k + 1) e1 (by omega) (by omega) p;exact ⟨o,e,by simp only [YJ,ht,hb,h3],p⟩
    | bk=>exact ⟨_,_,by simp only [YJ,ht,hb],p⟩
    | rt d=>exact ⟨_,_,by simp only [YJ,ht,hb],p⟩
 exact go m 0 env (by omega) (by omega) h0
noncomputable def ends (d:D):Out→Env→Prop
 | .rt x,_=>x=d
 | .nx,_=>d=.non
 | _,_=>False
theorem Zbq {p n:Nat}{g:St}{ds:List D}{d:D}(hp:ds.length=p)(h:wp g (enter n ds) (ends d)):run p n g ds=some d:=by
 obtain ⟨o,e,h1,q⟩:=h
 cases o with
 | rt x=>have:x=d:=q;subst this;exact Yo hp h1
 | nx=>have:d=.non:=q;subst this;exact ZeM hp h1
 | bk=>cases q
 | ct=>cases q
theorem ZgG {i:Nat}{it:Lx}{c:Tx}{e:Ex}{env:Env}{P:D→Prop}{ds:List D}(p:D→Bool)(F:D→D)(hit:it env=some ds)(hl:ds.length≤lim)
  (hc:∀ d ∈ ds,tv c (env.set i (.sh d)) (·=p d)) (he:∀ d ∈ ds,p d=true→ev e (env.set i (.sh d)) (·=F d)) (h:P (.lst ((ds.filter p).map F))):ev (Yk i it c e) env P :=
 ⟨_,by simp only [Yk,hit,if_pos hl,Zda p F ds (fun d hd=>(hc d hd).eq) fun d hd hp=>(he d hd hp).eq],h⟩
theorem Znb {i:Nat}{it:Lx}{c:Tx}{e:Ex}{env:Env}{P:List Int→Prop}{r:List Int}(p:Int→Bool)(F:Int→Int)(hit:it env=some (r.map .int))(hl:r.length≤lim)
  (hc:∀ x ∈ r,tv c (env.set i (.sh (.int x))) (·=p x)) (he:∀ x ∈ r,p x=true→evI e (env.set i (.sh (.int x))) (·=F x)) (h:P ((r.filter p).map F)):evR (Yk i it c e) env P:=by
 have key:=ZgG (P:=(·=rowD ((r.filter p).map F))) (c:=c) (e:=e) (i:=i) (fun d=>match d with | .int x=>p x | _=>false) (fun d=>match d with | .int x=>.int (F x) | _=>.non) hit (by rw [List.length_map];exact hl)
  (fun d hd=>by obtain ⟨x,hx,rfl⟩:=List.mem_map.mp hd;exact hc x hx)
  (fun d hd hp=>by obtain ⟨x,hx,rfl⟩:=List.mem_map.mp hd;exact evI.ev (let ⟨y,h1,h2⟩:=he x hx hp;⟨y,h1,congrArg D.int h2⟩))
  (by simp [rowD,List.filter_map,Function.comp_def])
 exact ⟨_,key.eq,h⟩
theorem ZgU {i:Nat}{it:Lx}{e:Ex}{env:Env}{P:List Int→Prop}{r:List Int}(F:Int→Int)(hit:it env=some (r.map .int))(hl:r.length≤lim)
  (he:∀ x ∈ r,evI e (env.set i (.sh (.int x))) (·=F x)) (h:P (r.map F)):evR (Yk i it Js e) env P :=
 Znb (fun _=>true) F hit hl (fun _ _=>⟨_,rfl,rfl⟩) (fun x hx _=>he x hx) (by rw [List.filter_eq_self.mpr (fun _ _=>rfl)];exact h)
noncomputable def upto (n:Nat):List Int:=(List.range n).map Int.ofNat
theorem ZlW (n:Nat):(upto n).map D.int=Yh 0 n:=by simp [upto,Yh,Function.comp_def]
theorem JB {n:Nat}{x:Int}:x ∈ upto n↔0≤x∧x < n:=by
 simp only [upto,List.mem_map,List.mem_range]
 exact ⟨fun ⟨k,hk,e⟩=>by subst e;simp only [Int.ofNat_eq_natCast];omega,fun ⟨h0,h1⟩=>⟨x.toNat,by omega,by simp only [Int.ofNat_eq_natCast];omega⟩⟩
theorem Zy (n:Nat):(upto n).length=n:=by simp [upto]
theorem ZhE (n:Nat):(upto n).Nodup:=by
 unfold upto
 exact List.Pairwise.map _ (fun a b (h:a≠b) (e:Int.ofNat a=Int.ofNat b)=>h (by simp only [Int.ofNat_eq_natCast] at e;omega)) List.nodup_range
theorem Zfy {e:Ex}{env:Env}{n:Nat}(h:e env=some (.int n))(hn:n≤1000):iRng e env=some ((upto n).map .int):=by rw [ZlW];exact JV h hn
theorem Zlg {i:Nat}{e:Ex}{env:Env}{Q:Out→Env→Prop}{r:List Int}(hi:env[i]?=some (.ow (r.map .int)))(h:evI e env fun x=>r.length < 1000∧Q .nx (env.set i (.ow ((r++[x]).map .int)))):wp (sApp i e) env Q:=by
 obtain ⟨x,h1,h2,p⟩:=h
 refine Zg3 hi ⟨_,h1,?_,?_⟩
 ·rw [List.length_map,ZD];omega
 ·rw [List.map_append] at p;exact p
theorem Znq {r:List Int}{e:Ex}{env:Env}(h:e env=some (rowD r)):iOf e env=some (r.map .int):=by simp [iOf,h,rowD]
theorem Zli {i:Nat}{it:Lx}{e:Ex}{env:Env}{P:Bool→Prop}{r:List Int}(p:Int→Bool)(hit:it env=some (r.map .int))(hl:r.length≤lim)(he:∀ x ∈ r,ev e (env.set i (.sh (.int x))) (·=.bl (p x)))(h:P (r.all p)):ev (eF1 fAll (Yk i it Js e)) env fun d=>∃ k,d=.bl k∧P k:=by
 refine ⟨_,?_,_,rfl,h⟩
 have hc:=ZaK (i:=i) (e:=e) (env:=env) (fun d=>match d with | .int x=>.bl (p x) | _=>.non) (r.map .int) (fun d hd=>by obtain ⟨x,hx,rfl⟩:=List.mem_map.mp hd;exact (he x hx).eq)
 have e2:(r.map D.int).map (fun d=>match d with | .int x=>D.bl (p x) | _=>.non)=r.map fun x=>.bl (p x):=by simp
 have e3:∀ q:List Int,allB (q.map fun x=>D.bl (p x))=some (q.all p):=by
  intro q
  induction q with
  | nil=>rfl
  | cons x q ih=>simp only [List.map_cons,allB,ih,List.all_cons]
 simp only [eF1,Yk,hit,List.length_map,if_pos hl,hc,e2,fAll,e3]
end PV
namespace PV
theorem Zl1 {i:Nat}{e:Ex}{env:Env}{Q:Out→Env→Prop}(h:ev e env fun d=>∃ ds,d=.lst ds∧Q .nx (env.set i (.nw ds))):wp (sNew i e) env Q:=by
 obtain ⟨_,h1,ds,rfl,p⟩:=h;exact ⟨_,_,by simp only [sNew,h1],p⟩
theorem Zlf {i:Nat}{e:Ex}{env:Env}{Q:Out→Env→Prop}{ds:List D}(hi:env[i]?=some (.nw ds))(h:ev e env fun d=>ds.length < lim∧Q .nx (env.set i (.nw (ds++[d])))):wp (ZcJ i e) env Q:=by
 obtain ⟨d,h1,q,p⟩:=h;exact ⟨_,_,by simp only [ZcJ,hi,h1,if_pos q],p⟩
theorem Zlc {i:Nat}{env:Env}{Q:Out→Env→Prop}{ds:List D}(hi:env[i]?=some (.nw ds))(h:Q .nx (env.set i (.fr (.lst ds)))):wp (sFrz i) env Q:=⟨_,_,by simp only [sFrz,hi],h⟩
theorem ZkE {i:Nat}{e:Ex}{env:Env}{Q:Out→Env→Prop}(h:ev e env fun d=>Q .nx (env.set i (.jk d))):wp (sJk i e) env Q:=by
 obtain ⟨d,h1,p⟩:=h;exact ⟨_,_,by simp only [sJk,h1],p⟩
theorem ZlX {i:Nat}{t:Tx}{env:Env}{P:Bool→Prop}{d:D}(hi:env[i]?=some (.jk d))(h:tv t (env.set i (.sh d)) P):tv (tFrz i t) env P:=by
 obtain ⟨k,h1,p⟩:=h;exact ⟨k,by simp only [tFrz,hi,h1],p⟩
theorem Zkq {r:List Int}(h:r.length≤1000):ZdG (rowD r)=true:=by
 simp only [ZdG,rowD,Bool.and_eq_true,decide_eq_true_eq,List.length_map,ZD]
 exact ⟨by simp [List.all_map,J2,Function.comp_def],by omega⟩
theorem Zke {i:Nat}{k:Int}{env:Env}{Q:Out→Env→Prop}{r:List Int}{T:List (List Int)}(hi:env[i]?=some (.jk (tabD (r::T))))(hr:r.length≤1000)(hT:T.length≤1000)(h:Q .nx (env.set i (.jl (T.length + 1)))):wp (Zdo i k) env Q:=by
 refine ⟨_,_,?_,h⟩
 have e:env[i]?=some (.jk (.lst (rowD r::T.map rowD))):=hi
 simp only [Zdo,e]
 rw [if_pos ⟨Zkq hr,by rw [List.length_map,ZD];omega⟩,List.length_map]
theorem ZiW {e:Ex}{env:Env}{P:List Int→Prop}(h:evR e env P):evR (eFl e) env P:=by
 obtain ⟨r,h1,p⟩:=h
 refine ⟨r,?_,p⟩
 simp only [eFl,h1,rowD]
 rw [if_pos (by simp [List.all_map,J2,Function.comp_def])]
theorem Zng {T:List (List Int)}{e:Ex}{env:Env}(h:e env=some (tabD T)):iOf e env=some (T.map rowD):=by simp [iOf,h,tabD]
theorem ZkH {i:Nat}{e:Ex}{env:Env}{Q:Out→Env→Prop}{T:List (List Int)}(hi:env[i]?=some (.ow (T.map rowD)))(h:evR e env fun x=>T.length < 1000∧Q .nx (env.set i (.ow ((T++[x]).map rowD)))):wp (sApp i e) env Q:=by
 obtain ⟨x,h1,h2,p⟩:=h
 refine Zg3 hi ⟨_,h1,?_,?_⟩
 ·rw [List.length_map,ZD];omega
 ·rw [List.map_append] at p;exact p
end PV
set_option linter.all false
set_option Elab.async false
set_option maxRecDepth 100000
set_option maxHeartbeats 4000000
namespace PV
open PySem PySem.Spec PyProof.Rows
open L2 (V Hp HO Vals SqL SqT Same upd Cx PE PT PW PA PS PSs TE TT TA TS Inv RelV Jd Yd Ze)
noncomputable def kvV (kvs:List (Int × Int)):List (L2.Key × V):=kvs.map fun p=>(Sum.inl p.1,V.int p.2)
mutual
noncomputable def Rep (K:PySem.W.Frag) (H:Hp):D→V→Prop
 | .non,v=>v=.non
 | .bl b,v=>v=.bl b
 | .int i,v=>v=.int i
 | .str x,v=>v=.str x
 | .lst ds,v=>∃ a vs,v=.ref a∧SqL K H a vs∧Reps K H ds vs
 | .tup ds,v=>∃ a vs,v=.ref a∧SqT K H a vs∧Reps K H ds vs
 | .dct kvs,v=>∃ a o,v=.ref a∧H a=some (.frz o (.dK (kvV kvs)))
noncomputable def Reps (K:PySem.W.Frag) (H:Hp):List D→List V→Prop
 | [],vs=>vs=[]
 | d::ds,vs=>∃ v r,vs=v::r∧Rep K H d v∧Reps K H ds r
end
theorem seqT {K:PySem.W.Frag}{H H':Hp}{a:Addr}{xs:List V}(e:Same H H')(h:SqT K H a xs):SqT K H' a xs:=by
 rcases h with (h | ⟨o,h⟩) | h
 ·exact .inl (.inl (e _ _ h))
 ·exact .inl (.inr ⟨o,e _ _ h⟩)
 ·exact .inr h
mutual
theorem Rep.mono {K:PySem.W.Frag}{H H':Hp}(e:Same H H'):∀ (d:D) (v:V),Rep K H d v→Rep K H' d v
 | .non,_,h=>by simp only [Rep] at h ⊢;exact h
 | .bl _,_,h=>by simp only [Rep] at h ⊢;exact h
 | .int _,_,h=>by simp only [Rep] at h ⊢;exact h
 | .str _,_,h=>by simp only [Rep] at h ⊢;exact h
 | .lst ds,v,h=>by
  simp only [Rep] at h ⊢
  obtain ⟨a,vs,h1,h2,h3⟩:=h
  exact ⟨a,vs,h1,e.seq h2,Reps.mono e ds vs h3⟩
 | .tup ds,v,h=>by
  simp only [Rep] at h ⊢
  obtain ⟨a,vs,h1,h2,h3⟩:=h
  exact ⟨a,vs,h1,seqT e h2,Reps.mono e ds vs h3⟩
 | .dct kvs,v,h=>by
  simp only [Rep] at h ⊢
  obtain ⟨a,o,h1,h2⟩:=h
  exact ⟨a,o,h1,e _ _ h2⟩
theorem Reps.mono {K:PySem.W.Frag}{H H':Hp}(e:Same H H'):∀ (ds:List D) (vs:List V),Reps K H ds vs→Reps K H' ds vs
 | [],_,h=>by simp only [Reps] at h ⊢;exact h
 | d::ds,vs,h=>by
  simp only [Reps] at h ⊢
  obtain ⟨v,r,h1,h2,h3⟩:=h
  exact ⟨v,r,h1,Rep.mono e d v h2,Reps.mono e ds r h3⟩
end
section
variable {K:PySem.W.Frag} {H:Hp}
theorem Reps.nil:Reps K H [] []:=by simp [Reps]
theorem Reps.cons {d:D}{v:V}{ds:List D}{vs:List V}(h:Rep K H d v)(t:Reps K H ds vs):Reps K H (d::ds) (v::vs):=by
 simp only [Reps];exact ⟨v,vs,rfl,h,t⟩
theorem Reps.length:∀ {ds:List D} {vs:List V},Reps K H ds vs→ds.length=vs.length
 | [],vs,h=>by simp only [Reps] at h;subst h;rfl
 | d::ds,vs,h=>by
  simp only [Reps] at h
  obtain ⟨v,r,rfl,_,t⟩:=h
  simp [t.length]
theorem Reps.get:∀ {ds:List D} {vs:List V} {i:Nat} {d:D},Reps K H ds vs→ds[i]?=some d→∃ v,vs[i]?=some v∧Rep K H d v
 | [],vs,i,d,h,e=>by simp at e
 | d'::ds,vs,0,d,h,e=>by
  simp only [Reps] at h
  obtain ⟨v,r,rfl,h1,t⟩:=h
  simp at e;subst e
  exact ⟨v,rfl,h1⟩
 | d'::ds,vs,i + 1,d,h,e=>by
  simp only [Reps] at h
  obtain ⟨v,r,rfl,h1,t⟩:=h
  obtain ⟨w,q1,q2⟩:=Reps.get (i:=i) (d:=d) t (by simpa using e)
  exact ⟨w,by simpa using q1,q2⟩
theorem Reps.getV:∀ {ds:List D} {vs:List V} {i:Nat} {v:V},Reps K H ds vs→vs[i]?=some v→∃ d,ds[i]?=some d∧Rep K H d v
 | [],vs,i,v,h,e=>by simp only [Reps] at h;subst h;simp at e
 | d'::ds,vs,0,v,h,e=>by
  simp only [Reps] at h
  obtain ⟨w,r,rfl,h1,t⟩:=h
  simp at e;subst e
  exact ⟨d',rfl,h1⟩
 | d'::ds,vs,i + 1,v,h,e=>by
  simp only [Reps] at h
  obtain ⟨w,r,rfl,h1,t⟩:=h
  obtain ⟨d,q1,q2⟩:=Reps.getV (i:=i) (v:=v) t (by simpa using e)
  exact ⟨d,by simpa using q1,q2⟩
theorem Reps.append:∀ {ds es:List D} {vs ws:List V},Reps K H ds vs→Reps K H es ws→Reps K H (ds++es) (vs++ws)
 | [],es,vs,ws,h,h2=>by simp only [Reps] at h;subst h;exact h2
 | d::ds,es,vs,ws,h,h2=>by
  simp only [Reps] at h
  obtain ⟨v,r,rfl,h1,t⟩:=h
  exact Reps.cons h1 (t.append h2)
theorem Reps.set {d:D}{v:V}(h:Rep K H d v):∀ {ds:List D} {vs:List V} (i:Nat),Reps K H ds vs→Reps K H (ds.set i d) (vs.set i v)
 | [],vs,i,t=>by simp only [Reps] at t;subst t;simp [Reps]
 | e::ds,vs,0,t=>by
  simp only [Reps] at t
  obtain ⟨w,r,rfl,h1,t⟩:=t
  exact Reps.cons h t
 | e::ds,vs,i + 1,t=>by
  simp only [Reps] at t
  obtain ⟨w,r,rfl,h1,t⟩:=t
  exact Reps.cons h1 (t.set h i)
theorem Reps.insertIdx {d:D}{v:V}(h:Rep K H d v):∀ {ds:List D} {vs:List V} (i:Nat),Reps K H ds vs→Reps K H (ds.insertIdx i d) (vs.insertIdx i v)
 | ds,vs,0,t=>by simp only [List.insertIdx_zero];exact Reps.cons h t
 | [],vs,i + 1,t=>by simp only [Reps] at t;subst t;simp [Reps]
 | e::ds,vs,i + 1,t=>by
  simp only [Reps] at t
  obtain ⟨w,r,rfl,h1,t⟩:=t
  simp only [List.insertIdx_succ_cons]
  exact Reps.cons h1 (t.insertIdx h i)
end
noncomputable def cut (F G:Hp):Hp:=fun a=>match G a with
 | none=>F a
 | some _=>none
theorem ZbH {F G:Hp}:Same (cut F G) F:=fun b o h=>by
 unfold cut at h
 split at h
 ·exact h
 ·cases h
theorem Zcn {F G:Hp}{a:Addr}(h:G a=none):cut F G a=F a:=by unfold cut;rw [h]
structure Ext (F H F' H':Hp):Prop where
 hh:Same H H'
 ff:Same F F'
 dm:∀ a o,F' a=some o→F a=some o∨H a=none
 fh:Same F' H'
theorem Ext.refl {F H:Hp}(h:Same F H):Ext F H F H:=⟨.refl _,.refl _,fun _ _ e=>.inl e,h⟩
theorem Ext.trans {F H F1 H1 F2 H2:Hp}(a:Ext F H F1 H1)(b:Ext F1 H1 F2 H2):Ext F H F2 H2 :=
 ⟨a.hh.trans b.hh,a.ff.trans b.ff,fun c o e=>(b.dm c o e).elim (fun q=>a.dm c o q) fun q=>.inr (a.hh.free q),b.fh⟩
theorem Ext.laid {F H:Hp}(fh:Same F H){p:Addr}{o:HO}(hp:H p=none):Ext F H (upd F p o) (upd H p o):=by
 refine ⟨fun b u e=>?_,fun b u e=>?_,fun b u e=>?_,fun b u e=>?_⟩
 ·rw [Yd (Ze e hp)];exact e
 ·rw [Yd (Ze (fh _ _ e) hp)];exact e
 ·by_cases hb:b=p
  ·subst hb;exact .inr hp
  ·rw [Yd hb] at e;exact .inl e
 ·by_cases hb:b=p
  ·subst hb;rw [Jd] at e ⊢;exact e
  ·rw [Yd hb] at e ⊢;exact fh _ _ e
theorem Ext.own {F H:Hp}(fh:Same F H){p:Addr}{o:HO}(hp:H p=none):Ext F H F (upd H p o):=by
 have s:Same H (upd H p o):=fun b u e=>by rw [Yd (Ze e hp)];exact e
 exact ⟨s,.refl _,fun _ _ e=>.inl e,fh.trans s⟩
theorem Ext.frz {F H F' H':Hp}(e:Ext F H F' H'){p:Addr}{o:HO}(hp:H p=none)(h':H' p=some o)(f':F' p=none):Ext F H (upd F' p o) H':=by
 refine ⟨e.hh,fun b u q=>?_,fun b u q=>?_,fun b u q=>?_⟩
 ·rw [Yd (Ze (e.ff _ _ q) f')];exact e.ff _ _ q
 ·by_cases hb:b=p
  ·subst hb;exact .inr hp
  ·rw [Yd hb] at q;exact e.dm _ _ q
 ·by_cases hb:b=p
  ·subst hb;rw [Jd] at q;cases q;exact h'
  ·rw [Yd hb] at q;exact e.fh _ _ q
noncomputable def Zo (K:PySem.W.Frag) (F H:Hp):List (List D)→List Addr→Prop
 | [],as=>as=[]
 | r::rs,as=>∃ a t vs,as=a::t∧H a=some (.lst vs)∧Reps K F r vs∧Zo K F H rs t
theorem Zo.mono {K:PySem.W.Frag}{F H F' H':Hp}(ff:Same F F'):∀ {rs:List (List D)} {as:List Addr},(∀ a ∈ as,∀ o,H a=some o→H' a=some o)→Zo K F H rs as→Zo K F' H' rs as
 | [],_,_,h=>h
 | r::rs,_,hh,h=>by
  obtain ⟨a,t,vs,rfl,h1,h2,h3⟩:=h
  exact ⟨a,t,vs,rfl,hh a List.mem_cons_self _ h1,Reps.mono ff _ _ h2,Zo.mono ff (fun b hb=>hh b (List.mem_cons_of_mem _ hb)) h3⟩
theorem Zo.length {K:PySem.W.Frag}{F H:Hp}:∀ {rs:List (List D)} {as:List Addr},Zo K F H rs as→rs.length=as.length
 | [],_,h=>by have:_=[]:=h;rw [this];rfl
 | r::rs,_,h=>by obtain ⟨a,t,vs,rfl,_,_,h3⟩:=h;simp [h3.length]
theorem Zo.get {K:PySem.W.Frag}{F H:Hp}:∀ {rs:List (List D)} {as:List Addr} {j:Nat} {r:List D},Zo K F H rs as→rs[j]?=some r→∃ a vs,as[j]?=some a∧H a=some (.lst vs)∧Reps K F r vs
 | [],_,_,_,_,e=>by simp at e
 | r::rs,_,0,q,h,e=>by obtain ⟨a,t,vs,rfl,h1,h2,h3⟩:=h;simp at e;subst e;exact ⟨a,vs,rfl,h1,h2⟩
 | r::rs,_,j + 1,q,h,e=>by
  obtain ⟨a,t,vs,rfl,h1,h2,h3⟩:=h
  obtain ⟨b,ws,k1,k2,k3⟩:=Zo.get (j:=j) h3 (by simpa using e)
  exact ⟨b,ws,by simpa using k1,k2,k3⟩
theorem Zo.reps {K:PySem.W.Frag}{F H:Hp}(fh:Same F H):∀ {rs:List (List D)} {as:List Addr},Zo K F H rs as→Reps K H (rs.map .lst) (as.map .ref)
 | [],_,h=>by have e:_=[]:=h;subst e;exact Reps.nil
 | r::rs,_,h=>by
  obtain ⟨a,t,vs,rfl,h1,h2,h3⟩:=h
  exact Reps.cons (by simp only [Rep];exact ⟨a,vs,rfl,.inl (.inl h1),Reps.mono fh _ _ h2⟩) (h3.reps fh)
mutual
noncomputable def RepN (H:Hp):D→V→Prop
 | .non,v=>v=.non
 | .bl b,v=>v=.bl b
 | .int i,v=>v=.int i
 | .str x,v=>v=.str x
 | .lst ds,v=>∃ a vs,v=.ref a∧H a=some (.lst vs)∧Zh H ds vs
 | .tup ds,v=>∃ a vs,v=.ref a∧H a=some (.tup vs)∧Zh H ds vs
 | .dct kvs,v=>∃ a o,v=.ref a∧H a=some (.frz o (.dK (kvV kvs)))
noncomputable def Zh (H:Hp):List D→List V→Prop
 | [],vs=>vs=[]
 | d::ds,vs=>∃ v r,vs=v::r∧RepN H d v∧Zh H ds r
end
mutual
theorem RepN.rep {K:PySem.W.Frag}{H:Hp}:∀ (d:D) (v:V),RepN H d v→Rep K H d v
 | .non,_,h=>by simp only [Rep,RepN] at h ⊢;exact h
 | .bl _,_,h=>by simp only [Rep,RepN] at h ⊢;exact h
 | .int _,_,h=>by simp only [Rep,RepN] at h ⊢;exact h
 | .str _,_,h=>by simp only [Rep,RepN] at h ⊢;exact h
 | .lst ds,v,h=>by
  simp only [Rep,RepN] at h ⊢
  obtain ⟨a,vs,h1,h2,h3⟩:=h
  exact ⟨a,vs,h1,.inl (.inl h2),Zh.reps ds vs h3⟩
 | .tup ds,v,h=>by
  simp only [Rep,RepN] at h ⊢
  obtain ⟨a,vs,h1,h2,h3⟩:=h
  exact ⟨a,vs,h1,.inl (.inl h2),Zh.reps ds vs h3⟩
 | .dct kvs,v,h=>by simp only [Rep,RepN] at h ⊢;exact h
theorem Zh.reps {K:PySem.W.Frag}{H:Hp}:∀ (ds:List D) (vs:List V),Zh H ds vs→Reps K H ds vs
 | [],_,h=>by simp only [Reps,Zh] at h ⊢;exact h
 | d::ds,vs,h=>by
  simp only [Reps,Zh] at h ⊢
  obtain ⟨v,r,h1,h2,h3⟩:=h
  exact ⟨v,r,h1,RepN.rep d v h2,Zh.reps ds r h3⟩
end
mutual
theorem RepN.mono {H H':Hp}(e:Same H H'):∀ (d:D) (v:V),RepN H d v→RepN H' d v
 | .non,_,h=>by simp only [RepN] at h ⊢;exact h
 | .bl _,_,h=>by simp only [RepN] at h ⊢;exact h
 | .int _,_,h=>by simp only [RepN] at h ⊢;exact h
 | .str _,_,h=>by simp only [RepN] at h ⊢;exact h
 | .lst ds,v,h=>by
  simp only [RepN] at h ⊢
  obtain ⟨a,vs,h1,h2,h3⟩:=h
  exact ⟨a,vs,h1,e _ _ h2,Zh.mono e ds vs h3⟩
 | .tup ds,v,h=>by
  simp only [RepN] at h ⊢
  obtain ⟨a,vs,h1,h2,h3⟩:=h
  exact ⟨a,vs,h1,e _ _ h2,Zh.mono e ds vs h3⟩
 | .dct kvs,v,h=>by
  simp only [RepN] at h ⊢
  obtain ⟨a,o,h1,h2⟩:=h
  exact ⟨a,o,h1,e _ _ h2⟩
theorem Zh.mono {H H':Hp}(e:Same H H'):∀ (ds:List D) (vs:List V),Zh H ds vs→Zh H' ds vs
 | [],_,h=>by simp only [Zh] at h ⊢;exact h
 | d::ds,vs,h=>by
  simp only [Zh] at h ⊢
  obtain ⟨v,r,h1,h2,h3⟩:=h
  exact ⟨v,r,h1,RepN.mono e d v h2,Zh.mono e ds r h3⟩
end
noncomputable def hpL (H:Hp) (L:List Addr):Hp:=fun b=>if b ∈ L then H b else none
theorem ZbN {H:Hp}{L:List Addr}{b:Addr}(h:b ∈ L):hpL H L b=H b:=if_pos h
theorem ZaJ {H:Hp}{L:List Addr}:Same (hpL H L) H:=fun b o h=>by
 unfold hpL at h
 split at h
 ·exact h
 ·cases h
theorem ZjD {H H':Hp}{L:List Addr}(h:∀ a ∈ L,∀ o,H a=some o→H' a=some o):Same (hpL H L) (hpL H' L):=fun b o q=>by
 unfold hpL at q ⊢
 split at q
 ·rename_i hb;rw [if_pos hb];exact h b hb o q
 ·cases q
noncomputable def xName (c:Nat):Str:=(["NoTable","NoFolk","NoElement","NoPart","NotLoose","TooLarge","NoNote"]:List Str).getD c "FolkError"
noncomputable def CN (K:PySem.W.Frag) (c:Nat) (C:Addr):Prop:=PySem.W.nsIn K mainGlobals (xName c)=some (some (.ref C))
noncomputable def isX (a C:Addr) (h:Heap):Prop:=∃ o ws,h.get? a=some o∧o.cls=.ref C∧o.dict=none∧o.data=.fields ws
noncomputable def SlOk (K:PySem.W.Frag) (B F H:Hp):Sl→Option V→List Addr→Prop
 | .un,_,_=>True
 | .sh d,ov,_=>∃ v,ov=some v∧Rep K F d v
 | .fr d,ov,_=>∃ v,ov=some v∧RepN (cut F B) d v
 | .ow ds,ov,L=>∃ a vs,ov=some (.ref a)∧L=[a]∧H a=some (.lst vs)∧Reps K F ds vs
 | .tab rs,ov,L=>∃ a as,ov=some (.ref a)∧L=a::as∧(a::as).Nodup∧H a=some (.lst (as.map .ref))∧Zo K F H rs as
 | .dc kvs,ov,L=>∃ a,ov=some (.ref a)∧L=[a]∧H a=some (.dK (kvV kvs))
 | .nw ds,ov,L=>∃ a vs,ov=some (.ref a)∧L=[a]∧H a=some (.lst vs)∧Zh (cut F B) ds vs
 | .jk d,ov,L=>∃ v,ov=some v∧RepN (hpL H L) d v
 | .jl n,ov,L=>∃ a vs,ov=some (.ref a)∧a ∈ L∧H a=some (.lst vs)∧vs.length≤n
 | .xc c,ov,_=>∃ a C,ov=some (.ref a)∧CN K c C∧F a=some (.ext (isX a C))
structure SOk (K:PySem.W.Frag)(BF BH F H:Hp)(σ:L2.St)(env:Env)(L:Nat→List Addr):Prop where
 s0:Same BH H
 f0:Same BF F
 fh:Same F H
 fd:∀ a o,F a=some o→BF a=some o∨BH a=none
 ow:∀ i a,a ∈ L i→F a=none∧BH a=none∧H a≠none
 dj:∀ i j a,a ∈ L i→a ∈ L j→i=j
 len:σ.length=env.length
 sl:∀ i s,env[i]?=some s→∃ ov,σ[i]?=some ov∧SlOk K BH F H s ov (L i)
theorem Zbb {F F' G:Hp}(h:Same F F'):Same (cut F G) (cut F' G):=fun b o q=>by
 unfold cut at q ⊢
 split at q
 ·exact h _ _ q
 ·cases q
theorem SlOk.ext {K:PySem.W.Frag}{B F H F' H':Hp}{s:Sl}{ov:Option V}{L:List Addr}(ff:Same F F')(hl:∀ a ∈ L,∀ o,H a=some o→H' a=some o)(h:SlOk K B F H s ov L):SlOk K B F' H' s ov L:=by
 cases s with
 | un=>trivial
 | sh d=>obtain ⟨v,e,r⟩:=h;exact ⟨v,e,Rep.mono ff _ _ r⟩
 | fr d=>obtain ⟨v,e,r⟩:=h;exact ⟨v,e,RepN.mono (Zbb ff) _ _ r⟩
 | ow ds=>obtain ⟨a,vs,e,rfl,h1,r⟩:=h;exact ⟨a,vs,e,rfl,hl a (by simp) _ h1,Reps.mono ff _ _ r⟩
 | tab rs =>
  obtain ⟨a,as,e,rfl,nd,h1,r⟩:=h
  exact ⟨a,as,e,rfl,nd,hl a List.mem_cons_self _ h1,r.mono ff fun b hb=>hl b (List.mem_cons_of_mem _ hb)⟩
 | dc _=>obtain ⟨a,e,rfl,h1⟩:=h;exact ⟨a,e,rfl,hl a (by simp) _ h1⟩
 | nw ds=>obtain ⟨a,vs,e,rfl,h1,r⟩:=h;exact ⟨a,vs,e,rfl,hl a (by simp) _ h1,Zh.mono (Zbb ff) _ _ r⟩
 | jk d=>obtain ⟨v,e,r⟩:=h;exact ⟨v,e,RepN.mono (ZjD hl) _ _ r⟩
 | jl n=>obtain ⟨a,vs,e,ha,h1,r⟩:=h;exact ⟨a,vs,e,ha,hl a ha _ h1,r⟩
 | xc c=>obtain ⟨a,C,e,hc,h1⟩:=h;exact ⟨a,C,e,hc,ff _ _ h1⟩
theorem SOk.ext {K:PySem.W.Frag}{BF BH F H F' H':Hp}{σ:L2.St}{env:Env}{L:Nat→List Addr}(S:SOk K BF BH F H σ env L)(e:Ext F H F' H'):SOk K BF BH F' H' σ env L where
 s0:=S.s0.trans e.hh
 f0:=S.f0.trans e.ff
 fh:=e.fh
 fd:=fun a o q=>(e.dm a o q).elim (S.fd a o) fun z=>.inr (S.s0.free z)
 ow:=fun i a q=>by
  obtain ⟨h1,h2,h3⟩:=S.ow i a q
  refine ⟨?_,h2,?_⟩
  ·cases z:F' a with
   | none=>rfl
   | some o =>
    rcases e.dm a o z with y | y
    ·rw [h1] at y;cases y
    ·exact absurd y h3
  ·intro z
   cases y:H a with
   | none=>exact h3 y
   | some o=>rw [e.hh _ _ y] at z;cases z
 dj:=S.dj
 len:=S.len
 sl:=fun i s q=>by
  obtain ⟨ov,h1,h2⟩:=S.sl i s q
  exact ⟨ov,h1,h2.ext e.ff fun a _ o z=>e.hh a o z⟩
inductive Md where
 | r | k | f
noncomputable def hpM (BH F H:Hp):Md→Hp
 | .r=>H
 | .k=>F
 | .f=>cut F BH
theorem Zbd {BH F H F' H':Hp}(e:Ext F H F' H'):∀ m:Md,Same (hpM BH F H m) (hpM BH F' H' m)
 | .r=>e.hh
 | .k=>e.ff
 | .f=>Zbb e.ff
theorem Zf7 {BH F H:Hp}(fh:Same F H):∀ m:Md,Same (hpM BH F H m) H
 | .r=>.refl _
 | .k=>fh
 | .f=>ZbH.trans fh
theorem Rep.scal {K:PySem.W.Frag}{H H':Hp}{d:D}{v:V}(hs:J2 d=true)(h:Rep K H d v):Rep K H' d v:=by
 cases d <;> simp_all [Rep,J2]
noncomputable def tD (K:PySem.W.Frag) (m:Md) (f:Ex):TE:=fun σ H Q=>∃ BF BH F env L d,SOk K BF BH F H σ env L∧f env=some d ∧
 ∀ v F' H',Ext F H F' H'→Rep K (hpM BH F' H' m) d v→Q v H'
noncomputable def tTst (K:PySem.W.Frag) (t:Tx):TT:=fun σ H Q=>∃ BF BH F env L b,SOk K BF BH F H σ env L∧t env=some b ∧
 ∀ F' H',Ext F H F' H'→Q b H'
noncomputable def tO (K:PySem.W.Frag) (m:Md) (f:Ex):TE:=fun σ H Q=>∃ BF BH F env L ds,SOk K BF BH F H σ env L∧f env=some (.lst ds) ∧
 ∀ a vs F' H',Ext F H F' H'→H a=none→H' a=some (.lst vs)→F' a=none→Reps K (hpM BH F' H' m) ds vs→Q (.ref a) H'
structure PD (X:Cx)(m:Md)(e:Expr)(f:Ex):Prop where
 h:PE X e (tD X.K m f)
noncomputable def PDo (X:Cx) (m:Md) (e:Expr) (f:Ex):Prop:=PE X e (tO X.K m f)
noncomputable def PTd (X:Cx) (e:Expr) (t:Tx):Prop:=PT X e (tTst X.K t)
theorem PE.of {X:Cx}{e:Expr}{t t':TE}(h:PE X e t')(i:∀ σ H Q,t σ H Q→t' σ H Q):PE X e t:=fun pins s σ H Q I q=>h pins s σ H Q I (i σ H Q q)
theorem PT.of {X:Cx}{e:Expr}{t t':TT}(h:PT X e t')(i:∀ σ H Q,t σ H Q→t' σ H Q):PT X e t:=fun pins s σ H Q I q=>h pins s σ H Q I (i σ H Q q)
theorem PW.of {X:Cx}{e:Expr}{t t':TT}(h:PW X e t')(i:∀ σ H Q,t σ H Q→t' σ H Q):PW X e t:=fun wh pins s σ H Q I q=>h wh pins s σ H Q I (i σ H Q q)
theorem PS.of {X:Cx}{e:Stmt}{t t':TS}(h:PS X e t')(i:∀ D σ H,t D σ H→t' D σ H):PS X e t:=fun pins s σ H D I q=>h pins s σ H D I (i D σ H q)
theorem PSs.of {X:Cx}{e:List Stmt}{t t':TS}(h:PSs X e t')(i:∀ D σ H,t D σ H→t' D σ H):PSs X e t:=fun pins s σ H D I q=>h pins s σ H D I (i D σ H q)
section
variable {X:Cx} {m:Md} {a b c:Expr} {f g h:Ex} {pos:Pos}
theorem PD.r (h:PD X m a f):PD X .r a f:=PD.mk <| PE.of h.h fun σ H Q ⟨BF,BH,F,env,L,d,S,e,q⟩ =>
 ⟨BF,BH,F,env,L,d,S,e,fun v F' H' x r=>q v F' H' x (Rep.mono (Zf7 x.fh m) _ _ r)⟩
theorem PDo.d (h:PDo X m a f)(hf:∀ env d,f env=some d→∃ ds,d=.lst ds):PD X m a f:=PD.mk <| PE.of h fun σ H Q hh_=>el9 hh_ fun BF BH F env L d S e q=>by
 obtain ⟨ds,rfl⟩:=hf env d e
 refine ⟨BF,BH,F,env,L,ds,S,e,fun p vs F' H' x hp h1 h2 r=>?_⟩
 have x':=x.frz hp h1 h2
 refine q (.ref p) (upd F' p (.lst vs)) H' x' ?_
 have hB:BH p=none:=S.s0.free hp
 have s:Same (hpM BH F' H' m) (hpM BH (upd F' p (.lst vs)) H' m):=by
  have ss:Same F' (upd F' p (.lst vs)):=fun b u e=>by rw [Yd (Ze e h2)];exact e
  cases m with
  | r=>exact .refl _
  | k=>exact ss
  | f=>exact Zbb ss
 simp only [Rep]
 refine ⟨p,vs,rfl,.inl (.inl ?_),Reps.mono s _ _ r⟩
 cases m with
 | r=>exact h1
 | k=>exact Jd
 | f=>show cut _ _ p=_;rw [Zcn hB];exact Jd
noncomputable def nst:Expr→Bool
 | .Starred _ _=>false
 | _=>true
noncomputable def nsts:List Expr→Bool
 | []=>true
 | e::es=>nst e && nsts es
theorem Yi {e:Expr}{es:List Expr}{env:PySem.Env}(h:nst e=true):starEach (e::es) env=(false,eval e env)::starEach es env:=by
 cases e <;> first | rfl | (cases h)
theorem Zw {e:Expr}{env:PySem.Env}(h:nst e=true):starEach [e] env=[(false,eval e env)]:=(Yi h).trans rfl
theorem ZaC {env:PySem.Env}{pos:Pos}:∀ {es:List Expr},nsts es=true→(backTo pos (starEach es env)).any (·.1)=false
 | [],_=>rfl
 | e::es,h=>by
  unfold nsts at h
  rw [Bool.and_eq_true] at h
  rw [Yi h.1]
  show (false || (backTo pos (starEach es env)).any (·.1))=false
  rw [ZaC h.2];rfl
theorem ZaB {env:PySem.Env}{pos:Pos}:∀ {es:List Expr},nsts es=true→(backTo pos (starEach es env)).all (fun x=>!x.1)=true
 | [],_=>rfl
 | e::es,h=>by
  unfold nsts at h
  rw [Bool.and_eq_true] at h
  rw [Yi h.1]
  show (true && (backTo pos (starEach es env)).all (fun x=>!x.1))=true
  rw [ZaB h.2];rfl
theorem Zkc {a b:Expr}(h:nst a=true)(h2:nst b=true):nsts [a,b]=true:=by unfold nsts nsts nsts;rw [h,h2];rfl
theorem Za9 {a:Expr}(h:nst a=true):nsts [a]=true:=by unfold nsts nsts;rw [h];rfl
noncomputable def visB (sc:Scope) (x:Str):Bool:=match sc.names.lookup x with
 | some .local=>true
 | some .cell=>true
 | some .free=>true
 | _=>false
theorem JK {sc:Scope}{x:Str}(h:visB sc x=true):L2.Vis sc x:=by
 unfold visB at h
 split at h
 ·rename_i e;exact .inl e
 ·rename_i e;exact .inr (.inl e)
 ·rename_i e;exact .inr (.inr e)
 ·cases h
noncomputable def locB (sc:Scope) (x:Str):Bool:=match sc.names.lookup x with
 | some .local=>true
 | some .cell=>true
 | _=>false
theorem Zai {sc:Scope}{x:Str}(h:locB sc x=true):L2.Loc sc x:=by
 unfold locB at h
 split at h
 ·rename_i e;exact .inl e
 ·rename_i e;exact .inr e
 ·cases h
noncomputable def fnB (X:Cx) (x:Str):Bool:=X.fn x || (match X.env.scope.names.lookup x with
 | some .local=>true
 | _=>false)
theorem ZaP {X:Cx}{x:Str}(h:fnB X x=true):X.fn x=true∨X.env.scope.names.lookup x=some .local:=by
 unfold fnB at h
 rw [Bool.or_eq_true] at h
 rcases h with h | h
 ·exact .inl h
 ·split at h
  ·rename_i e;exact .inr e
  ·cases h
theorem Zc {i j}:PD X m (.Constant (.int i) j pos) (eC (.int i)):=PD.mk <| PE.of L2.ZgF fun σ H Q hh_=>el9 hh_ fun BF BH F env L d S e q=>by
 cases e;exact q _ F H (.refl S.fh) (by simp [Rep])
theorem Zbz {i j}:PD X m (.Constant (.bool i) j pos) (eC (.bl i)):=PD.mk <| PE.of L2.Zm0 fun σ H Q hh_=>el9 hh_ fun BF BH F env L d S e q=>by
 cases e;exact q _ F H (.refl S.fh) (by simp [Rep])
theorem J8 {i j}:PD X m (.Constant (.str i) j pos) (eC (.str i)):=PD.mk <| PE.of L2.Zjh fun σ H Q hh_=>el9 hh_ fun BF BH F env L d S e q=>by
 cases e;exact q _ F H (.refl S.fh) (by simp [Rep])
theorem Zbv {j}:PD X m (.Constant .none j pos) (eC .non):=PD.mk <| PE.of L2.Zja fun σ H Q hh_=>el9 hh_ fun BF BH F env L d S e q=>by
 cases e;exact q _ F H (.refl S.fh) (by simp [Rep])
theorem Za (i:Nat) {x:Str} (hN:X.N[i]?=some x:=by kernel_rfl) (hv:visB X.env.scope x=true:=by kernel_rfl) (hd:(x == ("__debug__":Str))=false:=by kernel_rfl)
  (hcd:(x == ("__classdict__":Str))=false:=by kernel_rfl):PD X .k (.Name x pos) (eVar i):=PD.mk <| PE.of (L2.JW hN (JK hv) hd hcd) fun σ H Q hh_=>el9 hh_ fun BF BH F env L d S e q=>by
 unfold eVar at e
 cases he:env[i]? with
 | none=>rw [he] at e;cases e
 | some s =>
  rw [he] at e
  obtain ⟨ov,h1,h2⟩:=S.sl i s he
  cases s with
  | sh d'=>cases e;obtain ⟨v,rfl,r⟩:=h2;exact ⟨v,h1,q v F H (.refl S.fh) r⟩
  | fr d'=>cases e;obtain ⟨v,rfl,r⟩:=h2;exact ⟨v,h1,q v F H (.refl S.fh) (RepN.rep _ _ (RepN.mono ZbH _ _ r))⟩
  | un=>cases e
  | ow _=>cases e
  | tab _=>cases e
  | dc _=>cases e
  | nw _=>cases e
  | jk _=>cases e
  | jl _=>cases e
  | xc _=>cases e
theorem ZdF (i:Nat) {x:Str} (hN:X.N[i]?=some x:=by kernel_rfl) (hv:visB X.env.scope x=true:=by kernel_rfl) (hd:(x == ("__debug__":Str))=false:=by kernel_rfl)
  (hcd:(x == ("__classdict__":Str))=false:=by kernel_rfl):PD X .r (.Name x pos) (Jw i):=PD.mk <| PE.of (L2.JW hN (JK hv) hd hcd) fun σ H Q hh_=>el9 hh_ fun BF BH F env L d S e q=>by
 unfold Jw at e
 cases he:env[i]? with
 | none=>rw [he] at e;cases e
 | some s =>
  rw [he] at e
  obtain ⟨ov,h1,h2⟩:=S.sl i s he
  cases s with
  | sh d'=>cases e;obtain ⟨v,rfl,r⟩:=h2;exact ⟨v,h1,q v F H (.refl S.fh) (Rep.mono S.fh _ _ r)⟩
  | fr d'=>cases e;obtain ⟨v,rfl,r⟩:=h2;exact ⟨v,h1,q v F H (.refl S.fh) (RepN.rep _ _ (RepN.mono (ZbH.trans S.fh) _ _ r))⟩
  | un=>cases e
  | ow ds =>
   cases e
   obtain ⟨p,vs,rfl,_,h3,r⟩:=h2
   refine ⟨_,h1,q _ F H (.refl S.fh) ?_⟩
   simp only [Rep,hpM]
   exact ⟨p,vs,rfl,.inl (.inl h3),Reps.mono S.fh _ _ r⟩
  | tab rs =>
   cases e
   obtain ⟨p,as,rfl,_,_,h3,r⟩:=h2
   refine ⟨_,h1,q _ F H (.refl S.fh) ?_⟩
   simp only [Rep,hpM]
   exact ⟨p,_,rfl,.inl (.inl h3),r.reps S.fh⟩
  | dc _=>cases e
  | nw ds =>
   cases e
   obtain ⟨p,vs,rfl,_,h3,r⟩:=h2
   refine ⟨_,h1,q _ F H (.refl S.fh) ?_⟩
   simp only [Rep,hpM]
   exact ⟨p,vs,rfl,.inl (.inl h3),Zh.reps _ _ (Zh.mono (ZbH.trans S.fh) _ _ r)⟩
  | jk _=>cases e
  | jl _=>cases e
  | xc _=>cases e
theorem ZgQ {x:Str} {i:Int} (hg:X.env.kindOf x=some .globalImplicit:=by kernel_rfl) (hm:∃ t,X.mg x=some (.int i t)) (hd:(x == ("__debug__":Str))=false:=by kernel_rfl):PD X m (.Name x pos) (eC (.int i)):=by
 obtain ⟨t,hm⟩:=hm
 exact PD.mk <| PE.of (L2.Zlr (v:=.int i) hg hm ⟨t,rfl⟩ hd) fun σ H Q hh_=>el9 hh_ fun BF BH F env L d S e q=>by
  cases e;exact q _ F H (.refl S.fh) (by simp [Rep])
theorem Zm8 (h:PD X .r a f):PD X m a (eSc f):=PD.mk <| PE.of h.h fun σ H Q hh_=>el9 hh_ fun BF BH F env L d S e q=>by
 unfold eSc at e
 cases he:f env with
 | none=>rw [he] at e;cases e
 | some d' =>
  rw [he] at e
  dsimp only at e
  split at e
  ·rename_i hs
   cases e
   exact ⟨BF,BH,F,env,L,_,S,he,fun v F' H' x r=>q v F' H' x (r.scal hs)⟩
  ·cases e
theorem two {m1 m2:Md}{R:V→V→Hp→Prop}{σ:L2.St}{H BF BH F:Hp}{env:Env}{L:Nat→List Addr}{x y:D}(S:SOk X.K BF BH F H σ env L)(e1:f env=some x)(e2:g env=some y)
  (k:∀ v w F' H',Ext F H F' H'→Rep X.K (hpM BH F' H' m1) x v→Rep X.K (hpM BH F' H' m2) y w→R v w H') :
  tD X.K m1 f σ H fun v H1=>tD X.K m2 g σ H1 fun w H2=>R v w H2 :=
 ⟨BF,BH,F,env,L,x,S,e1,fun v F1 H1 x1 r1=>⟨BF,BH,F1,env,L,y,S.ext x1,e2,fun w F2 H2 x2 r2=>k v w F2 H2 (x1.trans x2) (Rep.mono (Zbd x2 m1) _ _ r1) r2⟩⟩
theorem Jq {K:PySem.W.Frag}{H:Hp}{i:Int}{v:V}(h:Rep K H (.int i) v):v=.int i:=by simpa [Rep] using h
theorem ZgY {op:Operator}{C:Int→Int→Prop}{G:Int→Int→Int}{φ:Int→Int→Option D}(ho:L2.OpR X (binaryOp op) (L2.rI C fun i j=>.int (G i j)))
  (hφ:∀ i j d,φ i j=some d→C i j∧d=.int (G i j)) {m1 m2:Md} (ha:PD X m1 a f) (hb:PD X m2 b g):PD X m (.BinOp a op b pos) (e2I φ f g) :=
 PD.mk <| PE.of (L2.Zie ho ha.h hb.h) fun σ H Q hh_=>el9 hh_ fun BF BH F env L d S e q=>by
  unfold e2I at e
  split at e
  ·rename_i i j h1 h2
   refine two S h1 h2 fun v w F' H' x r1 r2=>?_
   obtain ⟨hc,rfl⟩:=hφ i j d e
   exact ⟨i,j,Jq r1,Jq r2,hc,q _ F' H' x (by simp [Rep])⟩
  ·cases e
theorem Zlx {op:Operator}{G:Int→Int→Int}{φ:Int→Int→Option D}(ho:L2.OpR X (binaryOp op) (L2.rI0 fun i j=>.int (G i j)))
  (hφ:∀ i j d,φ i j=some d→d=.int (G i j)) {m1 m2:Md} (ha:PD X m1 a f) (hb:PD X m2 b g):PD X m (.BinOp a op b pos) (e2I φ f g) :=
 PD.mk <| PE.of (L2.Zie ho ha.h hb.h) fun σ H Q hh_=>el9 hh_ fun BF BH F env L d S e q=>by
  unfold e2I at e
  split at e
  ·rename_i i j h1 h2
   refine two S h1 h2 fun v w F' H' x r1 r2=>?_
   obtain rfl:=hφ i j d e
   exact ⟨i,j,Jq r1,Jq r2,q _ F' H' x (by simp [Rep])⟩
  ·cases e
variable {m1 m2 m3:Md}
theorem Zh4 (ha:PD X m1 a f)(hb:PD X m2 b g):PD X m (.BinOp a .Sub b pos) (e2I iSub f g):=Zlx L2.Zmt (fun i j d h=>by cases h;rfl) ha hb
theorem Ys (ha:PD X m1 a f)(hb:PD X m2 b g):PD X m (.BinOp a .Mult b pos) (e2I iMul f g):=ZgY L2.Zmz (fun i j d h=>by
 unfold iMul at h;split at h
 ·rename_i hc;cases h;exact ⟨hc,rfl⟩
 ·cases h) ha hb
theorem Jk (ha:PD X m1 a f)(hb:PD X m2 b g):PD X m (.BinOp a .Mod b pos) (e2I iMod f g):=ZgY L2.ZlU (fun i j d h=>by
 unfold iMod at h;split at h
 ·rename_i hc;cases h;exact ⟨hc,rfl⟩
 ·cases h) ha hb
theorem ZK (ha:PD X m1 a f)(hb:PD X m2 b g):PD X m (.BinOp a .FloorDiv b pos) (e2I iDiv f g):=ZgY L2.ZlP (fun i j d h=>by
 unfold iDiv at h;split at h
 ·rename_i hc;cases h;exact ⟨hc,rfl⟩
 ·cases h) ha hb
end
end PV
set_option linter.all false
set_option Elab.async false
set_option maxRecDepth 100000
set_option maxHeartbeats 4000000
namespace PV
open PySem PySem.Spec PyProof.Rows
open L2 (V Hp HO Vals SqL SqT Same upd Cx PE PT PW PA PS PSs TE TT TA TS Inv RelV Jd Yd Ze)
mutual
noncomputable def Hr (s:Shared):D→Value→Prop
 | .non,u=>u=.none
 | .bl b,u=>u=.bool b
 | .int i,u=>∃ t,u=.int i t
 | .str x,u=>∃ t,u=.str x t
 | .lst ds,u=>∃ a its,u=.ref a∧s.heap.IsList a its.toArray∧Hrs s ds its
 | .tup ds,u=>∃ a its,u=.ref a∧s.heap.IsTuple a its.toArray∧Hrs s ds its
 | .dct _,_=>False
noncomputable def Hrs (s:Shared):List D→List Value→Prop
 | [],us=>us=[]
 | d::ds,us=>∃ u r,us=u::r∧Hr s d u∧Hrs s ds r
end
mutual
theorem Z9 {X:Cx}{pins:List (Addr × Obj)}{σ:L2.St}{H:Hp}{s:Shared}(I:Inv X pins σ H s):∀ (d:D) (x:V) (u:Value),d.dep < 100→Rep X.K H d x→RelV x u→Hr s d u
 | .non,x,u,_,h,r=>by simp only [Rep] at h;subst h;simp only [Hr];exact r
 | .bl b,x,u,_,h,r=>by simp only [Rep] at h;subst h;simp only [Hr];exact r
 | .int i,x,u,_,h,r=>by simp only [Rep] at h;subst h;simp only [Hr];exact r
 | .str i,x,u,_,h,r=>by simp only [Rep] at h;subst h;simp only [Hr];exact r
 | .lst ds,x,u,hd,h,r=>by
  simp only [D.dep] at hd
  simp only [Rep] at h
  obtain ⟨a,vs,rfl,hs,t⟩:=h
  obtain ⟨its,rv,p,_⟩:=I.list hs
  cases r
  simp only [Hr]
  exact ⟨a,its,rfl,p.isList,Zev I ds vs its (by omega) t rv⟩
 | .dct ds,x,u,hd,h,r=>by simp [D.dep] at hd
 | .tup ds,x,u,hd,h,r=>by
  simp only [D.dep] at hd
  simp only [Rep] at h
  obtain ⟨a,vs,rfl,hs,t⟩:=h
  obtain ⟨its,rv,p,_⟩:=I.tuple hs
  cases r
  simp only [Hr]
  exact ⟨a,its,rfl,p,Zev I ds vs its (by omega) t rv⟩
theorem Zev {X:Cx}{pins:List (Addr × Obj)}{σ:L2.St}{H:Hp}{s:Shared}(I:Inv X pins σ H s):∀ (ds:List D) (vs:List V) (us:List Value),D.deps ds < 100→Reps X.K H ds vs→Vals vs us→Hrs s ds us
 | [],vs,us,_,h,r=>by simp only [Reps] at h;subst h;cases r;simp [Hrs]
 | d::ds,vs,us,hd,h,r=>by
  simp only [D.deps] at hd
  simp only [Reps] at h
  obtain ⟨v,t,rfl,h1,h2⟩:=h
  cases r with
  | cons r1 r2 =>
   simp only [Hrs]
   exact ⟨_,_,rfl,Z9 I d v _ (by omega) h1 r1,Zev I ds t _ (by omega) h2 r2⟩
end
section
variable {s:Shared}
theorem Hrs.length:∀ {ds:List D} {us:List Value},Hrs s ds us→ds.length=us.length
 | [],us,h=>by simp only [Hrs] at h;subst h;rfl
 | d::ds,us,h=>by simp only [Hrs] at h;obtain ⟨u,r,rfl,_,t⟩:=h;simp [Hrs.length t]
theorem Hrs.get:∀ {ds:List D} {us:List Value} {j:Nat} (h1:j < ds.length) (h2:j < us.length),Hrs s ds us→Hr s ds[j] us[j]
 | [],us,j,h1,h2,h=>by simp at h1
 | d::ds,us,0,h1,h2,h=>by simp only [Hrs] at h;obtain ⟨u,r,rfl,x,t⟩:=h;exact x
 | d::ds,us,j + 1,h1,h2,h=>by simp only [Hrs] at h;obtain ⟨u,r,rfl,x,t⟩:=h;exact Hrs.get (j:=j) (by simpa using h1) (by simpa using h2) t
theorem Ze6 {h:Heap}{a:Addr}{xs ys:List Value}(h1:h.IsList a xs.toArray)(h2:h.IsList a ys.toArray):xs=ys:=by
 obtain ⟨o,e,c,n,d⟩:=h1
 obtain ⟨o',e',c',n',d'⟩:=h2
 rw [e] at e';cases e'
 rw [d] at d'
 injection d' with d1 _
 have:=congrArg Array.toList d1
 simpa using this
theorem ZdY {h:Heap}{a:Addr}{xs ys:List Value}(h1:h.IsTuple a xs.toArray)(h2:h.IsTuple a ys.toArray):xs=ys:=by
 obtain ⟨o,e,c,n,d⟩:=h1
 obtain ⟨o',e',c',n',d'⟩:=h2
 rw [e] at e';cases e'
 rw [d] at d'
 injection d' with d1 _
 have:=congrArg Array.toList d1
 simpa using this
mutual
theorem Hr.func:∀ (d e:D) (u:Value),Hr s d u→Hr s e u→d=e
 | .lst ds,.lst es,u,h1,h2=>by
  simp only [Hr] at h1 h2
  obtain ⟨a,its,rfl,l1,r1⟩:=h1
  obtain ⟨b,its2,e,l2,r2⟩:=h2
  cases e
  obtain rfl:=Ze6 l1 l2
  rw [Hrs.func ds es its r1 r2]
 | .tup ds,.tup es,u,h1,h2=>by
  simp only [Hr] at h1 h2
  obtain ⟨a,its,rfl,l1,r1⟩:=h1
  obtain ⟨b,its2,e,l2,r2⟩:=h2
  cases e
  obtain rfl:=ZdY l1 l2
  rw [Hrs.func ds es its r1 r2]
 | .lst ds,.tup es,u,h1,h2=>by
  simp only [Hr] at h1 h2
  obtain ⟨a,its,rfl,l1,r1⟩:=h1
  obtain ⟨b,its2,e,l2,r2⟩:=h2
  cases e
  exact absurd rfl (SeqAt.ne_of_list_tuple l1 l2)
 | .tup ds,.lst es,u,h1,h2=>by
  simp only [Hr] at h1 h2
  obtain ⟨a,its,rfl,l1,r1⟩:=h1
  obtain ⟨b,its2,e,l2,r2⟩:=h2
  cases e
  exact absurd rfl (SeqAt.ne_of_list_tuple l2 l1)
 | .non,e,u,h1,h2=>by simp only [Hr] at h1;subst h1;cases e <;> simp [Hr] at h2 <;> first | rfl | (obtain ⟨_,_,_,_⟩:=h2) | skip
 | .bl b,e,u,h1,h2=>by simp only [Hr] at h1;subst h1;cases e <;> simp [Hr] at h2 <;> first | (rw [h2]) | skip
 | .int i,e,u,h1,h2=>by simp only [Hr] at h1;obtain ⟨t,rfl⟩:=h1;cases e <;> simp [Hr] at h2 <;> first | (rw [h2]) | skip
 | .str i,e,u,h1,h2=>by simp only [Hr] at h1;obtain ⟨t,rfl⟩:=h1;cases e <;> simp [Hr] at h2 <;> first | (rw [h2]) | skip
 | .lst ds,.non,u,h1,h2=>by simp only [Hr] at h1 h2;obtain ⟨_,_,rfl,_⟩:=h1;cases h2
 | .lst ds,.bl _,u,h1,h2=>by simp only [Hr] at h1 h2;obtain ⟨_,_,rfl,_⟩:=h1;cases h2
 | .lst ds,.int _,u,h1,h2=>by simp only [Hr] at h1 h2;obtain ⟨_,_,rfl,_⟩:=h1;obtain ⟨_,h2⟩:=h2;cases h2
 | .lst ds,.str _,u,h1,h2=>by simp only [Hr] at h1 h2;obtain ⟨_,_,rfl,_⟩:=h1;obtain ⟨_,h2⟩:=h2;cases h2
 | .tup ds,.non,u,h1,h2=>by simp only [Hr] at h1 h2;obtain ⟨_,_,rfl,_⟩:=h1;cases h2
 | .tup ds,.bl _,u,h1,h2=>by simp only [Hr] at h1 h2;obtain ⟨_,_,rfl,_⟩:=h1;cases h2
 | .tup ds,.int _,u,h1,h2=>by simp only [Hr] at h1 h2;obtain ⟨_,_,rfl,_⟩:=h1;obtain ⟨_,h2⟩:=h2;cases h2
 | .dct _,e,u,h1,h2=>by cases h1
 | .lst _,.dct _,u,h1,h2=>by cases h2
 | .tup _,.dct _,u,h1,h2=>by cases h2
 | .tup ds,.str _,u,h1,h2=>by simp only [Hr] at h1 h2;obtain ⟨_,_,rfl,_⟩:=h1;obtain ⟨_,h2⟩:=h2;cases h2
theorem Hrs.func:∀ (ds es:List D) (us:List Value),Hrs s ds us→Hrs s es us→ds=es
 | [],[],_,_,_=>rfl
 | [],e::es,us,h1,h2=>by simp only [Hrs] at h1 h2;subst h1;obtain ⟨_,_,h,_⟩:=h2;cases h
 | d::ds,[],us,h1,h2=>by simp only [Hrs] at h1 h2;subst h2;obtain ⟨_,_,h,_⟩:=h1;cases h
 | d::ds,e::es,us,h1,h2=>by
  simp only [Hrs] at h1 h2
  obtain ⟨u,r,rfl,x,t⟩:=h1
  obtain ⟨u',r',e',x',t'⟩:=h2
  cases e'
  rw [Hr.func d e u x x',Hrs.func ds es r t t']
end
theorem ZaY:∀ (ds es:List D),ds.length=es.length→(List.range ds.length).all (fun j=>eqD (ds.getD j .non) (es.getD j .non))=eqDs ds es
 | [],[],_=>by simp [eqDs]
 | [],_::_,h=>by simp at h
 | _::_,[],h=>by simp at h
 | d::ds,e::es,h=>by
  have ih:=ZaY ds es (by simpa using h)
  rw [List.length_cons,List.range_succ_eq_map,List.all_cons,List.all_map]
  simp only [eqDs]
  rw [← ih]
  rfl
theorem ZbU:∀ (ds es:List D),ds.length≠es.length→eqDs ds es=false
 | [],[],h=>absurd rfl h
 | [],_::_,_=>by simp [eqDs]
 | _::_,[],_=>by simp [eqDs]
 | d::ds,e::es,h=>by simp only [eqDs,ZbU ds es (by simpa using h),Bool.and_false]
theorem Zdq:∀ {ds:List D} {j:Nat} (h:j < ds.length),(ds[j]).dep≤D.deps ds
 | [],_,h=>by simp at h
 | d::ds,0,h=>by simp only [D.deps];exact Nat.le_max_left _ _
 | d::ds,j + 1,h=>by simp only [D.deps];exact Nat.le_trans (Zdq (j:=j) (by simpa using h)) (Nat.le_max_right _ _)
noncomputable def Ih (s:Shared) (A:Around) (x:List D):Prop:=∀ j (h:j < x.length) (e:D) (u v:Value),A.units + (x[j]).dep < cLine→Hr s x[j] u→Hr s e v→SeqAt.EqAt A s u v (eqD x[j] e)
theorem items {A:Around}{x y:List D}{xits yits:List Value}(ih:Ih s A.in1 x)(hu:A.units + D.deps x + 1 < cLine)(hl:x.length=y.length)(xr:Hrs s x xits)(yr:Hrs s y yits) :
  ∀ j (h1:j < xits.toArray.size) (h2:j < yits.toArray.size),SeqAt.EqAt A.in1 s xits.toArray[j] yits.toArray[j] (eqD (x.getD j .non) (y.getD j .non)):=fun j h1 h2=>by
 have k1:j < x.length:=by rw [xr.length];simpa using h1
 have k2:j < y.length:=by rw [← hl];exact k1
 have e1:x.getD j .non=x[j]:=by simp [List.getD,k1]
 have e2:y.getD j .non=y[j]:=by simp [List.getD,k2]
 rw [e1,e2]
 have hd:=Zdq (ds:=x) k1
 have a1:=xr.get k1 (by rw [← xr.length];exact k1)
 have a2:=yr.get k2 (by rw [← yr.length];exact k2)
 refine ih j k1 _ _ _ ?_ (by simpa using a1) (by simpa using a2)
 show A.units + 1 + _ < cLine
 omega
theorem ZeF {A:Around}{xa ya:Addr}{xits yits:List Value}(x y:List D)(hu:A.units + D.deps x + 1 < cLine)(xl:s.heap.IsList xa xits.toArray)(yl:s.heap.IsList ya yits.toArray)(xr:Hrs s x xits)(yr:Hrs s y yits)(ih:Ih s A.in1 x) :
  SeqAt.RcAt A s (.ref xa) (.ref ya) (eqD (.lst x) (.lst y)):=by
 simp only [eqD]
 by_cases hl:x.length=y.length
 ·have e:=SeqAt.RcAt.lists (e:=fun j=>eqD (x.getD j .non) (y.getD j .non)) xl yl (by simp [← xr.length,← yr.length,hl]) (by omega) (items ih hu hl xr yr)
  rw [show xits.toArray.size=x.length by simp [xr.length],ZaY x y hl] at e
  exact e
 ·rw [ZbU x y hl]
  exact SeqAt.RcAt.lists_lengths xl yl (by simp [← xr.length,← yr.length,hl]) (by omega)
theorem Zed {A:Around}{xa ya:Addr}{xits yits:List Value}(x y:List D)(hu:A.units + D.deps x + 1 < cLine)(xl:s.heap.IsTuple xa xits.toArray)(yl:s.heap.IsTuple ya yits.toArray)(xr:Hrs s x xits)(yr:Hrs s y yits)(ih:Ih s A.in1 x) :
  SeqAt.RcAt A s (.ref xa) (.ref ya) (eqD (.tup x) (.tup y)):=by
 simp only [eqD]
 have e:=SeqAt.RcAt.tuples (A:=A) (e:=fun j=>eqD (x.getD j .non) (y.getD j .non)) xl yl (by omega) (fun j h1 h2=>by
  have k1:j < x.length:=by rw [xr.length];simpa using h1
  have k2:j < y.length:=by rw [yr.length];simpa using h2
  have e1:x.getD j .non=x[j]:=by simp [List.getD,k1]
  have e2:y.getD j .non=y[j]:=by simp [List.getD,k2]
  rw [e1,e2]
  have hd:=Zdq (ds:=x) k1
  have a1:=xr.get k1 (by rw [← xr.length];exact k1)
  have a2:=yr.get k2 (by rw [← yr.length];exact k2)
  refine ih j k1 _ _ _ ?_ (by simpa using a1) (by simpa using a2)
  show A.units + 1 + _ < cLine
  omega)
 have z:((List.range (min xits.toArray.size yits.toArray.size)).all (fun j=>eqD (x.getD j .non) (y.getD j .non)) && xits.toArray.size == yits.toArray.size)=eqDs x y:=by
  rw [show xits.toArray.size=x.length by simp [xr.length],show yits.toArray.size=y.length by simp [yr.length]]
  by_cases hl:x.length=y.length
  ·rw [← hl,Nat.min_self,ZaY x y hl];simp
  ·rw [ZbU x y hl,beq_eq_false_iff_ne.mpr hl,Bool.and_false]
 rw [z] at e
 exact e
theorem Ziq {A:Around}{xa ya:Addr}{xits yits:List Value}(x y:List D)(hu:A.units + D.deps x + 1 < cLine)(xl:s.heap.IsList xa xits.toArray)(yl:s.heap.IsList ya yits.toArray)(xr:Hrs s x xits)(yr:Hrs s y yits)(ih:Ih s A.in1 x) :
  SeqAt.EqAt A s (.ref xa) (.ref ya) (eqD (.lst x) (.lst y)):=by
 by_cases ha:xa=ya
 ·subst ha
  obtain rfl:=Ze6 xl yl
  obtain rfl:=Hrs.func _ _ _ xr yr
  rw [ZbR]
  exact SeqAt.EqAt.same _
 ·exact .of_refs ha (ZeF x y hu xl yl xr yr ih)
theorem Zg9 {A:Around}{xa ya:Addr}{xits yits:List Value}(x y:List D)(hu:A.units + D.deps x + 1 < cLine)(xl:s.heap.IsTuple xa xits.toArray)(yl:s.heap.IsTuple ya yits.toArray)(xr:Hrs s x xits)(yr:Hrs s y yits)(ih:Ih s A.in1 x) :
  SeqAt.EqAt A s (.ref xa) (.ref ya) (eqD (.tup x) (.tup y)):=by
 by_cases ha:xa=ya
 ·subst ha
  obtain rfl:=ZdY xl yl
  obtain rfl:=Hrs.func _ _ _ xr yr
  rw [ZbR]
  exact SeqAt.EqAt.same _
 ·exact .of_refs ha (Zed x y hu xl yl xr yr ih)
theorem Ziv {A:Around}{xa ya:Addr}{xits yits:List Value}(x y:List D)(hu:A.units + D.deps x + 1 < cLine)(xl:s.heap.IsList xa xits.toArray)(yl:s.heap.IsList ya yits.toArray)(xr:Hrs s x xits)(yr:Hrs s y yits)(ih:Ih s A.in1 x) :
  SeqAt.RcNeAt A s (.ref xa) (.ref ya) (!eqD (.lst x) (.lst y)):=by
 simp only [eqD]
 by_cases hl:x.length=y.length
 ·have e:=SeqAt.RcNeAt.lists (e:=fun j=>eqD (x.getD j .non) (y.getD j .non)) xl yl (by simp [← xr.length,← yr.length,hl]) (by omega) (items ih hu hl xr yr)
  rw [show xits.toArray.size=x.length by simp [xr.length],ZaY x y hl] at e
  exact e
 ·rw [ZbU x y hl]
  exact SeqAt.RcNeAt.lists_lengths xl yl (by simp [← xr.length,← yr.length,hl]) (by omega)
theorem Zhi {A:Around}{xa ya:Addr}{xits yits:List Value}(x y:List D)(hu:A.units + D.deps x + 1 < cLine)(xl:s.heap.IsTuple xa xits.toArray)(yl:s.heap.IsTuple ya yits.toArray)(xr:Hrs s x xits)(yr:Hrs s y yits)(ih:Ih s A.in1 x) :
  SeqAt.RcNeAt A s (.ref xa) (.ref ya) (!eqD (.tup x) (.tup y)):=by
 simp only [eqD]
 have e:=SeqAt.RcNeAt.tuples (A:=A) (e:=fun j=>eqD (x.getD j .non) (y.getD j .non)) xl yl (by omega) (fun j h1 h2=>by
  have k1:j < x.length:=by rw [xr.length];simpa using h1
  have k2:j < y.length:=by rw [yr.length];simpa using h2
  have e1:x.getD j .non=x[j]:=by simp [List.getD,k1]
  have e2:y.getD j .non=y[j]:=by simp [List.getD,k2]
  rw [e1,e2]
  have hd:=Zdq (ds:=x) k1
  have a1:=xr.get k1 (by rw [← xr.length];exact k1)
  have a2:=yr.get k2 (by rw [← yr.length];exact k2)
  refine ih j k1 _ _ _ ?_ (by simpa using a1) (by simpa using a2)
  show A.units + 1 + _ < cLine
  omega)
 have z:((List.range (min xits.toArray.size yits.toArray.size)).all (fun j=>eqD (x.getD j .non) (y.getD j .non)) && xits.toArray.size == yits.toArray.size)=eqDs x y:=by
  rw [show xits.toArray.size=x.length by simp [xr.length],show yits.toArray.size=y.length by simp [yr.length]]
  by_cases hl:x.length=y.length
  ·rw [← hl,Nat.min_self,ZaY x y hl];simp
  ·rw [ZbU x y hl,beq_eq_false_iff_ne.mpr hl,Bool.and_false]
 rw [z] at e
 exact e
noncomputable def D.kids:D→List D
 | .lst xs=>xs
 | .tup xs=>xs
 | _=>[]
theorem Zbi {A:Around}(d e:D)(u v:Value)(hu:A.units + d.dep < cLine)(h1:Hr s d u)(h2:Hr s e v)(ih:Ih s A.in1 d.kids):SeqAt.EqAt A s u v (eqD d e):=by
 have hu0:A.units < cLine:=by omega
 cases d with
 | dct x=>cases h1
 | non =>
  cases h1
  cases e with
  | dct y=>cases h2
  | non =>
   cases h2
   exact SeqAt.EqAt.same _
  | bl y =>
   cases h2
   exact SeqAt.EqAt.none_bool y
  | int y =>
   obtain ⟨yt,rfl⟩:=h2
   exact SeqAt.EqAt.none_int y yt
  | str y =>
   obtain ⟨yt,rfl⟩:=h2
   exact SeqAt.EqAt.none_str y yt
  | lst y =>
   obtain ⟨ya,yits,rfl,yl,yr⟩:=h2
   exact SeqAt.EqAt.none_list yl hu0
  | tup y =>
   obtain ⟨ya,yits,rfl,yl,yr⟩:=h2
   exact SeqAt.EqAt.none_tuple yl hu0
 | bl x =>
  cases h1
  cases e with
  | dct y=>cases h2
  | non =>
   cases h2
   exact SeqAt.EqAt.bool_none x
  | bl y =>
   cases h2
   exact SeqAt.EqAt.bool_bool x y
  | int y =>
   obtain ⟨yt,rfl⟩:=h2
   exact SeqAt.EqAt.bool_int x y yt
  | str y =>
   obtain ⟨yt,rfl⟩:=h2
   exact SeqAt.EqAt.bool_str x y yt
  | lst y =>
   obtain ⟨ya,yits,rfl,yl,yr⟩:=h2
   exact SeqAt.EqAt.bool_list x yl hu0
  | tup y =>
   obtain ⟨ya,yits,rfl,yl,yr⟩:=h2
   exact SeqAt.EqAt.bool_tuple x yl hu0
 | int x =>
  obtain ⟨xt,rfl⟩:=h1
  cases e with
  | dct y=>cases h2
  | non =>
   cases h2
   exact SeqAt.EqAt.int_none x xt
  | bl y =>
   cases h2
   exact SeqAt.EqAt.int_bool x xt y
  | int y =>
   obtain ⟨yt,rfl⟩:=h2
   exact SeqAt.EqAt.int_int x xt y yt
  | str y =>
   obtain ⟨yt,rfl⟩:=h2
   exact SeqAt.EqAt.int_str x xt y yt
  | lst y =>
   obtain ⟨ya,yits,rfl,yl,yr⟩:=h2
   exact SeqAt.EqAt.int_list x xt yl hu0
  | tup y =>
   obtain ⟨ya,yits,rfl,yl,yr⟩:=h2
   exact SeqAt.EqAt.int_tuple x xt yl hu0
 | str x =>
  obtain ⟨xt,rfl⟩:=h1
  cases e with
  | dct y=>cases h2
  | non =>
   cases h2
   exact SeqAt.EqAt.str_none x xt
  | bl y =>
   cases h2
   exact SeqAt.EqAt.str_bool x xt y
  | int y =>
   obtain ⟨yt,rfl⟩:=h2
   exact SeqAt.EqAt.str_int x xt y yt
  | str y =>
   obtain ⟨yt,rfl⟩:=h2
   exact SeqAt.EqAt.str_str x xt y yt
  | lst y =>
   obtain ⟨ya,yits,rfl,yl,yr⟩:=h2
   exact SeqAt.EqAt.str_list x xt yl hu0
  | tup y =>
   obtain ⟨ya,yits,rfl,yl,yr⟩:=h2
   exact SeqAt.EqAt.str_tuple x xt yl hu0
 | lst x =>
  obtain ⟨xa,xits,rfl,xl,xr⟩:=h1
  cases e with
  | dct y=>cases h2
  | non =>
   cases h2
   exact SeqAt.EqAt.list_none xl hu0
  | bl y =>
   cases h2
   exact SeqAt.EqAt.list_bool y xl hu0
  | int y =>
   obtain ⟨yt,rfl⟩:=h2
   exact SeqAt.EqAt.list_int y yt xl hu0
  | str y =>
   obtain ⟨yt,rfl⟩:=h2
   exact SeqAt.EqAt.list_str y yt xl hu0
  | lst y =>
   obtain ⟨ya,yits,rfl,yl,yr⟩:=h2
   exact Ziq x y hu xl yl xr yr ih
  | tup y =>
   obtain ⟨ya,yits,rfl,yl,yr⟩:=h2
   exact SeqAt.EqAt.list_tuple xl yl hu0
 | tup x =>
  obtain ⟨xa,xits,rfl,xl,xr⟩:=h1
  cases e with
  | dct y=>cases h2
  | non =>
   cases h2
   exact SeqAt.EqAt.tuple_none xl hu0
  | bl y =>
   cases h2
   exact SeqAt.EqAt.tuple_bool y xl hu0
  | int y =>
   obtain ⟨yt,rfl⟩:=h2
   exact SeqAt.EqAt.tuple_int y yt xl hu0
  | str y =>
   obtain ⟨yt,rfl⟩:=h2
   exact SeqAt.EqAt.tuple_str y yt xl hu0
  | lst y =>
   obtain ⟨ya,yits,rfl,yl,yr⟩:=h2
   exact SeqAt.EqAt.tuple_list xl yl hu0
  | tup y =>
   obtain ⟨ya,yits,rfl,yl,yr⟩:=h2
   exact Zg9 x y hu xl yl xr yr ih
theorem ZjZ {A:Around}(d e:D)(u v:Value)(hu:A.units + d.dep < cLine)(h1:Hr s d u)(h2:Hr s e v)(ih:Ih s A.in1 d.kids):SeqAt.RcAt A s u v (eqD d e):=by
 have hu0:A.units < cLine:=by omega
 cases d with
 | dct x=>cases h1
 | non =>
  cases h1
  cases e with
  | dct y=>cases h2
  | non =>
   cases h2
   exact SeqAt.RcAt.none_none
  | bl y =>
   cases h2
   exact SeqAt.RcAt.none_bool y
  | int y =>
   obtain ⟨yt,rfl⟩:=h2
   exact SeqAt.RcAt.none_int y yt
  | str y =>
   obtain ⟨yt,rfl⟩:=h2
   exact SeqAt.RcAt.none_str y yt
  | lst y =>
   obtain ⟨ya,yits,rfl,yl,yr⟩:=h2
   exact SeqAt.RcAt.none_list yl hu0
  | tup y =>
   obtain ⟨ya,yits,rfl,yl,yr⟩:=h2
   exact SeqAt.RcAt.none_tuple yl hu0
 | bl x =>
  cases h1
  cases e with
  | dct y=>cases h2
  | non =>
   cases h2
   exact SeqAt.RcAt.bool_none x
  | bl y =>
   cases h2
   exact SeqAt.RcAt.bool_bool x y
  | int y =>
   obtain ⟨yt,rfl⟩:=h2
   exact SeqAt.RcAt.bool_int x y yt
  | str y =>
   obtain ⟨yt,rfl⟩:=h2
   exact SeqAt.RcAt.bool_str x y yt
  | lst y =>
   obtain ⟨ya,yits,rfl,yl,yr⟩:=h2
   exact SeqAt.RcAt.bool_list x yl hu0
  | tup y =>
   obtain ⟨ya,yits,rfl,yl,yr⟩:=h2
   exact SeqAt.RcAt.bool_tuple x yl hu0
 | int x =>
  obtain ⟨xt,rfl⟩:=h1
  cases e with
  | dct y=>cases h2
  | non =>
   cases h2
   exact SeqAt.RcAt.int_none x xt
  | bl y =>
   cases h2
   exact SeqAt.RcAt.int_bool x xt y
  | int y =>
   obtain ⟨yt,rfl⟩:=h2
   exact SeqAt.RcAt.int_int x xt y yt
  | str y =>
   obtain ⟨yt,rfl⟩:=h2
   exact SeqAt.RcAt.int_str x xt y yt
  | lst y =>
   obtain ⟨ya,yits,rfl,yl,yr⟩:=h2
   exact SeqAt.RcAt.int_list x xt yl hu0
  | tup y =>
   obtain ⟨ya,yits,rfl,yl,yr⟩:=h2
   exact SeqAt.RcAt.int_tuple x xt yl hu0
 | str x =>
  obtain ⟨xt,rfl⟩:=h1
  cases e with
  | dct y=>cases h2
  | non =>
   cases h2
   exact SeqAt.RcAt.str_none x xt
  | bl y =>
   cases h2
   exact SeqAt.RcAt.str_bool x xt y
  | int y =>
   obtain ⟨yt,rfl⟩:=h2
   exact SeqAt.RcAt.str_int x xt y yt
  | str y =>
   obtain ⟨yt,rfl⟩:=h2
   exact SeqAt.RcAt.str_str x xt y yt
  | lst y =>
   obtain ⟨ya,yits,rfl,yl,yr⟩:=h2
   exact SeqAt.RcAt.str_list x xt yl hu0
  | tup y =>
   obtain ⟨ya,yits,rfl,yl,yr⟩:=h2
   exact SeqAt.RcAt.str_tuple x xt yl hu0
 | lst x =>
  obtain ⟨xa,xits,rfl,xl,xr⟩:=h1
  cases e with
  | dct y=>cases h2
  | non =>
   cases h2
   exact SeqAt.RcAt.list_none xl hu0
  | bl y =>
   cases h2
   exact SeqAt.RcAt.list_bool y xl hu0
  | int y =>
   obtain ⟨yt,rfl⟩:=h2
   exact SeqAt.RcAt.list_int y yt xl hu0
  | str y =>
   obtain ⟨yt,rfl⟩:=h2
   exact SeqAt.RcAt.list_str y yt xl hu0
  | lst y =>
   obtain ⟨ya,yits,rfl,yl,yr⟩:=h2
   exact ZeF x y hu xl yl xr yr ih
  | tup y =>
   obtain ⟨ya,yits,rfl,yl,yr⟩:=h2
   exact SeqAt.RcAt.list_tuple xl yl hu0
 | tup x =>
  obtain ⟨xa,xits,rfl,xl,xr⟩:=h1
  cases e with
  | dct y=>cases h2
  | non =>
   cases h2
   exact SeqAt.RcAt.tuple_none xl hu0
  | bl y =>
   cases h2
   exact SeqAt.RcAt.tuple_bool y xl hu0
  | int y =>
   obtain ⟨yt,rfl⟩:=h2
   exact SeqAt.RcAt.tuple_int y yt xl hu0
  | str y =>
   obtain ⟨yt,rfl⟩:=h2
   exact SeqAt.RcAt.tuple_str y yt xl hu0
  | lst y =>
   obtain ⟨ya,yits,rfl,yl,yr⟩:=h2
   exact SeqAt.RcAt.tuple_list xl yl hu0
  | tup y =>
   obtain ⟨ya,yits,rfl,yl,yr⟩:=h2
   exact Zed x y hu xl yl xr yr ih
theorem ZjX {A:Around}(d e:D)(u v:Value)(hu:A.units + d.dep < cLine)(h1:Hr s d u)(h2:Hr s e v)(ih:Ih s A.in1 d.kids):SeqAt.RcNeAt A s u v (!eqD d e):=by
 have hu0:A.units < cLine:=by omega
 cases d with
 | dct x=>cases h1
 | non =>
  cases h1
  cases e with
  | dct y=>cases h2
  | non =>
   cases h2
   exact SeqAt.RcNeAt.none_none
  | bl y =>
   cases h2
   exact SeqAt.RcNeAt.none_bool y
  | int y =>
   obtain ⟨yt,rfl⟩:=h2
   exact SeqAt.RcNeAt.none_int y yt
  | str y =>
   obtain ⟨yt,rfl⟩:=h2
   exact SeqAt.RcNeAt.none_str y yt
  | lst y =>
   obtain ⟨ya,yits,rfl,yl,yr⟩:=h2
   exact SeqAt.RcNeAt.none_list yl hu0
  | tup y =>
   obtain ⟨ya,yits,rfl,yl,yr⟩:=h2
   exact SeqAt.RcNeAt.none_tuple yl hu0
 | bl x =>
  cases h1
  cases e with
  | dct y=>cases h2
  | non =>
   cases h2
   exact SeqAt.RcNeAt.bool_none x
  | bl y =>
   cases h2
   exact SeqAt.RcNeAt.bool_bool x y
  | int y =>
   obtain ⟨yt,rfl⟩:=h2
   exact SeqAt.RcNeAt.bool_int x y yt
  | str y =>
   obtain ⟨yt,rfl⟩:=h2
   exact SeqAt.RcNeAt.bool_str x y yt
  | lst y =>
   obtain ⟨ya,yits,rfl,yl,yr⟩:=h2
   exact SeqAt.RcNeAt.bool_list x yl hu0
  | tup y =>
   obtain ⟨ya,yits,rfl,yl,yr⟩:=h2
   exact SeqAt.RcNeAt.bool_tuple x yl hu0
 | int x =>
  obtain ⟨xt,rfl⟩:=h1
  cases e with
  | dct y=>cases h2
  | non =>
   cases h2
   exact SeqAt.RcNeAt.int_none x xt
  | bl y =>
   cases h2
   exact SeqAt.RcNeAt.int_bool x xt y
  | int y =>
   obtain ⟨yt,rfl⟩:=h2
   exact SeqAt.RcNeAt.int_int x xt y yt
  | str y =>
   obtain ⟨yt,rfl⟩:=h2
   exact SeqAt.RcNeAt.int_str x xt y yt
  | lst y =>
   obtain ⟨ya,yits,rfl,yl,yr⟩:=h2
   exact SeqAt.RcNeAt.int_list x xt yl hu0
  | tup y =>
   obtain ⟨ya,yits,rfl,yl,yr⟩:=h2
   exact SeqAt.RcNeAt.int_tuple x xt yl hu0
 | str x =>
  obtain ⟨xt,rfl⟩:=h1
  cases e with
  | dct y=>cases h2
  | non =>
   cases h2
   exact SeqAt.RcNeAt.str_none x xt
  | bl y =>
   cases h2
   exact SeqAt.RcNeAt.str_bool x xt y
  | int y =>
   obtain ⟨yt,rfl⟩:=h2
   exact SeqAt.RcNeAt.str_int x xt y yt
  | str y =>
   obtain ⟨yt,rfl⟩:=h2
   exact SeqAt.RcNeAt.str_str x xt y yt
  | lst y =>
   obtain ⟨ya,yits,rfl,yl,yr⟩:=h2
   exact SeqAt.RcNeAt.str_list x xt yl hu0
  | tup y =>
   obtain ⟨ya,yits,rfl,yl,yr⟩:=h2
   exact SeqAt.RcNeAt.str_tuple x xt yl hu0
 | lst x =>
  obtain ⟨xa,xits,rfl,xl,xr⟩:=h1
  cases e with
  | dct y=>cases h2
  | non =>
   cases h2
   exact SeqAt.RcNeAt.list_none xl hu0
  | bl y =>
   cases h2
   exact SeqAt.RcNeAt.list_bool y xl hu0
  | int y =>
   obtain ⟨yt,rfl⟩:=h2
   exact SeqAt.RcNeAt.list_int y yt xl hu0
  | str y =>
   obtain ⟨yt,rfl⟩:=h2
   exact SeqAt.RcNeAt.list_str y yt xl hu0
  | lst y =>
   obtain ⟨ya,yits,rfl,yl,yr⟩:=h2
   exact Ziv x y hu xl yl xr yr ih
  | tup y =>
   obtain ⟨ya,yits,rfl,yl,yr⟩:=h2
   exact SeqAt.RcNeAt.list_tuple xl yl hu0
 | tup x =>
  obtain ⟨xa,xits,rfl,xl,xr⟩:=h1
  cases e with
  | dct y=>cases h2
  | non =>
   cases h2
   exact SeqAt.RcNeAt.tuple_none xl hu0
  | bl y =>
   cases h2
   exact SeqAt.RcNeAt.tuple_bool y xl hu0
  | int y =>
   obtain ⟨yt,rfl⟩:=h2
   exact SeqAt.RcNeAt.tuple_int y yt xl hu0
  | str y =>
   obtain ⟨yt,rfl⟩:=h2
   exact SeqAt.RcNeAt.tuple_str y yt xl hu0
  | lst y =>
   obtain ⟨ya,yits,rfl,yl,yr⟩:=h2
   exact SeqAt.RcNeAt.tuple_list xl yl hu0
  | tup y =>
   obtain ⟨ya,yits,rfl,yl,yr⟩:=h2
   exact Zhi x y hu xl yl xr yr ih
mutual
theorem Zjk:∀ (d:D) {A:Around} (e:D) (u v:Value),A.units + d.dep < cLine→Hr s d u→Hr s e v→SeqAt.EqAt A s u v (eqD d e)
 | .lst xs,_,e,u,v,hu,h1,h2=>Zbi (.lst xs) e u v hu h1 h2 (Zcq xs)
 | .dct xs,_,e,u,v,hu,h1,h2=>by cases h1
 | .tup xs,_,e,u,v,hu,h1,h2=>Zbi (.tup xs) e u v hu h1 h2 (Zcq xs)
 | .non,_,e,u,v,hu,h1,h2=>Zbi .non e u v hu h1 h2 (fun j h=>by simp [D.kids] at h)
 | .bl b,_,e,u,v,hu,h1,h2=>Zbi (.bl b) e u v hu h1 h2 (fun j h=>by simp [D.kids] at h)
 | .int b,_,e,u,v,hu,h1,h2=>Zbi (.int b) e u v hu h1 h2 (fun j h=>by simp [D.kids] at h)
 | .str b,_,e,u,v,hu,h1,h2=>Zbi (.str b) e u v hu h1 h2 (fun j h=>by simp [D.kids] at h)
theorem Zcq:∀ (xs:List D) {A:Around},Ih s A xs
 | [],_=>fun j h=>by simp at h
 | x::xs,_=>fun j h=>match j,h with
  | 0,h=>fun e u v hu h1 h2=>Zjk x e u v hu h1 h2
  | j + 1,h=>fun e u v hu h1 h2=>Zcq xs j (by simpa using h) e u v hu h1 h2
end
theorem ZmC (d:D){A:Around}(e:D)(u v:Value)(hu:A.units + d.dep < cLine)(h1:Hr s d u)(h2:Hr s e v):SeqAt.RcAt A s u v (eqD d e):=ZjZ d e u v hu h1 h2 (Zcq _)
theorem ZmJ (d:D){A:Around}(e:D)(u v:Value)(hu:A.units + d.dep < cLine)(h1:Hr s d u)(h2:Hr s e v):SeqAt.RcNeAt A s u v (!eqD d e):=ZjX d e u v hu h1 h2 (Zcq _)
end
end PV
set_option linter.all false
set_option Elab.async false
set_option maxRecDepth 100000
set_option maxHeartbeats 4000000
namespace PV
open PySem PySem.Spec PyProof.Rows
open L2 (V Hp HO Vals SqL SqT Same upd Cx PE PT PW PA PS PSs TE TT TA TS Inv RelV Jd Yd Ze)
theorem Zdl {K:PySem.W.Frag}{H:Hp}{i:Bool}{v:V}(h:Rep K H (.bl i) v):v=.bl i:=by simpa [Rep] using h
section
variable {X:Cx} {m m1 m2 m3:Md} {a b c:Expr} {f g h:Ex} {t u:Tx} {pos:Pos} {rest:List Expr}
theorem Zcd (ha:PD X m a f)(he:∀ whole,isTrue a X.env whole=(do let v ← whole;standAt a.pos;holding [v] (truthy v)):=by intro _;rfl):PTd X a (tB f) :=
 PT.of (L2.ZmN ha.h he) fun σ H Q hh_=>el9 hh_ fun BF BH F env L d S e q=>by
  unfold tB at e
  split at e
  ·rename_i k hk
   cases e
   exact ⟨BF,BH,F,env,L,_,S,hk,fun v F' H' x r=>⟨d,Zdl r,q F' H' x⟩⟩
  ·cases e
theorem Zkw (ha:PD X m a f):PD X m a (eB (tB f)):=PD.mk <| PE.of ha.h fun σ H Q hh_=>el9 hh_ fun BF BH F env L d S e q=>by
 unfold eB tB at e
 split at e
 ·rename_i k hk
  split at hk
  ·rename_i k' hk'
   cases e;cases hk
   exact ⟨BF,BH,F,env,L,_,S,hk',q⟩
  ·cases hk
 ·cases e
structure Zb8 (X:Cx)(r:L2.R2)(f g:Ex)(t:Tx):Prop where
 ok:∀ env k,t env=some k→∃ x y,f env=some x∧g env=some y∧∀ v w H' (Q:V→Hp→Prop),Rep X.K H' x v→Rep X.K H' y w→Q (.bl k) H'→r v w H' Q
theorem Zgt {op:CmpOp}{r:L2.R2}(ho:L2.OpR X (compareOp op) r)(hc:Zb8 X r f g t)(hm:behindInMarks op b=false)(ha:PD X m1 a f)(hb:PD X m2 b g):PD X m (.Compare a [op] [b] pos) (eB t) :=
 PD.mk <| PE.of (L2.Zla ho ha.r.h hb.r.h hm) fun σ H Q hh_=>el9 hh_ fun BF BH F env L d S e q=>by
  unfold eB at e
  split at e
  ·rename_i k hk
   cases e
   obtain ⟨x,y,hx,hy,hr⟩:=hc.ok env k hk
   exact two S hx hy fun v w F' H' z r1 r2=>hr v w H' Q r1 r2 (q _ F' H' z (by simp [Rep]))
  ·cases e
theorem ZaO {op:CmpOp}{r:L2.R2}(ho:L2.OpR X (compareOp op) r)(hc:Zb8 X r f g t)(hm:behindInMarks op b=false)(ha:PD X m1 a f)(hb:PD X m2 b g):PTd X (.Compare a [op] [b] pos) t :=
 PT.of (L2.ZkO ho ha.r.h hb.r.h hm) fun σ H Q hh_=>el9 hh_ fun BF BH F env L k S e q=>by
  obtain ⟨x,y,hx,hy,hr⟩:=hc.ok env k e
  exact two S hx hy fun v w F' H' z r1 r2=>hr v w H' _ r1 r2 ⟨k,rfl,q F' H' z⟩
theorem ZeN {p:Int→Int→Bool}{G:Int→Int→V}(hG:∀ i j,G i j=.bl (p i j)):Zb8 X (L2.rI0 G) f g (t2I p f g):=⟨fun env k e=>by
 unfold t2I at e
 split at e
 ·rename_i i j h1 h2
  cases e
  exact ⟨_,_,h1,h2,fun v w H' Q r1 r2 q=>⟨i,j,Jq r1,Jq r2,by rw [hG];exact q⟩⟩
 ·cases e⟩
theorem Zez (ha:PD X m1 a f)(hb:PD X m2 b g):PTd X (.Compare a [.Lt] [b] pos) (t2I pLt f g):=ZaO L2.Zky (ZeN fun _ _=>rfl) (L2.Za0 _) ha hb
theorem ZcG (ha:PD X m1 a f)(hb:PD X m2 b g):PTd X (.Compare a [.Gt] [b] pos) (t2I pGt f g):=ZaO L2.Zny (ZeN fun _ _=>rfl) (L2.Za0 _) ha hb
theorem ZmZ (ha:PD X m1 a f)(hb:PD X m2 b g):PD X m (.Compare a [.Lt] [b] pos) (eB (t2I pLt f g)):=Zgt L2.Zky (ZeN fun _ _=>rfl) (L2.Za0 _) ha hb
theorem Zm1 (ha:PD X m1 a f)(hb:PD X m2 b g):PD X m (.Compare a [.GtE] [b] pos) (eB (t2I pGe f g)):=Zgt L2.Znj (ZeN fun _ _=>rfl) (L2.Za0 _) ha hb
noncomputable def rEqD (K:PySem.W.Frag) (neg:Bool):L2.R2:=fun x y H Q=>∃ dx dy,Rep K H dx x∧Rep K H dy y∧(dx.dep≤8∧dy.dep≤8)∧Q (.bl (if neg then !eqD dx dy else eqD dx dy)) H
theorem ZiQ (hu:X.A.units + 64 < cLine):L2.OpR X (compareOp .Eq) (rEqD X.K false):=by
 intro pins s σ H x y v u Q I rx ry h
 obtain ⟨dx,dy,h1,h2,hd,q⟩:=h
 exact ZmC dx dy v u (by omega) (Z9 I _ _ _ (by omega) h1 rx) (Z9 I _ _ _ (by omega) h2 ry) X.prog X.w X.xe _ ⟨.bl _,H,I,rfl,q⟩
theorem Zms (hu:X.A.units + 64 < cLine):L2.OpR X (compareOp .NotEq) (rEqD X.K true):=by
 intro pins s σ H x y v u Q I rx ry h
 obtain ⟨dx,dy,h1,h2,hd,q⟩:=h
 exact ZmJ dx dy v u (by omega) (Z9 I _ _ _ (by omega) h1 rx) (Z9 I _ _ _ (by omega) h2 ry) X.prog X.w X.xe _ ⟨.bl _,H,I,rfl,q⟩
theorem ZiB:Zb8 X (rEqD X.K false) f g (tEq f g):=⟨fun env k e=>by
 unfold tEq at e
 split at e
 ·rename_i x y h1 h2
  split at e
  ·rename_i hd
   cases e
   exact ⟨x,y,h1,h2,fun v w H' Q r1 r2 q=>⟨x,y,r1,r2,hd,q⟩⟩
  ·cases e
 ·cases e⟩
theorem ZmX:Zb8 X (rEqD X.K true) f g (tNe f g):=⟨fun env k e=>by
 unfold tNe at e
 split at e
 ·rename_i x y h1 h2
  split at e
  ·rename_i hd
   cases e
   exact ⟨x,y,h1,h2,fun v w H' Q r1 r2 q=>⟨x,y,r1,r2,hd,q⟩⟩
  ·cases e
 ·cases e⟩
variable (hu:X.A.units + 64 < cLine)
include hu
theorem ZeV (ha:PD X m1 a f)(hb:PD X m2 b g):PTd X (.Compare a [.Eq] [b] pos) (tEq f g):=ZaO (ZiQ hu) ZiB (L2.Za0 _) ha hb
theorem Za5 (ha:PD X m1 a f)(hb:PD X m2 b g):PTd X (.Compare a [.NotEq] [b] pos) (tNe f g):=ZaO (Zms hu) ZmX (L2.Za0 _) ha hb
theorem ZeS (ha:PD X m1 a f)(hb:PD X m2 b g):PD X m (.Compare a [.Eq] [b] pos) (eB (tEq f g)):=Zgt (ZiQ hu) ZiB (L2.Za0 _) ha hb
omit hu
open Classical in
noncomputable def eqH (s:Shared) (x:D) (u:Value):Bool:=if ∃ d,Hr s d u∧eqD d x=true then true else false
theorem Zdi {s:Shared}{x d:D}{u:Value}(h:Hr s d u):eqH s x u=eqD d x:=by
 unfold eqH
 cases e:eqD d x with
 | true=>rw [if_pos ⟨d,h,e⟩]
 | false=>rw [if_neg];rintro ⟨d',h',e'⟩;rw [Hr.func _ _ _ h' h,e] at e';cases e'
theorem Zfn {s:Shared}{x:D}:∀ {ys:List D} {us:List Value},Hrs s ys us→us.any (eqH s x)=ys.any fun y=>eqD y x
 | [],us,h=>by simp only [Hrs] at h;subst h;rfl
 | y::ys,us,h=>by
  simp only [Hrs] at h
  obtain ⟨u,r,rfl,h1,h2⟩:=h
  rw [List.any_cons,List.any_cons,Zdi h1,Zfn h2]
theorem Zcw {A:Around}{s:Shared}{x:D}{v:Value}(hx:Hr s x v):∀ {ys:List D} {us:List Value},A.units + D.deps ys < cLine→Hrs s ys us→∀ u ∈ us,SeqAt.EqAt A s u v (eqH s x u)
 | [],us,_,h=>by simp only [Hrs] at h;subst h;intro u hu;cases hu
 | y::ys,us,hd,h=>by
  simp only [Hrs] at h
  obtain ⟨u,r,rfl,h1,h2⟩:=h
  simp only [D.deps] at hd
  intro u' hu'
  rcases List.mem_cons.mp hu' with rfl | hu'
  ·rw [Zdi h1];exact Zjk y x _ v (by omega) h1 hx
  ·exact Zcw hx (by omega) h2 u' hu'
noncomputable def rInD (K:PySem.W.Frag) (neg:Bool):L2.R2:=fun x y H Q=>∃ dx ys,Rep K H dx x∧(Rep K H (.lst ys) y∨Rep K H (.tup ys) y)∧(D.deps ys≤8∧dx.dep≤8)∧Q (.bl (if neg then !inD dx ys else inD dx ys)) H
include hu
theorem ZmR:L2.OpR X (compareOp .NotIn) (rInD X.K true):=by
 intro pins s σ H x y v u Q I rx ry h
 obtain ⟨dx,ys,h1,h2,hd,q⟩:=h
 have hx:=Z9 I _ _ _ (by omega) h1 rx
 have hin:X.A.in1.units + D.deps ys < cLine:=by show X.A.units + 1 + _ < _;omega
 rcases h2 with h2 | h2
 ·have hy:=Z9 I _ _ _ (by simp only [D.dep];omega) h2 ry
  simp only [Hr] at hy
  obtain ⟨p,its,rfl,hl,hr⟩:=hy
  refine SeqAt.notIn_listAt (eqH s dx) hl (fun w hw=>Zcw hx hin hr w (by simpa using hw)) ⟨.bl _,H,I,rfl,?_⟩
  rw [show its.toArray.any (eqH s dx)=its.any (eqH s dx) by simp,Zfn hr]
  exact q
 ·have hy:=Z9 I _ _ _ (by simp only [D.dep];omega) h2 ry
  simp only [Hr] at hy
  obtain ⟨p,its,rfl,hl,hr⟩:=hy
  refine SeqAt.notIn_tupleAt (eqH s dx) hl (fun w hw=>Zcw hx hin hr w (by simpa using hw)) ⟨.bl _,H,I,rfl,?_⟩
  rw [show its.toArray.any (eqH s dx)=its.any (eqH s dx) by simp,Zfn hr]
  exact q
omit hu
theorem Zmg:Zb8 X (rInD X.K true) f g (tNi f g):=⟨fun env k e=>by
 unfold tNi at e
 split at e
 ·rename_i k' e'
  cases e
  unfold tIn at e'
  split at e'
  ·rename_i x ys h1 h2
   split at e'
   ·rename_i hd;cases e';exact ⟨x,_,h1,h2,fun v w H' Q r1 r2 q=>⟨x,ys,r1,.inl r2,hd,q⟩⟩
   ·cases e'
  ·rename_i x ys h1 h2
   split at e'
   ·rename_i hd;cases e';exact ⟨x,_,h1,h2,fun v w H' Q r1 r2 q=>⟨x,ys,r1,.inr r2,hd,q⟩⟩
   ·cases e'
  ·cases e'
 ·cases e⟩
include hu
theorem Znm (ha:PD X m1 a f)(hb:PD X m2 b g)(hm:behindInMarks .NotIn b=false:=by with_unfolding_all rfl):PTd X (.Compare a [.NotIn] [b] pos) (tNi f g):=ZaO (ZmR hu) Zmg hm ha hb
omit hu
theorem Zh2 {K:PySem.W.Frag}{H:Hp}{d:D}{v:V}(h:Rep K H d v):decide (v=.non)=d.isN:=by
 cases d <;> simp only [Rep,D.isN] at h ⊢
 ·subst h;simp
 ·subst h;simp
 ·subst h;simp
 ·subst h;simp
 ·obtain ⟨a,vs,rfl,_⟩:=h;simp
 ·obtain ⟨a,vs,rfl,_⟩:=h;simp
 ·obtain ⟨a,o,rfl,_⟩:=h;simp
theorem ZlF:Zb8 X (fun x y H Q=>y=.non∧Q (.bl (decide (x=.non))) H) f (eC .non) (tIsN f):=⟨fun env k e=>by
 unfold tIsN at e
 split at e
 ·rename_i x h1
  cases e
  exact ⟨x,.non,h1,rfl,fun v w H' Q r1 r2 q=>⟨by simpa [Rep] using r2,by rw [Zh2 r1];exact q⟩⟩
 ·cases e⟩
theorem Zk5:Zb8 X (fun x y H Q=>y=.non∧Q (.bl (!decide (x=.non))) H) f (eC .non) (tNoN f):=⟨fun env k e=>by
 unfold tNoN at e
 split at e
 ·rename_i x h1
  cases e
  exact ⟨x,.non,h1,rfl,fun v w H' Q r1 r2 q=>⟨by simpa [Rep] using r2,by rw [Zh2 r1];exact q⟩⟩
 ·cases e⟩
theorem Zg1 {j p2}(ha:PD X m1 a f):PTd X (.Compare a [.Is] [.Constant .none j p2] pos) (tIsN f):=ZaO L2.ZmG ZlF (L2.Za0 _) ha (Zbv (m:=.r))
theorem ZcA {j p2}(ha:PD X m1 a f):PTd X (.Compare a [.IsNot] [.Constant .none j p2] pos) (tNoN f):=ZaO L2.ZkR Zk5 (L2.Za0 _) ha (Zbv (m:=.r))
noncomputable def PWd (X:Cx) (e:Expr) (t:Tx):Prop:=PW X e (tTst X.K t)
theorem pw_t (h:PWd X a t):PTd X a t:=h _
theorem ZfL (ha:PTd X a t):PWd X (.BoolOp .And [a] pos) t:=L2.ZkM ha
theorem ZbY (ha:PTd X a t):PWd X (.BoolOp .Or [a] pos) t:=L2.Zl2 ha
theorem ZiM (ha:PTd X a t)(hb:PWd X (.BoolOp .And (b::rest) pos) u):PWd X (.BoolOp .And (a::b::rest) pos) (tAnd t u):=PW.of (L2.Zmn ha hb) fun σ H Q hh_=>el9 hh_ fun BF BH F env L k S e q=>by
 unfold tAnd at e
 split at e
 ·rename_i h1
  exact ⟨BF,BH,F,env,L,true,S,h1,fun F' H' z=>L2.iteT (⟨BF,BH,F',env,L,k,S.ext z,e,fun F2 H2 z2=>q F2 H2 (z.trans z2)⟩)⟩
 ·rename_i h1
  cases e
  exact ⟨BF,BH,F,env,L,false,S,h1,fun F' H' z=>L2.iteF (q F' H' z)⟩
 ·cases e
theorem ZdB (ha:PTd X a t)(hb:PWd X (.BoolOp .Or (b::rest) pos) u):PWd X (.BoolOp .Or (a::b::rest) pos) (tOr t u):=PW.of (L2.Zm5 ha hb) fun σ H Q hh_=>el9 hh_ fun BF BH F env L k S e q=>by
 unfold tOr at e
 split at e
 ·rename_i h1
  cases e
  exact ⟨BF,BH,F,env,L,true,S,h1,fun F' H' z=>L2.iteT (q F' H' z)⟩
 ·rename_i h1
  exact ⟨BF,BH,F,env,L,false,S,h1,fun F' H' z=>L2.iteF (⟨BF,BH,F',env,L,k,S.ext z,e,fun F2 H2 z2=>q F2 H2 (z.trans z2)⟩)⟩
 ·cases e
theorem ZaT (ha:PTd X a t):PTd X (.UnaryOp .Not a pos) (tNot t):=PT.of (L2.ZaT ha) fun σ H Q hh_=>el9 hh_ fun BF BH F env L k S e q=>by
 unfold tNot at e
 split at e
 ·rename_i k' h1
  cases e
  exact ⟨BF,BH,F,env,L,k',S,h1,fun F' H' z=>q F' H' z⟩
 ·cases e
theorem Zb4 (ha:PD X m a (eB t)):PD X m (.BoolOp .And [a] pos) (eB t):=PD.mk <| L2.Zl0 ha.h
theorem Zjy {env:Env}{d:D}(h:eB t env=some d):∃ k,t env=some k∧d=.bl k:=by
 unfold eB at h
 split at h
 ·rename_i k hk;cases h;exact ⟨k,hk,rfl⟩
 ·cases h
theorem Zf4 {env:Env}{k:Bool}(h:t env=some k):eB t env=some (.bl k):=by unfold eB;rw [h]
theorem ZeB (ha:PD X m1 a (eB t))(hb:PD X m2 (.BoolOp .And (b::rest) pos) (eB u)):PD X m (.BoolOp .And (a::b::rest) pos) (eB (tAnd t u)):=PD.mk <| PE.of (L2.ZmK ha.h hb.h) fun σ H Q hh_=>el9 hh_ fun BF BH F env L d S e q=>by
 obtain ⟨k,hk,rfl⟩:=Zjy e
 unfold tAnd at hk
 split at hk
 ·rename_i h1
  exact ⟨BF,BH,F,env,L,_,S,Zf4 h1,fun v F' H' z r=>⟨true,Zdl r,L2.iteT (⟨BF,BH,F',env,L,_,S.ext z,Zf4 hk,fun w F2 H2 z2 r2=>q w F2 H2 (z.trans z2) (r2.scal rfl)⟩)⟩⟩
 ·rename_i h1
  cases hk
  exact ⟨BF,BH,F,env,L,_,S,Zf4 h1,fun v F' H' z r=>⟨false,Zdl r,L2.iteF (q _ F' H' z (by simp [Rep]))⟩⟩
 ·cases hk
theorem Zl7 (ha:PD X m1 a (eB t)):PD X m (.UnaryOp .Not a pos) (eB (tNot t)):=PD.mk <| PE.of (L2.ZlV ha.h) fun σ H Q hh_=>el9 hh_ fun BF BH F env L d S e q=>by
 obtain ⟨k,hk,rfl⟩:=Zjy e
 unfold tNot at hk
 split at hk
 ·rename_i k' h1
  cases hk
  exact ⟨BF,BH,F,env,L,_,S,Zf4 h1,fun v F' H' z r=>⟨k',Zdl r,q _ F' H' z (by simp [Rep])⟩⟩
 ·cases hk
end
end PV
set_option linter.all false
set_option Elab.async false
set_option maxRecDepth 100000
set_option maxHeartbeats 4000000
namespace PV
open PySem PySem.Spec PyProof.Rows
open L2 (V Hp HO Vals SqL SqT Same upd Cx PE PT PW PA PS PSs TE TT TA TS Inv RelV Jd Yd Ze)
structure Bt (mg:Str→Option Value):Prop where
 len:mg "len"=none
 range:mg "range"=none
 list:mg "list"=none
 all:mg "all"=none
 isinstance:mg "isinstance"=none
 max:mg "max"=none
 int:mg "int"=none
 bool:mg "bool"=none
 str:mg "str"=none
 tuple:mg "tuple"=none
 sorted:mg "sorted"=none
 set:mg "set"=none
 any:mg "any"=none
 enumerate:mg "enumerate"=none
 dict:mg "dict"=none
theorem ZcY:lim≤sizeLine:=by rw [sizeLine_eq];decide
theorem ZiT:lim < sizeLine:=by rw [sizeLine_eq];decide
section
variable {X:Cx} {m m1 m2 m3:Md} {a b c e:Expr} {es:List Expr} {f g h:Ex} {fs:List Ex} {t u:Tx} {pos:Pos}
noncomputable def tAs (K:PySem.W.Frag) (m:Md) (fs:List Ex):TA:=fun σ H Q=>∃ BF BH F env L ds,SOk K BF BH F H σ env L∧evs fs env=some ds ∧
 ∀ vs F' H',Ext F H F' H'→Reps K (hpM BH F' H' m) ds vs→Q vs H'
structure PAd (X:Cx)(m:Md)(es:List Expr)(fs:List Ex):Prop where
 h:PA X es (tAs X.K m fs)
theorem PA.of {X:Cx}{e:List Expr}{t t':TA}(h:PA X e t')(i:∀ σ H Q,t σ H Q→t' σ H Q):PA X e t:=fun pos pins s σ H Q I q=>h pos pins s σ H Q I (i σ H Q q)
theorem Jc:PAd X m [] []:=PAd.mk <| PA.of L2.ZJ fun σ H Q hh_=>el9 hh_ fun BF BH F env L ds S e q=>by
 cases e;exact q [] F H (.refl S.fh) Reps.nil
theorem Ja (ha:PD X m e f)(hr:PAd X m es fs)(hs:nst e=true:=by rfl):PAd X m (e::es) (f::fs) :=
 PAd.mk <| PA.of (L2.Zt ha.h hr.h (Yi hs)) fun σ H Q hh_=>el9 hh_ fun BF BH F env L ds S e q=>by
  simp only [evs] at e
  split at e
  ·rename_i d ds' h1 h2
   cases e
   exact ⟨BF,BH,F,env,L,d,S,h1,fun v F1 H1 x1 r1=>⟨BF,BH,F1,env,L,ds',S.ext x1,h2,fun vs F2 H2 x2 r2=>q (v::vs) F2 H2 (x1.trans x2) (Reps.cons (Rep.mono (Zbd x2 m) _ _ r1) r2)⟩⟩
  ·cases e
theorem Zfg {env:Env}:∀ {fs:List Ex} {ds:List D},evs fs env=some ds→ds.length=fs.length
 | [],ds,h=>by cases h;rfl
 | f::fs,ds,h=>by
  simp only [evs] at h
  split at h
  ·rename_i d ds' h1 h2;cases h;simp [Zfg h2]
  ·cases h
theorem Zfs {K:PySem.W.Frag}{BF BH F F1 H H1:Hp}{σ:L2.St}{env:Env}{L:Nat→List Addr}(S:SOk K BF BH F H σ env L)(x:Ext F H F1 H1){p:Addr}(hp:H1 p=none)(o:HO) :
  Ext F H F1 (upd H1 p o)∧H p=none∧F1 p=none∧Same (hpM BH F1 H1 m) (hpM BH F1 (upd H1 p o) m) :=
 ⟨x.trans (Ext.own x.fh hp),x.hh.free hp,x.fh.free hp,Zbd (Ext.own x.fh hp) m⟩
theorem Y7 (ha:PAd X m es fs)(hl:fs.length≤1000:=by decide):PDo X m (.List es pos) (eLst fs):=PE.of (L2.ZmL ha.h) fun σ H Q hh_=>el9 hh_ fun BF BH F env L ds S e q=>by
 unfold eLst at e
 split at e
 ·rename_i ds' h1
  cases e
  refine ⟨BF,BH,F,env,L,ds,S,h1,fun vs F' H' x r=>⟨?_,fun p hp=>?_⟩⟩
  ·rw [← r.length,Zfg h1];exact Nat.le_trans hl (by rw [sizeLine_eq];decide)
  ·obtain ⟨y,h0,h2,s⟩:=Zfs (m:=m) S x hp (HO.lst vs)
   exact q p vs F' _ y h0 Jd h2 (Reps.mono s _ _ r)
 ·cases e
theorem Zj9 {env:Env}{d:D}(h:eLst fs env=some d):∃ ds,d=.lst ds:=by
 unfold eLst at h
 split at h
 ·cases h;exact ⟨_,rfl⟩
 ·cases h
theorem Jl (ha:PAd X m es fs)(hl:fs.length≤1000:=by decide):PD X m (.List es pos) (eLst fs):=(Y7 ha hl).d fun env d h=>Zj9 h
theorem ZaV {x1}(ha:PAd X m es fs)(hl:fs.length≤1000:=by decide):PD X m (.Tuple es x1 pos) (eTup fs):=PD.mk <| PE.of (L2.Zmo ha.h) fun σ H Q hh_=>el9 hh_ fun BF BH F env L d S e q=>by
 unfold eTup at e
 split at e
 ·rename_i ds' h1
  cases e
  refine ⟨BF,BH,F,env,L,ds',S,h1,fun vs F' H' x r=>⟨?_,fun p hp=>?_⟩⟩
  ·rw [← r.length,Zfg h1];exact Nat.le_trans hl (by rw [sizeLine_eq];decide)
  ·have y:=Ext.laid (o:=HO.tup vs) x.fh hp
   refine q (.ref p) _ _ (x.trans y) ?_
   simp only [Rep]
   refine ⟨p,vs,rfl,.inl (.inl ?_),Reps.mono (Zbd y m) _ _ r⟩
   cases m with
   | r=>exact Jd
   | k=>exact Jd
   | f=>show cut _ _ p=_;rw [Zcn (S.s0.free (x.hh.free hp))];exact Jd
 ·cases e
theorem Ziw {prog:Program}{w:World}{A:Around}{E:Value→Shared→Prop}{s:Shared}{l b:Addr}{its its2:Array Value}{Q:Value→Shared→Prop}(hl:s.heap.IsList l its)(hb:s.heap.IsList b its2)
  (h:Q (.ref s.heap.objs.size) { s with heap:=s.heap.push { cls:=.type "list",data:=.seq (its++its2) } }) (hsz:its.size + its2.size≤sizeLine):wpAny (model prog w) A (binaryOp .Add (.ref l) (.ref b)) Q E s:=by
 obtain ⟨⟨cls,dd,data,sl⟩,ho,hc,n,hd⟩:=id hl
 obtain ⟨⟨cls2,dd2,data2,sl2⟩,ho2,hc2,n2,hd2⟩:=id hb
 simp only at hc hd hc2 hd2
 subst hc hd hc2 hd2
 exact concat_meets ⟨_,ho,rfl⟩ ⟨_,ho2,rfl⟩ noFill_list_add seq_list_add PySem.F.slot_list_add PySem.F.entry_list_add (PySem.F.args_list_add_2 _ _) (list_addW l b its its2 n n2 dd dd2 sl sl2 hsz) ⟨ho,ho2,h⟩
theorem Zlp:L2.OpR X (binaryOp .Add) (fun x y H Q=>∃ l b xs zs,x=.ref l∧y=.ref b∧SqL X.K H l xs∧SqL X.K H b zs∧xs.length + zs.length≤sizeLine∧∀ p,H p=none→Q (.ref p) (upd H p (.lst (xs++zs)))):=by
 intro pins s σ H x y v u Q I rx ry h
 obtain ⟨l,b,xs,zs,rfl,rfl,hH,hB,hz,q⟩:=h
 cases rx
 cases ry
 obtain ⟨its,r,p,z⟩:=I.list hH
 obtain ⟨its2,r2,p2,z2⟩:=I.list hB
 have hl:=r.length
 have hl2:=r2.length
 have ea:its.toArray++its2.toArray=(its++its2).toArray:=by simp
 refine Ziw p.isList p2.isList ?_ (by rw [List.size_toArray,List.size_toArray];omega)
 rw [ea]
 exact ⟨.ref _,_,I.lnew (t':=s.toks) (r.append r2) (by rw [List.length_append];omega),rfl,q _ I.fresh⟩
theorem Zu (ha:PD X m a f)(hb:PD X m b g):PD X m (.BinOp a .Add b pos) (eAdd f g):=PD.mk <| PE.of (L2.Zie (L2.OpR.or L2.Zl5 Zlp) ha.h hb.h) fun σ H Q hh_=>el9 hh_ fun BF BH F env L d S e q=>by
 unfold eAdd eF2 at e
 split at e
 ·rename_i x y h1 h2
  unfold fAdd at e
  split at e
  ·cases e
   exact two S h1 h2 fun v w F' H' z r1 r2=>.inl ⟨_,_,Jq r1,Jq r2,q _ F' H' z (by simp [Rep])⟩
  ·split at e
   ·rename_i xs ys hl
    cases e
    refine two S h1 h2 fun v w F' H' z r1 r2=>.inr ?_
    simp only [Rep] at r1 r2
    obtain ⟨p1,vs,rfl,s1,t1⟩:=r1
    obtain ⟨p2,ws,rfl,s2,t2⟩:=r2
    have hh:=Zf7 (BH:=BH) z.fh m
    refine ⟨p1,p2,vs,ws,rfl,rfl,hh.seq s1,hh.seq s2,?_,fun p hp=>?_⟩
    ·rw [← t1.length,← t2.length];exact Nat.le_trans hl ZcY
    ·have y:=Ext.laid (o:=HO.lst (vs++ws)) z.fh hp
     refine q (.ref p) _ _ (z.trans y) ?_
     simp only [Rep]
     refine ⟨p,_,rfl,.inl (.inl ?_),Reps.mono (Zbd y m) _ _ (t1.append t2)⟩
     cases m with
     | r=>exact Jd
     | k=>exact Jd
     | f=>show cut _ _ p=_;rw [Zcn (S.s0.free (z.hh.free hp))];exact Jd
   ·cases e
  ·cases e
 ·cases e
theorem Zi3 {K:PySem.W.Frag}{H:Hp}{ds:List D}{vs:List V}{i:Int}{d:D}(r:Reps K H ds vs)(h:atD ds i=some d):∃ v,L2.atI vs i=some v∧Rep K H d v:=by
 unfold atD at h
 unfold L2.atI
 rw [← r.length]
 show ∃ v,((ixN ds.length i).bind fun j=>vs[j]?)=some v∧_
 cases e:ixN ds.length i with
 | none=>rw [e] at h;cases h
 | some j =>
  rw [e] at h
  obtain ⟨v,h1,h2⟩:=r.get (i:=j) h
  exact ⟨v,h1,h2⟩
theorem Zj (ha:PD X m a f)(hb:PD X m1 b g)(hs:L2.Ze7 b:=by exact fun _ _=>rfl):PD X m (.Subscript a b pos) (eIx f g):=PD.mk <| PE.of (L2.Zii L2.Zjo ha.h hb.h hs) fun σ H Q hh_=>el9 hh_ fun BF BH F env L d S e q=>by
 unfold eIx eF2 at e
 split at e
 ·rename_i x y h1 h2
  refine two S h1 h2 fun v w F' H' z r1 r2=>?_
  have hh:=Zf7 (BH:=BH) z.fh m
  unfold fIx at e
  split at e
  ·simp only [Rep] at r1
   obtain ⟨p,vs,rfl,s1,t1⟩:=r1
   obtain ⟨v',k1,k2⟩:=Zi3 t1 e
   exact .inl ⟨p,vs,_,v',rfl,Jq r2,hh.seq s1,k1,q _ F' H' z k2⟩
  ·simp only [Rep] at r1
   obtain ⟨p,vs,rfl,s1,t1⟩:=r1
   obtain ⟨v',k1,k2⟩:=Zi3 t1 e
   exact .inr (.inl ⟨p,vs,_,v',rfl,Jq r2,seqT hh s1,k1,q _ F' H' z k2⟩)
  ·cases e
 ·cases e
theorem Zit {x:Str}{id:String}{p:Pos}{r:List V→Hp→L2.VK→Prop}{φ:D→Option D}(hc:L2.Zbo X (.builtin id) r)(hm:X.mg x=none)(hv:bootBuiltins x=some (.builtin id))
  (hφ:∀ d y H' v (Q:V→Hp→Prop),φ d=some y→Rep X.K H' d v→(∀ w,Rep X.K H' y w→Q w H')→r [v] H' Q∧J2 y=true)
  (ha:PD X m1 a f) (hg:X.env.kindOf x=some .globalImplicit:=by kernel_rfl) (hn:x≠"__name__":=by decide) (hdb:(x == ("__debug__":Str))=false:=by kernel_rfl) (hs:nst a=true:=by rfl):PD X m (.Call (.Name x p) [a] [] pos) (eF1 φ f) :=
 PD.mk <| PE.of (L2.ZcI hc hg hm hv (L2.Zt ha.r.h L2.ZJ (Zw hs)) hn hdb (Yi hs) rfl) fun σ H Q hh_=>el9 hh_ fun BF BH F env L d S e q=>by
  unfold eF1 at e
  split at e
  ·rename_i y h1
   refine ⟨BF,BH,F,env,L,y,S,h1,fun v F' H' z r1=>?_⟩
   have sc:=(hφ y d H' v (fun _ _=>True) e r1 (fun _ _=>trivial)).2
   exact (hφ y d H' v Q e r1 fun w rw=>q w F' H' z (rw.scal sc)).1
  ·cases e
theorem Zm {p:Pos} (T:Bt X.mg) (ha:PD X m1 a f) (hg:X.env.kindOf "len"=some .globalImplicit:=by kernel_rfl) (hs:nst a=true:=by rfl):PD X m (.Call (.Name "len" p) [a] [] pos) (eF1 fLen f) :=
 Zit L2.Zgm T.len PySem.boot_len (fun d y H' v Q e r k=>by
  unfold fLen at e
  split at e
  ·cases e
   simp only [Rep] at r
   obtain ⟨p,vs,rfl,s1,t1⟩:=r
   exact ⟨⟨p,vs,rfl,.inl s1,k _ (by simp [Rep,t1.length])⟩,rfl⟩
  ·cases e
   simp only [Rep] at r
   obtain ⟨p,vs,rfl,s1,t1⟩:=r
   exact ⟨⟨p,vs,rfl,.inr s1,k _ (by simp [Rep,t1.length])⟩,rfl⟩
  ·cases e) ha hg (by decide) (by decide) hs
theorem Zjv (hc : X.calm = true) : L2.Zbo X (.builtin "all") (fun xs H Q => ∃ (p : Addr) (bs : List Bool), xs = [.ref p] ∧ SqL X.K H p (bs.map V.bl) ∧ Q (.bl (bs.all fun b => b)) H) := by
  intro pins s σ H xs us Q I r h
  obtain ⟨p, bs, rfl, hq, q⟩ := h
  obtain ⟨u, rfl, ru⟩ := r.one
  cases ru
  obtain ⟨its, rv, pl, hz⟩ := I.list hq
  have hlt : p < s.heap.objs.size := by obtain ⟨o, e, _⟩ := pl.isList; exact Heap.lt_size e
  refine call_all_walk (wpAny_pyIter_list pl.isList ?_)
  have hlen : its.length = bs.length := by have := rv.length; rw [List.length_map] at this; exact this.symm
  have tru : ∀ (j : Nat) (v : Value), its[j]? = some v → v = .bool (bs.getD j true) := fun j v hj => by
    have hjl : j < bs.length := by rw [← hlen]; exact (List.getElem?_eq_some_iff.mp hj).1
    obtain ⟨w, h1, h2⟩ := rv.get (i := j) (x := V.bl bs[j]) (by simp [hjl])
    rw [hj] at h1; cases h1
    have : v = .bool bs[j] := h2
    rw [this]; simp [List.getD, hjl]
  refine ⟨s.heap.objs.size, _, _, _, _, _, fun j => bs.getD j true, rfl, Walks.list (show (X.A.in1).handled = none from I.ok.hd hc) s.heap.objs.size p (Nat.ne_of_lt hlt) its.toArray, ⟨⟨_, Heap.get?_push_size _ rfl, rfl, rfl⟩, pl.isList.push _⟩, ?_, fun h' tk hk => ?_⟩
  · intro i v s' Q' E' hP hq'
    have e := tru i v (by simpa using hP)
    subst e
    exact wpAny_truthy_bool hq'
  · have e : (List.range its.toArray.size).all (fun j => bs.getD j true) = bs.all fun b => b := by
      rw [List.size_toArray, hlen]
      clear tru hlen rv hq q hz
      induction bs with
      | nil => rfl
      | cons b bs ih => rw [List.length_cons, List.range_succ_eq_map, List.all_cons, List.all_map]; rw [List.all_cons]; congr 1
    rw [e]
    refine ⟨.bl _, H, I.kept (h' := h') (t' := tk) fun b o eo => ?_, rfl, q⟩
    exact hk b o (by simp; exact Nat.ne_of_lt (Heap.lt_size eo)) (Heap.get?_push_of_some _ eo)
theorem Zg6 {K:PySem.W.Frag}{H:Hp}:∀ {xs:List D} {vs:List V} {b:Bool},allB xs=some b→Reps K H xs vs→∃ bs:List Bool,vs=bs.map V.bl∧(bs.all fun b=>b)=b
 | [],vs,b,h,r=>by simp only [Reps] at r;subst r;cases h;exact ⟨[],rfl,rfl⟩
 | .bl c::xs,vs,b,h,r=>by
  simp only [Reps] at r
  obtain ⟨v,t,rfl,h1,h2⟩:=r
  simp only [allB] at h
  cases e:allB xs with
  | none=>rw [e] at h;cases h
  | some d =>
   rw [e] at h
   cases h
   obtain ⟨bs,rfl,rfl⟩:=Zg6 e h2
   obtain rfl:=Zdl h1
   exact ⟨c::bs,rfl,rfl⟩
 | .non::_,_,_,h,_=>by simp [allB] at h
 | .int _::_,_,_,h,_=>by simp [allB] at h
 | .str _::_,_,_,h,_=>by simp [allB] at h
 | .lst _::_,_,_,h,_=>by simp [allB] at h
 | .tup _::_,_,_,h,_=>by simp [allB] at h
theorem ZgO {p:Pos} (T:Bt X.mg) (ha:PD X m1 a f) (hc:X.calm=true:=by rfl) (hg:X.env.kindOf "all"=some .globalImplicit:=by kernel_rfl) (hs:nst a=true:=by rfl):PD X m (.Call (.Name "all" p) [a] [] pos) (eF1 fAll f) :=
 Zit (Zjv hc) T.all boot_all (fun d y H' v Q e r k=>by
  unfold fAll at e
  split at e
  ·split at e
   ·rename_i b hb
    cases e
    simp only [Rep] at r
    obtain ⟨p,vs,rfl,s1,t1⟩:=r
    obtain ⟨bs,rfl,rfl⟩:=Zg6 hb t1
    exact ⟨⟨p,bs,rfl,s1,k _ (by simp [Rep])⟩,rfl⟩
   ·cases e
  ·cases e) ha hg (by decide) (by decide) hs
noncomputable def tyN:Ty→String
 | .int=>"int" | .bool=>"bool" | .str=>"str" | .list=>"list" | .tuple=>"tuple"
theorem Zly {K:PySem.W.Frag}(t:Ty):PySem.W.kitOne K (.type "int") (.type (tyN t))=some (match t with | .int=>true | _=>false):=by cases t <;> with_unfolding_all rfl
theorem ZjL {K:PySem.W.Frag}(t:Ty):PySem.W.kitOne K (.type "bool") (.type (tyN t))=some (match t with | .int=>true | .bool=>true | _=>false):=by cases t <;> with_unfolding_all rfl
theorem Zlz {K:PySem.W.Frag}(t:Ty):PySem.W.kitOne K (.type "str") (.type (tyN t))=some (match t with | .str=>true | _=>false):=by cases t <;> with_unfolding_all rfl
theorem ZjF {K:PySem.W.Frag}(t:Ty):PySem.W.kitOne K (.type "NoneType") (.type (tyN t))=some false:=by cases t <;> with_unfolding_all rfl
theorem Zj8 {K:PySem.W.Frag}(t:Ty):PySem.W.kitOne K (.type "list") (.type (tyN t))=some (match t with | .list=>true | _=>false):=by cases t <;> with_unfolding_all rfl
theorem kit_tuple {K:PySem.W.Frag}(t:Ty):PySem.W.kitOne K (.type "tuple") (.type (tyN t))=some (match t with | .tuple=>true | _=>false):=by cases t <;> with_unfolding_all rfl
end
end PV
set_option linter.all false
set_option Elab.async false
set_option maxRecDepth 100000
set_option maxHeartbeats 4000000
namespace PV
open PySem PySem.Spec PyProof.Rows
open L2 (V Hp HO Vals SqL SqT Same upd Cx PE PT PW PA PS PSs TE TT TA TS Inv RelV Jd Yd Ze)
section
variable {X:Cx} {m m1 m2 m3:Md} {a b c e:Expr} {es:List Expr} {f g h:Ex} {fs:List Ex} {t u:Tx} {pos:Pos}
theorem ZjJ (t:Ty):L2.Zbo X (.builtin "isinstance") (fun xs H Q=>∃ (d:D) (v:V),xs=[v,.ty (tyN t)]∧Rep X.K H d v∧fIs t d=some (.bl (isTy t d))∧Q (.bl (isTy t d)) H):=by
 intro pins s σ H xs us Q I r h
 obtain ⟨d,v,rfl,hd,hk,q⟩:=h
 obtain ⟨u,w,rfl,ru,rw'⟩:=r.two
 obtain rfl:w=Value.type (tyN t):=rw'
 have fin:∀ {k:Bool},k=isTy t d→∀ tk,L2.EP X pins σ Q (.bool k) { s with toks:=tk }:=fun {k} e tk=>⟨.bl k,H,I.tok tk,rfl,by rw [e];exact q⟩
 cases d with
 | dct _=>cases hk
 | non =>
  simp only [Rep] at hd;subst hd;cases ru
  exact PySem.W.kia_one PySem.W.kitx_none I.kIn True.intro (ZjF t) (fun z=>nomatch z) (fin (by cases t <;> rfl))
 | bl b =>
  simp only [Rep] at hd;subst hd;cases ru
  exact PySem.W.kia_one PySem.W.kitx_bool I.kIn True.intro (ZjL t) (fun z=>nomatch z) (fin (by cases t <;> rfl))
 | int i =>
  simp only [Rep] at hd;subst hd;obtain ⟨tk,rfl⟩:=ru
  exact PySem.W.kia_one PySem.W.kitx_int I.kIn True.intro (Zly t) (fun z=>nomatch z) (fin (by cases t <;> rfl))
 | str i =>
  simp only [Rep] at hd;subst hd;obtain ⟨tk,rfl⟩:=ru
  exact PySem.W.kia_one PySem.W.kitx_str I.kIn True.intro (Zlz t) (fun z=>nomatch z) (fin (by cases t <;> rfl))
 | lst ds =>
  simp only [Rep] at hd
  obtain ⟨p,vs,rfl,hs,_⟩:=hd
  cases ru
  obtain ⟨its,_,pl,_⟩:=I.list hs
  obtain ⟨o,n,h1,h2,_⟩:=pl
  exact PySem.W.kia_one PySem.W.kitx_list I.kIn ⟨o,h1,h2⟩ (Zj8 t) (fun z=>nomatch z) (fin (by cases t <;> rfl))
 | tup ds =>
  simp only [Rep] at hd
  obtain ⟨p,vs,rfl,hs,_⟩:=hd
  cases ru
  obtain ⟨its,_,pl,_⟩:=I.tuple hs
  obtain ⟨o,h1,h2,_⟩:=pl
  exact PySem.W.kia_one PySem.W.kitx_tuple I.kIn ⟨o,h1,h2⟩ (kit_tuple t) (fun z=>nomatch z) (fin (by cases t <;> rfl))
theorem ZgL (t:Ty) {p p2:Pos} {x:Str} (T:Bt X.mg) (hx:X.mg x=none) (hb:bootBuiltins x=some (.type (tyN t))) (ha:PD X m1 a f) (hg:X.env.kindOf "isinstance"=some .globalImplicit:=by kernel_rfl) (hg2:X.env.kindOf x=some .globalImplicit:=by kernel_rfl)
  (hn:x≠"__name__":=by decide) (hd:(x == ("__debug__":Str))=false:=by kernel_rfl)
  (hs:nst a=true:=by rfl):PD X m (.Call (.Name "isinstance" p) [a,.Name x p2] [] pos) (eF1 (fIs t) f) :=
 PD.mk <| PE.of (L2.ZcI (ZjJ t) hg T.isinstance boot_isinstance (L2.Zt ha.r.h (L2.Zt (L2.ZhY (v:=.ty (tyN t)) hg2 hx hb rfl hn hd) L2.ZJ (Zw rfl)) (Yi hs)) (by decide) (by decide) (Yi hs) rfl) fun σ H Q hh_=>el9 hh_ fun BF BH F env L d S e q=>by
  unfold eF1 at e
  split at e
  ·rename_i y h1
   have hk:fIs t y=some (.bl (isTy t y)):=by
    cases y with
    | dct _=>cases e
    | _=>rfl
   rw [hk] at e
   cases e
   exact ⟨BF,BH,F,env,L,y,S,h1,fun v F' H' z r1=>⟨y,v,rfl,r1,hk,q _ F' H' z (by simp [Rep])⟩⟩
  ·cases e
theorem Zjw {p p2:Pos} (T:Bt X.mg) (ha:PD X m1 a f) (hg:X.env.kindOf "isinstance"=some .globalImplicit:=by kernel_rfl) (hg2:X.env.kindOf "int"=some .globalImplicit:=by kernel_rfl) (hs:nst a=true:=by rfl):PD X m (.Call (.Name "isinstance" p) [a,.Name "int" p2] [] pos) (eF1 (fIs .int) f) :=
 ZgL .int T T.int (by decide +kernel) ha hg hg2 (by decide) (by decide) hs
theorem Zim {p p2:Pos} (T:Bt X.mg) (ha:PD X m1 a f) (hg:X.env.kindOf "isinstance"=some .globalImplicit:=by kernel_rfl) (hg2:X.env.kindOf "bool"=some .globalImplicit:=by kernel_rfl) (hs:nst a=true:=by rfl):PD X m (.Call (.Name "isinstance" p) [a,.Name "bool" p2] [] pos) (eF1 (fIs .bool) f) :=
 ZgL .bool T T.bool (by decide +kernel) ha hg hg2 (by decide) (by decide) hs
theorem ZeE {p p2:Pos} (T:Bt X.mg) (ha:PD X m1 a f) (hg:X.env.kindOf "isinstance"=some .globalImplicit:=by kernel_rfl) (hg2:X.env.kindOf "list"=some .globalImplicit:=by kernel_rfl) (hs:nst a=true:=by rfl):PD X m (.Call (.Name "isinstance" p) [a,.Name "list" p2] [] pos) (eF1 (fIs .list) f) :=
 ZgL .list T T.list (by decide +kernel) ha hg hg2 (by decide) (by decide) hs
theorem Zht {p:Pos} (T:Bt X.mg) (ha:PD X m a f) (hg:X.env.kindOf "list"=some .globalImplicit:=by kernel_rfl) (hs:nst a=true:=by rfl):PDo X m (.Call (.Name "list" p) [a] [] pos) (eF1 Zbm f) :=
 PE.of (L2.ZfG L2.Zg0 hg T.list (by decide +kernel) (L2.Zt ha.h L2.ZJ (Zw hs)) (by decide) (by decide) (Yi hs) rfl) fun σ H Q hh_=>el9 hh_ fun BF BH F env L ds S e q=>by
  unfold eF1 at e
  split at e
  ·rename_i y h1
   refine ⟨BF,BH,F,env,L,y,S,h1,fun v F' H' z r1=>?_⟩
   have hm:=Zf7 (BH:=BH) z.fh m
   unfold Zbm at e
   split at e
   ·cases e
    simp only [Rep] at r1
    obtain ⟨p,vs,rfl,s1,t1⟩:=r1
    refine ⟨p,vs,rfl,.inl (hm.seq s1),fun l hl=>?_⟩
    obtain ⟨y,h0,h2,s⟩:=Zfs (m:=m) S z hl (HO.lst vs)
    exact q l vs F' _ y h0 Jd h2 (Reps.mono s _ _ t1)
   ·cases e
    simp only [Rep] at r1
    obtain ⟨p,vs,rfl,s1,t1⟩:=r1
    refine ⟨p,vs,rfl,.inr (seqT hm s1),fun l hl=>?_⟩
    obtain ⟨y,h0,h2,s⟩:=Zfs (m:=m) S z hl (HO.lst vs)
    exact q l vs F' _ y h0 Jd h2 (Reps.mono s _ _ t1)
   ·cases e
  ·cases e
theorem ZfE {env:Env}{d:D}(h:eF1 Zbm f env=some d):∃ ds,d=.lst ds:=by
 unfold eF1 at h
 split at h
 ·unfold Zbm at h
  split at h
  ·cases h;exact ⟨_,rfl⟩
  ·cases h;exact ⟨_,rfl⟩
  ·cases h
 ·cases h
theorem ZkY {p:Pos} (T:Bt X.mg) (ha:PD X m a f) (hg:X.env.kindOf "list"=some .globalImplicit:=by kernel_rfl) (hs:nst a=true:=by rfl):PD X m (.Call (.Name "list" p) [a] [] pos) (eF1 Zbm f) :=
 (Zht T ha hg hs).d fun env d h=>ZfE h
theorem ZgZ {x:D}:∀ {ys:List D} {j:Nat},idxD x ys=some j→j < ys.length∧(∀ h:j < ys.length,eqD ys[j] x=true)∧∀ i (h:i < ys.length),i < j→eqD ys[i] x=false
 | [],j,h=>by simp [idxD] at h
 | y::ys,j,h=>by
  simp only [idxD] at h
  split at h
  ·rename_i hy
   cases h
   exact ⟨by simp,fun _=>hy,fun i _ hi=>by omega⟩
  ·rename_i hy
   cases e:idxD x ys with
   | none=>rw [e] at h;cases h
   | some k =>
    rw [e] at h
    cases h
    obtain ⟨h1,h2,h3⟩:=ZgZ e
    refine ⟨by simpa using h1,fun _=>by simpa using h2 h1,fun i hi hik=>?_⟩
    cases i with
    | zero=>simpa using hy
    | succ i=>simpa using h3 i (by simpa using hi) (by omega)
theorem Zjp (hu:X.A.units + 64 < cLine):L2.MtR X "list.index" (fun x xs H Q=>∃ (dx:D) (y:V) (ys:List D) (j:Nat),xs=[y]∧Rep X.K H (.lst ys) x∧Rep X.K H dx y∧(D.deps ys≤8∧dx.dep≤8)∧idxD dx ys=some j∧Q (.int j) H):=by
 intro pins s σ H x xs v us Q I rx rv h
 obtain ⟨dx,y,ys,j,rfl,h1,h2,hd,hj,q⟩:=h
 obtain ⟨u,rfl,ru⟩:=rv.one
 have hx:=Z9 I _ _ _ (by omega) h2 ru
 have hz:ys.length≤sizeLine:=by
  simp only [Rep] at h1
  obtain ⟨p,vs,rfl,hs,t⟩:=h1
  obtain ⟨_,_,_,z⟩:=I.list hs
  rw [t.length];exact z
 have hy:=Z9 I _ _ _ (by simp only [D.dep];omega) h1 rx
 simp only [Hr] at hy
 obtain ⟨p,its,rfl,hl,hr⟩:=hy
 have hin:X.A.in1.units + D.deps ys < cLine:=by show X.A.units + 1 + _ < _;omega
 have hlen:=hr.length
 obtain ⟨j1,j2,j3⟩:=ZgZ hj
 have js:(j:Int) < 2 ^ 63 - 1:=by rw [sizeLine_eq] at hz;omega
 obtain ⟨⟨cls,dd,data,sl⟩,ho,hc,n,hdt⟩:=id hl
 simp only at hc hdt
 subst hc hdt
 refine call_meets PySem.F.slot_list_index ⟨_,ho,rfl⟩ PySem.F.entry_list_index (PySem.F.args_list_index_2 _ _)
  (SeqAt.list_indexAt p its.toArray n dd sl u (eqH s dx) j (by simp;omega) js ?_ ?_) ⟨ho,fun y hy=>Zcw hx hin hr y (by simpa using hy),?_⟩
 all_goals first
  | exact ⟨.int j,H,I.tok _,⟨_,rfl⟩,q⟩
  | skip
 ·have e:=hr.get j1 (by omega)
  have:=Zdi (x:=dx) e
  simp only [List.getElem_toArray]
  rw [this]
  exact j2 j1
 ·intro i hi hij
  have i1:i < ys.length:=by rw [hlen];simpa using hi
  have e:=hr.get i1 (by omega)
  have:=Zdi (x:=dx) e
  simp only [List.getElem_toArray]
  rw [this]
  exact j3 i i1 hij
end
end PV
set_option linter.all false
set_option Elab.async false
set_option maxRecDepth 100000
set_option maxHeartbeats 4000000
namespace PV
open PySem PySem.Spec PyProof.Rows
open L2 (V Hp HO Vals SqL SqT Same upd Cx PE PT PW PA PS PSs TE TT TA TS Inv RelV Jd Yd Ze)
noncomputable def putL (L:Nat→List Addr) (i:Nat) (l:List Addr):Nat→List Addr:=fun j=>if j=i then l else L j
theorem Z6 {L:Nat→List Addr}{i:Nat}{l:List Addr}:putL L i l i=l:=by unfold putL;rw [if_pos rfl]
theorem Zak {L:Nat→List Addr}{i j:Nat}{l:List Addr}(h:j≠i):putL L i l j=L j:=by unfold putL;rw [if_neg h]
section
variable {K:PySem.W.Frag} {BF BH F H:Hp} {σ:L2.St} {env:Env} {L:Nat→List Addr}
theorem SOk.ZdJ (S:SOk K BF BH F H σ env L):Ext BF BH F H:=⟨S.s0,S.f0,S.fd,S.fh⟩
theorem SOk.set (S:SOk K BF BH F H σ env L)(i:Nat){s:Sl}{v:V}{l:List Addr}(hs:SlOk K BH F H s (some v) l)(ho:∀ a ∈ l,F a=none∧BH a=none∧H a≠none)(hd:∀ a ∈ l,∀ j,j≠i→a ∉ L j) :
  SOk K BF BH F H (σ.set i (some v)) (env.set i s) (putL L i l) where
 s0:=S.s0
 f0:=S.f0
 fh:=S.fh
 fd:=S.fd
 ow:=fun j a h=>by
  by_cases hj:j=i
  ·subst hj;rw [Z6] at h;exact ho a h
  ·rw [Zak hj] at h;exact S.ow j a h
 dj:=fun j k a h1 h2=>by
  by_cases hj:j=i
  ·subst hj
   rw [Z6] at h1
   by_cases hk:k=j
   ·exact hk.symm
   ·rw [Zak hk] at h2;exact absurd h2 (hd a h1 k hk)
  ·rw [Zak hj] at h1
   by_cases hk:k=i
   ·subst hk;rw [Z6] at h2;exact absurd h1 (hd a h2 j hj)
   ·rw [Zak hk] at h2;exact S.dj j k a h1 h2
 len:=by rw [List.length_set,List.length_set];exact S.len
 sl:=fun j s' h=>by
  by_cases hj:i=j
  ·subst hj
   have hlt:i < env.length:=by have:=(List.getElem?_eq_some_iff.mp h).1;rwa [List.length_set] at this
   rw [List.getElem?_set_self hlt] at h
   cases h
   exact ⟨some v,List.getElem?_set_self (by rw [S.len];exact hlt),by rw [Z6];exact hs⟩
  ·rw [List.getElem?_set_ne hj] at h
   obtain ⟨ov,h1,h2⟩:=S.sl j s' h
   exact ⟨ov,by rw [List.getElem?_set_ne hj];exact h1,by rw [Zak (Ne.symm hj)];exact h2⟩
theorem SOk.Zf9 (S:SOk K BF BH F H σ env L)(i:Nat){d:D}{v:V}(r:Rep K F d v):SOk K BF BH F H (σ.set i (some v)) (env.set i (.sh d)) (putL L i []) :=
 S.set i ⟨v,rfl,r⟩ (fun a h=>by cases h) (fun a h=>by cases h)
noncomputable def frzH (F H:Hp) (l:List Addr):Hp:=fun b=>if b ∈ l then H b else F b
theorem Zag {F H:Hp}{l:List Addr}{b:Addr}(h:b ∈ l):frzH F H l b=H b:=by unfold frzH;rw [if_pos h]
theorem ZaF {F H:Hp}{l:List Addr}{b:Addr}(h:b ∉ l):frzH F H l b=F b:=by unfold frzH;rw [if_neg h]
theorem SOk.frz (S:SOk K BF BH F H σ env L)(i:Nat){s s':Sl}(he:env[i]?=some s)(hs:∀ ov,σ[i]?=some ov→SlOk K BH F H s ov (L i)→Same F (frzH F H (L i))→SlOk K BH (frzH F H (L i)) H s' ov []) :
  SOk K BF BH (frzH F H (L i)) H σ (env.set i s') (putL L i []):=by
 have ff:Same F (frzH F H (L i)):=fun b o h=>by
  by_cases hb:b ∈ L i
  ·rw [(S.ow i b hb).1] at h;cases h
  ·rw [ZaF hb];exact h
 refine ⟨S.s0,S.f0.trans ff,fun b o h=>?_,fun b o h=>?_,fun j a h=>?_,fun j k a h1 h2=>?_,by rw [List.length_set];exact S.len,fun j t h=>?_⟩
 ·by_cases hb:b ∈ L i
  ·rw [Zag hb] at h;exact h
  ·rw [ZaF hb] at h;exact S.fh _ _ h
 ·by_cases hb:b ∈ L i
  ·exact .inr (S.ow i b hb).2.1
  ·rw [ZaF hb] at h;exact S.fd _ _ h
 ·by_cases hj:j=i
  ·subst hj;rw [Z6] at h;cases h
  ·rw [Zak hj] at h
   obtain ⟨h1,h2,h3⟩:=S.ow j a h
   exact ⟨by rw [ZaF fun z=>hj (S.dj j i a h z)];exact h1,h2,h3⟩
 ·by_cases hj:j=i
  ·subst hj;rw [Z6] at h1;cases h1
  ·by_cases hk:k=i
   ·subst hk;rw [Z6] at h2;cases h2
   ·rw [Zak hj] at h1;rw [Zak hk] at h2;exact S.dj j k a h1 h2
 ·by_cases hj:i=j
  ·subst hj
   have hlt:i < env.length:=(List.getElem?_eq_some_iff.mp he).1
   rw [List.getElem?_set_self hlt] at h
   cases h
   obtain ⟨ov,h1,h2⟩:=S.sl i s he
   exact ⟨ov,h1,by rw [Z6];exact hs ov h1 h2 ff⟩
  ·rw [List.getElem?_set_ne hj] at h
   obtain ⟨ov,h1,h2⟩:=S.sl j t h
   exact ⟨ov,h1,by rw [Zak (Ne.symm hj)];exact h2.ext ff fun a _ o z=>z⟩
theorem SOk.ZdP (S:SOk K BF BH F H σ env L)(i:Nat):Same F (frzH F H (L i)):=fun b o h=>by
 by_cases hb:b ∈ L i
 ·rw [(S.ow i b hb).1] at h;cases h
 ·rw [ZaF hb];exact h
theorem SOk.own (S:SOk K BF BH F H σ env L){i:Nat}{a:Addr}(ha:a ∈ L i)(o:HO){s':Sl}(hs:∀ s ov,env[i]?=some s→σ[i]?=some ov→SlOk K BH F H s ov (L i)→SlOk K BH F (upd H a o) s' ov (L i)) :
  SOk K BF BH F (upd H a o) σ (env.set i s') L:=by
 obtain ⟨fa,ba,ha'⟩:=S.ow i a ha
 refine ⟨fun b u h=>?_,S.f0,fun b u h=>?_,S.fd,fun j c h=>?_,S.dj,by rw [List.length_set];exact S.len,fun j t h=>?_⟩
 ·rw [Yd (Ze h ba)];exact S.s0 _ _ h
 ·rw [Yd (Ze h fa)];exact S.fh _ _ h
 ·obtain ⟨h1,h2,h3⟩:=S.ow j c h
  refine ⟨h1,h2,?_⟩
  by_cases hc:c=a
  ·subst hc;rw [Jd];simp
  ·rw [Yd hc];exact h3
 ·by_cases hj:i=j
  ·subst hj
   have hlt:i < env.length:=by have:=(List.getElem?_eq_some_iff.mp h).1;rwa [List.length_set] at this
   rw [List.getElem?_set_self hlt] at h
   cases h
   obtain ⟨ov,h1,h2⟩:=S.sl i env[i] (by simp [hlt])
   exact ⟨ov,h1,hs _ _ (by simp [hlt]) h1 h2⟩
  ·rw [List.getElem?_set_ne hj] at h
   obtain ⟨ov,h1,h2⟩:=S.sl j t h
   refine ⟨ov,h1,h2.ext (.refl _) fun c hc u z=>?_⟩
   have hca:c≠a:=fun e=>by subst e;exact hj (S.dj i j c ha hc)
   rw [Yd hca]
   exact z
end
noncomputable abbrev RetP:=Hp→Hp→Hp→D→V→Prop
noncomputable def rk (K:PySem.W.Frag) (m:Md):RetP:=fun BH F' H' d v=>Rep K (hpM BH F' H' m) d v
noncomputable def rT (K:PySem.W.Frag):RetP:=fun BH F' H' d v=>∃ a as rs,d=.lst (rs.map .lst)∧v=.ref a∧H' a=some (.lst (as.map .ref))∧Zo K F' H' rs as∧(a::as).Nodup∧∀ b ∈ a::as,BH b=none∧F' b=none
noncomputable def After (D0:L2.Ends) (m:RetP) (BH F' H':Hp) (σ':L2.St):Out→Prop
 | .nx=>D0.nx σ' H'
 | .bk=>D0.bk σ' H'
 | .ct=>D0.ct σ' H'
 | .rt d=>∀ v,m BH F' H' d v→D0.rt v H'
noncomputable def tS (K:PySem.W.Frag) (m:RetP) (g:St):TS:=fun D0 σ H=>∃ BF BH F env L o env',SOk K BF BH F H σ env L∧g env=some (o,env') ∧
 ∀ F' H' σ' L',SOk K BF BH F' H' σ' env' L'→Same F F'→After D0 m BH F' H' σ' o
structure PSd (X:Cx)(m:RetP)(st:List Stmt)(g:St):Prop where
 h:PSs X st (tS X.K m g)
structure PS1 (X:Cx)(m:RetP)(st:Stmt)(g:St):Prop where
 h:PS X st (tS X.K m g)
section
variable {X:Cx} {m:RetP} {m1 m2:Md} {st:Stmt} {rest:List Stmt} {g g2:St} {e a b:Expr} {f fa fb:Ex} {t:Tx} {pos pos':Pos}
theorem Zk:PSd X m [] Jj:=PSd.mk <| PSs.of L2.ZkS fun D0 σ H hh_=>el10 hh_ fun BF BH F env L o env' S e k=>by
 cases e;exact k F H σ L S (.refl _)
theorem Jb (h:PS1 X m st g):PSd X m [st] g:=⟨L2.ZkL h.h⟩
theorem Zb (h1:PS1 X m st g)(h2:PSd X m rest g2):PSd X m (st::rest) (sSeq g g2):=PSd.mk <| PSs.of (L2.Zkj h1.h h2.h) fun D0 σ H hh_=>el10 hh_ fun BF BH F env L o env' S e k=>by
 unfold sSeq at e
 split at e
 ·rename_i env1 h1
  exact ⟨BF,BH,F,env,L,.nx,env1,S,h1,fun F' H' σ' L' S' s'=>⟨BF,BH,F',env1,L',o,env',S',e,fun F2 H2 σ2 L2 S2 s2=>k F2 H2 σ2 L2 S2 (s'.trans s2)⟩⟩
 ·rename_i r hne
  cases hr:g env with
  | none=>rw [hr] at e;cases e
  | some p =>
   obtain ⟨o1,e1⟩:=p
   rw [hr] at e
   cases e
   refine ⟨BF,BH,F,env,L,o,env',S,hr,fun F' H' σ' L' S' s'=>?_⟩
   have kk:=k F' H' σ' L' S' s'
   cases o with
   | nx=>exact absurd hr (hne _)
   | bk=>exact kk
   | ct=>exact kk
   | rt d=>exact kk
theorem ZgE {pins:List (Addr × Obj)}{σ:L2.St}{H:Hp}{s:Shared}{a:Addr}{kvs:List (L2.Key × V)}(I:Inv X pins σ H s)(h:H a=some (.dK kvs)):∃ o,Inv X pins σ (upd H a (.frz o (.dK kvs))) s:=by
 have ok:=I.hok a _ h
 obtain ⟨z,y,vs,r,ob,es,ep,e,c⟩:=ok
 refine ⟨ob,?_⟩
 have hne:∀ b o,H b=some o→(∀ kv,o≠.dK kv)→upd H a (.frz ob (.dK kvs)) b=some o:=fun b o hb hn=>by
  have:b≠a:=fun q=>by subst q;rw [h] at hb;cases hb;exact hn _ rfl
  rw [Yd this];exact hb
 have res:=I.un (t':=s.toks) (h':=s.heap) (H':=upd H a (.frz ob (.dK kvs))) ⟨fun b o q _ _ _=>q,fun b o q _ _ _=>⟨o.slots,q⟩,fun b o q n _=>by
  have:b≠a:=fun q=>by subst q;rw [h] at n;cases n
  rw [Yd this];exact n,fun b o q _=>⟨o,q⟩,fun b xs q=>hne b _ q (fun _ z=>by cases z),fun b o u q=>hne b _ q (fun _ z=>by cases z),fun b ps q=>⟨#[],by rw [hne b _ q (fun _ z=>by cases z)];simp⟩⟩ fun b u q=>by
   by_cases hb:b=a
   ·subst hb
    rw [Jd] at q
    cases q
    refine ⟨e,?_⟩
    exact L2.Yy.stay (I.hok b _ h) (fun _ _ _ q=>q) (fun c q=>hne c _ q (fun _ z=>by cases z)) fun c xs q=>hne c _ q (fun _ z=>by cases z)
   ·rw [Yd hb] at q
    exact L2.Yy.stay (I.hok b _ q) (fun _ _ _ q=>q) (fun c q=>hne c _ q (fun _ z=>by cases z)) fun c xs q=>hne c _ q (fun _ z=>by cases z)
 exact res
theorem Jt (i:Nat){sts:List Stmt}(h2:PSd X m sts g2):PSd X m sts (sSeq (sFrz i) g2):=PSd.mk fun pins s0 σ H D0 I hh_=>el10 hh_ fun BF BH F env L o env' S e k=>by
 unfold sSeq sFrz at e
 cases he:env[i]? with
 | none=>rw [he] at e;cases e
 | some s =>
  rw [he] at e
  cases s with
  | un=>cases e
  | dc kvs =>
   obtain ⟨ov,hσ,hso⟩:=S.sl i _ he
   obtain ⟨p,rfl,hl,h3⟩:=hso
   obtain ⟨ob,I'⟩:=ZgE I h3
   have S1:=S.own (i:=i) (a:=p) (by rw [hl];simp) (HO.frz ob (.dK (kvV kvs))) (s':=.un) fun s ov e1 e2 e3=>trivial
   have hlt:i < env.length:=(List.getElem?_eq_some_iff.mp he).1
   have S2:=S1.frz i (s:=.un) (s':=.sh (.dct kvs)) (List.getElem?_set_self hlt) fun ov h1 h ff=>by
    rw [hσ] at h1;cases h1
    refine ⟨_,rfl,?_⟩
    simp only [Rep]
    exact ⟨p,ob,rfl,by rw [Zag (by rw [hl];simp)];exact Jd⟩
   rw [List.set_set] at S2
   exact h2.h pins s0 σ _ D0 I' ⟨BF,BH,_,_,_,o,env',S2,e,fun F2 H2 σ2 L2 S2' s2=>k F2 H2 σ2 L2 S2' ((S1.ZdP i).trans s2)⟩
  | jk _=>cases e
  | jl _=>cases e
  | xc _=>cases e
  | nw ds =>
   have S':=S.frz i (s':=.fr (.lst ds)) he fun ov _ h ff=>by
    obtain ⟨p,vs,rfl,hl,h3,r⟩:=h
    refine ⟨_,rfl,?_⟩
    simp only [RepN]
    refine ⟨p,vs,rfl,?_,Zh.mono (Zbb ff) _ _ r⟩
    rw [Zcn ((S.ow i p (by rw [hl];simp)).2.1),Zag (by rw [hl];simp)];exact h3
   exact h2.h pins s0 σ H D0 I ⟨BF,BH,_,_,_,o,env',S',e,fun F2 H2 σ2 L2 S2 s2=>k F2 H2 σ2 L2 S2 ((S.ZdP i).trans s2)⟩
  | sh d=>exact h2.h pins s0 σ H D0 I ⟨BF,BH,F,env,L,o,env',S,e,k⟩
  | fr d=>exact h2.h pins s0 σ H D0 I ⟨BF,BH,F,env,L,o,env',S,e,k⟩
  | ow ds =>
   have S':=S.frz i (s':=.sh (.lst ds)) he fun ov _ h ff=>by
    obtain ⟨p,vs,rfl,hl,h3,r⟩:=h
    refine ⟨_,rfl,?_⟩
    simp only [Rep]
    exact ⟨p,vs,rfl,.inl (.inl (by rw [Zag (by rw [hl];simp)];exact h3)),Reps.mono ff _ _ r⟩
   exact h2.h pins s0 σ H D0 I ⟨BF,BH,_,_,_,o,env',S',e,fun F2 H2 σ2 L2 S2 s2=>k F2 H2 σ2 L2 S2 ((S.ZdP i).trans s2)⟩
  | tab rs =>
   have S':=S.frz i (s':=.sh (.lst (rs.map .lst))) he fun ov _ h ff=>by
    obtain ⟨p,as,rfl,hl,nd,h3,r⟩:=h
    refine ⟨_,rfl,?_⟩
    simp only [Rep]
    refine ⟨p,_,rfl,.inl (.inl (by rw [Zag (by rw [hl];simp)];exact h3)),?_⟩
    have r':Zo X.K (frzH F H (L i)) (frzH F H (L i)) rs as:=r.mono ff fun b hb o z=>by rw [Zag (by rw [hl];exact List.mem_cons_of_mem _ hb)];exact z
    exact r'.reps (.refl _)
   exact h2.h pins s0 σ H D0 I ⟨BF,BH,_,_,_,o,env',S',e,fun F2 H2 σ2 L2 S2 s2=>k F2 H2 σ2 L2 S2 ((S.ZdP i).trans s2)⟩
theorem Zcs:PS1 X m st ZaS:=PS1.mk <| PS.of L2.ZjQ fun D0 σ H ⟨BF,BH,F,env,L,o,env',S,e,k⟩=>by cases e
theorem Zbl (ha:PD X m1 e f)(hs:swapsWith e none pos.line X.env=pure false:=by rfl):PS1 X m (.Expr e pos) (sDo f):=PS1.mk <| PS.of (L2.Zcu ha.h hs) fun D0 σ H hh_=>el10 hh_ fun BF BH F env L o env' S e k=>by
 unfold sDo at e
 split at e
 ·rename_i d h1
  cases e
  exact ⟨BF,BH,F,env,L,d,S,h1,fun v F' H' z r=>k F' H' σ L (S.ext z) z.ff⟩
 ·cases e
theorem Zg (ha:PD X m1 e f):PS1 X (rk X.K m1) (.Return (some e) pos) (sRet f):=PS1.mk <| PS.of (L2.Ze3 ha.h) fun D0 σ H hh_=>el10 hh_ fun BF BH F env L o env' S e k=>by
 unfold sRet at e
 split at e
 ·rename_i d h1
  cases e
  exact ⟨BF,BH,F,env,L,d,S,h1,fun v F' H' z r=>k F' H' σ L (S.ext z) z.ff v r⟩
 ·cases e
theorem Yl {A B:List Stmt}(hc:PTd X e t)(ha:PSd X m A g)(hb:PSd X m B g2):PS1 X m (.If e A B pos) (sIf t g g2):=PS1.mk <| PS.of (L2.Znf hc ha.h hb.h) fun D0 σ H hh_=>el10 hh_ fun BF BH F env L o env' S e k=>by
 unfold sIf at e
 split at e
 ·rename_i h1
  exact ⟨BF,BH,F,env,L,true,S,h1,fun F' H' z=>L2.iteT ⟨BF,BH,F',env,L,o,env',S.ext z,e,fun F2 H2 σ2 L2 S2 s2=>k F2 H2 σ2 L2 S2 (z.ff.trans s2)⟩⟩
 ·rename_i h1
  exact ⟨BF,BH,F,env,L,false,S,h1,fun F' H' z=>L2.iteF ⟨BF,BH,F',env,L,o,env',S.ext z,e,fun F2 H2 σ2 L2 S2 s2=>k F2 H2 σ2 L2 S2 (z.ff.trans s2)⟩⟩
 ·cases e
theorem Je (nd:X.N.Nodup)(i:Nat){x:Str}(ha:PD X .k e f)(hi:X.N[i]?=some x:=by kernel_rfl)(hx:locB X.env.scope x=true:=by kernel_rfl)(hs:swapsWith e (some (.Name x pos')) pos.line X.env=pure false:=by rfl)
  (hf:fnB X x=true:=by kernel_rfl):PS1 X m (.Assign [.Name x pos'] e pos) (sSet i f) :=
 PS1.mk <| PS.of (L2.Zch nd hi (Zai hx) ha.h hs (ZaP hf)) fun D0 σ H hh_=>el10 hh_ fun BF BH F env L o env' S e k=>by
  unfold sSet at e
  split at e
  ·rename_i d h1
   cases e
   exact ⟨BF,BH,F,env,L,d,S,h1,fun v F' H' z r=>k F' H' _ _ ((S.ext z).Zf9 i r) z.ff⟩
  ·cases e
theorem Zle {K:PySem.W.Frag}{BF BH F F' H H':Hp}{σ:L2.St}{env:Env}{L:Nat→List Addr}(S:SOk K BF BH F H σ env L)(z:Ext F H F' H')(i:Nat){p:Addr}{vs:List V}{ds:List D}(h0:H p=none)(h1:H' p=some (.lst vs))(h2:F' p=none)(r:Reps K F' ds vs) :
  SOk K BF BH F' H' (σ.set i (some (.ref p))) (env.set i (.ow ds)) (putL L i [p]) :=
 (S.ext z).set i ⟨p,vs,rfl,rfl,h1,r⟩ (fun a h=>by
  rw [List.mem_singleton] at h;subst h
  exact ⟨h2,S.s0.free h0,by rw [h1];simp⟩) (fun a h j hj hm=>by
  rw [List.mem_singleton] at h;subst h
  exact (S.ow j a hm).2.2 h0)
theorem Zat (nd:X.N.Nodup)(i:Nat){x:Str}(ha:PDo X .k e f)(hi:X.N[i]?=some x:=by kernel_rfl)(hx:locB X.env.scope x=true:=by kernel_rfl)(hs:swapsWith e (some (.Name x pos')) pos.line X.env=pure false:=by rfl)
  (hf:fnB X x=true:=by kernel_rfl):PS1 X m (.Assign [.Name x pos'] e pos) (sOwn i f) :=
 PS1.mk <| PS.of (L2.Zch nd hi (Zai hx) ha hs (ZaP hf)) fun D0 σ H hh_=>el10 hh_ fun BF BH F env L o env' S e k=>by
  unfold sOwn at e
  split at e
  ·rename_i ds h1
   cases e
   exact ⟨BF,BH,F,env,L,ds,S,h1,fun p vs F' H' z h0 h2 h3 r=>k F' H' _ _ (Zle S z i h0 h2 h3 r) z.ff⟩
  ·cases e
theorem ZeI {K:PySem.W.Frag}{H:Hp}{p:Addr}{vs:List V}(h:H p=some (.lst vs)):L2.tyV K "list" (.ref p) H:=.inl ⟨rfl,vs,.inl (.inl h)⟩
theorem Zkt {K:PySem.W.Frag}{BF BH F H:Hp}{σ:L2.St}{env:Env}{L:Nat→List Addr}(S:SOk K BF BH F H σ env L){i:Nat}{ds:List D}(h:env[i]?=some (.ow ds)):∃ p vs,σ[i]?=some (some (.ref p))∧L i=[p]∧H p=some (.lst vs)∧Reps K F ds vs:=by
 obtain ⟨ov,h1,h2⟩:=S.sl i _ h
 obtain ⟨p,vs,rfl,h3,h4,h5⟩:=h2
 exact ⟨p,vs,h1,h3,h4,h5⟩
theorem ZiZ {K:PySem.W.Frag}{BF BH F H:Hp}{σ:L2.St}{env:Env}{L:Nat→List Addr}(S:SOk K BF BH F H σ env L){i:Nat}{ds ds':List D}{p:Addr}{vs':List V}(he:env[i]?=some (.ow ds))(hl:L i=[p])(hσ:σ[i]?=some (some (.ref p)))(r:Reps K F ds' vs') :
  SOk K BF BH F (upd H p (.lst vs')) σ (env.set i (.ow ds')) L :=
 S.own (i:=i) (a:=p) (by rw [hl];simp) _ fun s ov h1 h2 h3=>by
  rw [hσ] at h2;cases h2
  exact ⟨p,vs',rfl,hl,Jd,r⟩
theorem Za1 (i:Nat) {x:Str} {p1 p2 p3 p4:Pos} (ha:PD X .k e f) (hN:X.N[i]?=some x:=by kernel_rfl) (hv:visB X.env.scope x=true:=by kernel_rfl) (hd:(x == ("__debug__":Str))=false:=by kernel_rfl)
  (hcd:(x == ("__classdict__":Str))=false:=by kernel_rfl) (hst:nst e=true:=by rfl)
  (hbase:attributeBase (.Name x p1) "append" X.env (eval (.Name x p1) X.env)=eval (.Name x p1) X.env:=by rfl)
  (hline:(p2.endLine == p3.line)=true:=by rfl)
  (hsw:swapsWith (.Call (.Attribute (.Name x p1) "append" p2) [e] [] p3) none p4.line X.env=pure false:=by rfl) :
  PS1 X m (.Expr (.Call (.Attribute (.Name x p1) "append" p2) [e] [] p3) p4) (sApp i f) :=
 PS1.mk <| PS.of (L2.Zcu (L2.Zdy PySem.F.plainAttrs_list PySem.F.slot_list_append PySem.F.type_list_append L2.Zb9 (L2.JW hN (JK hv) hd hcd) (L2.Zt ha.h L2.ZJ (Zw hst)) hbase (by rw [ZaB (Za9 hst)];rfl) hline (Yi hst) rfl) hsw) fun D0 σ H hh_=>el10 hh_ fun BF BH F env L o env' S e k=>by
  unfold sApp at e
  split at e
  ·rename_i ds d he h1
   split at e
   ·rename_i hlen
    cases e
    obtain ⟨p,vs,hσ,hl,hp,r⟩:=Zkt S he
    refine ⟨_,hσ,ZeI hp,BF,BH,F,env,L,d,S,h1,fun v F' H' z rv=>?_⟩
    have S':=S.ext z
    have r':Reps X.K F' (ds++[d]) (vs++[v]):=(Reps.mono z.ff _ _ r).append (Reps.cons rv Reps.nil)
    refine ⟨p,vs,v,rfl,rfl,z.hh _ _ hp,by rw [← r.length];exact Nat.lt_of_lt_of_le hlen ZcY,?_⟩
    exact k F' _ σ L (ZiZ S' he hl hσ r') z.ff
   ·cases e
  ·cases e
theorem ZmM (its:List Value)(k:Nat)(u:Value)(h:k≤its.length):(its.toArray.extract 0 k).push u++its.toArray.extract k=(its.insertIdx k u).toArray:=by
 have e:its.insertIdx k u=its.take k++u::its.drop k:=by
  induction its generalizing k with
  | nil=>simp at h;subst h;simp
  | cons a t ih =>
   cases k with
   | zero=>simp
   | succ k=>simp at h;simp [ih k h]
 rw [e]
 simp
 rw [List.take_of_length_le (by rw [List.length_drop];exact Nat.le_refl _)]
theorem Zh7:L2.MtM X "list.insert" (fun x vs H Q=>∃ (l:Addr) (xs:List V) (k:Int) (y:V),x=.ref l∧vs=[.int k,y]∧H l=some (.lst xs)∧0≤k∧k≤xs.length∧xs.length < lim∧Q .non (upd H l (.lst (xs.insertIdx k.toNat y)))):=by
 intro pins s σ H x vs v us Q I rx rv h
 obtain ⟨l,xs,k,y,rfl,rfl,hH,hk0,hk,hz,q⟩:=h
 cases rx
 obtain ⟨u,w,rfl,ru,rw'⟩:=rv.two
 obtain ⟨t,rfl⟩:=ru
 obtain ⟨z,its,n,r,hl,e⟩:=I.lstM hH
 have hlim:lim=100000:=rfl
 have hz2:its.toArray.size≤sizeLine:=by rw [List.size_toArray,sizeLine_eq];omega
 have hfit:Builtin.List.listFitsIndex k=true:=by
  unfold Builtin.List.listFitsIndex
  rw [Bool.and_eq_true]
  exact ⟨decide_eq_true (Int.le_trans (by decide) hk0),decide_eq_true (Int.lt_of_lt_of_le (show k < 9223372036854775808 by omega) (by decide))⟩
 have hfit':¬ (!Builtin.List.listFitsIndex k)=true:=by rw [hfit];decide
 refine call_meets PySem.F.slot_list_insert ⟨_,e,rfl⟩ PySem.F.entry_list_insert (PySem.F.args_list_insert_3 _ _ _)
  (AutoSeq1.list_insert_list_int_val_1 l its.toArray n k t w hfit' hz2) ⟨e,?_⟩
 refine ⟨.non,_,I.lset (its':=its.insertIdx k.toNat w) hH e ?_ ?_ ?_,rfl,q⟩
 ·have hn:¬ (k < 0):=by omega
  have hm:min k.toNat its.toArray.size=k.toNat:=by rw [List.size_toArray];omega
  have hif:(if k < 0 then (k + ((its.toArray.size:Nat):Int)).toNat else min k.toNat its.toArray.size)=k.toNat:=by rw [if_neg hn,hm]
  dsimp only
  rw [hif]
  exact ZmM its k.toNat w (by omega)
 ·clear e hz hz2 hfit hfit' hk hk0 q hH
  have go:∀ (k:Nat) (xs:List V) (its:List Value),Vals xs its→Vals (xs.insertIdx k y) (its.insertIdx k w):=by
   intro k
   induction k with
   | zero=>intro xs its r;simp only [List.insertIdx_zero];exact .cons rw' r
   | succ k ih =>
    intro xs its r
    cases r with
    | nil=>simp only [List.insertIdx_succ_nil];exact .nil
    | cons r1 r2=>simp only [List.insertIdx_succ_cons];exact .cons r1 (ih _ _ r2)
  exact go k.toNat xs its r
 ·have:(xs.insertIdx k.toNat y).length≤xs.length + 1:=List.length_insertIdx_le_succ
  rw [sizeLine_eq];omega
theorem Zmm (i:Nat) {x:Str} {p1 p2 p3 p4:Pos} (hq:PD X m1 a fa) (ha:PD X .k e f) (hN:X.N[i]?=some x:=by kernel_rfl) (hv:visB X.env.scope x=true:=by kernel_rfl) (hd:(x == ("__debug__":Str))=false:=by kernel_rfl)
  (hcd:(x == ("__classdict__":Str))=false:=by kernel_rfl) (hst:nst a=true:=by rfl) (hst2:nst e=true:=by rfl)
  (hbase:attributeBase (.Name x p1) "insert" X.env (eval (.Name x p1) X.env)=eval (.Name x p1) X.env:=by rfl)
  (hline:(p2.endLine == p3.line)=true:=by rfl)
  (hsw:swapsWith (.Call (.Attribute (.Name x p1) "insert" p2) [a,e] [] p3) none p4.line X.env=pure false:=by rfl) :
  PS1 X m (.Expr (.Call (.Attribute (.Name x p1) "insert" p2) [a,e] [] p3) p4) (sIns i fa f) :=
 PS1.mk <| PS.of (L2.Zcu (L2.Zdy PySem.F.plainAttrs_list PySem.F.slot_list_insert PySem.F.type_list_insert Zh7 (L2.JW hN (JK hv) hd hcd) (L2.Zt hq.h (L2.Zt ha.h L2.ZJ (Zw hst2)) (Yi hst)) hbase (by rw [ZaB (Zkc hst hst2)];rfl) hline (Yi hst) (ZaC (Za9 hst2))) hsw) fun D0 σ H hh_=>el10 hh_ fun BF BH F env L o env' S e k=>by
  unfold sIns at e
  split at e
  ·rename_i ds j d he h1 h2
   split at e
   ·rename_i hlen
    cases e
    obtain ⟨p,vs,hσ,hl,hp,r⟩:=Zkt S he
    refine ⟨_,hσ,ZeI hp,BF,BH,F,env,L,_,S,h1,fun v F1 H1 z1 r1=>⟨BF,BH,F1,env,L,d,S.ext z1,h2,fun w F' H' z2 rv=>?_⟩⟩
    have z:=z1.trans z2
    have S':=S.ext z
    obtain rfl:=Jq r1
    have r':Reps X.K F' (ds.insertIdx j.toNat d) (vs.insertIdx j.toNat w):=(Reps.mono z.ff _ _ r).insertIdx rv j.toNat
    refine ⟨p,vs,j,w,rfl,rfl,z.hh _ _ hp,hlen.1,by rw [← r.length];exact hlen.2.1,by rw [← r.length];exact hlen.2.2,?_⟩
    exact k F' _ σ L (ZiZ S' he hl hσ r') z.ff
   ·cases e
  ·cases e
end
end PV
set_option linter.all false
set_option Elab.async false
set_option maxRecDepth 100000
set_option maxHeartbeats 4000000
namespace PV
open PySem PySem.Spec PyProof.Rows
open L2 (V Hp HO Vals SqL SqT Same upd Cx PE PT PW PA PS PSs TE TT TA TS Inv RelV Jd Yd Ze)
section
variable {X:Cx} {m:RetP} {m1 m2 m3:Md} {st:Stmt} {rest:List Stmt} {g g2 b:St} {e a c:Expr} {f fa fb fc:Ex} {t:Tx} {pos pos' p1 p2 p3:Pos}
theorem Zo.set {K:PySem.W.Frag}{F H:Hp}:∀ {rs:List (List D)} {as:List Addr} {j:Nat} {r:List D} {a:Addr} {vs':List V},as.Nodup→Zo K F H rs as→as[j]?=some a→Reps K F r vs'→Zo K F (upd H a (.lst vs')) (rs.set j r) as
 | [],as,j,r,a,vs',_,h,e,_=>by have z:as=[]:=h;subst z;simp at e
 | r0::rs,as,0,r,a,vs',nd,h,e,h'=>by
  obtain ⟨b,t,vs,rfl,h1,h2,h3⟩:=h
  have e':b=a:=by simpa using e
  subst e'
  obtain ⟨n1,n2⟩:=List.nodup_cons.mp nd
  exact ⟨b,t,vs',rfl,Jd,h',h3.mono (.refl _) fun c hc o z=>by rw [Yd (fun q=>n1 (by rw [← q];exact hc))];exact z⟩
 | r0::rs,as,j + 1,r,a,vs',nd,h,e,h'=>by
  obtain ⟨b,t,vs,rfl,h1,h2,h3⟩:=h
  obtain ⟨n1,n2⟩:=List.nodup_cons.mp nd
  have e':t[j]?=some a:=by simpa using e
  exact ⟨b,t,vs,rfl,by rw [Yd (fun q=>n1 (by rw [q];exact List.mem_of_getElem? e'))];exact h1,h2,Zo.set n2 h3 e' h'⟩
theorem ZlI (i:Nat) {x:Str} (hq:PD X m1 a fa) (hc:PD X m2 c fc) (ha:PD X .k e f) (hN:X.N[i]?=some x:=by kernel_rfl) (hv:visB X.env.scope x=true:=by kernel_rfl) (hd:(x == ("__debug__":Str))=false:=by kernel_rfl)
  (hcd:(x == ("__classdict__":Str))=false:=by kernel_rfl) (hix:L2.Ze7 a:=by exact fun _ _=>rfl)
  (has:∀ v,assign (.Subscript (.Subscript (.Name x p1) a p2) c p3) X.env v=(do
   let ov ← holding [v] (eval (.Subscript (.Name x p1) a p2) X.env)
   let iv ← holding [v,ov] (eval c X.env)
   standAt p3
   holding [v,ov,iv] (setItem ov iv v)
   release [v,ov,iv] []):=by intro _;rfl)
  (hs:swapsWithSole [.Subscript (.Subscript (.Name x p1) a p2) c p3] e pos.line X.env=pure false:=by rfl) (hw:swappedStores [.Subscript (.Subscript (.Name x p1) a p2) c p3] e X.env=pure none:=by rfl)
  (h1:(assignEach [.Subscript (.Subscript (.Name x p1) a p2) c p3] X.env).map (·.2)=[assign (.Subscript (.Subscript (.Name x p1) a p2) c p3) X.env]:=by rfl) :
  PS1 X m (.Assign [.Subscript (.Subscript (.Name x p1) a p2) c p3] e pos) (ZcN i fa fc f) :=
 PS1.mk <| PS.of (L2.ZmW ha.h (L2.Zmd (L2.Zii L2.Zhs (L2.JW hN (JK hv) hd hcd) hq.h hix) hc.h L2.set_list has) hs hw h1) fun D0 σ H hh_=>el10 hh_ fun BF BH F env L o env' S e k=>by
  unfold ZcN at e
  split at e
  ·rename_i rs d kk ll he h2 h3 h4
   split at e
   ·rename_i j hj
    split at e
    ·rename_i r hr
     split at e
     ·rename_i mm hm
      cases e
      obtain ⟨ov,hσ,hso⟩:=S.sl i _ he
      obtain ⟨p,as,rfl,hl,nd,hp,hrows⟩:=hso
      refine ⟨BF,BH,F,env,L,d,S,h2,fun v F1 H1 z1 r1=>⟨_,hσ,BF,BH,F1,env,L,_,S.ext z1,h3,fun w F2 H2 z2 r2=>?_⟩⟩
      have z:=z1.trans z2
      have S2:=S.ext z
      obtain ⟨ra,vs,g1,g2,g3⟩:=hrows.get hr
      have hla:as.length=rs.length:=hrows.length.symm
      have hat:L2.atI (as.map V.ref) kk=some (.ref ra):=by
       unfold L2.atI
       rw [List.length_map,hla]
       show ((ixN rs.length kk).bind fun j=>(as.map V.ref)[j]?)=_
       rw [hj]
       show (as.map V.ref)[j]?=_
       rw [List.getElem?_map,g1];rfl
      refine ⟨p,as.map V.ref,kk,.ref ra,rfl,Jq r2,.inl (.inl (z.hh _ _ hp)),hat,BF,BH,F2,env,L,_,S2,h4,fun w2 F3 H3 z3 r3=>?_⟩
      have z':=z.trans z3
      have S3:=S.ext z'
      have r1':=Rep.mono (z2.trans z3).ff _ _ r1
      have g3':=Reps.mono z'.ff _ _ g3
      refine ⟨ra,vs,ll,mm,rfl,Jq r3,z'.hh _ _ g2,by rw [← g3.length];exact hm,?_⟩
      have hra:ra ∈ as:=List.mem_of_getElem? g1
      obtain ⟨n1,n2⟩:=List.nodup_cons.mp nd
      refine k F3 _ σ L (S3.own (i:=i) (a:=ra) (by rw [hl];exact List.mem_cons_of_mem _ hra) _ fun s ov e1 e2 e3=>?_) z'.ff
      rw [hσ] at e2;cases e2
      refine ⟨p,as,rfl,hl,nd,?_,?_⟩
      ·rw [Yd (fun q=>n1 (by rw [q];exact hra))];exact z'.hh _ _ hp
      ·have hrows':Zo X.K F3 H3 rs as:=hrows.mono z'.ff fun b _ o q=>z'.hh _ _ q
       exact hrows'.set n2 g1 (g3'.set r1' mm)
     ·cases e
    ·cases e
   ·cases e
  ·cases e
structure ItOk (K:PySem.W.Frag)(J:L2.It)(F:Hp)(ds:List D):Prop where
 stop:∀ H,Same F H→J.stop ds.length H
 go:∀ i H,Same F H→i < ds.length→J.go i H
 yld:∀ i H x H' F0,Same F F0→Same F0 H→i < ds.length→J.yld i H x H'→∃ d F2,ds[i]?=some d∧Ext F0 H F2 H'∧Rep K F2 d x
noncomputable def tIt (K:PySem.W.Frag) (lx:Lx):L2.TI:=fun σ H R=>∃ BF BH F env L ds,SOk K BF BH F H σ env L∧lx env=some ds∧∀ J F' H',Ext F H F' H'→ItOk K J F' ds→R J H'
noncomputable def PId (X:Cx) (tg iter:Expr) (lx:Lx):Prop:=L2.PI X tg iter (tIt X.K lx)
theorem PI.of {tg iter:Expr}{w w':L2.TI}(h:L2.PI X tg iter w')(i:∀ σ H R,w σ H R→w' σ H R):L2.PI X tg iter w:=fun pins s σ H R I q=>h pins s σ H R I (i σ H R q)
noncomputable def iSeq (K:PySem.W.Frag) (tl:TE):L2.TI:=fun σ H R=>tl σ H fun x H1=>∃ p,x=.ref p∧(((∃ xs,SqL K H1 p xs)∧R (L2.Itl K p) H1)∨((∃ xs,SqT K H1 p xs)∧R (L2.Itt K p) H1))
theorem Zl3 {tg l:Expr}{tl:TE}(hl:PE X l tl):L2.PI X tg l (iSeq X.K tl):=by
 intro pins s σ H R I h
 refine L2.thn (hl pins s σ H _ I h) fun v s1 ⟨x,H1,I1,r1,q1⟩=>?_
 obtain ⟨p,e,q1⟩:=q1
 subst e
 cases r1
 rcases q1 with ⟨⟨xs,hq⟩,q⟩ | ⟨⟨xs,hq⟩,q⟩
 ·obtain ⟨its,rv,pl,hz⟩:=I1.list hq
  refine wpAny_pyIter_list pl.isList ?_
  refine ⟨s1.heap.objs.size,[s1.heap.objs.size],_,_,H1,rfl,I1.kept (t':=s1.toks) fun b o e=>Heap.get?_push_of_some _ e,L2.ZiD p _,⟨_,Heap.get?_push_size _ rfl,rfl,rfl⟩,fun b hb=>?_,q⟩
  have e:b=s1.heap.objs.size:=by simpa using hb
  subst e
  exact I1.fpOk (Nat.le_refl _) (I1.hok.fresh (Nat.le_refl _))
 ·obtain ⟨its,rv,pl,hz⟩:=I1.tuple hq
  refine wpAny_pyIter_tuple (show s1.heap.IsTuple p its.toArray from pl) ?_
  refine ⟨s1.heap.objs.size,[s1.heap.objs.size],_,_,H1,rfl,I1.kept (t':=s1.toks) fun b o e=>Heap.get?_push_of_some _ e,L2.Ziu p _,⟨_,Heap.get?_push_size _ rfl,rfl,rfl⟩,fun b hb=>?_,q⟩
  have e:b=s1.heap.objs.size:=by simpa using hb
  subst e
  exact I1.fpOk (Nat.le_refl _) (I1.hok.fresh (Nat.le_refl _))
theorem Zao {tg:Expr}(ha:PD X .k a f):PId X tg a (iOf f):=PI.of (Zl3 ha.h) fun σ H R hh_=>el9 hh_ fun BF BH F env L ds S e q=>by
 unfold iOf at e
 split at e
 ·rename_i xs h1
  cases e
  refine ⟨BF,BH,F,env,L,_,S,h1,fun v F' H' z r=>?_⟩
  simp only [Rep] at r
  obtain ⟨p,vs,rfl,hs,t⟩:=r
  refine ⟨p,rfl,.inl ⟨⟨vs,z.fh.seq hs⟩,q _ F' H' z ⟨fun H2 s2=>⟨vs,s2.seq hs,by rw [t.length];exact Nat.le_refl _⟩,fun i H2 s2 hi=>?_,fun i H2 x H3 F0 s1 s2 hi hy=>?_⟩⟩⟩
  ·exact ⟨vs,vs[i]'(by rw [← t.length];exact hi),s2.seq hs,by simp [← t.length,hi]⟩
  ·obtain ⟨rfl,hy⟩:=hy
   obtain ⟨d,k1,k2⟩:=t.getV (hy vs ((s1.trans s2).seq hs))
   exact ⟨d,F0,k1,.refl s2,Rep.mono s1 _ _ k2⟩
 ·rename_i xs h1
  cases e
  refine ⟨BF,BH,F,env,L,_,S,h1,fun v F' H' z r=>?_⟩
  simp only [Rep] at r
  obtain ⟨p,vs,rfl,hs,t⟩:=r
  refine ⟨p,rfl,.inr ⟨⟨vs,seqT z.fh hs⟩,q _ F' H' z ⟨fun H2 s2=>⟨vs,seqT s2 hs,by rw [t.length];exact Nat.le_refl _⟩,fun i H2 s2 hi=>?_,fun i H2 x H3 F0 s1 s2 hi hy=>?_⟩⟩⟩
  ·exact ⟨vs,vs[i]'(by rw [← t.length];exact hi),seqT s2 hs,by simp [← t.length,hi]⟩
  ·obtain ⟨rfl,hy⟩:=hy
   obtain ⟨d,k1,k2⟩:=t.getV (hy vs (seqT (s1.trans s2) hs))
   exact ⟨d,F0,k1,.refl s2,Rep.mono s1 _ _ k2⟩
 ·cases e
theorem Zka {K:PySem.W.Frag}{F:Hp}{lo:Int}{n:Nat}:ItOk K (L2.Itr lo n) F (Yh lo n) where
 stop:=fun H _=>by show n≤(Yh lo n).length;rw [Jm];exact Nat.le_refl _
 go:=fun i H _ h=>by show i < n;rw [Jm] at h;exact h
 yld:=fun i H x H' F0 _ s2 hi hy=>by
  obtain ⟨rfl,rfl⟩:=hy
  rw [Jm] at hi
  exact ⟨_,F0,JM hi,.refl s2,by simp [Rep]⟩
theorem Jo {tg:Expr} (T:Bt X.mg) (ha:PD X m1 a f) (hg:X.env.kindOf "range"=some .globalImplicit:=by kernel_rfl) (hs:nst a=true:=by rfl):PId X tg (.Call (.Name "range" p1) [a] [] pos) (iRng f) :=
 PI.of (L2.ZiY hg T.range (L2.Zt ha.h L2.ZJ (Zw hs)) (Zw hs)) fun σ H R hh_=>el9 hh_ fun BF BH F env L ds S e q=>by
  unfold iRng at e
  split at e
  ·rename_i j h1
   split at e
   ·rename_i hj
    cases e
    refine ⟨BF,BH,F,env,L,_,S,h1,fun v F' H' z r=>?_⟩
    obtain rfl:=Jq r
    have hl:(lim:Int)=100000:=rfl
    exact ⟨j,rfl,by omega,by omega,q _ F' H' z Zka⟩
   ·cases e
  ·cases e
noncomputable def tTg (K:PySem.W.Frag) (g:Tg):L2.TG:=fun v σ H Q=>∃ BF BH F env L d env1,SOk K BF BH F H σ env L∧Rep K F d v∧g d env=some env1∧∀ F' H' σ' L',SOk K BF BH F' H' σ' env1 L'→Same F F'→Q σ' H'
noncomputable def PGd (X:Cx) (tg:Expr) (g:Tg):Prop:=L2.PG X tg (tTg X.K g)
theorem pg_n (nd:X.N.Nodup)(i:Nat){x:Str}(hi:X.N[i]?=some x:=by kernel_rfl)(hx:locB X.env.scope x=true:=by kernel_rfl)(hf:fnB X x=true:=by kernel_rfl):PGd X (.Name x pos) (gN i) :=
 fun pins s σ H v u Q I r ⟨BF,BH,F,env,L,d,env1,S,rd,e,k⟩=>L2.Zhu nd hi (Zai hx) (ZaP hf) pins s σ H v u Q I r (by
  cases e
  exact k F H _ _ (S.Zf9 i rd) (.refl _))
theorem Yj {tg iter:Expr}{lx:Lx}{tg':Tg}{body:List Stmt}(hi:PId X tg iter lx)(hg:PGd X tg tg')(hb:PSd X m body b)(hp:PassesOwn (model X.prog X.w) X.A X.env X.xe:=by exact PassesOwn.never)(hc:X.calm=true:=by rfl)
  (hs:∀ x,foldedSetIterable iter X.env x=pure x:=by intro _;rfl):PS1 X m (.For tg iter body [] pos) (sFor tg' lx b):=PS1.mk <| PS.of (L2.ZmF hp hc hi hg hb.h hs) fun D0 σ H hh_=>el10 hh_ fun BF BH F env L o env' S e k=>by
 unfold sFor at e
 split at e
 ·rename_i ds h1
  refine ⟨BF,BH,F,env,L,ds,S,h1,fun J F1 H1 z1 J1=>?_⟩
  refine ⟨fun i mm σ H=>mm=ds.length - i∧i≤ds.length∧∃ F env L,SOk X.K BF BH F H σ env L∧Same F1 F∧forL tg' b (ds.drop i) env=some (o,env'),⟨ds.length,by simp,Nat.zero_le _,F1,env,L,S.ext z1,.refl _,e⟩,?_⟩
  rintro i mm σ H ⟨rfl,hi,F,env,L,S,s1,e⟩
  by_cases hlt:i < ds.length
  ·refine .inr ⟨J1.go i H (s1.trans S.fh) hlt,fun σ' H'=>∃ F env L,SOk X.K BF BH F H' σ' env L∧Same F1 F∧forL tg' b (ds.drop (i + 1)) env=some (o,env'),fun σ' H' ⟨F,env,L,q1,q2,q3⟩=>⟨ds.length - (i + 1),by omega,rfl,hlt,F,env,L,q1,q2,q3⟩,fun x H' hy=>?_⟩
   obtain ⟨d,F2,hd,z2,r2⟩:=J1.yld i H x H' F s1 S.fh hlt hy
   rw [List.drop_eq_getElem_cons hlt] at e
   have hd':ds[i]=d:=by rw [List.getElem?_eq_getElem hlt] at hd;exact Option.some.inj hd
   rw [hd'] at e
   simp only [forL] at e
   split at e
   ·rename_i env0 hg0
    refine ⟨BF,BH,F2,env,L,d,env0,S.ext z2,r2,hg0,fun F3 H3 σ3 L3 S3 s3=>?_⟩
    have s13:Same F1 F3:=(s1.trans z2.ff).trans s3
    split at e
    ·rename_i e1 hb1
     exact ⟨BF,BH,F3,env0,L3,.nx,e1,S3,hb1,fun F4 H4 σ4 L4 S4 s4=>⟨F4,e1,L4,S4,s13.trans s4,e⟩⟩
    ·rename_i e1 hb1
     exact ⟨BF,BH,F3,env0,L3,.ct,e1,S3,hb1,fun F4 H4 σ4 L4 S4 s4=>⟨F4,e1,L4,S4,s13.trans s4,e⟩⟩
    ·rename_i e1 hb1
     cases e
     exact ⟨BF,BH,F3,env0,L3,.bk,env',S3,hb1,fun F4 H4 σ4 L4 S4 s4=>k F4 H4 σ4 L4 S4 ((z1.ff.trans s13).trans s4)⟩
    ·rename_i r e1 hb1
     cases e
     exact ⟨BF,BH,F3,env0,L3,.rt r,env',S3,hb1,fun F4 H4 σ4 L4 S4 s4=>k F4 H4 σ4 L4 S4 ((z1.ff.trans s13).trans s4)⟩
    ·cases e
   ·cases e
  ·have ei:i=ds.length:=by omega
   subst ei
   rw [List.drop_length] at e
   cases e
   exact .inl ⟨J1.stop H (s1.trans S.fh),k F H σ L S (z1.ff.trans s1)⟩
 ·cases e
end
end PV
set_option linter.all false
set_option Elab.async false
set_option maxRecDepth 100000
set_option maxHeartbeats 4000000
namespace PV
open PySem PySem.Spec PyProof.Rows
open L2 (V Hp HO Vals SqL SqT Same upd Cx PE PT PW PA PS PSs TE TT TA TS Inv RelV Jd Yd Ze)
section
variable {X:Cx} {m:RetP} {m1 m2 m3:Md} {st:Stmt} {rest:List Stmt} {g g2 b:St} {e a c:Expr} {es:List Expr} {f fa fb fc:Ex} {fs:List Ex} {t:Tx} {pos pos' p p1 p2 p3:Pos}
theorem ZeQ {body:List Stmt}(n:Nat)(hc:PTd X e t)(hb:PSd X m body b)(hp:PassesOwn (model X.prog X.w) X.A X.env X.xe:=by exact PassesOwn.never):PS1 X m (.While e body [] pos) (YJ t b n):=PS1.mk <| PS.of (L2.ZjH hp hc hb.h) fun D0 σ H hh_=>el10 hh_ fun BF BH F env L o env' S e k=>by
 refine ⟨fun mm σ H=>∃ F1 env L,SOk X.K BF BH F1 H σ env L∧Same F F1∧YJ t b mm env=some (o,env'),⟨n,F,env,L,S,.refl _,e⟩,?_⟩
 rintro mm σ H ⟨F1,env,L,S,s1,e⟩
 cases mm with
 | zero=>cases e
 | succ mm =>
  simp only [YJ] at e
  split at e
  ·rename_i h1
   refine ⟨BF,BH,F1,env,L,true,S,h1,fun F2 H2 z2=>L2.iteT ⟨fun σ' H'=>∃ F1 env L,SOk X.K BF BH F1 H' σ' env L∧Same F F1∧YJ t b mm env=some (o,env'),fun σ' H' q=>⟨mm,Nat.lt_succ_self _,q⟩,?_⟩⟩
   split at e
   ·rename_i e1 hb1
    exact ⟨BF,BH,F2,env,L,.nx,e1,S.ext z2,hb1,fun F4 H4 σ4 L4 S4 s4=>⟨F4,e1,L4,S4,(s1.trans z2.ff).trans s4,e⟩⟩
   ·rename_i e1 hb1
    exact ⟨BF,BH,F2,env,L,.ct,e1,S.ext z2,hb1,fun F4 H4 σ4 L4 S4 s4=>⟨F4,e1,L4,S4,(s1.trans z2.ff).trans s4,e⟩⟩
   ·rename_i e1 hb1
    cases e
    exact ⟨BF,BH,F2,env,L,.bk,env',S.ext z2,hb1,fun F4 H4 σ4 L4 S4 s4=>k F4 H4 σ4 L4 S4 ((s1.trans z2.ff).trans s4)⟩
   ·rename_i r e1 hb1
    cases e
    exact ⟨BF,BH,F2,env,L,.rt r,env',S.ext z2,hb1,fun F4 H4 σ4 L4 S4 s4=>k F4 H4 σ4 L4 S4 ((s1.trans z2.ff).trans s4)⟩
   ·cases e
  ·rename_i h1
   cases e
   exact ⟨BF,BH,F1,_,L,false,S,h1,fun F2 H2 z2=>L2.iteF (k F2 H2 σ L (S.ext z2) (s1.trans z2.ff))⟩
  ·cases e
noncomputable def spR (K:PySem.W.Frag) (m:RetP) (φ:List D→Option D):L2.Sp:=fun vs H Q _=>∃ F ds d,Same F H∧Reps K F ds vs∧φ ds=some d∧∀ v F' H',Ext F H F' H'→m H F' H' d v→Q v H'
structure Cal (P:Program)(w:World)(K:PySem.W.Frag)(mg:Str→Option Value)(base:Heap)(k:Nat)(x:Str)(m:RetP)(φ:List D→Option D):Prop where
 ex:∃ (fa:Addr) (fd:FuncData) (ps:List Str),mg x=some (.ref fa)∧PySem.W.keepIn K (.ref fa)=true∧L2.FnOk P w K mg base L2.CX0 k fa fd ps (spR K m φ)∧L2.Binds K fd ps []
theorem Zgk {BH H F2 H2:Hp}(s:Same BH H):∀ m:Md,Same (hpM H F2 H2 m) (hpM BH F2 H2 m)
 | .r=>.refl _
 | .k=>.refl _
 | .f=>fun b o h=>by
  show cut F2 BH b=some o
  have h':cut F2 H b=some o:=h
  unfold cut at h' ⊢
  split at h'
  ·rename_i hn
   rw [s.free hn]
   exact h'
  ·cases h'
theorem Zeg {k:Nat} {x:Str} {φ:List D→Option D} (G:Cal X.prog X.w X.K X.mg X.base k x m φ) (hr:L2.Room k X.A) (ha:PAd X .k (e::es) fs) (hg:L2.Gl X x) (hdb:(x == ("__debug__":Str))=false)
  (he:starEach (e::es) X.env=(false,eval e X.env)::starEach es X.env) (hpl:(backTo pos (starEach es X.env)).any (·.1)=false) :
  PE X (.Call (.Name x p) (e::es) [] pos) (fun σ H Q=>∃ BF BH F env L d,SOk X.K BF BH F H σ env L∧Yc φ fs env=some d∧∀ v F' H' H0,Same BH H0→Same H H0→Ext F H F' H'→m H0 F' H' d v→Q v H'):=by
 obtain ⟨fa,fd,ps,h1,h2,h3,h4⟩:=G.ex
 exact PE.of (L2.ZkU h3 hr hg h1 h2 h4 .nil L2.Zks ha.h hdb he hpl) fun σ H Q hh_=>el9 hh_ fun BF BH F env L d S e q=>by
  unfold Yc at e
  split at e
  ·rename_i ds h5
   refine ⟨BF,BH,F,env,L,ds,S,h5,fun vs F' H' z r=>?_⟩
   show spR X.K m φ (vs++[]) H' Q L2.E0
   rw [List.append_nil]
   exact ⟨F',ds,d,z.fh,r,e,fun v F2 H2 z2 r2=>q v F2 H2 H' (S.s0.trans z.hh) z.hh (z.trans z2) r2⟩
  ·cases e
theorem Zf {k:Nat} {x:Str} {φ:List D→Option D} (G:Cal X.prog X.w X.K X.mg X.base k x (rk X.K m1) φ) (hr:L2.Room k X.A) (ha:PAd X .k (e::es) fs) (hg:X.env.kindOf x=some .globalImplicit:=by kernel_rfl) (hdb:(x == ("__debug__":Str))=false:=by kernel_rfl)
  (hn:nst e=true:=by rfl) (hns:nsts es=true:=by rfl):PD X m1 (.Call (.Name x p) (e::es) [] pos) (Yc φ fs) :=
 PD.mk <| PE.of (Zeg G hr ha hg hdb (Yi hn) (ZaC hns)) fun σ H Q ⟨BF,BH,F,env,L,d,S,e,q⟩ =>
  ⟨BF,BH,F,env,L,d,S,e,fun v F' H' H0 s0 s1 z r=>q v F' H' z (Rep.mono (Zgk s0 m1) _ _ r)⟩
theorem Zkr {k:Nat} {x:Str} {φ:List D→Option D} (G:Cal X.prog X.w X.K X.mg X.base k x (rk X.K m1) φ) (hr:L2.Room k X.A) (hg:X.env.kindOf x=some .globalImplicit:=by kernel_rfl) (hdb:(x == ("__debug__":Str))=false:=by kernel_rfl):PD X m1 (.Call (.Name x p) [] [] pos) (Yc φ []):=by
 obtain ⟨fa,fd,ps,h1,h2,h3,h4⟩:=G.ex
 exact PD.mk <| PE.of (L2.ZjG h3 hr hg h1 h2 h4 .nil L2.Zks hdb) fun σ H Q hh_=>el9 hh_ fun BF BH F env L d S e q=>by
  have e':φ []=some d:=e
  exact ⟨F,[],d,S.fh,Reps.nil,e',fun v F2 H2 z2 r2=>q v F2 H2 z2 (Rep.mono (Zgk S.s0 m1) _ _ r2)⟩
noncomputable def tT (K:PySem.W.Frag) (f:Ex):TE:=fun σ H Q=>∃ BF BH F env L d,SOk K BF BH F H σ env L∧f env=some d∧∀ v F' H',Ext F H F' H'→rT K H F' H' d v→Q v H'
noncomputable def PDt (X:Cx) (e:Expr) (f:Ex):Prop:=PE X e (tT X.K f)
theorem Zh3 {K:PySem.W.Frag}{A B F' H':Hp}{d:D}{v:V}(s:Same A B)(h:rT K B F' H' d v):rT K A F' H' d v:=by
 obtain ⟨a,as,rs,h1,h2,h3,h4,h5,h6⟩:=h
 exact ⟨a,as,rs,h1,h2,h3,h4,h5,fun b hb=>⟨s.free (h6 b hb).1,(h6 b hb).2⟩⟩
theorem ZbM {k:Nat} {x:Str} {φ:List D→Option D} (G:Cal X.prog X.w X.K X.mg X.base k x (rT X.K) φ) (hr:L2.Room k X.A) (ha:PAd X .k (e::es) fs) (hg:X.env.kindOf x=some .globalImplicit:=by kernel_rfl) (hdb:(x == ("__debug__":Str))=false:=by kernel_rfl)
  (hn:nst e=true:=by rfl) (hns:nsts es=true:=by rfl):PDt X (.Call (.Name x p) (e::es) [] pos) (Yc φ fs) :=
 PE.of (Zeg G hr ha hg hdb (Yi hn) (ZaC hns)) fun σ H Q ⟨BF,BH,F,env,L,d,S,e,q⟩ =>
  ⟨BF,BH,F,env,L,d,S,e,fun v F' H' H0 s0 s1 z r=>q v F' H' z (Zh3 s1 r)⟩
theorem PDt.k (h:PDt X e f):PD X .k e f:=PD.mk <| PE.of h fun σ H Q hh_=>el9 hh_ fun BF BH F env L d S e q=>by
 refine ⟨BF,BH,F,env,L,d,S,e,fun v F' H' z r=>?_⟩
 obtain ⟨a,as,rs,rfl,rfl,h3,h4,h5,h6⟩:=r
 have ff:Same F' (frzH F' H' (a::as)):=fun b o hb=>by
  by_cases hm:b ∈ a::as
  ·rw [(h6 b hm).2] at hb;cases hb
  ·rw [ZaF hm];exact hb
 have z':Ext F H (frzH F' H' (a::as)) H':=⟨z.hh,z.ff.trans ff,fun b o hb=>by
  by_cases hm:b ∈ a::as
  ·exact .inr (h6 b hm).1
  ·rw [ZaF hm] at hb;exact z.dm b o hb,fun b o hb=>by
  by_cases hm:b ∈ a::as
  ·rw [Zag hm] at hb;exact hb
  ·rw [ZaF hm] at hb;exact z.fh b o hb⟩
 refine q _ _ H' z' ?_
 simp only [Rep,hpM]
 refine ⟨a,_,rfl,.inl (.inl (by rw [Zag List.mem_cons_self];exact h3)),?_⟩
 have r':Zo X.K (frzH F' H' (a::as)) (frzH F' H' (a::as)) rs as:=h4.mono ff fun b hb o z=>by rw [Zag (List.mem_cons_of_mem _ hb)];exact z
 exact r'.reps (.refl _)
theorem Zgf:∀ rs:List (List D),Zdr (rs.map .lst)=some rs
 | []=>rfl
 | r::rs=>by simp only [List.map_cons,Zdr,Zgf rs]
theorem ZlL {K:PySem.W.Frag}{BF BH F F' H H':Hp}{σ:L2.St}{env:Env}{L:Nat→List Addr}(S:SOk K BF BH F H σ env L)(z:Ext F H F' H')(i:Nat){a:Addr}{as:List Addr}{rs:List (List D)}(h3:H' a=some (.lst (as.map .ref)))(h4:Zo K F' H' rs as)(h5:(a::as).Nodup)
  (h6:∀ b ∈ a::as,H b=none∧F' b=none):SOk K BF BH F' H' (σ.set i (some (.ref a))) (env.set i (.tab rs)) (putL L i (a::as)):=by
 have rowsIn:∀ {rs:List (List D)} {as:List Addr},Zo K F' H' rs as→∀ b ∈ as,H' b≠none:=by
  intro rs
  induction rs with
  | nil=>intro as h b hb;have e:as=[]:=h;subst e;cases hb
  | cons r rs ih =>
   intro as h b hb
   obtain ⟨c,t,vs,rfl,h1,_,h3⟩:=h
   rcases List.mem_cons.mp hb with rfl | hb
   ·rw [h1];simp
   ·exact ih h3 b hb
 refine (S.ext z).set i ⟨a,as,rfl,rfl,h5,h3,h4⟩ (fun b hb=>⟨(h6 b hb).2,S.s0.free (h6 b hb).1,?_⟩) (fun b hb j hj hm=>(S.ow j b hm).2.2 (h6 b hb).1)
 rcases List.mem_cons.mp hb with rfl | hb
 ·rw [h3];simp
 ·exact rowsIn h4 b hb
theorem ZkX (i:Nat) {x:Str} (hN:X.N[i]?=some x:=by kernel_rfl) (hv:visB X.env.scope x=true:=by kernel_rfl) (hd:(x == ("__debug__":Str))=false:=by kernel_rfl)
  (hcd:(x == ("__classdict__":Str))=false:=by kernel_rfl):PS1 X (rT X.K) (.Return (some (.Name x p1)) pos) (ZdA i) :=
 PS1.mk <| PS.of (L2.Ze3 (L2.JW hN (JK hv) hd hcd)) fun D0 σ H hh_=>el10 hh_ fun BF BH F env L o env' S e k=>by
  unfold ZdA at e
  split at e
  ·rename_i rs he
   cases e
   obtain ⟨ov,h1,h2⟩:=S.sl i _ he
   obtain ⟨a,as,rfl,hl,nd,h3,h4⟩:=h2
   exact ⟨_,h1,k F H σ L S (.refl _) _ ⟨a,as,rs,rfl,rfl,h3,h4,nd,fun b hb=>⟨(S.ow i b (by rw [hl];exact hb)).2.1,(S.ow i b (by rw [hl];exact hb)).1⟩⟩⟩
  ·cases e
theorem ZjB (ha:PDt X e f):PS1 X (rT X.K) (.Return (some e) pos) (sRet f):=PS1.mk <| PS.of (L2.Ze3 ha) fun D0 σ H hh_=>el10 hh_ fun BF BH F env L o env' S e k=>by
 unfold sRet at e
 split at e
 ·rename_i d h1
  cases e
  exact ⟨BF,BH,F,env,L,d,S,h1,fun v F' H' z r=>k F' H' σ L (S.ext z) z.ff v (Zh3 S.s0 r)⟩
 ·cases e
theorem Zi0 {n:Nat}{ds:List D}(h:ds.length≤n):(enter n ds).length=n:=by
 unfold enter
 rw [List.length_append,List.length_map,List.length_replicate]
 omega
theorem ZfQ {K:PySem.W.Frag}{F H:Hp}{N:List Str}{ds:List D}{vs:List V}(fh:Same F H)(r:Reps K F ds vs)(hl:ds.length≤N.length):SOk K F H F H (L2.start N vs) (enter N.length ds) (fun _=>[]) where
 s0:=.refl _
 f0:=.refl _
 fh:=fh
 fd:=fun a o h=>.inl h
 ow:=fun i a h=>by cases h
 dj:=fun i j a h=>by cases h
 len:=by
  rw [Zi0 hl]
  unfold L2.start
  rw [List.length_append,List.length_map,List.length_replicate]
  have:=r.length
  omega
 sl:=fun i s h=>by
  unfold enter at h
  unfold L2.start
  by_cases hi:i < ds.length
  ·rw [List.getElem?_append_left (by rw [List.length_map];exact hi),List.getElem?_map,List.getElem?_eq_getElem hi] at h
   cases h
   obtain ⟨v,h1,h2⟩:=r.get (i:=i) (d:=ds[i]) (by simp [hi])
   refine ⟨some v,?_,v,rfl,h2⟩
   rw [List.getElem?_append_left (by rw [List.length_map,← r.length];exact hi),List.getElem?_map,h1];rfl
  ·rw [List.getElem?_append_right (by rw [List.length_map];omega),List.length_map,List.getElem?_replicate] at h
   split at h
   ·rename_i hlt
    cases h
    refine ⟨none,?_,trivial⟩
    rw [List.getElem?_append_right (by rw [List.length_map,← r.length];omega),List.length_map,List.getElem?_replicate,if_pos (by rw [← r.length];exact hlt)]
   ·cases h
theorem Zhx {p n:Nat}{g:St}{ds:List D}{d:D}(h:run p n g ds=some d):ds.length=p∧((∃ env',g (enter n ds)=some (.rt d,env'))∨(d=.non∧∃ env',g (enter n ds)=some (.nx,env'))):=by
 unfold run at h
 split at h
 ·rename_i hl
  split at h
  ·rename_i d' e1 hg;cases h;exact ⟨hl,.inl ⟨e1,hg⟩⟩
  ·rename_i e1 hg;cases h;exact ⟨hl,.inr ⟨rfl,e1,hg⟩⟩
  ·cases h
 ·cases h
theorem Yq {P:Program}{w:World}{K:PySem.W.Frag}{mg:Str→Option Value}{base:Heap}{x qual:Str}{st:Stmt}{f:Addr}{fd:FuncData}{N ps:List Str}{k:Nat}{m:RetP}{g:St}(F:L2.Fun K x qual st f fd)(S:L2.Zi N ps (L2.Yb st))
  (hm:(∀ BH F' H',m BH F' H' .non .non)∨∀ env env',g env≠some (.nx,env')) (hb:∀ (cdv:Value) (A:Around) (outer:List PySem.Env) (s:Shared) (H:Hp) (E:L2.XK),L2.Room k (A.deeper (envOfC qual (L2.Yb st) s.heap.objs.size f cdv)) →
   PSd (L2.cxOf L2.CX0 P w K mg base N qual (L2.Yb st) f cdv A outer s H E).nox m (L2.Jf st) g):L2.FnOk P w K mg base L2.CX0 (k + 1) f fd ps (spR K m (run ps.length N.length g)):=by
 have hpl:ps.length≤N.length:=by have:=congrArg List.length S.pre;rw [List.length_take] at this;omega
 refine F.ok S (fun vs H Q E h=>?_) (fun cdv A outer s H vs Q E hr h=>?_)
 ·obtain ⟨F0,ds,d,h1,h2,h3,h4⟩:=h
  rw [← h2.length]
  exact (Zhx h3).1
 ·obtain ⟨F0,ds,d,h1,h2,h3,h4⟩:=h
  obtain ⟨hl,h3⟩:=Zhx h3
  refine ⟨_,(hb cdv A outer s H E hr).h,?_⟩
  have S0:=ZfQ (N:=N) h1 h2 (by omega)
  rcases h3 with ⟨env',hg⟩ | ⟨rfl,env',hg⟩
  ·exact ⟨F0,H,F0,_,_,.rt d,env',S0,hg,fun F' H' σ' L' S' s' v r=>h4 v F' H' S'.ZdJ r⟩
  ·rcases hm with hm | hm
   ·exact ⟨F0,H,F0,_,_,.nx,env',S0,hg,fun F' H' σ' L' S' s'=>h4 .non F' H' S'.ZdJ (hm _ _ _)⟩
   ·exact absurd hg (hm _ _)
theorem Zr {K:PySem.W.Frag}(m1:Md):∀ BH F' H',rk K m1 BH F' H' .non .non:=fun _ _ _=>by simp [rk,Rep]
end
end PV
set_option linter.all false
set_option Elab.async false
set_option maxRecDepth 100000
set_option maxHeartbeats 4000000
namespace PV
open PySem PySem.Spec PyProof.Rows
open L2 (V Hp HO Vals SqL SqT Same upd Cx PE PT PW PA PS PSs TE TT TA TS Inv RelV Jd Yd Ze Un)
noncomputable def JR (sc osc:Scope):Scope :=
 { sc with names:=sc.names.map fun (n,k)=>if (k == .free && osc.kind == .function && osc.names.lookup n == some .cell) then (n,.cell) else (n,k) }
noncomputable def blk (X:Cx) (osc sc:Scope) (cs:List (Str × Addr)) (C:Addr) (s0:Shared) (H0:Hp) (fp:List Addr) (pins:List (Addr × Obj)):Cx :=
 { X with
  env:={ scope:=JR sc osc,locals:=C,globals:=X.env.globals,cells:=cs,qual:=X.env.qual,func:=none,code:=X.env.code,frame:=X.env.frame,builtins:=X.env.builtins }
  s₀:=s0,H₀:=H0,outer:=X.stack,stack:=X.stack,ex:=fp,fn:=fun y=>decide (sc.names.lookup y=some .cell),pn:=X.pn++pins }
structure ZbX (N:List Str)(osc sc:Scope)(x:Str):Prop where
 kind:sc.kind=.function
 loc:∀ y ∈ sc.names,y.2=.local→sc.names.lookup y.1=some .local
 free:∀ y ∈ sc.names,y.2=.free→osc.names.lookup y.1=some .cell∨osc.names.lookup y.1=some .free
 var:sc.names.lookup x=some .local∨sc.names.lookup x=some .cell
 own:∀ y ∈ sc.names,(y.2=.local∨y.2=.cell)→y.1=x∨y.1 ∉ N
 cell:∀ y ∈ sc.names,y.2=.cell→y.1=x
 once:(sc.names.filter fun y=>y.2 == .cell).length≤1
noncomputable def ZcF (N:List Str) (osc sc:Scope) (x:Str):Bool :=
 (sc.kind == .function) && (sc.names.all fun y=>!(y.2 == .local) || sc.names.lookup y.1 == some .local) && (sc.names.all fun y=>!(y.2 == .free) || (osc.names.lookup y.1 == some .cell || osc.names.lookup y.1 == some .free)) &&
 (sc.names.lookup x == some .local || sc.names.lookup x == some .cell) && (sc.names.all fun y=>!(y.2 == .local || y.2 == .cell) || (y.1 == x || !N.contains y.1)) && (sc.names.all fun y=>!(y.2 == .cell) || y.1 == x) && decide ((sc.names.filter fun y=>y.2 == .cell).length≤1)
theorem Zet {N:List Str}{osc sc:Scope}{x:Str}(h:ZcF N osc sc x=true):ZbX N osc sc x:=by
 unfold ZcF at h
 simp only [Bool.and_eq_true,List.all_eq_true,Bool.or_eq_true,Bool.not_eq_true',decide_eq_true_eq] at h
 obtain ⟨⟨⟨⟨⟨⟨h1,h2⟩,h3⟩,h4⟩,h5⟩,h6⟩,h7⟩:=h
 refine ⟨by simpa using h1,fun y hy e=>?_,fun y hy e=>?_,?_,fun y hy e=>?_,fun y hy e=>?_,h7⟩
 ·rcases h2 y hy with z | z
  ·rw [e] at z;simp at z
  ·simpa using z
 ·rcases h3 y hy with z | z
  ·rw [e] at z;simp at z
  ·rcases z with z | z
   ·exact .inl (by simpa using z)
   ·exact .inr (by simpa using z)
 ·rcases h4 with z | z
  ·exact .inl (by simpa using z)
  ·exact .inr (by simpa using z)
 ·rcases h5 y hy with z | z
  ·rcases e with e | e <;> (rw [e] at z;simp at z)
  ·rcases z with z | z
   ·exact .inl (by simpa using z)
   ·exact .inr (by simpa using z)
 ·rcases h6 y hy with z | z
  ·rw [e] at z;simp at z
  ·simpa using z
theorem ZeD {env : PySem.Env}{sc : Scope}(h : ∀ y ∈ sc.names, y.2 = .free → ∃ c, env.cells.lookup y.1 = some c) :
    ∃ cl, closureFor sc env = pure cl ∧ (∀ n c, cl.lookup n = some c → env.cells.lookup n = some c) ∧ (∀ y ∈ sc.names, y.2 = .free → ∃ c, cl.lookup y.1 = some c) ∧ (∀ n c, cl.lookup n = some c → (n, NameKind.free) ∈ sc.names) := by
  have go : ∀ (names : List (Str × NameKind)) (acc : List (Str × Addr)), (∀ y ∈ names, y.2 = .free → ∃ c, env.cells.lookup y.1 = some c) → (∀ n c, acc.lookup n = some c → env.cells.lookup n = some c) →
      ∃ cl, (forIn names acc (fun (p : Str × NameKind) (cs : List (Str × Addr)) => (match p with | (name, kind) => if (kind == .free) = true then (do let a ← cellOf env name; pure (ForInStep.yield ((name, a) :: cs))) else pure (ForInStep.yield cs) : Sem (ForInStep (List (Str × Addr))))) : Sem (List (Str × Addr))) = pure cl ∧
        (∀ n c, cl.lookup n = some c → env.cells.lookup n = some c) ∧ (∀ n c, acc.lookup n = some c → ∃ c', cl.lookup n = some c') ∧ (∀ y ∈ names, y.2 = .free → ∃ c, cl.lookup y.1 = some c) ∧ (∀ n c, cl.lookup n = some c → acc.lookup n = some c ∨ (n, NameKind.free) ∈ names) := by
    intro names
    induction names with
    | nil => intro acc _ ha; exact ⟨acc, rfl, ha, fun n c e => ⟨c, e⟩, (fun y hy => nomatch hy), fun n c e => .inl e⟩
    | cons p r ih =>
      obtain ⟨n, k⟩ := p
      intro acc hf ha
      have hr : ∀ y ∈ r, y.2 = .free → ∃ c, env.cells.lookup y.1 = some c := fun y hy => hf y (List.mem_cons_of_mem _ hy)
      rw [List.forIn_cons]
      by_cases hk : k = .free
      · obtain ⟨c, hc⟩ := hf (n, k) List.mem_cons_self hk
        have ha' : ∀ n' c', ((n, c) :: acc).lookup n' = some c' → env.cells.lookup n' = some c' := fun n' c' e => by
          rw [List.lookup_cons] at e
          cases hb : n' == n with
          | true => rw [hb] at e; cases e; rw [beq_iff_eq.mp hb]; exact hc
          | false => rw [hb] at e; exact ha n' c' e
        obtain ⟨cl, e1, e2, e3, e4, e5⟩ := ih ((n, c) :: acc) hr ha'
        have step : (if (k == NameKind.free) = true then (do let a ← cellOf env n; pure (ForInStep.yield ((n, a) :: acc))) else pure (ForInStep.yield acc) : Sem (ForInStep (List (Str × Addr)))) = pure (ForInStep.yield ((n, c) :: acc)) := by
          rw [if_pos (by simp [hk])]
          unfold cellOf
          rw [show env.cells.lookup n = some c from hc]
          rfl
        refine ⟨cl, ?_, e2, fun n' c' e => ?_, fun y hy hy2 => ?_, fun n' c' e => ?_⟩
        · dsimp only
          rw [step]
          exact e1
        · by_cases hb : n' == n
          · exact e3 n' c (by rw [List.lookup_cons, hb])
          · exact e3 n' c' (by rw [List.lookup_cons]; simp only [Bool.not_eq_true] at hb; rw [hb]; exact e)
        · rcases List.mem_cons.mp hy with rfl | hy
          · exact e3 n c (by rw [List.lookup_cons]; simp)
          · exact e4 y hy hy2
        · rcases e5 n' c' e with z | z
          · rw [List.lookup_cons] at z
            cases hb : n' == n with
            | true => rw [beq_iff_eq.mp hb, ← hk]; exact .inr List.mem_cons_self
            | false => rw [hb] at z; exact .inl z
          · exact .inr (List.mem_cons_of_mem _ z)
      · obtain ⟨cl, e1, e2, e3, e4, e5⟩ := ih acc hr ha
        have step : (if (k == NameKind.free) = true then (do let a ← cellOf env n; pure (ForInStep.yield ((n, a) :: acc))) else pure (ForInStep.yield acc) : Sem (ForInStep (List (Str × Addr)))) = pure (ForInStep.yield acc) := by
          rw [if_neg (by simpa using hk)]
        refine ⟨cl, ?_, e2, e3, fun y hy hy2 => ?_, fun n' c' e => ?_⟩
        · dsimp only
          rw [step]
          exact e1
        · rcases List.mem_cons.mp hy with rfl | hy
          · exact absurd hy2 hk
          · exact e4 y hy hy2
        · rcases e5 n' c' e with z | z
          · exact .inl z
          · exact .inr (List.mem_cons_of_mem _ z)
  obtain ⟨cl, e1, e2, _, e4, e5⟩ := go sc.names [] h (fun n c e => by simp at e)
  refine ⟨cl, ?_, e2, e4, fun n c e => (e5 n c e).elim (fun z => by simp at z) id⟩
  unfold closureFor
  exact (congrArg (fun (t : Sem (List (Str × Addr))) => t >>= fun cs => pure cs) e1)
theorem ZbE:∀ (names:List (Str × NameKind)) (n:Nat) (acc:List (Str × Addr)) (h:Heap),(∀ y ∈ names,y.2≠.cell)→cellsFrom n names acc=acc∧pushCells h names=h
 | [],_,_,_,_=>⟨rfl,rfl⟩
 | (x,k)::r,n,acc,h,hc=>by
  have hk:(k == NameKind.cell)=false:=by simpa using hc (x,k) List.mem_cons_self
  unfold cellsFrom pushCells
  rw [if_neg (by rw [hk];simp),if_neg (by rw [hk];simp)]
  exact ZbE r n acc h fun y hy=>hc y (List.mem_cons_of_mem _ hy)
theorem ZfA:∀ (names:List (Str × NameKind)) (n:Nat) (acc:List (Str × Addr)) (h:Heap) (x:Str),(∀ y ∈ names,y.2=.cell→y.1=x)→(names.filter fun y=>y.2 == .cell).length=1 →
  cellsFrom n names acc=(x,n)::acc∧pushCells h names=h.push { cls:=.type "cell",data:=.cell none }
 | [],_,_,_,_,_,hl=>by simp at hl
 | (y,k)::r,n,acc,h,x,hx,hl=>by
  by_cases hk:k=.cell
  ·subst hk
   have hr:∀ y ∈ r,y.2≠.cell:=fun z hz e=>by
    rw [List.filter_cons_of_pos (by simp)] at hl
    have hlen:(r.filter fun y=>y.2 == .cell).length=0:=by simpa using hl
    have hmem:z ∈ r.filter fun y=>y.2 == .cell:=List.mem_filter.mpr ⟨hz,by simp [e]⟩
    rw [List.length_eq_zero_iff.mp hlen] at hmem
    cases hmem
   have hyx:y=x:=hx (y,.cell) List.mem_cons_self rfl
   subst hyx
   unfold cellsFrom pushCells
   rw [if_pos (by simp),if_pos (by simp)]
   exact ⟨(ZbE r _ _ h hr).1,(ZbE r n acc _ hr).2⟩
  ·have hk':(k == NameKind.cell)=false:=by simpa using hk
   unfold cellsFrom pushCells
   rw [if_neg (by rw [hk'];simp),if_neg (by rw [hk'];simp)]
   exact ZfA r n acc h x (fun z hz=>hx z (List.mem_cons_of_mem _ hz)) (by rw [List.filter_cons_of_neg (by rw [hk'];simp)] at hl;exact hl)
theorem Zhb {M:Model}{A:Around}{E:Value→Shared→Prop}{s:Shared}{sc:Scope}{g:Addr}{cl:List (Str × Addr)}{q:Str}{outer:PySem.Env}{Q:PySem.Env→Shared→Prop}
  (h:Q { scope:=sc,locals:=s.heap.objs.size,globals:=g,cells:=cellsFrom (s.heap.objs.size + 1) sc.names cl,qual:=q,func:=none,code:=outer.code,frame:=outer.frame,builtins:=outer.builtins }
   { s with heap:=pushCells (s.heap.push { cls:=.type "dict",data:=.dict #[] }) sc.names }):wpAny M A (newFunctionEnv sc g cl [] q none .none (some outer)) Q E s:=by
 simp only [newFunctionEnv,Option.isSome_some,if_true]
 refine wpAny_bind (wpAny_alloc ?_)
 refine wpAny_bind (wpAny_layCells _ (fun name kind cells=>by cases hkc:kind == NameKind.cell <;> simp [hkc]) _ _ _ _ ?_)
 rw [show ({ s with heap:=s.heap.push { cls:=.type "dict",data:=.dict #[] } }:Shared).heap.objs.size=s.heap.objs.size + 1 from Heap.size_push ..]
 exact wpAny_bind (wpAny_pure (wpAny_pure h))
end PV
set_option linter.all false
set_option Elab.async false
set_option maxRecDepth 100000
set_option maxHeartbeats 4000000
namespace PV
open PySem PySem.Spec PyProof.Rows
open L2 (V Hp HO Vals SqL SqT Same upd Cx PE PT PW PA PS PSs TE TT TA TS Inv RelV Jd Yd Ze Un)
noncomputable def rkd (osc:Scope) (n:Str) (k:NameKind):NameKind:=if (k == NameKind.free && osc.kind == .function && osc.names.lookup n == some .cell)=true then NameKind.cell else k
theorem ZeX (f:Str→NameKind→NameKind):∀ (names:List (Str × NameKind)) (y:Str),(names.map fun p=>(p.1,f p.1 p.2)).lookup y=(names.lookup y).map (f y)
 | [],y=>rfl
 | (n,k)::r,y=>by
  rw [List.map_cons,List.lookup_cons,List.lookup_cons]
  cases hy:y == n with
  | true =>
   have e:y=n:=beq_iff_eq.mp hy
   subst e
   rfl
  | false=>exact ZeX f r y
theorem ZaU {osc:Scope}(names:List (Str × NameKind))(y:Str):(names.map fun (n,k)=>if (k == NameKind.free && osc.kind == .function && osc.names.lookup n == some .cell) then (n,NameKind.cell) else (n,k)).lookup y =
  (names.lookup y).map (rkd osc y):=by
 rw [← ZeX (rkd osc)]
 congr 1
 refine List.map_congr_left fun p _=>?_
 obtain ⟨n,k⟩:=p
 unfold rkd
 dsimp only
 split <;> rfl
theorem ZaX {sc osc:Scope}{y:Str}{k:NameKind}(h:(JR sc osc).names.lookup y=some k):∃ k0,sc.names.lookup y=some k0∧(k=k0∨(k0=.free∧k=.cell)):=by
 have h':=h
 unfold JR at h'
 dsimp only at h'
 rw [ZaU] at h'
 cases e:sc.names.lookup y with
 | none=>rw [e] at h';cases h'
 | some k0 =>
  rw [e] at h'
  refine ⟨k0,rfl,?_⟩
  have h2:rkd osc y k0=k:=Option.some.inj h'
  unfold rkd at h2
  split at h2
  ·rename_i hc
   simp only [Bool.and_eq_true,beq_iff_eq] at hc
   exact .inr ⟨hc.1.1,h2.symm⟩
  ·exact .inl h2.symm
theorem Zec {sc osc:Scope}{y:Str}(h:sc.names.lookup y=some .local):(JR sc osc).names.lookup y=some .local:=by
 unfold JR;dsimp only;rw [ZaU,h];rfl
theorem Zh9 {sc osc:Scope}{y:Str}(h:sc.names.lookup y=some .cell):(JR sc osc).names.lookup y=some .cell:=by
 unfold JR;dsimp only;rw [ZaU,h];rfl
theorem Zid {sc osc:Scope}{y:Str}(h:sc.names.lookup y=some .free):(JR sc osc).names.lookup y=some .cell∨(JR sc osc).names.lookup y=some .free:=by
 unfold JR;dsimp only;rw [ZaU,h]
 show some (rkd osc y .free)=some _∨some (rkd osc y .free)=some _
 unfold rkd
 split
 ·exact .inl rfl
 ·exact .inr rfl
section
variable {X:Cx} {osc sc:Scope} {x:Str} {i:Nat} {pins:List (Addr × Obj)} {σ:L2.St} {H:Hp} {s:Shared} {cl:List (Str × Addr)} {fp:List Addr}
theorem Za2 (CO : ZbX X.N osc sc x)(h0 : Heap)(n : Nat) :
    (∀ y ∈ sc.names, y.2 ≠ .cell) ∧ cellsFrom n sc.names cl = cl ∧ pushCells h0 sc.names = h0 ∨
    (x, NameKind.cell) ∈ sc.names ∧ cellsFrom n sc.names cl = (x, n) :: cl ∧ pushCells h0 sc.names = h0.push { cls := .type "cell", data := .cell none } := by
  by_cases h : ∀ y ∈ sc.names, y.2 ≠ .cell
  · exact .inl ⟨h, ZbE sc.names n cl h0 h⟩
  · have h' : ∃ y ∈ sc.names, y.2 = .cell := by
      refine Classical.byContradiction fun z => h fun y hy e => z ⟨y, hy, e⟩
    obtain ⟨⟨y, k⟩, hy, e⟩ := h'
    have e' : k = .cell := e
    subst e'
    have hyx : y = x := CO.cell (y, .cell) hy rfl
    subst hyx
    have hl : (sc.names.filter fun y => y.2 == .cell).length = 1 := by
      have h1 := CO.once
      have hm : (y, NameKind.cell) ∈ sc.names.filter fun y => y.2 == .cell := List.mem_filter.mpr ⟨hy, by simp⟩
      have h2 := List.length_pos_of_mem hm
      omega
    exact .inr ⟨hy, ZfA sc.names n cl h0 y CO.cell hl⟩
theorem Zld (I : Inv X pins σ H s)(CO : ZbX X.N osc sc x)(hosc : X.env.scope = osc)(nd : X.N.Nodup)(hi : X.N[i]? = some x)
    (c1 : ∀ n c, cl.lookup n = some c → X.env.cells.lookup n = some c) (c2 : ∀ y ∈ sc.names, y.2 = .free → ∃ c, cl.lookup y.1 = some c) (c3 : ∀ n c, cl.lookup n = some c → (n, NameKind.free) ∈ sc.names)
    (hf : ∀ b ∈ fp, L2.FpOk X pins H b) (hl : ∀ b ∈ fp, b < s.heap.objs.size) :
    Inv (blk X osc sc (cellsFrom (s.heap.objs.size + 1) sc.names cl) s.heap.objs.size s H fp pins) [] (σ.set i none) H { s with heap := pushCells (s.heap.push { cls := .type "dict", data := .dict #[] }) sc.names } := by
  have keep : ∀ b o, s.heap.get? b = some o → (pushCells (s.heap.push { cls := .type "dict", data := .dict #[] }) sc.names).get? b = some o := fun b o e => pushCells_keeps _ _ b o (Heap.get?_push_of_some _ e)
  have hsz : (s.heap.push { cls := .type "dict", data := .dict #[] }).objs.size = s.heap.objs.size + 1 := Heap.size_push ..
  have hns : (pushCells (s.heap.push { cls := .type "dict", data := .dict #[] }) sc.names).Ns s.heap.objs.size (fun _ => none) := (Heap.Ns.new s.heap (.type "dict")).keeps (pushCells_keeps _ _)
  have F1 : ∀ y c, (cellsFrom (s.heap.objs.size + 1) sc.names cl).lookup y = some c → (X.env.cells.lookup y = some c ∧ c < s.heap.objs.size) ∨ (y = x ∧ c = s.heap.objs.size + 1 ∧ (pushCells (s.heap.push { cls := .type "dict", data := .dict #[] }) sc.names).IsCell c none) := fun y c e => by
    have old : cl.lookup y = some c → X.env.cells.lookup y = some c ∧ c < s.heap.objs.size := fun z => by
      have z1 := c1 y c z
      obtain ⟨v, q⟩ := I.cell y c z1
      exact ⟨z1, q.lt⟩
    rcases Za2 (cl := cl) CO (s.heap.push { cls := .type "dict", data := .dict #[] }) (s.heap.objs.size + 1) with ⟨_, e1, _⟩ | ⟨_, e1, e2⟩
    · rw [e1] at e; exact .inl (old e)
    · rw [e1, List.lookup_cons] at e
      cases hy : y == x with
      | true =>
        rw [hy] at e
        cases e
        refine .inr ⟨beq_iff_eq.mp hy, rfl, ?_⟩
        rw [e2]
        exact ⟨_, by rw [← hsz]; exact Heap.get?_push_size _ rfl, rfl⟩
      | false => rw [hy] at e; exact .inl (old e)
  have F2 : ∀ y c, y ≠ x → cl.lookup y = some c → (cellsFrom (s.heap.objs.size + 1) sc.names cl).lookup y = some c := fun y c hy e => by
    rcases Za2 (cl := cl) CO (s.heap.push { cls := .type "dict", data := .dict #[] }) (s.heap.objs.size + 1) with ⟨_, e1, _⟩ | ⟨_, e1, _⟩
    · rw [e1]; exact e
    · rw [e1, List.lookup_cons, beq_false_of_ne hy]; exact e
  have fresh : ∀ a, s.heap.objs.size ≤ a → H a = none := fun a ha => I.hok.fresh ha
  refine ⟨⟨I.ok.mod, CO.kind, I.ok.glob, I.ok.blt, Nat.le_refl _, fun y z c h1 h2 => ?_, fun y hy => ?_, fun y c hy e => ?_, I.ok.hd, I.ok.frames, .inl rfl, fun b hb => ⟨?_, fun y c e z => ?_⟩, I.bs, Nat.le_trans I.ok.bsz I.sz, fun b o e hb => ?_, fun b hb z => ?_, I.stack, I.Zfe⟩,
    rfl, I.bare, Un.kept keep, ⟨_, hns, fun j y v h1 h2 h3 => ?_⟩, fun y c e => ?_, fresh _ (Nat.le_refl _), fun y c e => ?_, fun p hp => ?_, I.hok.kept keep, by rw [List.length_set]; exact I.len⟩
  · -- inj
    rcases F1 y c h1 with ⟨a1, a2⟩ | ⟨a1, a2, _⟩
    · rcases F1 z c h2 with ⟨b1, b2⟩ | ⟨b1, b2, _⟩
      · exact I.ok.inj y z c a1 b1
      · rw [b2] at a2; exact absurd a2 (Nat.not_lt.mpr (Nat.le_succ _))
    · rcases F1 z c h2 with ⟨b1, b2⟩ | ⟨b1, b2, _⟩
      · rw [a2] at b2; exact absurd b2 (Nat.not_lt.mpr (Nat.le_succ _))
      · rw [a1, b1]
  · -- has
    have hy' : (JR sc osc).names.lookup y = some .cell ∨ (JR sc osc).names.lookup y = some .free := hy
    have hk : sc.names.lookup y = some .cell ∨ sc.names.lookup y = some .free := by
      rcases hy' with z | z
      · obtain ⟨k0, e0, e1⟩ := ZaX z
        rcases e1 with e1 | ⟨e1, _⟩
        · rw [← e1] at e0; exact .inl e0
        · rw [e1] at e0; exact .inr e0
      · obtain ⟨k0, e0, e1⟩ := ZaX z
        rcases e1 with e1 | ⟨_, e1⟩
        · rw [← e1] at e0; exact .inr e0
        · cases e1
    rcases hk with z | z
    · have hm := PySem.mem_of_lookup z
      have hyx : y = x := CO.cell (y, .cell) hm rfl
      subst hyx
      rcases Za2 (cl := cl) CO (s.heap.push { cls := .type "dict", data := .dict #[] }) (s.heap.objs.size + 1) with ⟨n1, _, _⟩ | ⟨_, e1, _⟩
      · exact absurd rfl (n1 _ hm)
      · exact ⟨s.heap.objs.size + 1, by show (cellsFrom _ _ _).lookup y = _; rw [e1, List.lookup_cons]; simp⟩
    · obtain ⟨c, hc⟩ := c2 (y, .free) (PySem.mem_of_lookup z) rfl
      have hc' : cl.lookup y = some c := hc
      rcases Za2 (cl := cl) CO (s.heap.push { cls := .type "dict", data := .dict #[] }) (s.heap.objs.size + 1) with ⟨_, e1, _⟩ | ⟨_, e1, _⟩
      · exact ⟨c, by show (cellsFrom _ _ _).lookup y = _; rw [e1]; exact hc'⟩
      · cases hy : y == x with
        | true => exact ⟨_, by show (cellsFrom _ _ _).lookup y = _; rw [e1, List.lookup_cons, hy]⟩
        | false => exact ⟨c, by show (cellsFrom _ _ _).lookup y = _; rw [e1, List.lookup_cons, hy]; exact hc'⟩
  · -- cab
    have hy' : sc.names.lookup y = some .cell := of_decide_eq_true hy
    have hm := PySem.mem_of_lookup hy'
    have hyx : y = x := CO.cell (y, .cell) hm rfl
    subst hyx
    have e' : (cellsFrom (s.heap.objs.size + 1) sc.names cl).lookup y = some c := e
    rcases Za2 (cl := cl) CO (s.heap.push { cls := .type "dict", data := .dict #[] }) (s.heap.objs.size + 1) with ⟨n1, _, _⟩ | ⟨_, e1, _⟩
    · exact absurd rfl (n1 _ hm)
    · rw [e1, List.lookup_cons] at e'
      simp at e'
      show s.heap.objs.size ≤ c
      rw [← e']
      exact Nat.le_succ _
  · exact Nat.ne_of_lt (hl b hb)
  · rcases F1 y c e with ⟨a1, a2⟩ | ⟨_, a2, _⟩
    · obtain ⟨_, _, _, _, f5, _⟩ := hf b hb
      exact f5 y c a1 z
    · have h3 := hl b hb
      rw [← z, a2] at h3
      exact absurd h3 (Nat.not_lt.mpr (Nat.le_succ _))
  · obtain ⟨_, _, _, f4, _⟩ := hf b hb
    rcases f4 with z | z
    · exact I.ok.noex b o e z
    · exact absurd (Nat.lt_of_lt_of_le (Heap.lt_size e) I.ok.bsz) (Nat.not_lt.mpr z)
  · obtain ⟨_, f2, f3, _⟩ := hf b hb
    rcases List.mem_cons.mp (I.Zco b z) with q | q
    · exact f2 q
    · exact f3 q
  · -- loc
    have hji : j ≠ i := fun e => by
      subst e
      by_cases hlt : j < σ.length
      · rw [List.getElem?_set_self hlt] at h2; cases h2
      · rw [List.getElem?_eq_none (by rw [List.length_set]; omega)] at h2; cases h2
    rw [List.getElem?_set_ne (Ne.symm hji)] at h2
    have hyx : y ≠ x := fun e => hji (L2.Zep nd (by rw [← e]; exact h1) hi)
    have hmemN : y ∈ X.N := List.mem_of_getElem? h1
    have hk : sc.names.lookup y = some .free := by
      have h3' : (JR sc osc).names.lookup y = some .local ∨ (JR sc osc).names.lookup y = some .cell ∨ (JR sc osc).names.lookup y = some .free := h3
      have own : ∀ k, sc.names.lookup y = some k → (k = .local ∨ k = .cell) → False := fun k e hk => by
        rcases CO.own (y, k) (PySem.mem_of_lookup e) hk with z | z
        · exact hyx z
        · exact z hmemN
      rcases h3' with z | z | z
      · obtain ⟨k0, e0, e1⟩ := ZaX z
        rcases e1 with e1 | ⟨_, e1⟩
        · exact (own k0 e0 (.inl e1.symm)).elim
        · cases e1
      · obtain ⟨k0, e0, e1⟩ := ZaX z
        rcases e1 with e1 | ⟨e1, _⟩
        · exact (own k0 e0 (.inr e1.symm)).elim
        · rw [e1] at e0; exact e0
      · obtain ⟨k0, e0, e1⟩ := ZaX z
        rcases e1 with e1 | ⟨_, e1⟩
        · rw [← e1] at e0; exact e0
        · cases e1
    have hm := PySem.mem_of_lookup hk
    have ho := CO.free (y, .free) hm rfl
    obtain ⟨m, hn, hloc⟩ := I.loc
    obtain ⟨u, ru, lk⟩ := hloc j y v h1 h2 (by rw [hosc]; rcases ho with z | z; exact .inr (.inl z); exact .inr (.inr z))
    refine ⟨u, ru, .inr ⟨Zid hk, ?_⟩⟩
    rcases lk with ⟨k1, _⟩ | ⟨_, c, hc, hcell⟩
    · have k1' : X.env.scope.names.lookup y = some .local := k1
      rw [hosc] at k1'
      rcases ho with z | z <;> (rw [k1'] at z; cases z)
    · obtain ⟨c', hc'⟩ := c2 (y, .free) hm rfl
      have e1 := c1 y c' hc'
      rw [hc] at e1; cases e1
      exact ⟨c, F2 y c hyx hc', hcell.keeps keep⟩
  · rcases F1 y c e with ⟨a1, _⟩ | ⟨_, _, a3⟩
    · obtain ⟨v, q⟩ := I.cell y c a1
      exact ⟨v, q.keeps keep⟩
    · exact ⟨none, a3⟩
  · rcases F1 y c e with ⟨a1, _⟩ | ⟨_, a2, _⟩
    · exact I.freeC y c a1
    · exact fresh c (by rw [a2]; exact Nat.le_succ _)
  · have hp' : p ∈ X.pn ++ pins := by
      have : p ∈ (X.pn ++ pins) ++ [] := hp
      simpa using this
    obtain ⟨q1, q2, q3, q4, q5⟩ := I.pin p hp'
    refine ⟨keep _ _ q1, q2, Nat.ne_of_lt (Heap.lt_size q1), fun z => ?_, q5⟩
    rcases List.mem_cons.mp (I.Zco _ z) with w | w
    · exact q3 w
    · exact q4 w
theorem ZjA {cs:List (Str × Addr)}{C:Addr}{pinsB:List (Addr × Obj)}{σb:L2.St}{Hb:Hp}{s1:Shared}(I:Inv X pins σ H s)(hf:∀ b ∈ fp,L2.FpOk X pins H b)(Ib:Inv (blk X osc sc cs C s H fp pins) pinsB σb Hb s1):Inv X pins σ Hb s1 :=
 I.call' (ch:=fp) Ib.os Ib.base Ib.hok Ib.bare fun b hb=>by
  obtain ⟨_,f2,_,f4,f5,f6⟩:=hf b hb
  exact ⟨f4,f2,f5,f6⟩
end
section
variable {prog:Program} {w:World} {A:Around} {R:Result→Shared→Prop} {s:Shared}
theorem Zgx {elt target iter : Expr}{ifs : List Expr}{scope : Scope}{pos : Pos}{it acc : Value}{env : PySem.Env}(I : Nat → Shared → Prop)
    (turn : ∀ n s, I n s → wpAny (model prog w) A (pyNext it) (fun r s₁ => match r with
      | none => R (.ok .next) s₁
      | some v => wpAny (model prog w) A (letOwnedTupleGo target it v) (fun _ s₁' => wpAny (model prog w) A (assign target env v) (fun _ s₂ =>
          wpAny (model prog w) A (forIn ifs true fun c r => if r = true then do let ok ← isTrue c env (eval c env); pure (ForInStep.yield ok) else pure (ForInStep.yield r)) (fun ok s₃ =>
            if ok = true then wpAny (model prog w) A (eval elt env) (fun x s₄ =>
              wpAny (model prog w) A (call (.builtin "list.append") [acc, x]) (fun _ s₅ => ∃ m, m < n ∧ I m s₅) (fun _ _ => False) s₄) (fun _ _ => False) s₃
            else ∃ m, m < n ∧ I m s₃) (fun _ _ => False) s₂) (fun _ _ => False) s₁') (fun _ _ => False) s₁) (fun _ _ => False) s)
    (n : Nat) (h : I n s) :
    codeAny (model prog w) A (.compLoop (.ListComp elt [⟨target, iter, ifs, 0⟩] scope pos) 0 it acc env) R s := by
  refine codeAny_loop rfl I (fun n s hI => ?_) n h
  show wpAny _ A ((compTurn (.ListComp elt [⟨target, iter, ifs, 0⟩] scope pos) 0 it acc env).onRaise (fun x => do noteFrame x env; theTreesLotGoes x)) _ _ s
  refine wpAny_noted ?_
  rw [compTurn_list]
  refine wpAny_bind (wpAny_standAt (wpAny_bind (wpAny_mono (turn n s hI) (fun r s₁ h₁ => ?_) fun _ _ h' => h'.elim)))
  cases r with
  | none => exact wpAny_pure h₁
  | some v =>
    refine wpAny_bind (wpAny_mono h₁ (fun _ s₁' h₁' => ?_) fun _ _ h' => h'.elim)
    refine wpAny_bind (wpAny_mono h₁' (fun _ s₂ h₂ => wpAny_bind (wpAny_mono h₂ (fun ok s₃ h₃ => ?_) fun _ _ h' => h'.elim)) fun _ _ h' => h'.elim)
    cases ok with
    | false => exact wpAny_pure ⟨rfl, h₃⟩
    | true =>
      exact wpAny_bind (wpAny_bind (wpAny_mono h₃ (fun x s₄ h₄ => wpAny_bind (wpAny_mono h₄ (fun _ s₅ h₅ => wpAny_pure (wpAny_pure ⟨rfl, h₅⟩)) fun _ _ h' => h'.elim)) fun _ _ h' => h'.elim))
end
end PV
set_option linter.all false
set_option Elab.async false
set_option maxRecDepth 100000
set_option maxHeartbeats 4000000
namespace PV
open PySem PySem.Spec PyProof.Rows
open L2 (V Hp HO Vals SqL SqT Same upd Cx PE PT PW PA PS PSs TE TT TA TS Inv RelV Jd Yd Ze Un)
noncomputable def ZbJ (X:Cx) (ifs:List Expr) (tc:TT):Prop:=∀ (pins:List (Addr × Obj)) (s:Shared) (σ:L2.St) (H:Hp) (Q:Bool→Hp→Prop),Inv X pins σ H s→tc σ H Q →
 wpAny (model X.prog X.w) X.A (forIn ifs true fun c r=>if r=true then do let ok ← isTrue c X.env (eval c X.env);pure (ForInStep.yield ok) else pure (ForInStep.yield r)) (L2.TP X pins σ Q) X.xe s
theorem Zfz {X:Cx}:ZbJ X [] (fun _ H Q=>Q true H):=fun pins s σ H Q I h=>wpAny_tests_nil ⟨H,I,h⟩
theorem Zjj {X:Cx}{c:Expr}{tc:TT}(h:PT X c tc):ZbJ X [c] tc:=fun pins s σ H Q I q=>wpAny_tests_one (h pins s σ H Q I q)
noncomputable def Zb2 (J:L2.It) (i:Nat) (tc:TT) (te:TE) (σ:L2.St) (p:Addr) (Q:L2.VK) (H1:Hp):Prop :=
 ∃ W:Nat→Nat→Hp→List V→Prop,(∃ m,W 0 m (upd H1 p (.lst [])) [])∧∀ k m H2 acc,W k m H2 acc→H2 p=some (.lst acc)∧acc.length < sizeLine ∧
  ((J.stop k H2∧Q (.ref p) H2)∨(J.go k H2∧∀ v H3,J.yld k H2 v H3→tc (σ.set i (some v)) H3 fun b H4=>if b=true then te (σ.set i (some v)) H4 fun w H5=>H5 p=some (.lst acc)∧∃ m',m' < m∧W (k + 1) m' (upd H5 p (.lst (acc++[w]))) (acc++[w])
   else ∃ m',m' < m∧W (k + 1) m' H4 acc))
noncomputable def Zik (wi:L2.TI) (i:Nat) (tc:TT) (te:TE):TE:=fun σ H Q=>wi σ H fun J H1=>∀ p,H1 p=none→Zb2 J i tc te σ p Q H1
section
variable {X:Cx} {sc:Scope} {x:Str} {i:Nat} {px pos:Pos} {iter elt:Expr} {ifs:List Expr} {wi:L2.TI} {tc:TT} {te:TE}
theorem ZeW (nox : ∀ e s, X.xe e s → False)(hc : X.calm = true)(nd : X.N.Nodup)(CO : ZbX X.N X.env.scope sc x)(hi : X.N[i]? = some x)
    (hT : ∀ cs C s0 H0 fp pn, ZbJ (blk X X.env.scope sc cs C s0 H0 fp pn) ifs tc) (hE : ∀ cs C s0 H0 fp pn, PE (blk X X.env.scope sc cs C s0 H0 fp pn) elt te)
    {pins : List (Addr × Obj)} {σ : L2.St} {H : Hp} {s : Shared} {E : Value → Shared → Prop} {Q : L2.VK} {it : Addr} {fp : List Addr} {tn : Nat → Heap → Prop} {J : L2.It} {cl : List (Str × Addr)} {RR : Value → Addr → Result → Shared → Prop}
    (I : Inv X pins σ H s) (T : L2.Turn X.prog X.w X.K (.Name x px) J fp it tn) (st : tn 0 s.heap) (hf : ∀ b ∈ fp, L2.FpOk X pins H b) (hq : ∀ p, H p = none → Zb2 J i tc te σ p Q H)
    (c1 : ∀ n c, cl.lookup n = some c → X.env.cells.lookup n = some c) (c2 : ∀ y ∈ sc.names, y.2 = .free → ∃ c, cl.lookup y.1 = some c) (c3 : ∀ n c, cl.lookup n = some c → (n, NameKind.free) ∈ sc.names)
    (hRR : ∀ (p C : Addr) (Hb : Hp) (m : Str → Option Value) (s1 : Shared), Inv X pins σ Hb s1 → Q (.ref p) Hb → s1.heap.Ns C m → Hb C = none → C ≠ X.env.locals → X.s₀.heap.objs.size ≤ C → (∀ y c, X.env.cells.lookup y = some c → c ≠ C) → (∀ q ∈ X.pn ++ pins, q.1 ≠ C) → C ∉ X.fs → RR (.ref p) C (.ok .next) s1) :
    wpAny (model X.prog X.w) X.A (newList []) (fun acc s₃ => wpAny (model X.prog X.w) X.A (newFunctionEnv sc X.env.globals cl [] X.env.qual none .none (some X.env)) (fun cenv s₄ =>
      codeAny (model X.prog X.w) X.A (.compStart (.ListComp elt [⟨.Name x px, iter, ifs, 0⟩] sc pos) 0 (.ref it) acc { cenv with scope := relabel sc X.env }) (RR acc cenv.locals) s₄) E s₃) E s := by
  refine wpAny_newObj_type (Zhb ?_)
  have hp : H s.heap.objs.size = none := I.fresh
  have I3 : Inv X pins σ (upd H s.heap.objs.size (.lst [])) { s with heap := s.heap.push { cls := .type "list", data := .seq ([] : List Value).toArray } } := I.lnew (t' := s.toks) (its := []) (ys := []) .nil (Nat.zero_le _)
  obtain ⟨W, ⟨m0, w0⟩, turn⟩ := hq _ hp
  generalize hs3 : ({ s with heap := s.heap.push { cls := .type "list", data := .seq ([] : List Value).toArray } } : Shared) = s3 at I3
  generalize hH3 : upd H s.heap.objs.size (.lst []) = H3 at I3 w0
  have hlt : ∀ b ∈ fp, b < s.heap.objs.size := fun b hb => by obtain ⟨o, e, _⟩ := T.obj 0 s.heap st b hb; exact Heap.lt_size e
  have hk3 : ∀ b o, s.heap.get? b = some o → s3.heap.get? b = some o := fun b o e => by rw [← hs3]; exact Heap.get?_push_of_some _ e
  have hf3 : ∀ b ∈ fp, L2.FpOk X pins H3 b := fun b hb => by
    obtain ⟨f1, f2⟩ := hf b hb
    refine ⟨?_, f2⟩
    rw [← hH3, Yd (Nat.ne_of_lt (hlt b hb))]
    exact f1
  have st3 : tn 0 s3.heap := T.keep 0 _ _ st fun b hb o e => hk3 b o e
  have hl3 : ∀ b ∈ fp, b < s3.heap.objs.size := fun b hb => by obtain ⟨o, e, _⟩ := T.obj 0 s3.heap st3 b hb; exact Heap.lt_size e
  have Ib := Zld (i := i) (fp := fp) I3 CO rfl nd hi c1 c2 c3 hf3 hl3
  let Xb := blk X X.env.scope sc (cellsFrom (s3.heap.objs.size + 1) sc.names cl) s3.heap.objs.size s3 H3 fp pins
  have hTb : ZbJ Xb ifs tc := hT _ _ _ _ _ _
  have hEb : PE Xb elt te := hE _ _ _ _ _ _
  have stk : ∀ b, b ∈ L2.frs X.stack → b < s3.heap.objs.size := fun b hb => by
    refine Nat.lt_of_not_le fun hle => ?_
    rcases List.mem_cons.mp (I3.Zco b hb) with z | z
    · rw [z] at hle; exact absurd I3.lt (Nat.not_lt.mpr hle)
    · exact I3.nofs hle z
  have st4 : tn 0 (pushCells (s3.heap.push { cls := .type "dict", data := .dict #[] }) sc.names) := T.keep 0 _ _ st3 fun b hb o e => pushCells_keeps _ _ b o (Heap.get?_push_of_some _ e)
  have xf : ∀ {α : Type} {t : Sem α} {Q : α → Shared → Prop} {s : Shared}, wpAny (model X.prog X.w) X.A t Q X.xe s → wpAny (model X.prog X.w) X.A t Q (fun _ _ => False) s := fun h => wpAny_mono h (fun _ _ q => q) fun e s q => nox e s q
  have pgx : L2.PG Xb (.Name x px) (L2.Zf6 i) := by
    refine L2.Zhu nd hi ?_ ?_
    · rcases CO.var with z | z
      · exact .inl (Zec z)
      · exact .inr (Zh9 z)
    · rcases CO.var with z | z
      · exact .inr (Zec z)
      · exact .inl (decide_eq_true z)
  have loop : ∀ s4 : Shared, s4 = { s3 with heap := pushCells (s3.heap.push { cls := .type "dict", data := .dict #[] }) sc.names } →
      codeAny (model X.prog X.w) X.A (.compLoop (.ListComp elt [⟨.Name x px, iter, ifs, 0⟩] sc pos) 0 (.ref it) (.ref s.heap.objs.size) Xb.env) (RR (.ref s.heap.objs.size) s3.heap.objs.size) s4 := by
    rintro s4 rfl
    have stat : ∀ {Hc : Hp}, (∀ b ∈ fp, Hc b = none) → ∀ b ∈ fp, L2.FpOk Xb [] Hc b := fun {Hc} hn b hb => by
      obtain ⟨_, f2, f3, f4, f5, f6⟩ := hf3 b hb
      refine ⟨hn b hb, Nat.ne_of_lt (hl3 b hb), fun z => ?_, .inl hb, Ib.ok.exf b hb |>.2, fun q hq' => ?_⟩
      · rcases List.mem_cons.mp (I3.Zco b z) with w | w
        · exact f2 w
        · exact f3 w
      · have hq2 : q ∈ (X.pn ++ pins) ++ [] := hq'
        exact f6 q (by simpa using hq2)
    refine Zgx (fun n s' => ∃ k ov Hc acc, Inv Xb [] (σ.set i ov) Hc s' ∧ tn k s'.heap ∧ (∀ b ∈ fp, Hc b = none) ∧ W k n Hc acc) ?_ m0 ⟨0, none, H3, [], Ib, st4, fun b hb => (hf3 b hb).1, w0⟩
    rintro n s5 ⟨k, ov, Hc, acc, I5, st5, fr5, w5⟩
    obtain ⟨hacc, hlen, hcase⟩ := turn k n Hc acc w5
    rcases hcase with ⟨stop, qn⟩ | ⟨go, step⟩
    · refine xf (L2.thn (T.done Xb rfl rfl rfl hc k [] s5 (σ.set i ov) Hc X.xe I5 (stat fr5) st5 stop) fun r s6 ⟨hr, I6⟩ => ?_)
      subst hr
      obtain ⟨mm, hn6, _⟩ := I6.loc
      refine hRR _ _ Hc mm s6 (ZjA (osc := X.env.scope) (sc := sc) I3 hf3 I6) qn hn6 I6.free (Ne.symm (Nat.ne_of_lt I3.lt)) I3.sz (fun y c e z => ?_) (fun q hq' z => ?_) fun z => ?_
      · obtain ⟨v, q⟩ := I3.cell y c e
        exact absurd q.lt (by rw [z]; exact Nat.lt_irrefl _)
      · exact absurd (Heap.lt_size (I3.pin q hq').1) (by rw [z]; exact Nat.lt_irrefl _)
      · exact I3.nofs (Nat.le_refl _) z
    · refine xf (L2.thn (T.item Xb rfl rfl rfl hc k [] s5 (σ.set i ov) Hc X.xe I5 (stat fr5) st5 go) fun r s6 ⟨u, hr, h6⟩ => ?_)
      subst hr
      refine xf (L2.thn h6 fun _ s7 ⟨v, H7, I7, r7, y7, st7, fr7⟩ => ?_)
      have I7' := I7.pinned (stat fr7) (T.obj _ _ st7)
      have hv := step v H7 y7
      refine xf (L2.thn (pgx _ s7 (σ.set i ov) H7 v u (fun σ' H' => σ' = σ.set i (some v) ∧ H' = H7) I7' r7 ⟨by rw [List.set_set], rfl⟩) fun _ s8 ⟨σ8, H8, I8, e8, e8'⟩ => ?_)
      subst e8 e8'
      refine xf (L2.thn (hTb _ s8 _ H8 _ I8 hv) fun ok s9 ⟨H9, I9, q9⟩ => ?_)
      have again : ∀ {σ10 : L2.St} {H10 : Hp} {acc' : List V} {s10 : Shared}, Inv Xb ([] ++ L2.Zc2 fp s7.heap) σ10 H10 s10 → σ10 = σ.set i (some v) → (∃ m', m' < n ∧ W (k + 1) m' H10 acc') →
          ∃ m, m < n ∧ ∃ k ov Hc acc, Inv Xb [] (σ.set i ov) Hc s10 ∧ tn k s10.heap ∧ (∀ b ∈ fp, Hc b = none) ∧ W k m Hc acc := fun {σ10 H10 acc' s10} I10 e10 ⟨m', hm, w10⟩ => by
        subst e10
        refine ⟨m', hm, k + 1, some v, H10, acc', I10.ZbT, T.keep _ _ _ st7 fun b hb o e => (I10.pin (b, o) (List.mem_append_right _ (List.mem_append_right _ (L2.ZbA hb e)))).1, fun b hb => ?_, w10⟩
        obtain ⟨o, e, d⟩ := T.obj _ _ st7 b hb
        exact (I10.pin (b, o) (List.mem_append_right _ (List.mem_append_right _ (L2.ZbA hb e)))).2.1
      cases ok with
      | false =>
        show ∃ m, m < n ∧ _
        rw [if_neg Bool.false_ne_true] at q9
        exact again I9 rfl q9
      | true =>
        rw [if_pos rfl] at q9
        show wpAny _ _ _ _ _ _
        refine xf (L2.thn (hEb _ s9 _ H9 _ I9 q9) fun ww s10 ⟨x10, H10, I10, r10, q10, m', hm, w10⟩ => ?_)
        refine xf (L2.thn (L2.Zb9 (X := Xb) _ s10 _ H10 (.ref s.heap.objs.size) [x10] (.ref s.heap.objs.size) [ww] (fun _ H' => H' = upd H10 s.heap.objs.size (.lst (acc ++ [x10]))) I10 rfl (.cons r10 .nil) ⟨_, acc, x10, rfl, rfl, q10, hlen, rfl⟩) fun _ s11 ⟨_, H11, I11, _, e11⟩ => ?_)
        subst e11
        exact again I11 rfl ⟨m', hm, w10⟩
  subst hs3
  have l := loop _ rfl
  exact codeAny_compStart_list l (T.self _ 0 _ _ _ st4 l)
theorem Zhz {pins:List (Addr × Obj)}{σ:L2.St}{H:Hp}{s:Shared}(I:Inv X pins σ H s)(CO:ZbX X.N X.env.scope sc x):∀ y ∈ sc.names,y.2=.free→∃ c,X.env.cells.lookup y.1=some c:=fun y hy e =>
 I.ok.has y.1 (CO.free y hy e)
theorem ZhR (nox:∀ e s,X.xe e s→False)(hc:X.calm=true)(nd:X.N.Nodup)(CO:ZbX X.N X.env.scope sc x)(hi:X.N[i]?=some x)(hI:L2.PI X (.Name x px) iter wi)
  (hT:∀ cs C s0 H0 fp pn,ZbJ (blk X X.env.scope sc cs C s0 H0 fp pn) ifs tc) (hE:∀ cs C s0 H0 fp pn,PE (blk X X.env.scope sc cs C s0 H0 fp pn) elt te)
  (hs:∀ x,foldedSetIterable iter X.env x=pure x):PE X (.ListComp elt [⟨.Name x px,iter,ifs,0⟩] sc pos) (Zik wi i tc te):=by
 intro pins s σ H Q I h
 obtain ⟨cl,hcl,c1,c2,c3⟩:=ZeD (Zhz I CO)
 rw [eval_ListComp]
 refine wpAny_comprehension_free (use:=none) rfl hs hcl CO.kind CO.loc (L2.thn (hI pins s σ H _ I h) fun v s1 h1=>L2.thn h1 fun itv s2 h2=>?_)
 obtain ⟨it,fp,tn,J,H2,rfl,I2,T,st,hf,hq⟩:=h2
 refine ZeW (RR:=fun acc C=>compPost (model X.prog X.w) X.A X.xe none (L2.EP X pins σ Q) acc C) nox hc nd CO hi hT hE I2 T st hf hq c1 c2 c3 ?_
 intro p C Hb m s1' I' q hns hC hL hsz hcell hpin hfs
 refine ⟨m,hns,fun h' hs'=>?_⟩
 have I'':=I'.turned (h':=h') (t':=s1'.toks) (it:=C) (fun b o hb e=>hs'.extBut b o hb e) hC hL (.inr hsz) hcell hpin
 exact ⟨.ref p,Hb,I'',rfl,q⟩
theorem Zix {j:Nat}{y:Str}{py spos:Pos}(nox:∀ e s,X.xe e s→False)(hc:X.calm=true)(nd:X.N.Nodup)(CO:ZbX X.N X.env.scope sc x)(hi:X.N[i]?=some x)(hI:L2.PI X (.Name x px) iter wi)
  (hT:∀ cs C s0 H0 fp pn,ZbJ (blk X X.env.scope sc cs C s0 H0 fp pn) ifs tc) (hE:∀ cs C s0 H0 fp pn,PE (blk X X.env.scope sc cs C s0 H0 fp pn) elt te)
  (hs:∀ x,foldedSetIterable iter X.env x=pure x) (hj:X.N[j]?=some y) (hy:L2.Loc X.env.scope y) (hfn:X.fn y=true∨X.env.scope.names.lookup y=some .local)
  (hsw:swapsWith (.ListComp elt [⟨.Name x px,iter,ifs,0⟩] sc pos) (some (.Name y py)) spos.line X.env=pure true) :
  PS X (.Assign [.Name y py] (.ListComp elt [⟨.Name x px,iter,ifs,0⟩] sc pos) spos) (L2.tAsg (Zik wi i tc te) (L2.Zf6 j)):=by
 intro pins s σ H D0 I h
 obtain ⟨cl,hcl,c1,c2,c3⟩:=ZeD (Zhz I CO)
 rw [exec_Assign_Name_used _ _ _ _ hsw]
 refine wpAny_bind (wpAny_standAt (wpAny_bind ?_))
 show wpAny _ X.A (do let _ ← comprehension (.ListComp elt [⟨.Name x px,iter,ifs,0⟩] sc pos) sc X.env _ (newList []) false (eval iter X.env) (some (assign (.Name y py) X.env))) _ _ s
 refine wpAny_bind (wpAny_mono (wpAny_comprehension_free (use:=some (assign (.Name y py) X.env)) (Q:=fun _ s'=>L2.SP X pins D0 .next s') rfl hs hcl CO.kind CO.loc
  (L2.thn (hI pins s σ H _ I h) fun v s1 h1=>L2.thn h1 fun itv s2 h2=>?_)) (fun _ s' hq=>wpAny_pure (wpAny_pure hq)) fun _ _ e=>e)
 obtain ⟨it,fp,tn,J,H2,rfl,I2,T,st,hf,hq⟩:=h2
 refine ZeW (RR:=fun acc C=>compPost (model X.prog X.w) X.A X.xe (some (assign (.Name y py) X.env)) (fun _ s'=>L2.SP X pins D0 .next s') acc C) nox hc nd CO hi hT hE I2 T st hf hq c1 c2 c3 ?_
 intro p C Hb m s1' I' q hns hC hL hsz hcell hpin hfs
 show wpAny _ X.A (assign (.Name y py) X.env (.ref p)) _ _ _
 obtain ⟨oC,es,ep,hoC,hdC,rest⟩:=id hns
 have Ip:Inv X (pins++[(C,oC)]) σ Hb s1':=I'.Zfm fun q hq'=>(List.mem_append.mp hq').elim (fun z=>I'.pin q (List.mem_append_right _ z)) fun z=>by
  have e:q=(C,oC):=by simpa using z
  subst e
  exact ⟨hoC,hC,hL,hfs,fun v e=>by rw [hdC] at e;cases e⟩
 refine wpAny_assign_Name (L2.ZcM Ip nd hj hy (v:=.ref p) rfl (fun s2' I2'=>?_) hfn)
 have hC2:=(I2'.pin (C,oC) (List.mem_append_right _ (List.mem_append_right _ (by simp)))).1
 refine ⟨m,⟨oC,es,ep,hC2,hdC,rest⟩,fun h' hs'=>?_⟩
 have I3':Inv X pins (σ.set j (some (.ref p))) Hb s2':=I2'.ZbT
 have I4':=I3'.turned (h':=h') (t':=s2'.toks) (it:=C) (fun b o hb e=>hs'.extBut b o hb e) hC hL (.inr hsz) hcell hpin
 exact ⟨_,Hb,I4',q⟩
end
end PV
set_option linter.all false
set_option Elab.async false
set_option maxRecDepth 100000
set_option maxHeartbeats 4000000
namespace PV
open PySem PySem.Spec PyProof.Rows
open L2 (V Hp HO Vals SqL SqT Same upd Cx PE PT PW PA PS PSs TE TT TA TS Inv RelV Jd Yd Ze Un)
section
variable {X:Cx} {sc:Scope} {x:Str} {i:Nat} {px pos:Pos} {iter elt c:Expr} {lx:Lx} {t:Tx} {f:Ex} {m:Md} {r:RetP}
theorem Ext.Zhv {F H F2 H2 F5 H5:Hp}(e:Ext F H F2 H2)(e5:Ext F2 H2 F5 H5){p:Addr}(hp:H p=none)(f2:F2 p=none)(h2:H2 p≠none)(o:HO):Ext F H F5 (upd H5 p o)∧F5 p=none:=by
 have f5:F5 p=none:=by
  cases z:F5 p with
  | none=>rfl
  | some u =>
   rcases e5.dm p u z with y | y
   ·rw [f2] at y;cases y
   ·exact absurd y h2
 have e':=e.trans e5
 refine ⟨⟨fun b u h=>by rw [Yd (Ze h hp)];exact e'.hh b u h,e'.ff,e'.dm,fun b u h=>by rw [Yd (Ze h f5)];exact e'.fh b u h⟩,f5⟩
theorem Zlo {BH F H:Hp}{p:Addr}{o:HO}(hm:m≠.r):Same (hpM BH F H m) (hpM BH F (upd H p o) m):=by
 cases m with
 | r=>exact absurd rfl hm
 | k=>exact .refl _
 | f=>exact .refl _
theorem Zil {K:PySem.W.Frag}{tc:TT}(htc:∀ σ H Q,tTst K t σ H Q→tc σ H Q)(hm:m≠.r){BF BH F F1 H H1:Hp}{σ:L2.St}{env:Env}{L:Nat→List Addr}{ds xs:List D}{J:L2.It}{p:Addr}{Q:L2.VK}(S:SOk K BF BH F H σ env L)(z1:Ext F H F1 H1)(J1:ItOk K J F1 ds)
  (hl:ds.length≤lim) (hx:YW i t f env ds=some xs) (hp:H1 p=none) (q:∀ vs F' H',Ext F H F' H'→H p=none→H' p=some (.lst vs)→F' p=none→Reps K (hpM BH F' H' m) xs vs→Q (.ref p) H') :
  Zb2 J i tc (tD K m f) σ p Q H1:=by
 have hp0:H p=none:=z1.hh.free hp
 have hpF:F1 p=none:=z1.fh.free hp
 refine ⟨fun k mm H2 acc=>mm=ds.length - k∧k≤ds.length∧H2 p=some (.lst acc)∧∃ F2 ys zs,Ext F H F2 H2∧Same F1 F2∧F2 p=none∧ys.length≤k∧Reps K (hpM BH F2 H2 m) ys acc∧YW i t f env (ds.drop k)=some zs∧xs=ys++zs,
  ⟨ds.length,by simp,Nat.zero_le _,Jd,F1,[],xs,z1.trans (Ext.own z1.fh hp),.refl _,hpF,Nat.zero_le _,Reps.nil,hx,rfl⟩,?_⟩
 rintro k mm H2 acc ⟨rfl,hk,hacc,F2,ys,zs,z2,s12,f2,hy,ra,hz,hxs⟩
 have hal:acc.length≤lim:=by rw [← ra.length];omega
 refine ⟨hacc,Nat.lt_of_le_of_lt hal ZiT,?_⟩
 by_cases hlt:k < ds.length
 ·refine .inr ⟨J1.go k H2 (s12.trans z2.fh) hlt,fun v H3 hy3=>?_⟩
  obtain ⟨d,F3,hd,z3,r3⟩:=J1.yld k H2 v H3 F2 s12 z2.fh hlt hy3
  have hd':ds[k]=d:=by rw [List.getElem?_eq_getElem hlt] at hd;exact Option.some.inj hd
  rw [List.drop_eq_getElem_cons hlt,hd'] at hz
  simp only [YW] at hz
  have z13:=z2.trans z3
  have S3:=(S.ext z13).Zf9 i r3
  have h2p:H2 p≠none:=by rw [hacc];simp
  split at hz
  ·rename_i ht
   refine htc _ _ _ ⟨BF,BH,F3,_,_,true,S3,ht,fun F4 H4 z4=>L2.iteT ?_⟩
   split at hz
   ·rename_i e1 zs' he hz'
    cases hz
    refine ⟨BF,BH,F4,_,_,e1,S3.ext z4,he,fun w F5 H5 z5 r5=>?_⟩
    have z25:=(z3.trans z4).trans z5
    obtain ⟨zz,f5⟩:=z2.Zhv z25 hp0 f2 h2p (.lst (acc++[w]))
    refine ⟨z25.hh _ _ hacc,ds.length - (k + 1),by omega,rfl,hlt,Jd,F5,ys++[e1],zs',zz,s12.trans z25.ff,f5,by rw [List.length_append,List.length_singleton];omega,?_,hz',by rw [hxs,List.append_assoc];rfl⟩
    exact Reps.mono (Zlo hm) _ _ ((Reps.mono (Zbd z25 m) _ _ ra).append (Reps.cons r5 Reps.nil))
   ·cases hz
  ·rename_i ht
   refine htc _ _ _ ⟨BF,BH,F3,_,_,false,S3,ht,fun F4 H4 z4=>L2.iteF ?_⟩
   have z24:=z3.trans z4
   have f4:F4 p=none:=by
    cases q4:F4 p with
    | none=>rfl
    | some u =>
     rcases z24.dm p u q4 with y | y
     ·rw [f2] at y;cases y
     ·exact absurd y h2p
   exact ⟨ds.length - (k + 1),by omega,rfl,hlt,z24.hh _ _ hacc,F4,ys,zs,z2.trans z24,s12.trans z24.ff,f4,by omega,Reps.mono (Zbd z24 m) _ _ ra,hz,hxs⟩
  ·cases hz
 ·have ek:k=ds.length:=by omega
  subst ek
  rw [List.drop_length] at hz
  have hz0:zs=[]:=by simp only [YW] at hz;exact (Option.some.inj hz).symm
  subst hz0
  rw [List.append_nil] at hxs
  subst hxs
  exact .inl ⟨J1.stop H2 (s12.trans z2.fh),q acc F2 H2 z2 hp0 hacc f2 ra⟩
theorem Zb3 {env:Env}{d:D}(h:Yk i lx t f env=some d):∃ ds xs,lx env=some ds∧ds.length≤lim∧YW i t f env ds=some xs∧d=.lst xs:=by
 unfold Yk at h
 split at h
 ·rename_i ds h1
  split at h
  ·rename_i hl
   split at h
   ·rename_i xs h2
    cases h
    exact ⟨ds,xs,h1,hl,h2,rfl⟩
   ·cases h
  ·cases h
 ·cases h
theorem Zh5 {tc:TT}(htc:∀ σ H Q,tTst X.K t σ H Q→tc σ H Q)(hm:m≠.r)(σ:L2.St)(H:Hp)(Q:L2.VK)(h:tO X.K m (Yk i lx t f) σ H Q):Zik (tIt X.K lx) i tc (tD X.K m f) σ H Q:=by
 obtain ⟨BF,BH,F,env,L,ds0,S,e,q⟩:=h
 obtain ⟨ds,xs,h1,hl,h2,e2⟩:=Zb3 e
 cases e2
 exact ⟨BF,BH,F,env,L,ds,S,h1,fun J F1 H1 z1 J1 p hp=>Zil htc hm S z1 J1 hl h2 hp fun vs F' H' z a b c d=>q p vs F' H' z a b c d⟩
theorem ZmV {K:PySem.W.Frag}:∀ σ H Q,tTst K Js σ H Q→(fun (_:L2.St) (H:Hp) (Q:Bool→Hp→Prop)=>Q true H) σ H Q:=fun σ H Q hh_=>el9 hh_ fun BF BH F env L b S e q=>by
 cases e;exact q F H (.refl S.fh)
variable (nox:∀ e s,X.xe e s→False) (nd:X.N.Nodup)
include nox nd
theorem ZdL (i:Nat)(hI:PId X (.Name x px) iter lx)(hE:∀ cs C s0 H0 fp pn,PD (blk X X.env.scope sc cs C s0 H0 fp pn) m elt f)(hm:m≠.r:=by exact fun h=>nomatch h)(hc:X.calm=true:=by rfl)(hco:ZcF X.N X.env.scope sc x=true:=by kernel_rfl)(hi:X.N[i]?=some x:=by kernel_rfl)
  (hs:∀ x,foldedSetIterable iter X.env x=pure x:=by intro _;rfl):PDo X m (.ListComp elt [⟨.Name x px,iter,[],0⟩] sc pos) (Yk i lx Js f) :=
 PE.of (ZhR (te:=tD X.K m f) nox hc nd (Zet hco) hi hI (fun _ _ _ _ _ _=>Zfz) (fun cs C s0 H0 fp pn=>(hE cs C s0 H0 fp pn).h) hs) fun σ H Q h=>Zh5 ZmV hm σ H Q h
theorem ZjR (i:Nat)(hI:PId X (.Name x px) iter lx)(hT:∀ cs C s0 H0 fp pn,PTd (blk X X.env.scope sc cs C s0 H0 fp pn) c t)(hE:∀ cs C s0 H0 fp pn,PD (blk X X.env.scope sc cs C s0 H0 fp pn) m elt f)(hm:m≠.r:=by exact fun h=>nomatch h)(hc:X.calm=true:=by rfl)
  (hco:ZcF X.N X.env.scope sc x=true:=by kernel_rfl) (hi:X.N[i]?=some x:=by kernel_rfl) (hs:∀ x,foldedSetIterable iter X.env x=pure x:=by intro _;rfl):PDo X m (.ListComp elt [⟨.Name x px,iter,[c],0⟩] sc pos) (Yk i lx t f) :=
 PE.of (ZhR (tc:=tTst X.K t) (te:=tD X.K m f) nox hc nd (Zet hco) hi hI (fun cs C s0 H0 fp pn=>Zjj (hT cs C s0 H0 fp pn)) (fun cs C s0 H0 fp pn=>(hE cs C s0 H0 fp pn).h) hs) fun σ H Q h=>Zh5 (fun _ _ _ q=>q) hm σ H Q h
theorem Zbc (i:Nat)(hI:PId X (.Name x px) iter lx)(hE:∀ cs C s0 H0 fp pn,PD (blk X X.env.scope sc cs C s0 H0 fp pn) m elt f)(hm:m≠.r:=by exact fun h=>nomatch h)(hc:X.calm=true:=by rfl)(hco:ZcF X.N X.env.scope sc x=true:=by kernel_rfl)(hi:X.N[i]?=some x:=by kernel_rfl)
  (hs:∀ x,foldedSetIterable iter X.env x=pure x:=by intro _;rfl):PD X m (.ListComp elt [⟨.Name x px,iter,[],0⟩] sc pos) (Yk i lx Js f) :=
 (ZdL nox nd i hI hE hm hc hco hi hs).d fun env d h=>by obtain ⟨_,xs,_,_,_,e⟩:=Zb3 h;exact ⟨xs,e⟩
theorem Zgv (i:Nat)(hI:PId X (.Name x px) iter lx)(hT:∀ cs C s0 H0 fp pn,PTd (blk X X.env.scope sc cs C s0 H0 fp pn) c t)(hE:∀ cs C s0 H0 fp pn,PD (blk X X.env.scope sc cs C s0 H0 fp pn) m elt f)(hm:m≠.r:=by exact fun h=>nomatch h)(hc:X.calm=true:=by rfl)
  (hco:ZcF X.N X.env.scope sc x=true:=by kernel_rfl) (hi:X.N[i]?=some x:=by kernel_rfl) (hs:∀ x,foldedSetIterable iter X.env x=pure x:=by intro _;rfl):PD X m (.ListComp elt [⟨.Name x px,iter,[c],0⟩] sc pos) (Yk i lx t f) :=
 (ZjR nox nd i hI hT hE hm hc hco hi hs).d fun env d h=>by obtain ⟨_,xs,_,_,_,e⟩:=Zb3 h;exact ⟨xs,e⟩
omit nox nd
include nox nd
omit nox nd
theorem Zef {K:PySem.W.Frag}{F H:Hp}:∀ {rs:List (List D)} {as:List Addr},Zo K F H rs as→∀ b ∈ as,H b≠none
 | [],as,h,b,hb=>by have e:as=[]:=h;subst e;cases hb
 | r::rs,as,h,b,hb=>by
  obtain ⟨c,t,vs,rfl,h1,_,h3⟩:=h
  rcases List.mem_cons.mp hb with rfl | hb
  ·rw [h1];simp
  ·exact Zef h3 b hb
theorem ZfP {K:PySem.W.Frag}{F H:Hp}{a:Addr}{vs:List V}{r:List D}(h1:H a=some (.lst vs))(h2:Reps K F r vs):∀ {rs:List (List D)} {as:List Addr},Zo K F H rs as→Zo K F H (rs++[r]) (as++[a])
 | [],as,h=>by have e:as=[]:=h;subst e;exact ⟨a,[],vs,rfl,h1,h2,rfl⟩
 | r0::rs,as,h=>by obtain ⟨b,t,ws,rfl,k1,k2,k3⟩:=h;exact ⟨b,t++[a],ws,rfl,k1,k2,ZfP h1 h2 k3⟩
theorem Zhc {K : PySem.W.Frag}{BF BH F F1 H H1 : Hp}{σ : L2.St}{env : Env}{L : Nat → List Addr}{ds xs : List D}{J : L2.It}{p : Addr}{Q : L2.VK}(S : SOk K BF BH F H σ env L)(z1 : Ext F H F1 H1)(J1 : ItOk K J F1 ds)
    (hl : ds.length ≤ lim) (hx : YW i Js f env ds = some xs) (hf : ∀ env d, f env = some d → ∃ ds, d = .lst ds) (hp : H1 p = none) (q : ∀ v F' H', Ext F H F' H' → rT K H F' H' (.lst xs) v → Q v H') :
    Zb2 J i (fun _ H Q => Q true H) (tO K .k f) σ p Q H1 := by
  have hp0 : H p = none := z1.hh.free hp
  have hpF : F1 p = none := z1.fh.free hp
  refine ⟨fun k mm H2 acc => mm = ds.length - k ∧ k ≤ ds.length ∧ H2 p = some (.lst acc) ∧ ∃ F2 ys zs as, Ext F H F2 H2 ∧ Same F1 F2 ∧ (∀ b ∈ p :: as, H b = none ∧ F2 b = none) ∧ (p :: as).Nodup ∧ ys.length ≤ k ∧ acc = as.map .ref ∧ Zo K F2 H2 ys as ∧ YW i Js f env (ds.drop k) = some zs ∧ xs = ys.map .lst ++ zs,
    ⟨ds.length, by simp, Nat.zero_le _, Jd, F1, [], xs, [], z1.trans (Ext.own z1.fh hp), .refl _, fun b hb => by
      rw [List.mem_singleton] at hb; subst hb; exact ⟨hp0, hpF⟩, by simp, Nat.zero_le _, rfl, rfl, hx, rfl⟩, ?_⟩
  rintro k mm H2 acc ⟨rfl, hk, hacc, F2, ys, zs, as, z2, s12, hown, nd, hy, rfl, hrows, hz, hxs⟩
  have hal : (as.map V.ref).length ≤ lim := by rw [List.length_map, ← hrows.length]; omega
  refine ⟨hacc, Nat.lt_of_le_of_lt hal ZiT, ?_⟩
  by_cases hlt : k < ds.length
  · refine .inr ⟨J1.go k H2 (s12.trans z2.fh) hlt, fun v H3 hy3 => L2.iteT ?_⟩
    obtain ⟨d, F3, hd, z3, r3⟩ := J1.yld k H2 v H3 F2 s12 z2.fh hlt hy3
    have hd' : ds[k] = d := by rw [List.getElem?_eq_getElem hlt] at hd; exact Option.some.inj hd
    rw [List.drop_eq_getElem_cons hlt, hd'] at hz
    simp only [YW, Js] at hz
    have z13 := z2.trans z3
    have S3 := (S.ext z13).Zf9 i r3
    split at hz
    · rename_i e1 zs' he hz'
      cases hz
      obtain ⟨row, rfl⟩ := hf _ _ he
      refine ⟨BF, BH, F3, _, _, row, S3, he, fun a vs F5 H5 z5 ha0 ha1 ha2 rr => ?_⟩
      have z25 := z3.trans z5
      have h2p : H2 p ≠ none := by rw [hacc]; simp
      have ha2' : H2 a = none := z3.hh.free ha0
      have hpa : p ≠ a := fun e => by subst e; exact h2p ha2'
      have haas : a ∉ as := fun z => Zef hrows a z ha2'
      obtain ⟨zz, f5⟩ := z2.Zhv z25 hp0 (hown p List.mem_cons_self).2 h2p (.lst (as.map V.ref ++ [V.ref a]))
      have hpas : p ∉ as := (List.nodup_cons.mp nd).1
      have hrows5 : Zo K F5 (upd H5 p (.lst (as.map V.ref ++ [V.ref a]))) ys as := hrows.mono z25.ff fun b hb o e => by
        rw [Yd (fun q => hpas (by rw [← q]; exact hb))]; exact z25.hh _ _ e
      refine ⟨z25.hh _ _ hacc, ds.length - (k + 1), by omega, rfl, hlt, Jd, F5, ys ++ [row], zs', as ++ [a], zz, s12.trans z25.ff, fun b hb => ?_, ?_, by rw [List.length_append, List.length_singleton]; omega, by rw [List.map_append]; rfl, ?_, hz', by rw [hxs, List.map_append, List.append_assoc]; rfl⟩
      · have own5 : ∀ b, b ∈ p :: as → F5 b = none := fun b hb => by
          cases q5 : F5 b with
          | none => rfl
          | some u =>
            rcases z25.dm b u q5 with y | y
            · rw [(hown b hb).2] at y; cases y
            · rcases List.mem_cons.mp hb with e | e
              · rw [e] at y; exact absurd y h2p
              · exact absurd y (Zef hrows b e)
        rcases List.mem_cons.mp hb with e | e
        · rw [e]; exact ⟨hp0, f5⟩
        · rcases List.mem_append.mp e with e | e
          · exact ⟨(hown b (List.mem_cons_of_mem _ e)).1, own5 b (List.mem_cons_of_mem _ e)⟩
          · rw [List.mem_singleton] at e; subst e; exact ⟨z2.hh.free ha2', ha2⟩
      · obtain ⟨n1, n2⟩ := List.nodup_cons.mp nd
        refine List.nodup_cons.mpr ⟨fun z => ?_, ?_⟩
        · rcases List.mem_append.mp z with e | e
          · exact n1 e
          · rw [List.mem_singleton] at e; exact hpa e
        · rw [List.nodup_append]
          exact ⟨n2, by simp, fun b hb c hc e => by rw [List.mem_singleton] at hc; subst hc; subst e; exact haas hb⟩
      · exact ZfP (by rw [Yd (Ne.symm hpa)]; exact ha1) rr hrows5
    · cases hz
  · have ek : k = ds.length := by omega
    subst ek
    rw [List.drop_length] at hz
    have hz0 : zs = [] := by simp only [YW] at hz; exact (Option.some.inj hz).symm
    subst hz0
    rw [List.append_nil] at hxs
    subst hxs
    exact .inl ⟨J1.stop H2 (s12.trans z2.fh), q _ F2 H2 z2 ⟨p, as, ys, rfl, rfl, hacc, hrows, nd, hown⟩⟩
include nox nd
theorem ZlH (j i:Nat){y:Str}{py spos:Pos}(hI:PId X (.Name x px) iter lx)(hE:∀ cs C s0 H0 fp pn,PDo (blk X X.env.scope sc cs C s0 H0 fp pn) .k elt f)(hf:∀ env d,f env=some d→∃ ds,d=.lst ds)(hc:X.calm=true:=by rfl)(hco:ZcF X.N X.env.scope sc x=true:=by kernel_rfl)(hi:X.N[i]?=some x:=by kernel_rfl)
  (hs:∀ x,foldedSetIterable iter X.env x=pure x:=by intro _;rfl) (hj:X.N[j]?=some y:=by kernel_rfl) (hy:locB X.env.scope y=true:=by kernel_rfl) (hfn:fnB X y=true:=by kernel_rfl)
  (hsw:swapsWith (.ListComp elt [⟨.Name x px,iter,[],0⟩] sc pos) (some (.Name y py)) spos.line X.env=pure true:=by rfl):PS1 X r (.Assign [.Name y py] (.ListComp elt [⟨.Name x px,iter,[],0⟩] sc pos) spos) (sTab j (Yk i lx Js f)) :=
 PS1.mk <| PS.of (Zix (te:=tO X.K .k f) nox hc nd (Zet hco) hi hI (fun _ _ _ _ _ _=>Zfz) hE hs hj (Zai hy) (ZaP hfn) hsw) fun D0 σ H hh_=>el10 hh_ fun BF BH F env L o env' S e k=>by
  unfold sTab at e
  split at e
  ·rename_i xs h1
   split at e
   ·rename_i rs hrs
    cases e
    obtain ⟨ds,xs',h2,hl,h3,e2⟩:=Zb3 h1
    cases e2
    refine ⟨BF,BH,F,env,L,ds,S,h2,fun J F1 H1 z1 J1 p hp=>Zhc S z1 J1 hl h3 hf hp fun v F' H' z rr=>?_⟩
    obtain ⟨a,as,rs',hd,rfl,h4,h5,h6,h7⟩:=rr
    injection hd with hd
    rw [hd,Zgf] at hrs
    cases hrs
    exact k F' H' _ _ (ZlL S z j h4 h5 h6 h7) z.ff
   ·cases e
  ·cases e
end
end PV
set_option linter.all false
set_option Elab.async false
set_option maxRecDepth 100000
set_option maxHeartbeats 4000000
namespace PV
open PySem PySem.Spec PyProof.Rows
open L2 (V Hp HO Vals SqL SqT Same upd Cx PE PT PW PA PS PSs TE TT TA TS Inv RelV Jd Yd Ze Un)
section
variable {X:Cx} {m m1 m2:Md} {a b:Expr} {f g:Ex} {pos p p2:Pos}
theorem ZgK (hu:X.A.units + 64 < cLine){p3:Pos}(ha:PD X m1 a f)(hb:PD X m2 b g)(hst:nst b=true:=by rfl)
  (hbase:attributeBase a "index" X.env (eval a X.env)=eval a X.env:=by rfl) (hline:(p2.endLine == p3.line)=true:=by rfl) :
  PD X m (.Call (.Attribute a "index" p2) [b] [] p3) (eF2 ZeZ f g) :=
 PD.mk <| PE.of (L2.Zdy PySem.F.plainAttrs_list PySem.F.slot_list_index PySem.F.type_list_index (Zjp hu) ha.r.h (L2.Zt hb.r.h L2.ZJ (Zw hst)) hbase (by rw [ZaB (Za9 hst)];rfl) hline (Yi hst) rfl) fun σ H Q hh_=>el9 hh_ fun BF BH F env L d S e q=>by
  unfold eF2 at e
  split at e
  ·rename_i x y h1 h2
   unfold ZeZ at e
   split at e
   ·rename_i ys
    split at e
    ·rename_i hd
     split at e
     ·rename_i j hj
      cases e
      refine ⟨BF,BH,F,env,L,_,S,h1,fun v F1 H1 z1 r1=>⟨?_,BF,BH,F1,env,L,y,S.ext z1,h2,fun w F2 H2 z2 r2=>⟨y,w,ys,j,rfl,Rep.mono z2.hh _ _ r1,r2,hd,hj,q _ F2 H2 (z1.trans z2) (by simp [Rep])⟩⟩⟩
      have r1':=r1
      simp only [Rep,hpM] at r1'
      obtain ⟨p,vs,rfl,hs,_⟩:=r1'
      exact .inl ⟨rfl,vs,hs⟩
     ·cases e
    ·cases e
   ·cases e
  ·cases e
end
end PV
set_option linter.all false
set_option Elab.async false
set_option maxRecDepth 100000
set_option maxHeartbeats 4000000
namespace PV
open PySem
noncomputable def Ris (xs:Array Nat):Prop:=∀ i j (hi:i < xs.size) (hj:j < xs.size),i < j→xs[i] < xs[j]
theorem ZjC {xs:Array Nat}{j:Nat}(hr:Ris xs):∀ (fuel lo hi:Nat),hi≤xs.size→hi - lo < 2 ^ fuel→lo≤hi →
  (∀ i (h:i < xs.size),i < lo→xs[i] < j)→(∀ i (h:i < xs.size),hi≤i→j≤xs[i]) →
  SetTable.below.go xs j fuel lo hi≤xs.size∧(∀ i (h:i < xs.size),i < SetTable.below.go xs j fuel lo hi→xs[i] < j)∧(∀ i (h:i < xs.size),SetTable.below.go xs j fuel lo hi≤i→j≤xs[i]):=by
 intro fuel
 induction fuel with
 | zero =>
  intro lo hi h1 h2 h3 a b
  have:hi=lo:=by simp at h2;omega
  subst this
  unfold SetTable.below.go
  exact ⟨h1,a,b⟩
 | succ fuel ih =>
  intro lo hi h1 h2 h3 a b
  unfold SetTable.below.go
  by_cases hlt:lo < hi
  ·rw [if_pos hlt]
   have hm:(lo + hi) / 2 < xs.size:=by omega
   have e:xs.getD ((lo + hi) / 2) j=xs[(lo + hi) / 2]:=by simp [Array.getD,hm]
   dsimp only
   rw [e]
   have hp:2 ^ (fuel + 1)=2 ^ fuel * 2:=Nat.pow_succ ..
   by_cases hc:xs[(lo + hi) / 2] < j
   ·rw [if_pos hc]
    refine ih _ hi h1 (by omega) (by omega) (fun i h hi'=>?_) b
    rcases Nat.lt_or_ge i ((lo + hi) / 2) with h5 | h5
    ·exact Nat.lt_trans (hr i _ h hm h5) hc
    ·have:i=(lo + hi) / 2:=by omega
     subst this;exact hc
   ·rw [if_neg hc]
    refine ih lo _ (by omega) (by omega) (by omega) a (fun i h hi'=>?_)
    rcases Nat.lt_or_ge ((lo + hi) / 2) i with h5 | h5
    ·have:=hr _ i hm h h5;omega
    ·have:i=(lo + hi) / 2:=by omega
     subst this;omega
  ·rw [if_neg hlt]
   have:lo=hi:=by omega
   subst this
   exact ⟨h1,a,b⟩
theorem Zkl {xs:Array Nat}(hr:Ris xs)(j:Nat):SetTable.below xs j≤xs.size∧(∀ i (h:i < xs.size),i < SetTable.below xs j→xs[i] < j)∧(∀ i (h:i < xs.size),SetTable.below xs j≤i→j≤xs[i]):=by
 unfold SetTable.below
 refine ZjC hr xs.size 0 xs.size (Nat.le_refl _) ?_ (Nat.zero_le _) (fun i h h'=>by omega) (fun i h h'=>by omega)
 have:=Nat.lt_two_pow_self (n:=xs.size)
 omega
theorem Zir {xs:Array Nat}(hr:Ris xs){j:Nat}(hj:xs[SetTable.below xs j]?≠some j):Ris (SetTable.insertAt xs (SetTable.below xs j) j):=by
 obtain ⟨h1,h2,h3⟩:=Zkl hr j
 generalize SetTable.below xs j=p at h1 h2 h3 hj
 have h4:∀ i (h:i < xs.size),p≤i→j < xs[i]:=fun i h hp=>by
  rcases Nat.lt_or_ge p i with h5 | h5
  ·have h6:=h3 p (by omega) (Nat.le_refl _)
   have:=hr p i (by omega) h h5
   omega
  ·have e:i=p:=by omega
   subst e
   have:=h3 i h (Nat.le_refl _)
   rw [Array.getElem?_eq_getElem h] at hj
   have:xs[i]≠j:=fun e=>hj (by rw [e])
   omega
 have sz:(SetTable.insertAt xs p j).size=xs.size + 1:=by unfold SetTable.insertAt;simp;omega
 have ent:∀ i (h:i < xs.size + 1),(SetTable.insertAt xs p j)[i]'(by rw [sz];exact h)=if hh:i < p then xs[i] else if h':i=p then j else xs[i - 1]:=by
  intro i h
  unfold SetTable.insertAt
  simp only [Array.getElem_append,Array.size_push,Array.size_extract,Array.getElem_push,Array.getElem_extract]
  split
  ·rename_i ha
   split
   ·rename_i hb
    rw [dif_pos (by omega)]
    simp
   ·rename_i hb
    rw [dif_neg (by omega),dif_pos (by omega)]
  ·rename_i ha
   rw [dif_neg (by omega),dif_neg (by omega)]
   congr 1
   omega
 intro a b ha hb hab
 rw [sz] at ha hb
 rw [ent a ha,ent b hb]
 by_cases a1:a < p
 ·rw [dif_pos a1]
  by_cases b1:b < p
  ·rw [dif_pos b1];exact hr a b (by omega) (by omega) hab
  ·rw [dif_neg b1]
   by_cases b2:b=p
   ·rw [dif_pos b2];exact h2 a (by omega) a1
   ·rw [dif_neg b2];exact hr a (b - 1) (by omega) (by omega) (by omega)
 ·rw [dif_neg a1,dif_neg (show ¬ b < p by omega),dif_neg (show ¬ b=p by omega)]
  by_cases a2:a=p
  ·rw [dif_pos a2];exact h4 (b - 1) (by omega) (by omega)
  ·rw [dif_neg a2];exact hr (a - 1) (b - 1) (by omega) (by omega) (by omega)
theorem Zgw {t:SetTable}{j:Nat}(h:t.slot j=.empty∨t.slot j=.dummy):t.place[SetTable.below t.place j]?≠some j:=fun e=>by
 unfold SetTable.slot at h
 dsimp only at h
 rw [e] at h
 simp at h
theorem ZiU {t:SetTable}{hashAt:Nat→Int}{h:Int}:∀ (fuel:Nat) (p:SetTable.Probe) (j:Nat) (d:Option Nat),(∀ x,p.dummy=some x→t.slot x=.dummy)→SetTable.probe.go t hashAt h fuel p=some (.empty j d) →
  t.place[SetTable.below t.place (d.getD j)]?≠some (d.getD j):=by
 intro fuel
 induction fuel with
 | zero=>intro p j d hd e;unfold SetTable.probe.go at e;cases e
 | succ fuel ih =>
  intro p j d hd e
  unfold SetTable.probe.go at e
  have adv:∀ q:SetTable.Probe,(t.advance q).dummy=q.dummy:=fun q=>by unfold SetTable.advance;split <;> rfl
  split at e
  ·rename_i hs
   injection e with e
   injection e with e1 e2
   subst e1;subst e2
   cases hq:p.dummy with
   | none=>exact Zgw (.inl hs)
   | some x=>exact Zgw (.inr (hd x hq))
  ·rename_i hs
   refine ih _ _ _ (fun x hx=>?_) e
   rw [adv] at hx
   injection hx with hx
   subst hx;exact hs
  ·split at e
   ·injection e with e;cases e
   ·refine ih _ _ _ (fun x hx=>?_) e
    rw [adv] at hx
    exact hd x hx
theorem Zj7 {t:SetTable}{h:Int}{j:Nat}{b:Bool}(e:t.freeSlot h=some (j,b)):t.place[SetTable.below t.place j]?≠some j:=by
 unfold SetTable.freeSlot at e
 split at e
 ·rename_i j' d hp
  injection e with e
  injection e with e1 e2
  subst e1
  exact ZiU _ _ _ _ (fun x hx=>by simp [SetTable.probeStart] at hx) hp
 ·cases e
structure TabOk (led:Bool)(t:SetTable):Prop where
 led:t.led=led
 ris:t.plain=true→Ris t.place
theorem Zg7 (led:Bool)(a b:Nat):TabOk led (.fresh a b led):=⟨rfl,fun _ i j hi hj _=>by simp [SetTable.fresh] at hi⟩
theorem TabOk.stand {led:Bool}{t:SetTable}(h:TabOk led t)(n:Nat):TabOk led (t.standIn n):=⟨h.led,fun e=>by simp [SetTable.standIn] at e⟩
theorem TabOk.lay {led:Bool}{t:SetTable}(h:TabOk led t)(es:Array (Int × Value))(k:Int)(x:Value):TabOk led (layNew t es k x).2.1:=by
 unfold layNew
 split
 ·rename_i slot wd he
  have:TabOk led (t.put slot).1:=⟨h.led,fun e=>Zir (h.ris e) (Zj7 he)⟩
  dsimp only
  unfold SetTable.orStandIn
  split
  ·exact this
  ·exact this.stand _
 ·exact h.stand _
theorem Zkm {l:List Nat}(h:l.Pairwise (· < ·)):Ris l.toArray:=fun i j hi hj hij=>by
 simp only [List.size_toArray] at hi hj
 simp only [List.getElem_toArray]
 exact List.pairwise_iff_getElem.mp h i j hi hj hij
theorem TabOk.Znx {led:Bool}{t:SetTable}(h:TabOk led t)(es:Array (Int × Value))(n:Nat):TabOk led (relayAll t es n).2.1:=by
 unfold relayAll
 split
 ·rename_i t' order he
  dsimp only
  split
  ·unfold SetTable.relaid SetTable.laid at he
   cases ho:SetTable.layClean (SetTable.sizeAbove n - 1) (es.map (·.1)) with
   | none=>rw [ho] at he;cases he
   | some owner =>
    rw [ho] at he
    injection he with he
    injection he with h1 h2
    subst h1
    refine ⟨h.led,fun _=>Zkm ?_⟩
    rw [List.map_filterMap]
    refine (List.pairwise_lt_range (n:=SetTable.sizeAbove n - 1 + 1)).filterMap _ fun a a' haa b hb b' hb'=>?_
    simp only [Option.map_map,Option.mem_def,Option.map_eq_some_iff] at hb hb'
    obtain ⟨_,_,rfl⟩:=hb
    obtain ⟨_,_,rfl⟩:=hb'
    exact haa
  ·exact h.stand _
 ·exact h.stand _
end PV
set_option linter.all false
set_option Elab.async false
set_option maxRecDepth 100000
set_option maxHeartbeats 4000000
namespace PV
open PySem PyProof.Rows
noncomputable def valI:Value→Int
 | .int i _=>i
 | _=>0
noncomputable def isI:Value→Prop
 | .int _ _=>True
 | _=>False
theorem Zbf {vs:List Value}{ns:List Int}:IntsAre vs ns↔(∀ v ∈ vs,isI v)∧ns=vs.map valI:=by
 constructor
 ·intro h
  induction h with
  | nil=>simp
  | cons n t _ ih=>exact ⟨fun v hv=>(List.mem_cons.mp hv).elim (fun e=>e ▸ trivial) (ih.1 v),by simp [valI,ih.2]⟩
 ·rintro ⟨h,rfl⟩
  induction vs with
  | nil=>exact .nil
  | cons v vs ih =>
   have h1:=h v List.mem_cons_self
   cases v with
   | int i t=>exact .cons i t (ih fun v hv=>h v (List.mem_cons_of_mem _ hv))
   | _=>exact h1.elim
theorem Zfw {vs vs':List Value}{ns:List Int}(p:vs'.Perm vs)(h:IntsAre vs ns):∃ ns',IntsAre vs' ns'∧ns'.Perm ns:=by
 rw [Zbf] at h
 exact ⟨vs'.map valI,Zbf.mpr ⟨fun v hv=>h.1 v (p.mem_iff.mp hv),rfl⟩,h.2 ▸ p.map _⟩
theorem Zj5 {vs:List Value}{ns:List Int}(h:IntsAre vs ns){k:Int}:k ∈ ns↔∃ v ∈ vs,Value.isInt k v=true:=by
 rw [Zbf] at h
 rw [h.2,List.mem_map]
 constructor
 ·rintro ⟨v,hv,e⟩
  have:=h.1 v hv
  cases v with
  | int i t=>exact ⟨_,hv,by simp [valI] at e;simp [Value.isInt,e]⟩
  | _=>exact this.elim
 ·rintro ⟨v,hv,e⟩
  obtain ⟨t,rfl⟩:=Value.isInt_shape e
  exact ⟨_,hv,rfl⟩
section
variable {prog:Program} {w:World} {A:Around} {E:Value→Shared→Prop} {s:Shared}
structure SetO (prog:Program)(w:World)(led:Bool)(ks:List Int)(o:Obj)(es:Array (Int × Value))(ep:Nat)(t:SetTable):Prop where
 ex:o.ExactSet
 dat:o.data=.set es ep t
 el:ElemsOf (intKind prog w) es.toList
 ks:∃ js,IntsAre (es.toList.map (·.2)) js∧js.Perm ks
 few:es.size < scanBound
 fit:t.fits es.size=true
 ok:TabOk led t
noncomputable def SetX (prog:Program) (w:World) (h:Heap) (a:Addr) (led:Bool) (ks:List Int):Prop:=∃ o es ep t,h.get? a=some o∧SetO prog w led ks o es ep t
theorem SetO.len {led:Bool}{ks:List Int}{o:Obj}{es:Array (Int × Value)}{ep:Nat}{t:SetTable}(h:SetO prog w led ks o es ep t):es.size=ks.length:=by
 obtain ⟨js,h1,h2⟩:=h.ks
 have:=(Zbf.mp h1).2
 rw [← h2.length_eq,this];simp
theorem SetO.mem {led:Bool}{ks:List Int}{o:Obj}{es:Array (Int × Value)}{ep:Nat}{t:SetTable}(h:SetO prog w led ks o es ep t){k:Int}:k ∈ ks↔∃ e ∈ es.toList,(intKind prog w).is k e.2=true:=by
 obtain ⟨js,h1,h2⟩:=h.ks
 rw [← h2.mem_iff,Zj5 h1]
 constructor
 ·rintro ⟨v,hv,e⟩
  obtain ⟨p,hp,rfl⟩:=List.mem_map.mp hv
  exact ⟨p,hp,e⟩
 ·rintro ⟨p,hp,e⟩
  exact ⟨p.2,List.mem_map.mpr ⟨p,hp,rfl⟩,e⟩
theorem ZhB {a:Addr}{led:Bool}{ks ks':List Int}{o:Obj}{es es':Array (Int × Value)}{ep:Nat}{t t':SetTable}{Q:Unit→Shared→Prop}(ho:s.heap.get? a=some o)(h:SetO prog w led ks o es ep t)
  (el:ElemsOf (intKind prog w) es'.toList) (hk:∃ js,IntsAre (es'.toList.map (·.2)) js∧js.Perm ks') (few:es'.size < scanBound) (fit:t'.fits es'.size=true) (ok:TabOk led t')
  (k:∀ h' o',Heap.SameBut a s.heap h'→h'.get? a=some o'→SetO prog w led ks' o' es' (ep + 1) t'→Q () { s with heap:=h' }):wpAny (model prog w) A (storeSet a es' t') Q E s:=by
 refine wpAny_storeSet_of ho h.dat ?_ (fits_of_scanBound few)
 have hg:(s.heap.update a (Obj.putSet es' t')).get? a=some { o with data:=.set es' (ep + 1) t' }:=by
  have:=Heap.get?_update_self (Obj.putSet es' t') ho (by rw [putSet_of es' t' h.dat];rfl)
  rw [putSet_of es' t' h.dat] at this
  exact this
 exact k _ _ (Heap.SameBut.update s.heap a _) hg ⟨h.ex,rfl,el,hk,few,fit,ok⟩
theorem Zm2 {a : Addr}{led : Bool}{ks : List Int}{k : Int}{tk : Tok}{Q : Bool → Shared → Prop}(hS : SetX prog w s.heap a led ks)(room : ks.length + 1 < scanBound)
    (h : ∀ h' b, Heap.SameBut a s.heap h' → SetX prog w h' a led (addv ks k) → Q b { s with heap := h' }) : wpAny (model prog w) A (setAddHashed a (.int k tk) ((intKind prog w).hash k)) Q E s := by
  obtain ⟨o, es, ep, t, ho, S⟩ := hS
  have hkey : (intKind prog w).is k (.int k tk) = true := intKind_is _ _ _ _
  have same : s = { s with heap := s.heap } := by cases s; rfl
  unfold setAddHashed setAddHashedIn
  refine wpAny_holding (wpAny_bind (wpAny_setState_of ho S.dat S.fit ?_))
  dsimp only
  rw [byScan_of (x := .int k tk) rfl S.few S.el]
  simp only [↓reduceIte]
  unfold setAddByScan
  refine wpAny_bind (wpAny_bind (wpAny_rule (wpAny_bind (wpAny_setScan_of hkey ho S.dat S.fit S.el ?_))))
  cases hr : List.findIdx? (fun e => (intKind prog w).is k e.2) es.toList with
  | some j =>
    obtain ⟨hj, hpj, _⟩ := List.findIdx?_eq_some_iff_getElem.mp hr
    have hm : k ∈ ks := S.mem.mpr ⟨_, List.getElem_mem hj, hpj⟩
    refine wpAny_pure (wpAny_pure ?_)
    rw [same]
    exact h s.heap _ (Heap.SameBut.refl a s.heap) ⟨o, es, ep, t, ho, by unfold addv; rw [if_pos hm]; exact S⟩
  | none =>
    have hm : k ∉ ks := fun hm => by
      obtain ⟨e, he, hp⟩ := S.mem.mp hm
      have := List.findIdx?_eq_none_iff.mp hr e he
      rw [hp] at this; cases this
    dsimp only
    have p1 := layNew_perm t es ((intKind prog w).hash k) (.int k tk)
    have f1 := layNew_fits t es ((intKind prog w).hash k) (.int k tk)
    have o1 := S.ok.lay es ((intKind prog w).hash k) (.int k tk)
    generalize layNew t es ((intKind prog w).hash k) (.int k tk) = Z at p1 f1 o1 ⊢
    obtain ⟨es1, t1, wd, gv⟩ := Z
    dsimp only at p1 f1 o1 ⊢
    rw [Array.toList_push] at p1
    have el1 : ElemsOf (intKind prog w) es1.toList := (S.el.push hkey rfl).perm p1
    have k1 : ∃ js, IntsAre (es1.toList.map (·.2)) js ∧ js.Perm (addv ks k) := by
      obtain ⟨js, j1, j2⟩ := S.ks
      have q1 : IntsAre ((es.toList ++ [((intKind prog w).hash k, Value.int k tk)]).map (·.2)) (js ++ [k]) := by
        rw [Zbf] at j1 ⊢
        refine ⟨fun v hv => ?_, by rw [j1.2]; simp [valI]⟩
        rw [List.map_append, List.mem_append] at hv
        rcases hv with hv | hv
        · exact j1.1 v hv
        · simp at hv; subst hv; trivial
      obtain ⟨js', r1, r2⟩ := Zfw (p1.map (·.2)) q1
      refine ⟨js', r1, r2.trans ?_⟩
      unfold addv; rw [if_neg hm]
      exact j2.append_right _
    have sz1 : es1.size = es.size + 1 := by rw [← Array.length_toList, p1.length_eq, List.length_append, Array.length_toList]; rfl
    have few1 : es1.size < scanBound := by rw [sz1, S.len]; exact room
    have gw : ∀ (b : Bool) {s₁ : Shared} {Q' : Unit → Shared → Prop}, Q' () s₁ → wpAny (model prog w) A (match b with | true => rule "set.scan.the-table-gave-way" | false => pure ()) Q' E s₁ :=
      fun b _ _ hq => by cases b <;> first | exact wpAny_pure hq | exact wpAny_rule hq
    refine wpAny_bind (gw _ ?_)
    have last : ∀ t2 : SetTable, t2.fits es1.size = true → TabOk led t2 → ∀ wd : Bool, wpAny (model prog w) A (do
        storeSet a es1 t2
        if (!wd && t2.tooFull) = true then do
            (match (relayAll t2 es1 (SetTable.grown es1.size)).2.2 with | true => rule "set.scan.the-table-gave-way" | false => pure ())
            storeSet a (relayAll t2 es1 (SetTable.grown es1.size)).1 (relayAll t2 es1 (SetTable.grown es1.size)).2.1
            pure (some true)
          else pure (some true)) (fun r s' => wpAny (model prog w) A (match r with | some added => pure added | none => setAddHashedIn a (.int k tk) ((intKind prog w).hash k) 99999) Q E s') E s := by
      intro t2 f2 o2 wd
      refine wpAny_bind (ZhB ho S el1 k1 few1 f2 o2 fun h' o' sb g' S' => ?_)
      split
      · have p2 := relayAll_perm t2 es1 (SetTable.grown es1.size)
        have f3 := relayAll_fits t2 es1 (SetTable.grown es1.size)
        have o3 := o2.Znx es1 (SetTable.grown es1.size)
        generalize relayAll t2 es1 (SetTable.grown es1.size) = Z at p2 f3 o3 ⊢
        obtain ⟨es2, t3, gv2⟩ := Z
        dsimp only at p2 f3 o3 ⊢
        have sz2 : es2.size = es1.size := by rw [← Array.length_toList, p2.length_eq, Array.length_toList]
        refine wpAny_bind (gw _ ?_)
        refine wpAny_bind (ZhB (ks' := addv ks k) g' S' (el1.perm p2) ?_ (by rw [sz2]; exact few1) f3 o3 fun h2 o2 sb2 g2 S2 => ?_)
        · obtain ⟨js, j1, j2⟩ := k1
          obtain ⟨js', r1, r2⟩ := Zfw (p2.map (·.2)) j1
          exact ⟨js', r1, r2.trans j2⟩
        · exact wpAny_pure (wpAny_pure (h _ _ (sb.trans sb2) ⟨_, _, _, _, g2, S2⟩))
      · exact wpAny_pure (wpAny_pure (h _ _ sb ⟨_, _, _, _, g', S'⟩))
    split
    · refine wpAny_bind ?_
      rw [hashByValue_scannable 8 (x := .int k tk) rfl]
      refine wpAny_pure ?_
      exact last _ (by simp only [plainKind, ↓reduceIte]; exact f1) (by simp only [plainKind, ↓reduceIte]; exact o1) wd
    · refine wpAny_bind (wpAny_pure ?_)
      simp only [↓reduceIte]
      exact last _ f1 o1 wd
end
end PV
set_option linter.all false
set_option Elab.async false
set_option maxRecDepth 100000
set_option maxHeartbeats 4000000
namespace PV
open PySem PyProof.Rows
noncomputable def byT (w:World):Bool:=w.params.followText "set-order"
inductive Wk (w : World) (h : Heap) (a : Addr) (es : Array (Int × Value)) (ep : Nat) (t : SetTable) : List Value → (Nat → Value) → List Addr → Prop
  | text (hb : byT w = true) : Wk w h a es ep t ((pickOrder (w.params.setOrder a ep) es).toList.map (·.2)) (fun _ => rawInt 0) []
  | plain (hb : byT w = false) (hd : (!t.plain && decide (es.size > 1)) = false) (hl : t.led = true) (hr : Ris t.place) : Wk w h a es ep t (es.toList.map (·.2)) (fun i => rawInt (((if i = 0 then 0 else t.place.getD (i - 1) 0 + 1) : Nat) : Int)) []
  | drawn (hb : byT w = false) (p : Addr) (c : Nat) (pl : List Nat) (hp : pl.Perm (List.range es.size)) (o : Obj) (ho : h.get? p = some o) (hd : o.data = .seq (pl.map fun (j : Nat) => rawInt j).toArray c) :
      Wk w h a es ep t (pl.map fun j => (es.getD j (0, .none)).2) (fun _ => .ref p) [p]
noncomputable def SIt (h:Heap) (I a:Addr) (f:Value) (i n ep:Nat):Prop:=∃ o,h.get? I=some o∧o.cls=.type "set_iterator"∧o.data=.fields #[f,rawInt (i:Nat),.ref a,rawInt (n:Nat),rawInt (ep:Nat)]
section
variable {prog:Program} {w:World} {A:Around} {E:Value→Shared→Prop} {s:Shared}
end
end PV
set_option linter.all false
set_option Elab.async false
set_option maxRecDepth 100000
set_option maxHeartbeats 4000000
namespace PV
open PySem PyProof.Rows
section
variable {prog:Program} {w:World} {A:Around} {E:Value→Shared→Prop} {s:Shared}
end
end PV
set_option linter.all false
set_option Elab.async false
set_option maxRecDepth 100000
set_option maxHeartbeats 4000000
namespace PV
open PySem PyProof.Rows
section
variable {prog:Program} {w:World} {A:Around} {E:Value→Shared→Prop} {s:Shared}
end
end PV
set_option linter.all false
set_option Elab.async false
set_option maxRecDepth 100000
set_option maxHeartbeats 4000000
namespace PV
open PySem PyProof.Rows
section
variable {prog:Program} {w:World} {A:Around} {E:Value→Shared→Prop} {s:Shared}
end
end PV
set_option linter.all false
set_option Elab.async false
set_option maxRecDepth 100000
set_option maxHeartbeats 4000000
namespace PV
open PySem PyProof.Rows PySem.Spec
section
variable {prog:Program} {w:World} {A:Around} {E:Value→Shared→Prop} {s:Shared}
theorem SetX.keep {h h':Heap}{a:Addr}{led:Bool}{ks:List Int}(x:SetX prog w h a led ks)(hk:∀ o,h.get? a=some o→h'.get? a=some o):SetX prog w h' a led ks:=by
 obtain ⟨o,es,ep,t,ho,S⟩:=x
 exact ⟨o,es,ep,t,hk o ho,S⟩
theorem Zh6 {h:Heap} {a:Addr} {led:Bool} (ho:h.get? a=some { cls:=.type "set",dict:=none,data:=.set #[] 0 (.fresh 0 0 led) }):SetX prog w h a led [] :=
 ⟨_,#[],0,_,ho,⟨rfl,rfl,rfl⟩,rfl,fun e he=>by simp at he,⟨[],.nil,.refl _⟩,by decide,rfl,Zg7 _ _ _⟩
theorem ZjW {R:Result→Shared→Prop}{I:Addr}{fp wr:List Addr}{G:Array GenState→Array GenState→Prop}{P:Nat→Value→Prop}{St:Nat→Shared→Prop}{ns:List Int}{led:Bool}
  (W:WalksS prog w A.in1 I fp wr G ns.length P St) (a:Addr) (ha:a ∉ fp) (hv:∀ i v,P i v→∃ t,v=.int (ns.getD i 0) t) (hb:ns.length + 1 < scanBound) :
  ∀ (k i:Nat) (s:Shared),ns.length - i=k→i≤ns.length→St i s→SetX prog w s.heap a led (seen (ns.take i)) →
   (∀ s',Moved (a::wr) G s s'→SetX prog w s'.heap a led (seen ns)→R (.ok (.ret .none)) s')→codeAny (model prog w) A (.builtin "set.update.loop" ⟨[.ref a,.ref I],[]⟩) R s:=by
 have haw:a ∉ wr:=fun h=>ha (W.sub _ h)
 have sub:∀ b ∈ wr,b ∈ a::wr:=fun b hb=>List.mem_cons_of_mem _ hb
 intro k
 induction k with
 | zero =>
  intro i s hk hi st hS hR
  have e:i=ns.length:=by omega
  subst e
  rw [List.take_length] at hS
  refine codeAny_builtin F.entry_set_update_loop ?_
  rw [Around.under_plainId F.plain_set_update_loop _]
  show wpAny _ A.in1 (pyNext (.ref I) >>= _) _ _ s
  exact wpAny_bind (W.done s _ _ st fun s' hm=>wpAny_pure (hR s' (hm.mono sub) (hS.keep fun o e=>hm.heap a o haw e)))
 | succ k ih =>
  intro i s hk hi st hS hR
  have hlt:i < ns.length:=by omega
  refine codeAny_builtin F.entry_set_update_loop ?_
  rw [Around.under_plainId F.plain_set_update_loop _]
  show wpAny _ A.in1 (pyNext (.ref I) >>= _) _ _ s
  refine wpAny_bind (W.item i s _ _ hlt st fun v s' hP st' hm=>?_)
  obtain ⟨t,rfl⟩:=hv i v hP
  have hS':=hS.keep fun o e=>hm.heap a o haw e
  show wpAny _ A.in1 (holding [Value.int (ns.getD i 0) t] (setAdd a (.int (ns.getD i 0) t)) >>= _) _ _ s'
  refine wpAny_bind (wpAny_holding ?_)
  unfold setAdd
  refine wpAny_holding (wpAny_bind ((intKind prog w).pyHash (k:=ns.getD i 0) (intKind_is _ _ _ _) ?_))
  have room:(seen (ns.take i)).length + 1 < scanBound:=by have:=Zeq (ns.take i);rw [List.length_take] at this;omega
  refine Zm2 (s:={ s' with toks:=s'.toks + 1 }) hS' room fun h' b sb hS2=>?_
  have e2:addv (seen (ns.take i)) (ns.getD i 0)=seen (ns.take (i + 1)):=by rw [← Zi7,List.take_add_one,List.getElem?_eq_getElem hlt,List.getD_eq_getElem?_getD,List.getElem?_eq_getElem hlt];rfl
  rw [e2] at hS2
  refine wpAny_pure ⟨plainId_quiet F.plain_set_update_loop _,ih (i + 1) _ (by omega) hlt (W.frame _ s' _ _ st' (Nat.le_succ _) fun b hb o e=>?_) hS2 fun s2 hm2 hS3=>?_⟩
  ·rw [sb.2 b fun h=>ha (h ▸ hb)];exact e
  ·refine hR s2 (Moved.trans W.gtrans ((hm.mono sub).then_heap (Nat.le_succ _) fun b o hb e=>?_) hm2) hS3
   rw [sb.2 b fun h=>hb (h ▸ List.mem_cons_self)];exact e
theorem ZkV (x:Value) {Q:Value→Shared→Prop} (h:Q (.ref s.heap.objs.size) { s with heap:=s.heap.push { cls:=.type "set",dict:=none,data:=.set #[] 0 (.fresh 0 0 (!byT w)) } }) :
  codeAny (model prog w) A (.call (.builtin "set.__new__") ⟨[.type "set",x],[]⟩) (wants Q E) s:=by
 refine codeAny_of_tree ?_
 show wpAny _ A.in1 (do checkBuiltinCall "set.__new__" ⟨[.type "set",x],[]⟩;again (.builtin "set.__new__" ⟨[.type "set",x],[]⟩)) _ _ s
 refine wpAny_bind (wpAny_of_eq (PySem.F.newCall_set_1 x) (wpAny_pure ⟨plainId_quiet F.plain_set_new _,codeAny_builtin F.entry_set_new ?_⟩))
 rw [Around.under_plainId F.plain_set_new _]
 unfold Builtin.«set.__new__» Builtin.Frozenset.newClass
 have hsub:=sub_set_self
 obtain ⟨hp,g,d,tk,os⟩:=s
 dsimp only
 wp_walk
 refine wpAny_askSetting (wpAny_pure ?_)
 dsimp only
 simp only [newObj]
 exact wpAny_bind (wpAny_alloc (wpAny_pure (wpAny_pure h)))
set_option maxHeartbeats 3200000 in
theorem ZjT {l:Addr}{its:Array Value}{ns:List Int}{Q:Value→Shared→Prop}(hh:A.handled=none)(hl:s.heap.IsList l its)(hi:IntsAre its.toList ns)(hb:ns.length + 1 < scanBound)
  (h:∀ (h':Heap) (tk:Nat),SetX prog w h' s.heap.objs.size (!byT w) (seen ns)→(∀ b o,b < s.heap.objs.size→s.heap.get? b=some o→h'.get? b=some o)→Q (.ref s.heap.objs.size) { s with heap:=h',toks:=tk }) :
  wpAny (model prog w) A (call (.type "set") [.ref l]) Q E s:=by
 have hlen:its.size=ns.length:=by rw [(Zbf.mp hi).2];simp
 obtain ⟨c,tl,hmro⟩:=F.called_set.mro
 have hmade:=F.called_set.made
 have hsub:=F.called_set.sub
 refine wpAny_call (codeAny_of_tree ?_)
 show wpAny _ _ (callAny (.type "set") _) _ _ _
 refine wpAny_pure ⟨Code.quiet_builtin _ (by decide +kernel),codeAny_builtin F.entry_type_call ?_⟩
 rw [Around.under_plain (weight_type_call_type "set" [.ref l] []) rfl]
 have h1:=F.called_set.notType
 have h2:=F.called_set.canCreate
 have hct:=PySem.F.typeCall_set_1 (.ref l)
 repeat (any_goals (first | assumption | wp_step))
 refine codeAny_mono (ZkV (.ref l) (E:=E) (Q:=fun obj s₁=>obj=.ref s.heap.objs.size∧s₁={ s with heap:=s.heap.push { cls:=.type "set",dict:=none,data:=.set #[] 0 (.fresh 0 0 (!byT w)) } }) ⟨rfl,rfl⟩) fun r s₁ hr=>?_
 cases r with
 | error e=>exact hr
 | ok fl =>
  cases fl with
  | ret obj =>
   obtain ⟨rfl,rfl⟩:=hr
   have g0:(s.heap.push { cls:=.type "set",dict:=none,data:=.set #[] 0 (.fresh 0 0 (!byT w)) }).get? s.heap.objs.size=some { cls:=.type "set",dict:=none,data:=.set #[] 0 (.fresh 0 0 (!byT w)) }:=Heap.get?_push_size _ rfl
   have hT:Shared.TypeIs { s with heap:=s.heap.push { cls:=.type "set",dict:=none,data:=.set #[] 0 (.fresh 0 0 (!byT w)) } } (.ref s.heap.objs.size) "set":=⟨_,g0,rfl⟩
   have hli:=F.called_set.init.lookup
   have hbi:=F.called_set.init.bind (.ref s.heap.objs.size)
   repeat (any_goals (first | assumption | wp_step))
   refine codeAny_mono (codeAny_call_builtin (R:=wants (fun r s₂=>r=.none∧∃ h' tk,s₂={ s with heap:=h',toks:=tk }∧SetX prog w h' s.heap.objs.size (!byT w) (seen ns)∧(∀ b o,b < s.heap.objs.size→s.heap.get? b=some o→h'.get? b=some o)) E)
    F.called_set.init.plain F.entry_set_init (check_set_init_1 hT ?_)) fun r₂ s₂ hr₂=>?_
   ·obtain ⟨ol,hol,hcl,nl,hdl⟩:=hl
    obtain ⟨ocls,odict,odata,oslots⟩:=ol
    simp only at hcl hdl
    subst hcl;subst hdl
    have hol':(s.heap.push { cls:=.type "set",dict:=none,data:=.set #[] 0 (.fresh 0 0 (!byT w)) }).get? l=some { cls:=.type "list",dict:=odict,data:=.seq its nl,slots:=oslots }:=Heap.get?_push_of_some _ hol
    have hsls:=PySem.F.sub_list_set
    have hslf:=PySem.F.sub_list_frozenset
    have hne:(Value.type "list" == Value.type "dict")=false:=by decide
    have hl1:(s.heap.push { cls:=.type "set",dict:=none,data:=.set #[] 0 (.fresh 0 0 (!byT w)) }).IsList l its:=⟨_,hol',rfl,nl,rfl⟩
    unfold Builtin.«set.__init__» noKeywords Builtin.Frozenset.updateFrom
    generalize hPI:pyIter=PI
    wp_walk
    subst hPI
    refine wpAny_pyIter_list hl1 (wpAny_bind (wpAny_runValue ?_))
    have hlS:l < s.heap.objs.size:=Heap.lt_size hol
    have sz:(s.heap.push { cls:=.type "set",dict:=none,data:=.set #[] 0 (.fresh 0 0 (!byT w)) }).objs.size=s.heap.objs.size + 1:=Heap.size_push ..
    have hneI:l≠(s.heap.push { cls:=.type "set",dict:=none,data:=.set #[] 0 (.fresh 0 0 (!byT w)) }).objs.size:=by
     rw [sz];exact Nat.ne_of_lt (Nat.lt_succ_of_lt hlS)
    have W:=(Walks.list (prog:=prog) (w:=w) (A:=A.in1.in1.in1) (by simpa using hh) _ l hneI its).toS
    rw [hlen] at W
    refine ZjW W s.heap.objs.size ?_ (fun i v hv=>IntsAre.int_at hi i v (by rw [Array.getElem?_toList];exact hv)) hb (ns.length - 0) 0 _ rfl (Nat.zero_le _) ⟨⟨_,Heap.get?_push_size _ rfl,rfl,rfl⟩,hl1.push _⟩ (Zh6 (led:=!byT w) (Heap.get?_push_of_some _ g0)) ?_
    ·rw [sz];simp only [List.mem_cons,List.not_mem_nil,or_false,not_or]
     exact ⟨Nat.ne_of_lt (Nat.lt_succ_self _),Nat.ne_of_gt hlS⟩
    ·intro s' hm hS'
     obtain ⟨h',g',d',tk',os'⟩:=s'
     have eg:g'=s.gens:=hm.gens
     have ed:d'=s.drawn:=hm.drawn
     have eo:os'=s.os:=hm.os
     subst eg;subst ed;subst eo
     show wpAny _ _ _ _ _ _
     refine wpAny_pure ?_
     show wpAny _ _ (ret Value.none) _ _ _
     refine wpAny_pure ⟨rfl,h',tk',rfl,hS',fun b o hb e=>hm.heap b o ?_ (Heap.get?_push_of_some _ (Heap.get?_push_of_some _ e))⟩
     rw [sz]
     simp only [List.mem_cons,List.not_mem_nil,or_false,not_or]
     exact ⟨Nat.ne_of_lt hb,Nat.ne_of_lt (Nat.lt_succ_of_lt hb)⟩
   ·cases r₂ with
    | error e=>exact hr₂
    | ok fl₂ =>
     cases fl₂ with
     | ret r =>
      obtain ⟨rfl,h',tk,rfl,hS',hk'⟩:=hr₂
      repeat (any_goals (first | assumption | wp_step))
      exact h _ _ hS' hk'
     | _=>exact hr₂.elim
  | _=>exact hr.elim
end
end PV
set_option linter.all false
set_option Elab.async false
set_option maxRecDepth 100000
set_option maxHeartbeats 4000000
namespace PV
open PySem PySem.Spec PyProof.Rows
open L2 (V Hp HO Vals SqL SqT Same upd Cx PE PT PW PA PS PSs TE TT TA TS Inv RelV Jd Yd Ze Un)
theorem ZgD {F A B:Hp}(s:Same A B):Same (cut F B) (cut F A):=fun b o h=>by
 unfold cut at h ⊢
 split at h
 ·rename_i hn;rw [s.free hn];exact h
 ·cases h
theorem ZhP {K:PySem.W.Frag}{H H':Hp}:∀ {ds:List D} {vs:List V},ds.all J2=true→Reps K H ds vs→Zh H' ds vs
 | [],vs,_,h=>by simp only [Reps,Zh] at h ⊢;exact h
 | d::ds,vs,hs,h=>by
  simp only [Reps,Zh] at h ⊢
  rw [List.all_cons,Bool.and_eq_true] at hs
  obtain ⟨v,r,rfl,h2,h3⟩:=h
  refine ⟨v,r,rfl,?_,ZhP hs.2 h3⟩
  have h1:=hs.1
  cases d <;> simp_all [Rep,RepN,J2]
noncomputable def tN (K:PySem.W.Frag) (f:Ex):TE:=fun σ H Q=>∃ BF BH F env L d,SOk K BF BH F H σ env L∧f env=some d∧∀ v F' H',Ext F H F' H'→RepN (cut F' BH) d v→Q v H'
noncomputable def tW (K:PySem.W.Frag) (f:Ex):TE:=fun σ H Q=>∃ BF BH F env L d,SOk K BF BH F H σ env L∧f env=some d∧∀ v F' H',Ext F H F' H'→RepN (cut F' H) d v→Q v H'
structure PDn (X:Cx)(e:Expr)(f:Ex):Prop where
 h:PE X e (tN X.K f)
structure PDw (X:Cx)(e:Expr)(f:Ex):Prop where
 h:PE X e (tW X.K f)
noncomputable def rN:RetP:=fun BH F' H' d v=>RepN (cut F' BH) d v
theorem Zc4:∀ BH F' H',rN BH F' H' .non .non:=fun _ _ _=>by simp [rN,RepN]
section
variable {X:Cx} {m m1 m2:Md} {r:RetP} {a b e:Expr} {es:List Expr} {f g:Ex} {fs:List Ex} {pos pos' p p2:Pos}
theorem PDw.n (h:PDw X e f):PDn X e f:=⟨PE.of h.h fun σ H Q ⟨BF,BH,F,env,L,d,S,e,q⟩=>⟨BF,BH,F,env,L,d,S,e,fun v F' H' z r=>q v F' H' z (RepN.mono (ZgD S.s0) _ _ r)⟩⟩
theorem PDn.d (h:PDn X e f):PD X .k e f:=PD.mk <| PE.of h.h fun σ H Q ⟨BF,BH,F,env,L,d,S,e,q⟩=>⟨BF,BH,F,env,L,d,S,e,fun v F' H' z r=>q v F' H' z (RepN.rep _ _ (RepN.mono ZbH _ _ r))⟩
theorem Zgq (i:Nat) {x:Str} (hN:X.N[i]?=some x:=by kernel_rfl) (hv:visB X.env.scope x=true:=by kernel_rfl) (hd:(x == ("__debug__":Str))=false:=by kernel_rfl)
  (hcd:(x == ("__classdict__":Str))=false:=by kernel_rfl):PDn X (.Name x pos) (ZdN i):=⟨PE.of (L2.JW hN (JK hv) hd hcd) fun σ H Q hh_=>el9 hh_ fun BF BH F env L d S e q=>by
 unfold ZdN at e
 cases he:env[i]? with
 | none=>rw [he] at e;cases e
 | some s =>
  rw [he] at e
  obtain ⟨ov,h1,h2⟩:=S.sl i s he
  cases s with
  | fr d'=>cases e;obtain ⟨v,rfl,r⟩:=h2;exact ⟨v,h1,q v F H (.refl S.fh) r⟩
  | sh d'=>cases e
  | un=>cases e
  | ow _=>cases e
  | tab _=>cases e
  | dc _=>cases e
  | nw _=>cases e
  | jk _=>cases e
  | jl _=>cases e
  | xc _=>cases e⟩
theorem Zlq (nd:X.N.Nodup)(i:Nat){x:Str}(ha:PDn X e f)(hi:X.N[i]?=some x:=by kernel_rfl)(hx:locB X.env.scope x=true:=by kernel_rfl)(hs:swapsWith e (some (.Name x pos')) pos.line X.env=pure false:=by rfl)
  (hf:fnB X x=true:=by kernel_rfl):PS1 X r (.Assign [.Name x pos'] e pos) (ZeG i f) :=
 PS1.mk <| PS.of (L2.Zch nd hi (Zai hx) ha.h hs (ZaP hf)) fun D0 σ H hh_=>el10 hh_ fun BF BH F env L o env' S e k=>by
  unfold ZeG at e
  split at e
  ·rename_i d h1
   cases e
   exact ⟨BF,BH,F,env,L,d,S,h1,fun v F' H' z r=>k F' H' _ _ ((S.ext z).set (l:=[]) i ⟨v,rfl,r⟩ (fun a h=>by cases h) (fun a h=>by cases h)) z.ff⟩
  ·cases e
theorem Zbg (ha:PDn X e f):PS1 X rN (.Return (some e) pos) (sRet f):=PS1.mk <| PS.of (L2.Ze3 ha.h) fun D0 σ H hh_=>el10 hh_ fun BF BH F env L o env' S e k=>by
 unfold sRet at e
 split at e
 ·rename_i d h1
  cases e
  exact ⟨BF,BH,F,env,L,d,S,h1,fun v F' H' z r=>k F' H' σ L (S.ext z) z.ff v r⟩
 ·cases e
theorem ZbG {k:Nat} {x:Str} {φ:List D→Option D} (G:Cal X.prog X.w X.K X.mg X.base k x rN φ) (hr:L2.Room k X.A) (ha:PAd X .k (e::es) fs) (hg:X.env.kindOf x=some .globalImplicit:=by kernel_rfl) (hdb:(x == ("__debug__":Str))=false:=by kernel_rfl)
  (hn:nst e=true:=by rfl) (hns:nsts es=true:=by rfl):PDw X (.Call (.Name x p) (e::es) [] pos) (Yc φ fs) :=
 ⟨PE.of (Zeg G hr ha hg hdb (Yi hn) (ZaC hns)) fun σ H Q ⟨BF,BH,F,env,L,d,S,e,q⟩ =>
  ⟨BF,BH,F,env,L,d,S,e,fun v F' H' H0 s0 s1 z r=>q v F' H' z (RepN.mono (ZgD s1) _ _ r)⟩⟩
theorem Zbt:∀ {ns:List Int} {us:List Value},Vals (ns.map V.int) us→IntsAre us ns
 | [],_,h=>by cases h;exact .nil
 | n::ns,_,h=>by
  cases h with
  | cons h1 h2=>obtain ⟨t,rfl⟩:=h1;exact .cons n t (Zbt h2)
theorem ints_of:∀ {xs:List D} {ns:List Int},JC xs=some ns→xs=ns.map D.int
 | [],ns,h=>by simp only [JC] at h;cases h;rfl
 | .int i::xs,ns,h=>by
  simp only [JC] at h
  split at h
  ·rename_i r hr;cases h;rw [ints_of hr];rfl
  ·cases h
 | .non::_,_,h=>by simp [JC] at h
 | .bl _::_,_,h=>by simp [JC] at h
 | .str _::_,_,h=>by simp [JC] at h
 | .lst _::_,_,h=>by simp [JC] at h
 | .tup _::_,_,h=>by simp [JC] at h
 | .dct _::_,_,h=>by simp [JC] at h
theorem Ze5 {K:PySem.W.Frag}{H:Hp}:∀ {ns:List Int} {vs:List V},Reps K H (ns.map D.int) vs→vs=ns.map V.int
 | [],vs,h=>by simpa [Reps] using h
 | n::ns,vs,h=>by
  simp only [List.map_cons,Reps] at h
  obtain ⟨v,r,rfl,h2,h3⟩:=h
  rw [Jq h2,Ze5 h3,List.map_cons]
end
end PV
set_option linter.all false
set_option Elab.async false
set_option maxRecDepth 100000
set_option maxHeartbeats 4000000
namespace PV
open PySem PySem.W PyProof.Rows
section
variable {n:Nat} {key:Nat→List Int}
noncomputable def Kp (key:Nat→List Int) (p:Array Nat) (i:Nat):List Int:=key (p.getD i 0)
noncomputable def Upp (key:Nat→List Int) (p:Array Nat) (m:Nat):Prop:=∀ i j,i≤j→j < m→leL (Kp key p i) (Kp key p j)
noncomputable def Dwn (key:Nat→List Int) (p:Array Nat) (m:Nat):Prop:=∀ i j,i≤j→j < m→leL (Kp key p j) (Kp key p i)
structure Val (n:Nat)(p:Array Nat):Prop where
 sz:p.size=n
 pm:p.toList.Perm (List.range n)
end
section
variable {n:Nat} {key:Nat→List Int} {cmp:Nat→Nat→(Bool→Shared→Prop)→Shared→Prop} {P:Shared→Prop}
variable (hc:∀ i j,i < n→j < n→∀ (C:Bool→Shared→Prop) s,P s→(∀ s',P s'→C (ltL (key i) (key j)) s')→cmp i j C s)
include hc
end
end PV
set_option linter.all false
set_option Elab.async false
set_option maxRecDepth 100000
set_option maxHeartbeats 4000000
namespace PV
open PySem PySem.W PyProof.Rows PySem.MeetsSeq PySem.MeetsSeq3
section
variable {prog:Program} {w:World} {A:Around} {E:Value→Shared→Prop} {s:Shared}
noncomputable def Zm6 (h:Heap) (a:Addr) (ns:List Int):Prop:=∃ vs,h.IsList a vs∧IntsAre vs.toList ns
end
end PV
set_option linter.all false
set_option Elab.async false
set_option maxRecDepth 100000
set_option maxHeartbeats 4000000
namespace PV
open PySem PySem.W PyProof.Rows
section
variable {prog:Program} {w:World} {A:Around} {E:Value→Shared→Prop} {s:Shared}
noncomputable def ZnB (h:Heap) (vs:List Value) (rs:List (List Int)):Prop:=vs.length=rs.length∧∀ i,i < vs.length→∃ b,vs.getD i .none=.ref b∧Zm6 h b (rs.getD i [])
end
end PV
set_option linter.all false
set_option Elab.async false
set_option maxRecDepth 100000
set_option maxHeartbeats 4000000
namespace PV
open PySem PySem.Spec PyProof.Rows
open L2 (V Hp HO Vals SqL SqT Same upd Cx PE PT PW PA PS PSs TE TT TA TS Inv RelV Jd Yd Ze Un)
noncomputable def tNL (K:PySem.W.Frag) (f:Ex):TE:=fun σ H Q=>∃ BF BH F env L ds,SOk K BF BH F H σ env L∧f env=some (.lst ds) ∧
 ∀ a vs F' H',Ext F H F' H'→H a=none→H' a=some (.lst vs)→F' a=none→Zh (cut F' BH) ds vs→Q (.ref a) H'
structure PDl (X:Cx)(e:Expr)(f:Ex):Prop where
 h:PE X e (tNL X.K f)
theorem Zk3 {f:Ex}{env:Env}{d:D}(h:eFl f env=some d):∃ ds,f env=some (.lst ds)∧d=.lst ds∧ds.all J2=true:=by
 unfold eFl at h
 split at h
 ·rename_i ds e
  split at h
  ·rename_i hs;cases h;exact ⟨ds,e,rfl,hs⟩
  ·cases h
 ·cases h
theorem ZaH {H:Hp}{l:List Addr}{b:Addr}{o:HO}(q:hpL H l b=some o):b ∈ l:=by
 unfold hpL at q
 split at q
 ·assumption
 ·cases q
section
variable {X:Cx} {m m1 m2:Md} {r:RetP} {a b e:Expr} {es:List Expr} {f g:Ex} {fs:List Ex} {t:Tx} {pos pos' p p2:Pos}
theorem PDo.fl (h:PDo X m e f):PDw X e (eFl f):=⟨PE.of h fun σ H Q hh_=>el9 hh_ fun BF BH F env L d S e q=>by
 obtain ⟨ds,e1,rfl,hs⟩:=Zk3 e
 refine ⟨BF,BH,F,env,L,ds,S,e1,fun a vs F' H' z h0 h1 h2 r=>?_⟩
 have y:Ext F H (upd F' a (.lst vs)) H':=z.frz h0 h1 h2
 refine q _ _ H' y ?_
 simp only [RepN]
 exact ⟨a,vs,rfl,by rw [Zcn h0];exact Jd,ZhP hs r⟩⟩
theorem ZiJ:PDl X (.List [] pos) (eLst []):=⟨PE.of (Y7 (m:=.k) (pos:=pos) (X:=X) Jc) fun σ H Q hh_=>el9 hh_ fun BF BH F env L ds S e q=>by
 refine ⟨BF,BH,F,env,L,ds,S,e,fun a vs F' H' z h0 h1 h2 r=>q a vs F' H' z h0 h1 h2 ?_⟩
 cases e
 simp only [Reps,Zh] at r ⊢
 exact r⟩
theorem Zl8 {K:PySem.W.Frag}{BF BH F F' H H':Hp}{σ:L2.St}{env:Env}{L:Nat→List Addr}(S:SOk K BF BH F H σ env L)(z:Ext F H F' H')(i:Nat){p:Addr}{vs:List V}{ds:List D}(h0:H p=none)(h1:H' p=some (.lst vs))(h2:F' p=none)(r:Zh (cut F' BH) ds vs) :
  SOk K BF BH F' H' (σ.set i (some (.ref p))) (env.set i (.nw ds)) (putL L i [p]) :=
 (S.ext z).set i ⟨p,vs,rfl,rfl,h1,r⟩ (fun a h=>by
  rw [List.mem_singleton] at h;subst h
  exact ⟨h2,S.s0.free h0,by rw [h1];simp⟩) (fun a h j hj hm=>by
  rw [List.mem_singleton] at h;subst h
  exact (S.ow j a hm).2.2 h0)
theorem ZiO (nd:X.N.Nodup)(i:Nat){x:Str}(ha:PDl X e f)(hi:X.N[i]?=some x:=by kernel_rfl)(hx:locB X.env.scope x=true:=by kernel_rfl)(hs:swapsWith e (some (.Name x pos')) pos.line X.env=pure false:=by rfl)
  (hf:fnB X x=true:=by kernel_rfl):PS1 X r (.Assign [.Name x pos'] e pos) (sNew i f) :=
 PS1.mk <| PS.of (L2.Zch nd hi (Zai hx) ha.h hs (ZaP hf)) fun D0 σ H hh_=>el10 hh_ fun BF BH F env L o env' S e k=>by
  unfold sNew at e
  split at e
  ·rename_i ds h1
   cases e
   exact ⟨BF,BH,F,env,L,ds,S,h1,fun p vs F' H' z h0 h2 h3 r=>k F' H' _ _ (Zl8 S z i h0 h2 h3 r) z.ff⟩
  ·cases e
theorem Znp {K:PySem.W.Frag}{BF BH F H:Hp}{σ:L2.St}{env:Env}{L:Nat→List Addr}(S:SOk K BF BH F H σ env L){i:Nat}{ds:List D}(h:env[i]?=some (.nw ds)):∃ p vs,σ[i]?=some (some (.ref p))∧L i=[p]∧H p=some (.lst vs)∧Zh (cut F BH) ds vs:=by
 obtain ⟨ov,h1,h2⟩:=S.sl i _ h
 obtain ⟨p,vs,rfl,h3,h4,h5⟩:=h2
 exact ⟨p,vs,h1,h3,h4,h5⟩
theorem ZfI {H:Hp}:∀ {ds es:List D} {vs ws:List V},Zh H ds vs→Zh H es ws→Zh H (ds++es) (vs++ws)
 | [],es,vs,ws,h,k=>by simp only [Zh] at h;subst h;exact k
 | d::ds,es,vs,ws,h,k=>by
  simp only [Zh] at h
  obtain ⟨v,r,rfl,h2,h3⟩:=h
  show Zh H (d::(ds++es)) (v::(r++ws))
  simp only [Zh]
  exact ⟨v,_,rfl,h2,ZfI h3 k⟩
theorem Zh.len {H:Hp}:∀ {ds:List D} {vs:List V},Zh H ds vs→ds.length=vs.length
 | [],vs,h=>by simp only [Zh] at h;subst h;rfl
 | d::ds,vs,h=>by
  simp only [Zh] at h
  obtain ⟨v,r,rfl,h2,h3⟩:=h
  simp [h3.len]
theorem ZhQ (i:Nat) {x:Str} {p1 p2 p3 p4:Pos} (ha:PDn X e f) (hN:X.N[i]?=some x:=by kernel_rfl) (hv:visB X.env.scope x=true:=by kernel_rfl) (hd:(x == ("__debug__":Str))=false:=by kernel_rfl)
  (hcd:(x == ("__classdict__":Str))=false:=by kernel_rfl) (hst:nst e=true:=by rfl)
  (hbase:attributeBase (.Name x p1) "append" X.env (eval (.Name x p1) X.env)=eval (.Name x p1) X.env:=by rfl)
  (hline:(p2.endLine == p3.line)=true:=by rfl)
  (hsw:swapsWith (.Call (.Attribute (.Name x p1) "append" p2) [e] [] p3) none p4.line X.env=pure false:=by rfl) :
  PS1 X r (.Expr (.Call (.Attribute (.Name x p1) "append" p2) [e] [] p3) p4) (ZcJ i f) :=
 PS1.mk <| PS.of (L2.Zcu (L2.Zdy PySem.F.plainAttrs_list PySem.F.slot_list_append PySem.F.type_list_append L2.Zb9 (L2.JW hN (JK hv) hd hcd) (L2.Zt ha.h L2.ZJ (Zw hst)) hbase (by rw [ZaB (Za9 hst)];rfl) hline (Yi hst) rfl) hsw) fun D0 σ H hh_=>el10 hh_ fun BF BH F env L o env' S e k=>by
  unfold ZcJ at e
  split at e
  ·rename_i ds d he h1
   split at e
   ·rename_i hlen
    cases e
    obtain ⟨p,vs,hσ,hl,hp,rr⟩:=Znp S he
    refine ⟨_,hσ,ZeI hp,BF,BH,F,env,L,d,S,h1,fun v F' H' z rv=>?_⟩
    have S':=S.ext z
    have r':Zh (cut F' BH) (ds++[d]) (vs++[v]):=ZfI (Zh.mono (Zbb z.ff) _ _ rr) (by simp only [Zh];exact ⟨v,[],rfl,rv,rfl⟩)
    refine ⟨p,vs,v,rfl,rfl,z.hh _ _ hp,by rw [← rr.len];exact Nat.lt_of_lt_of_le hlen ZcY,?_⟩
    refine k F' _ σ L (S'.own (i:=i) (a:=p) (by rw [hl];simp) _ fun s ov h1 h2 h3=>?_) z.ff
    rw [hσ] at h2;cases h2
    exact ⟨p,_,rfl,hl,Jd,r'⟩
   ·cases e
  ·cases e
mutual
theorem ZeT {H:Hp}:∀ (d:D) (v:V),RepN H d v→∃ l:List Addr,RepN (hpL H l) d v∧∀ x ∈ l,H x≠none
 | .non,v,h=>⟨[],by simp only [RepN] at h ⊢;exact h,by simp⟩
 | .bl _,v,h=>⟨[],by simp only [RepN] at h ⊢;exact h,by simp⟩
 | .int _,v,h=>⟨[],by simp only [RepN] at h ⊢;exact h,by simp⟩
 | .str _,v,h=>⟨[],by simp only [RepN] at h ⊢;exact h,by simp⟩
 | .lst ds,v,h=>by
  simp only [RepN] at h
  obtain ⟨a,vs,rfl,h2,h3⟩:=h
  obtain ⟨l,h4,h5⟩:=Zcg ds vs h3
  refine ⟨a::l,?_,fun x hx=>?_⟩
  ·simp only [RepN]
   exact ⟨a,vs,rfl,by rw [ZbN List.mem_cons_self];exact h2,Zh.mono (fun b o q=>by
    have hb:b ∈ l:=ZaH q
    rw [ZbN (List.mem_cons_of_mem _ hb)];exact ZaJ b o q) _ _ h4⟩
  ·rcases List.mem_cons.mp hx with rfl | hx
   ·rw [h2];simp
   ·exact h5 x hx
 | .tup ds,v,h=>by
  simp only [RepN] at h
  obtain ⟨a,vs,rfl,h2,h3⟩:=h
  obtain ⟨l,h4,h5⟩:=Zcg ds vs h3
  refine ⟨a::l,?_,fun x hx=>?_⟩
  ·simp only [RepN]
   exact ⟨a,vs,rfl,by rw [ZbN List.mem_cons_self];exact h2,Zh.mono (fun b o q=>by
    have hb:b ∈ l:=ZaH q
    rw [ZbN (List.mem_cons_of_mem _ hb)];exact ZaJ b o q) _ _ h4⟩
  ·rcases List.mem_cons.mp hx with rfl | hx
   ·rw [h2];simp
   ·exact h5 x hx
 | .dct kvs,v,h=>by
  simp only [RepN] at h
  obtain ⟨a,o,rfl,h2⟩:=h
  refine ⟨[a],?_,fun x hx=>?_⟩
  ·simp only [RepN]
   exact ⟨a,o,rfl,by rw [ZbN List.mem_cons_self];exact h2⟩
  ·rw [List.mem_singleton] at hx;subst hx;rw [h2];simp
theorem Zcg {H:Hp}:∀ (ds:List D) (vs:List V),Zh H ds vs→∃ l:List Addr,Zh (hpL H l) ds vs∧∀ x ∈ l,H x≠none
 | [],vs,h=>⟨[],by simp only [Zh] at h ⊢;exact h,by simp⟩
 | d::ds,vs,h=>by
  simp only [Zh] at h
  obtain ⟨v,r,rfl,h2,h3⟩:=h
  obtain ⟨l1,a1,b1⟩:=ZeT d v h2
  obtain ⟨l2,a2,b2⟩:=Zcg ds r h3
  have up:∀ l,(∀ x ∈ l,x ∈ l1++l2)→Same (hpL H l) (hpL H (l1++l2)):=fun l hl b o q=>by
   have hb:b ∈ l:=ZaH q
   rw [ZbN (hl b hb)];exact ZaJ b o q
  refine ⟨l1++l2,?_,fun x hx=>(List.mem_append.mp hx).elim (b1 x) (b2 x)⟩
  simp only [Zh]
  exact ⟨v,r,rfl,RepN.mono (up l1 fun x hx=>List.mem_append_left _ hx) _ _ a1,Zh.mono (up l2 fun x hx=>List.mem_append_right _ hx) _ _ a2⟩
end
theorem Zm9 (nd:X.N.Nodup)(i:Nat){x:Str}(ha:PDw X e f)(hi:X.N[i]?=some x:=by kernel_rfl)(hx:locB X.env.scope x=true:=by kernel_rfl)(hs:swapsWith e (some (.Name x pos')) pos.line X.env=pure false:=by rfl)
  (hf:fnB X x=true:=by kernel_rfl):PS1 X r (.Assign [.Name x pos'] e pos) (sJk i f) :=
 PS1.mk <| PS.of (L2.Zch nd hi (Zai hx) ha.h hs (ZaP hf)) fun D0 σ H hh_=>el10 hh_ fun BF BH F env L o env' S e k=>by
  unfold sJk at e
  split at e
  ·rename_i d h1
   cases e
   refine ⟨BF,BH,F,env,L,d,S,h1,fun v F' H' z rv=>?_⟩
   obtain ⟨l,rl,hl⟩:=ZeT d v rv
   have cut':∀ a ∈ l,H a=none∧F' a≠none:=fun a ha=>by
    have:=hl a ha
    unfold cut at this
    cases hq:H a with
    | none=>rw [hq] at this;exact ⟨rfl,this⟩
    | some o=>rw [hq] at this;exact absurd rfl this
   let F2:Hp:=fun b=>if b ∈ l then none else F' b
   have sub:∀ b o,F2 b=some o→F' b=some o:=fun b o hb=>by
    have hb':(if b ∈ l then none else F' b)=some o:=hb
    split at hb'
    ·cases hb'
    ·exact hb'
   have fsame:Same F F2:=fun b o hb=>by
    have hne:b ∉ l:=fun hm=>by rw [S.fh.free (cut' b hm).1] at hb;cases hb
    show (if b ∈ l then none else F' b)=some o
    rw [if_neg hne];exact z.ff b o hb
   have z2:Ext F H F2 H':=⟨z.hh,fsame,fun b o hb=>z.dm b o (sub b o hb),fun b o hb=>z.fh b o (sub b o hb)⟩
   refine k F2 H' _ _ ((S.ext z2).set (l:=l) i ⟨v,rfl,RepN.mono (fun b o q=>?_) _ _ rl⟩ (fun a ha=>⟨if_pos ha,S.s0.free (cut' a ha).1,fun hn=>?_⟩) (fun a ha j hj hm=>(S.ow j a hm).2.2 (cut' a ha).1)) fsame
   ·have hb:b ∈ l:=ZaH q
    rw [ZbN hb]
    exact z.fh b o (ZbH b o (ZaJ b o q))
   ·cases hq:F' a with
    | none=>exact (cut' a ha).2 hq
    | some o=>have:=z.fh a o hq;rw [hn] at this;cases this
  ·cases e
theorem ZmD (i:Nat)(h:PTd X e t):PTd X e (tFrz i t):=PT.of h fun σ H Q hh_=>el9 hh_ fun BF BH F env L b S e q=>by
 unfold tFrz at e
 split at e
 ·rename_i d he
  have S':=S.frz i (s':=.sh d) he fun ov _ h ff=>by
   obtain ⟨v,rfl,r⟩:=h
   refine ⟨v,rfl,RepN.rep _ _ (RepN.mono (fun b o q=>?_) _ _ r)⟩
   have hb:b ∈ L i:=ZaH q
   rw [Zag hb];exact ZaJ b o q
  exact ⟨BF,BH,_,_,_,b,S',e,fun F' H' z=>q F H' ⟨z.hh,.refl _,fun _ _ h=>.inl h,S.fh.trans z.hh⟩⟩
 ·cases e
end
end PV
set_option linter.all false
set_option Elab.async false
set_option maxRecDepth 100000
set_option maxHeartbeats 4000000
namespace PV
open PySem PySem.Spec PyProof.Rows
open L2 (V Hp HO Vals SqL SqT Same upd Cx PE PT PW PA PS PSs TE TT TA TS Inv RelV Jd Yd Ze Un)
theorem ZkG {H:Hp}:∀ {ds:List D} {vs:List V},ds.all J2=true→Zh H ds vs→∀ v ∈ vs,∀ p,v≠.ref p
 | [],vs,_,h,v,hv,p=>by simp only [Zh] at h;subst h;simp at hv
 | d::ds,vs,hs,h,v,hv,p=>by
  simp only [Zh] at h
  obtain ⟨w,r,rfl,h2,h3⟩:=h
  rw [List.all_cons,Bool.and_eq_true] at hs
  rcases List.mem_cons.mp hv with rfl | hv
  ·have h1:=hs.1
   intro e
   subst e
   cases d <;> simp_all [RepN,J2]
  ·exact ZkG hs.2 h3 v hv p
theorem Zjr {d:D}(h:ZdG d=true):∃ r,d=.lst r∧r.all J2=true∧r.length < lim:=by
 cases d with
 | lst r=>simp only [ZdG,Bool.and_eq_true,decide_eq_true_eq] at h;exact ⟨r,rfl,h.1,h.2⟩
 | _=>simp [ZdG] at h
section
variable {X:Cx} {m m1 m2:Md} {r:RetP} {a b e:Expr} {es:List Expr} {f g:Ex} {fs:List Ex} {t:Tx} {pos pos' p p2:Pos}
theorem Znz {K:PySem.W.Frag}{BF BH F H:Hp}{σ:L2.St}{env:Env}{L:Nat→List Addr}(S:SOk K BF BH F H σ env L){i:Nat}{ds:List D}(h:env[i]?=some (.jk (.lst ds))):∃ p vs,σ[i]?=some (some (.ref p))∧p ∈ L i∧H p=some (.lst vs)∧Zh (hpL H (L i)) ds vs:=by
 obtain ⟨ov,h1,h2⟩:=S.sl i _ h
 obtain ⟨v,rfl,h3⟩:=h2
 simp only [RepN] at h3
 obtain ⟨a,vs,rfl,h4,h5⟩:=h3
 exact ⟨a,vs,h1,ZaH h4,ZaJ _ _ h4,h5⟩
theorem ZjV (i:Nat) {x:Str} {k:Int} {j1 j2} {p1 p2 p3 p4 p5 p6 p7:Pos} (hN:X.N[i]?=some x:=by kernel_rfl) (hv:visB X.env.scope x=true:=by kernel_rfl) (hd:(x == ("__debug__":Str))=false:=by kernel_rfl)
  (hcd:(x == ("__classdict__":Str))=false:=by kernel_rfl)
  (hbase:attributeBase (.Subscript (.Name x p1) (.Constant (.int 0) j1 p5) p6) "append" X.env (eval (.Subscript (.Name x p1) (.Constant (.int 0) j1 p5) p6) X.env)=eval (.Subscript (.Name x p1) (.Constant (.int 0) j1 p5) p6) X.env:=by rfl)
  (hline:(p2.endLine == p3.line)=true:=by rfl)
  (hsw:swapsWith (.Call (.Attribute (.Subscript (.Name x p1) (.Constant (.int 0) j1 p5) p6) "append" p2) [.Constant (.int k) j2 p7] [] p3) none p4.line X.env=pure false:=by rfl) :
  PS1 X r (.Expr (.Call (.Attribute (.Subscript (.Name x p1) (.Constant (.int 0) j1 p5) p6) "append" p2) [.Constant (.int k) j2 p7] [] p3) p4) (Zdo i k) :=
 PS1.mk <| PS.of (L2.Zcu (L2.Zdy PySem.F.plainAttrs_list PySem.F.slot_list_append PySem.F.type_list_append L2.Zb9 (L2.Zii L2.Zjo (L2.JW hN (JK hv) hd hcd) L2.ZgF (fun _ _=>rfl)) (L2.Zt L2.ZgF L2.ZJ (Zw rfl)) hbase (by rw [ZaB (Za9 rfl)];rfl) hline (Yi rfl) rfl) hsw) fun D0 σ H hh_=>el10 hh_ fun BF BH F env L o env' S e kk=>by
  unfold Zdo at e
  split at e
  ·rename_i r0 ds he
   split at e
   ·rename_i hc
    cases e
    obtain ⟨p,vs,hσ,hm,hp,rr⟩:=Znz S he
    simp only [Zh] at rr
    obtain ⟨v0,vr,rfl,h0,hr⟩:=rr
    obtain ⟨r1,rfl,hsc,hlen⟩:=Zjr hc.1
    simp only [RepN] at h0
    obtain ⟨p0,w0,rfl,hp0,rw0⟩:=h0
    have hp0':=ZaJ _ _ hp0
    have hm0:=ZaH hp0
    have hne:p≠p0:=fun e=>by
     rw [← e,hp] at hp0'
     cases hp0'
     exact ZkG hsc rw0 (.ref p0) List.mem_cons_self p0 rfl
    have l0:w0.length < sizeLine:=by rw [← rw0.len];exact Nat.lt_of_lt_of_le hlen ZcY
    have S':=S.own (i:=i) (a:=p0) hm0 (HO.lst (w0++[.int k])) (s':=.jl (ds.length + 1)) fun s ov h1 h2 h3=>by
     rw [hσ] at h2;cases h2
     exact ⟨p,_,rfl,hm,by rw [Yd hne];exact hp,by rw [List.length_cons,← hr.len];exact Nat.le_refl _⟩
    refine ⟨_,hσ,.inl ⟨p,_,0,.ref p0,rfl,rfl,.inl (.inl hp),by simp [L2.atI,L2.ixN],?_⟩⟩
    exact ⟨ZeI hp0',p0,w0,.int k,rfl,rfl,hp0',l0,kk F _ σ L S' (.refl _)⟩
   ·cases e
  ·cases e
end
end PV
set_option Elab.async false
set_option linter.all false
set_option maxRecDepth 100000
namespace L2
open PySem PySem.Spec PyProof.Rows
section
variable {κ:Type} [DecidableEq κ]
noncomputable def valV (kvs:List (κ × V)) (k:κ):Option V:=(kvs.find? fun kv=>decide (kv.1=k)).map (·.2)
noncomputable def putK (kvs:List (κ × V)) (k:κ) (v:V):List (κ × V) :=
 if (kvs.any fun kv=>decide (kv.1=k))=true then kvs.map (fun kv=>if kv.1=k then (kv.1,v) else kv) else kvs++[(k,v)]
noncomputable def ZnC (kvs:List (κ × V)) (k:κ):List (κ × V):=kvs.filter fun kv=>decide (kv.1≠k)
theorem Zew {p:κ × V}{r:List (κ × V)}{k:κ}(e:p.1=k):valV (p::r) k=some p.2:=by simp [valV,List.find?_cons,e]
theorem Zeh {p:κ × V}{r:List (κ × V)}{k:κ}(e:¬ p.1=k):valV (p::r) k=valV r k:=by simp [valV,List.find?_cons,e]
theorem ZgJ (k:κ):∀ kvs:List (κ × V),(kvs.any fun kv=>decide (kv.1=k))=(valV kvs k).isSome
 | []=>rfl
 | p::r=>by
  rw [List.any_cons]
  by_cases e:p.1=k
  ·simp only [Zew e,decide_eq_true e,Bool.true_or,Option.isSome_some]
  ·rw [Zeh e,decide_eq_false e,Bool.false_or];exact ZgJ k r
theorem Zcf (kvs:List (κ × V))(k:κ)(v:V):(putK kvs k v).length≤kvs.length + 1:=by
 unfold putK
 split
 ·rw [List.length_map];omega
 ·rw [List.length_append,List.length_cons,List.length_nil];omega
theorem RelO.Zdb {o:Option V}{u:Option Value}(r:RelO o u):o.isSome=u.isSome:=by
 cases o with
 | none=>cases u with
  | none=>rfl
  | some _=>exact (show False from r).elim
 | some _=>cases u with
  | none=>exact (show False from r).elim
  | some _=>rfl
theorem RelO.getD {o:Option V}{u:Option Value}{d:V}{d':Value}(r:RelO o u)(rd:RelV d d'):RelV (o.getD d) (u.getD d'):=by
 cases o with
 | none=>cases u with
  | none=>exact rd
  | some _=>exact (show False from r).elim
 | some _=>cases u with
  | none=>exact (show False from r).elim
  | some _=>exact r
theorem KV.val {kvs:List (κ × V)}{vs:List (κ × Value)}(r:KV kvs vs)(k:κ):RelO (valV kvs k) (valueAt vs k):=by
 unfold KV at r
 induction r with
 | nil=>exact True.intro
 | @cons p q ps qs h t ih =>
  obtain ⟨h1,h2⟩:=h
  by_cases e:p.1=k
  ·have e':q.1=k:=h1.symm.trans e
   have b:valueAt (q::qs) k=some q.2:=by simp [valueAt,List.find?_cons,e']
   rw [Zew e,b];exact h2
  ·have e':¬ q.1=k:=fun z=>e (h1.trans z)
   have b:valueAt (q::qs) k=valueAt qs k:=by simp [valueAt,List.find?_cons,e']
   rw [Zeh e,b];exact ih
theorem KV.any {kvs:List (κ × V)}{vs:List (κ × Value)}(r:KV kvs vs)(k:κ):(kvs.any fun kv=>decide (kv.1=k))=vs.any fun kv=>decide (kv.1=k):=by
 unfold KV at r
 induction r with
 | nil=>rfl
 | cons h t ih=>rw [List.any_cons,List.any_cons,ih,h.1]
theorem KV.repl {kvs:List (κ × V)}{vs:List (κ × Value)}(r:KV kvs vs)(k:κ){y:V}{u:Value}(ry:RelV y u) :
  KV (kvs.map fun kv=>if kv.1=k then (kv.1,y) else kv) (vs.map fun kv=>if kv.1=k then (kv.1,u) else kv):=by
 unfold KV at r ⊢
 induction r with
 | nil=>exact .nil
 | @cons p q ps qs h t ih =>
  rw [List.map_cons,List.map_cons]
  refine .cons ?_ ih
  obtain ⟨h1,h2⟩:=h
  by_cases e:p.1=k
  ·rw [if_pos e,if_pos (h1.symm.trans e)];exact ⟨h1,ry⟩
  ·rw [if_neg e,if_neg (fun z=>e (h1.trans z))];exact ⟨h1,h2⟩
theorem KV.put {kvs:List (κ × V)}{vs:List (κ × Value)}(r:KV kvs vs)(k:κ){y:V}{u:Value}(ry:RelV y u):KV (putK kvs k y) (stored vs k u):=by
 unfold putK stored
 rw [r.any k]
 by_cases e:(vs.any fun kv=>decide (kv.1=k))=true
 ·rw [if_pos e,if_pos e];exact r.repl k ry
 ·rw [if_neg e,if_neg e];exact Paired.snoc r ⟨rfl,ry⟩
theorem KV.keys {kvs:List (κ × V)}{vs:List (κ × Value)}(r:KV kvs vs):kvs.map (·.1)=vs.map (·.1):=by
 unfold KV at r
 induction r with
 | nil=>rfl
 | cons h t ih=>rw [List.map_cons,List.map_cons,ih,h.1]
theorem KV.length {kvs:List (κ × V)}{vs:List (κ × Value)}(r:KV kvs vs):kvs.length=vs.length:=Paired.length r
end
theorem ZdD {P:Program}{w:World}{k:Key}{u:Value}(r:RelV (kV k) u):(Jv P w).is k u=true:=by
 cases k with
 | inl i=>obtain ⟨t,e⟩:=(show ∃ t,u=Value.int i t from r);subst e;exact Zhm P w i t
 | inr x=>obtain ⟨t,e⟩:=(show ∃ t,u=Value.str x t from r);subst e;exact Zhf P w x t
theorem ZfF {P:Program}{w:World}:∀ {ks:List Key} {us:List Value},Vals (ks.map kV) us→ItemsAre (Jv P w) ks us
 | [],_,r=>by rw [List.map_nil] at r;cases r;exact .nil
 | k::ks,_,r=>by
  rw [List.map_cons] at r
  cases r with
  | cons h t=>exact .cons (ZdD h) (ZfF t)
noncomputable abbrev KT (H:Hp):List (List Key × V)→List (List Key × Addr × Value)→Prop:=Paired fun p q=>p.1=q.1∧H q.2.1=some (.tup (p.1.map kV))∧RelV p.2 q.2.2
theorem KT.val {H:Hp}{kvs:List (List Key × V)}{xs:List (List Key × Addr × Value)}(r:KT H kvs xs)(k:List Key):RelO (valV kvs k) ((atKey xs k).map (·.2)):=by
 induction r with
 | nil=>exact True.intro
 | @cons p q ps qs h t ih =>
  obtain ⟨h1,_,h2⟩:=h
  by_cases e:p.1=k
  ·have e':q.1=k:=h1.symm.trans e
   have b:atKey (q::qs) k=some q.2:=by simp [atKey,List.find?_cons,e']
   rw [Zew e,b];exact h2
  ·have e':¬ q.1=k:=fun z=>e (h1.trans z)
   have b:atKey (q::qs) k=atKey qs k:=by simp [atKey,List.find?_cons,e']
   rw [Zeh e,b];exact ih
theorem KT.repl {H:Hp}{kvs:List (List Key × V)}{xs:List (List Key × Addr × Value)}(r:KT H kvs xs)(k:List Key){y:V}{u:Value}(ry:RelV y u) :
  KT H (kvs.map fun kv=>if kv.1=k then (kv.1,y) else kv) (xs.map (putAt k u)):=by
 induction r with
 | nil=>exact .nil
 | @cons p q ps qs h t ih =>
  rw [List.map_cons,List.map_cons]
  refine .cons ?_ ih
  obtain ⟨h1,h2,h3⟩:=h
  unfold putAt
  by_cases e:p.1=k
  ·rw [if_pos e,if_pos (h1.symm.trans e)];exact ⟨h1,h2,ry⟩
  ·rw [if_neg e,if_neg (fun z=>e (h1.trans z))];exact ⟨h1,h2,h3⟩
theorem KT.put {H:Hp}{kvs:List (List Key × V)}{xs:List (List Key × Addr × Value)}(r:KT H kvs xs)(k:List Key){b:Addr}{y:V}{u:Value}(hb:H b=some (.tup (k.map kV)))(ry:RelV y u) :
  KT H (putK kvs k y) (storedH xs k b u):=by
 have e:(kvs.any fun kv=>decide (kv.1=k))=(atKey xs k).isSome:=by
  rw [ZgJ,(r.val k).Zdb,Option.isSome_map]
 unfold putK storedH
 rw [e]
 by_cases q:(atKey xs k).isSome=true
 ·rw [if_pos q,if_pos q];exact r.repl k ry
 ·rw [if_neg q,if_neg q];exact Paired.snoc r ⟨rfl,hb,ry⟩
theorem KT.keeps {H H':Hp}{kvs:List (List Key × V)}{xs:List (List Key × Addr × Value)}(r:KT H kvs xs)(ht:∀ b ys,H b=some (.tup ys)→H' b=some (.tup ys)):KT H' kvs xs :=
 Paired.mapP r fun _ _ z=>⟨z.1,ht _ _ z.2.1,z.2.2⟩
section
variable {P:Program} {w:World} {H:Hp} {h:Heap} {a:Addr}
theorem ZkC {u:HO}(ok:HOk P w H h)(e:Rd H a u):Yy P w H h a u:=e.ok ok
theorem Zcb {kvs:List (Key × V)}(ok:HOk P w H h)(e:Rd H a (.dK kvs)):kvs.length≤sizeLine∧(a == sysModules)=false∧∃ vs,KV kvs vs∧h.DictOf (Jv P w) a vs :=
 show Yy P w H h a (.dK kvs) from ZkC ok e
theorem ZkB {kvs:List (Key × V)}(ok:HOk P w H h)(e:H a=some (.dK kvs)):kvs.length≤sizeLine∧(a == sysModules)=false∧∃ vs,KV kvs vs∧h.DictOf (Jv P w) a vs:=Zcb ok (.inl e)
theorem Zdc {ks:List Key}(ok:HOk P w H h)(e:H a=some (.tup (ks.map kV))):(tupleKind (Jv P w)).is h ks a:=by
 obtain ⟨_,its,r,o,h1,h2,n,h3⟩:=(show Yy P w H h a (.tup (ks.map kV)) from ok a _ e)
 exact ⟨o,its.toArray,n,h1,h2,h3,by simpa using ZfF r⟩
theorem Zdt {kvs:List (List Key × V)}(ok:HOk P w H h)(e:Rd H a (.dT kvs)):kvs.length≤sizeLine∧(a == sysModules)=false ∧
  ∃ xs,KT H kvs xs∧h.DictOfH (tupleKind (Jv P w)) a xs:=by
 obtain ⟨z,y,xs,r,o,es,ep,h1,h2,h3,h4,h5⟩:=(show Yy P w H h a (.dT kvs) from ZkC ok e)
 refine ⟨z,y,xs,r,o,es,ep,h1,h2,h3,h4,fun x hx=>?_,h5⟩
 have all:∀ {l:List (List Key × V)} {m:List (List Key × Addr × Value)},KT H l m→∀ x ∈ m,(tupleKind (Jv P w)).is h x.1 x.2.1:=by
  intro l m q
  induction q with
  | nil=>intro x hx;exact nomatch hx
  | @cons p q ps qs hq t ih =>
   intro x hx
   rcases List.mem_cons.mp hx with e | hx
   ·subst e
    exact Zdc ok (by rw [← hq.1];exact hq.2.1)
   ·exact ih x hx
 exact all r x hx
theorem Znd {kvs:List (List Key × V)}(ok:HOk P w H h)(e:H a=some (.dT kvs)):kvs.length≤sizeLine∧(a == sysModules)=false ∧
  ∃ xs,KT H kvs xs∧h.DictOfH (tupleKind (Jv P w)) a xs:=Zdt ok (.inl e)
end
noncomputable def DGet (H:Hp) (a:Addr) (y:V) (r:Option V):Prop :=
 (∃ kvs k,Rd H a (.dK kvs)∧y=kV k∧r=valV kvs k)∨∃ kvs k b,Rd H a (.dT kvs)∧y=.ref b∧H b=some (.tup (k.map kV))∧r=valV kvs k
noncomputable def DPut (H:Hp) (a:Addr) (y v:V) (H':Hp):Prop :=
 (∃ kvs k,H a=some (.dK kvs)∧y=kV k∧kvs.length < sizeLine∧H'=upd H a (.dK (putK kvs k v))) ∨
 ∃ kvs k b,H a=some (.dT kvs)∧y=.ref b∧H b=some (.tup (k.map kV))∧kvs.length < sizeLine∧H'=upd H a (.dT (putK kvs k v))
theorem DGet.k {H:Hp}{a:Addr}{kvs:List (Key × V)}{k:Key}(e:H a=some (.dK kvs)):DGet H a (kV k) (valV kvs k):=.inl ⟨kvs,k,.inl e,rfl,rfl⟩
theorem DPut.k {H:Hp}{a:Addr}{kvs:List (Key × V)}{k:Key}{v:V}(e:H a=some (.dK kvs))(hl:kvs.length < sizeLine):DPut H a (kV k) v (upd H a (.dK (putK kvs k v))):=.inl ⟨kvs,k,e,rfl,hl,rfl⟩
section
variable {X:Cx} {pins:List (Addr × Obj)} {σ:St} {H:Hp} {s:Shared} {a:Addr} {y v:V} {u r:Value} {o:Option V} {A:Around} {E:Value→Shared→Prop}
theorem Inv.big (I:Inv X pins σ H s):sysModules < s.heap.objs.size:=by
 have h:mainGlobals < s.heap.objs.size:=(I.mod.glob.keeps I.bk).lt
 exact Nat.lt_trans (by decide) h
theorem ZiX {Q:Value→Shared→Prop}(hu:A.units + 1 < cLine)(I:Inv X pins σ H s)(g:DGet H a y (some v))(ry:RelV y u)(h:∀ w' s',Inv X pins σ H s'→RelV v w'→Q w' s') :
  wpAny (model X.prog X.w) A (getItem (.ref a) u) Q E s:=by
 rcases g with ⟨kvs,k,e,ey,l⟩ | ⟨kvs,k,b,e,ey,eb,l⟩
 ·subst ey
  obtain ⟨z,hd,vs,rel,dd⟩:=Zcb I.hok e
  obtain ⟨w',hw,rw'⟩:=RelO.some_of (v:=v) (o:=valueAt vs k) (by rw [l];exact rel.val k)
  exact wpAny_getItem_of (ZdD ry) dd.mapOf hw (h w' _ (I.tok _) rw')
 ·subst ey
  cases (show u=Value.ref b from ry)
  obtain ⟨z,hd,xs,rel,dd⟩:=Zdt I.hok e
  obtain ⟨w',hw,rw'⟩:=RelO.some_of (v:=v) (o:=(atKey xs k).map (·.2)) (by rw [l];exact rel.val k)
  obtain ⟨p,hp,hp2⟩:=Option.map_eq_some_iff.mp hw
  refine wpAny_getItem_heap (tupleKind_room_in1 hu) (Zdc I.hok eb) dd hp ?_
  rw [hp2]
  exact h w' _ (I.tok _) rw'
theorem d_in {Q:Value→Shared→Prop}(hu:A.units + 1 < cLine)(I:Inv X pins σ H s)(g:DGet H a y o)(ry:RelV y u)(h:∀ s',Inv X pins σ H s'→Q (.bool o.isSome) s') :
  wpAny (model X.prog X.w) A (compareOp .In u (.ref a)) Q E s:=by
 rcases g with ⟨kvs,k,e,ey,l⟩ | ⟨kvs,k,b,e,ey,eb,l⟩
 ·subst ey
  obtain ⟨z,hd,vs,rel,dd⟩:=Zcb I.hok e
  refine wpAny_in_of (ZdD ry) hd dd.mapOf ?_
  rw [← (rel.val k).Zdb,← l]
  exact h _ (I.tok _)
 ·subst ey
  cases (show u=Value.ref b from ry)
  obtain ⟨z,hd,xs,rel,dd⟩:=Zdt I.hok e
  refine wpAny_in_heap (tupleKind_room_in1 hu) (Zdc I.hok eb) hd dd ?_
  have q:=(rel.val k).Zdb
  rw [Option.isSome_map] at q
  rw [← q,← l]
  exact h _ (I.tok _)
theorem Zfh {h':Heap}{t':Nat}{ob:HO}(I:Inv X pins σ H s)(mu:Mut (H a))(hs:Heap.SameBut a s.heap h')(he:∃ q,h'.get? a=some q)(new:Yy X.prog X.w (upd H a ob) h' a ob) :
  Inv X pins σ (upd H a ob) { s with heap:=h',toks:=t' } :=
 I.write (x:=a) (e:=a) mu (.inl rfl) (fun b q hb z=>(hs.2 b hb).trans z) he new
theorem Zgj {P:Program}{w:World}{H':Hp}{h':Heap}{kvs:List (Key × V)}{vs:List (Key × Value)}(z:kvs.length≤sizeLine)(hd:(a == sysModules)=false)(rel:KV kvs vs)(dd:h'.DictOf (Jv P w) a vs) :
  Yy P w H' h' a (.dK kvs):=⟨z,hd,vs,rel,dd⟩
theorem ZiH {H':Hp}{Q:Unit→Shared→Prop}(hu:A.units + 1 < cLine)(I:Inv X pins σ H s)(g:DPut H a y v H')(ry:RelV y u)(rv:RelV v r)(h:∀ s',Inv X pins σ H' s'→Q () s') :
  wpAny (model X.prog X.w) A (setItem (.ref a) u r) Q E s:=by
 rcases g with ⟨kvs,k,e,ey,l,eH⟩ | ⟨kvs,k,b,e,ey,eb,l,eH⟩
 ·subst ey eH
  obtain ⟨z,hd,vs,rel,dd⟩:=ZkB I.hok e
  have hz:vs.length≤sizeLine:=by rw [← rel.length];exact z
  have hl:(putK kvs k v).length≤sizeLine:=by have:=Zcf kvs k v;omega
  refine wpAny_setItem_pairs (hsz:=hz) (ZdD ry) dd fun h' dd' hs=>h _ ?_
  have he:∃ q,h'.get? a=some q:=let ⟨q,_,_,hq,_⟩:=dd';⟨q,hq⟩
  exact Zfh I (by rw [e];exact True.intro) hs he (Zgj hl hd (rel.put k rv) dd')
 ·subst ey eH
  cases (show u=Value.ref b from ry)
  obtain ⟨z,hd,xs,rel,dd⟩:=Znd I.hok e
  have hz:xs.length≤sizeLine:=by rw [← Paired.length rel];exact z
  have hl:(putK kvs k v).length≤sizeLine:=by have:=Zcf kvs k v;omega
  refine wpAny_setItem_heap (hsz:=hz) (tupleKind_room_in1 hu) (Zdc I.hok eb) dd fun h' dd' hs=>h _ ?_
  obtain ⟨q,es,ep,hq,h2,h3,h4,_,h5⟩:=dd'
  refine Zfh I (by rw [e];exact True.intro) hs ⟨q,hq⟩ ⟨hl,hd,_,(rel.put k eb rv).keeps fun c ys ec=>?_,q,es,ep,hq,h2,h3,h4,h5⟩
  rw [Yd (Zm7 ec e (fun z=>nomatch z))]
  exact ec
end
section
variable {X:Cx} {pins:List (Addr × Obj)} {σ:St} {H:Hp} {s:Shared} {a:Addr} {kvs:List (Key × V)} {k:Key} {u:Value} {A:Around} {E:Value→Shared→Prop}
theorem Zm4 {Q:Value→Shared→Prop}(I:Inv X pins σ H s)(e:Rd H a (.dK kvs))(h:∀ t s',Inv X pins σ H s'→Q (.int kvs.length t) s'):wpAny (model X.prog X.w) A (call (.builtin "len") [.ref a]) Q E s:=by
 obtain ⟨z,hd,vs,rel,dd⟩:=Zcb I.hok e
 refine call_len_dict hd dd (by rw [← rel.length];rw [sizeLine_eq] at z;omega) ?_
 rw [← rel.length]
 exact h _ _ (I.tok _)
end
noncomputable def NoSl (i:Expr):Prop:=∀ ov iv,subscripted i false ov iv=operate [ov,iv] (getItem ov iv)
theorem ZlE {prog:Program}{w:World}{A:Around}{E:Value→Shared→Prop}{s:Shared}{env:Env}{value slice:Expr}{pos:Pos}{T id:String}{Q:Value→Shared→Prop}
  (hl:typeLookup (.type T) "__getitem__"=pure (some (.builtin id))) (hs:NoSl slice)
  (h:wpAny (model prog w) A (eval value env) (fun o s₁=>wpAny (model prog w) A (eval slice env) (fun i s₂=>s₂.TypeIs o T∧wpAny (model prog w) A (getItem o i) Q E s₂) E s₁) E s) :
  wpAny (model prog w) A (eval (.Subscript value slice pos) env) Q E s:=by
 refine Subscript_ (wpAny_mono h (fun o s₁ h₁=>wpAny_mono h₁ (fun i s₂ h₂=>?_) fun _ _ x=>x) fun _ _ x=>x)
 obtain ⟨hT,h₂⟩:=h₂
 unfold subscriptTail
 refine wpAny_bind ?_
 rw [getitemInPython_of_ne hT.not_modules]
 refine wpAny_bind (wpAny_specialOf hT hl ?_)
 have fin:wpAny (model prog w) A (subscripted slice false o i) (fun r s₃=>wpAny (model prog w) A (letTemporaryGo value o r >>= fun _=>pure r) Q E s₃) E s₂:=by
  rw [hs o i]
  exact wpAny_operating (wpAny_mono h₂ (fun r s₃ h₃=>wpAny_bind (wpAny_letTemporaryGo (wpAny_pure h₃))) fun _ _ x=>x)
 first
  | exact wpAny_pure (wpAny_bind fin)
  | exact wpAny_bind (wpAny_pure (wpAny_bind fin))
  | exact wpAny_bind fin
theorem Zhp {X:Cx}{pins:List (Addr × Obj)}{σ:St}{H:Hp}{s:Shared}{a:Addr}{y:V}{o:Option V}(I:Inv X pins σ H s)(g:DGet H a y o):s.TypeIs (.ref a) "dict":=by
 rcases g with ⟨kvs,k,e,_,_⟩ | ⟨kvs,k,b,e,_,_,_⟩
 ·obtain ⟨_,_,vs,_,dd⟩:=Zcb I.hok e
  exact dd.typeIs
 ·obtain ⟨_,_,xs,_,dd⟩:=Zdt I.hok e
  exact dd.typeIs
noncomputable def Znu (td ty:TE):TE:=fun σ H Q=>td σ H fun x H1=>ty σ H1 fun y H2=>∃ a v,x=.ref a∧DGet H2 a y (some v)∧Q v H2
noncomputable def tDIn (ty td:TE):TE:=fun σ H Q=>ty σ H fun y H1=>td σ H1 fun x H2=>∃ a o,x=.ref a∧DGet H2 a y o∧Q (.bl o.isSome) H2
noncomputable def Zb6 (td ty tv:TE):TS:=fun D σ H=>tv σ H fun v H1=>td σ H1 fun x H2=>ty σ H2 fun y H3=>∃ a H4,x=.ref a∧DPut H3 a y v H4∧D.nx σ H4
section
variable {X:Cx} {o i e value:Expr} {pos pos' tpos:Pos} {td ty tv:TE}
theorem Zlb (hu:X.A.units + 1 < cLine)(ho:PE X o td)(hi:PE X i ty)(hs:NoSl i):PE X (.Subscript o i pos) (Znu td ty):=by
 intro pins s σ H Q I h
 refine ZlE PySem.F.slot_dict_getitem.lookup hs (thn (ho pins s σ H _ I h) fun u s1 ⟨x,H1,I1,rx,q1⟩=>thn (hi pins s1 σ H1 _ I1 q1) fun iv s2 ⟨y,H2,I2,ry,a,v,ex,g,q2⟩=>?_)
 subst ex
 obtain rfl:u=Value.ref a:=rx
 exact ⟨Zhp I2 g,ZiX hu I2 g ry fun w' s3 I3 rw'=>⟨v,H2,I3,rw',q2⟩⟩
theorem ZmT (hu:X.A.units + 1 < cLine)(hi:PE X i ty)(ho:PE X o td):PC X .In i o (tDIn ty td):=by
 intro pins s σ H Q I h
 refine thn (hi pins s σ H _ I h) fun iv s1 ⟨y,H1,I1,ry,q1⟩=>thn (ho pins s1 σ H1 _ I1 q1) fun u s2 ⟨x,H2,I2,rx,a,ov,ex,g,q2⟩=>?_
 subst ex
 obtain rfl:u=Value.ref a:=rx
 exact d_in hu I2 g ry fun s3 I3=>⟨.bl ov.isSome,H2,I3,rfl,q2⟩
theorem Zdw (hu:X.A.units + 1 < cLine)(ho:PE X o td)(hi:PE X i ty)(hv:PE X value tv)(hs:swapsWith value (some (.Subscript o i pos')) pos.line X.env=pure false) :
  PS X (.Assign [.Subscript o i pos'] value pos) (Zb6 td ty tv):=by
 intro pins s σ H D I h
 refine wpAny_Assign_Subscript (thn (hv pins s σ H _ I h) fun r s1 ⟨v,H1,I1,rv,q1⟩=>thn (ho pins s1 σ H1 _ I1 q1) fun u s2 ⟨x,H2,I2,rx,q2⟩=>thn (hi pins s2 σ H2 _ I2 q2) fun iv s3 ⟨y,H3,I3,ry,a,H4,ex,g,q3⟩=>?_) hs
 subst ex
 obtain rfl:u=Value.ref a:=rx
 exact ZiH hu I3 g ry rv fun s4 I4=>⟨σ,H4,I4,q3⟩
end
theorem Zkk {P:Program}{w:World}{H:Hp}(h:Heap)(hb:sysModules < h.objs.size):Yy P w H (h.push { cls:=.type "dict",data:=.dict #[] }) h.objs.size (.dK []) :=
 ⟨Nat.zero_le _,beq_eq_false_iff_ne.mpr (Ne.symm (Nat.ne_of_lt hb)),[],.nil,Heap.DictOf.new h⟩
section
variable {X:Cx} {pos:Pos}
end
noncomputable def Zgu:List (TE × TE)→St→Hp→(List (V × V)→Hp→Prop)→Prop
 | [],_,H,Q=>Q [] H
 | (tk,tv)::r,σ,H,Q=>tk σ H fun x H1=>tv σ H1 fun y H2=>Zgu r σ H2 fun ps H3=>Q ((x,y)::ps) H3
noncomputable abbrev VV:List (V × V)→List (Value × Value)→Prop:=Paired fun p q=>RelV p.1 q.1∧RelV p.2 q.2
noncomputable def PPs (X:Cx) (pos:Pos) (keys:List (Option Expr)) (values:List Expr) (trs:List (TE × TE)):Prop :=
 ∀ (pins:List (Addr × Obj)) (s:Shared) (σ:St) (H:Hp) (Q:List (V × V)→Hp→Prop),Inv X pins σ H s→Zgu trs σ H Q →
  wpAny (model X.prog X.w) X.A (evalPairs (pairTrees keys values X.env pos)) (fun vs s'=>∃ ps H',Inv X pins σ H' s'∧VV ps vs∧Q ps H') X.xe s
theorem ZkZ {X:Cx}{pos:Pos}:PPs X pos [] [] []:=fun pins s σ H Q I h=>pairTrees_nil_walk ⟨[],H,I,.nil,h⟩
theorem ZjS {X:Cx}{pos:Pos}{k v:Expr}{ks:List (Option Expr)}{vs:List Expr}{tk tv:TE}{trs:List (TE × TE)}(hk:PE X k tk)(hv:PE X v tv)(hr:PPs X pos ks vs trs) :
  PPs X pos (some k::ks) (v::vs) ((tk,tv)::trs):=fun pins s σ H Q I h =>
 pairTrees_cons_walk (thn (hk pins s σ H _ I h) fun u s1 ⟨x,H1,I1,rx,q1⟩=>thn (hv pins s1 σ H1 _ I1 q1) fun w2 s2 ⟨y,H2,I2,ry,q2⟩ =>
  thn (hr pins s2 σ H2 _ I2 q2) fun ws s3 ⟨ps,H3,I3,rel,q3⟩=>⟨(x,y)::ps,H3,I3,.cons ⟨rx,ry⟩ rel,q3⟩)
noncomputable def Zde (kvs more:List (Key × V)):List (Key × V):=more.foldl (fun acc kv=>putK acc kv.1 kv.2) kvs
theorem KV.merge:∀ {more:List (Key × V)} {rs:List (Key × Value)} {kvs:List (Key × V)} {vs:List (Key × Value)},KV more rs→KV kvs vs→KV (Zde kvs more) (merged vs rs):=by
 intro more rs kvs vs r
 unfold KV at r
 induction r generalizing kvs vs with
 | nil=>intro q;exact q
 | @cons p q ps qs h t ih =>
  intro r0
  have e:KV (putK kvs p.1 p.2) (stored vs q.1 q.2):=by
   have:=r0.put p.1 h.2
   rw [← h.1];exact this
  exact ih e
theorem ZcV:∀ (more kvs:List (Key × V)),(Zde kvs more).length≤kvs.length + more.length
 | [],kvs=>by show kvs.length≤kvs.length + 0;omega
 | p::r,kvs=>by
  have h1:=ZcV r (putK kvs p.1 p.2)
  have h2:=Zcf kvs p.1 p.2
  show (Zde (putK kvs p.1 p.2) r).length≤_
  rw [List.length_cons];omega
theorem ZeK {P:Program}{w:World}:∀ {kvs:List (Key × V)} {ws:List (Value × Value)},VV (kvs.map fun kv=>(kV kv.1,kv.2)) ws→∃ rs,Carries (Jv P w) ws rs∧KV kvs rs
 | [],_,r=>by rw [List.map_nil] at r;cases r;exact ⟨[],True.intro,.nil⟩
 | p::kvs,_,r=>by
  rw [List.map_cons] at r
  cases r with
  | @cons a b as bs h t =>
   obtain ⟨rs,c,q⟩:=ZeK (P:=P) (w:=w) t
   obtain ⟨b1,b2⟩:=b
   exact ⟨(p.1,b2)::rs,⟨ZdD h.1,rfl,c⟩,.cons ⟨rfl,h.2⟩ q⟩
noncomputable def Zm3 (trs:List (TE × TE)):TE:=fun σ H Q=>∀ p,H p=none→Zgu trs σ (upd H p (.dK [])) fun ps H2=>H2 p=some (.dK [])∧∃ kvs:List (Key × V),ps=kvs.map (fun kv=>(kV kv.1,kv.2))∧kvs.length≤15∧Q (.ref p) (upd H2 p (.dK (Zde [] kvs)))
theorem Zk7 {X:Cx}{pos:Pos}{keys:List (Option Expr)}{values:List Expr}{trs:List (TE × TE)}(h:PPs X pos keys values trs)(hall:keys.all (·.isSome)=true)(hl:keys.length=values.length)(h0:keys≠[])
  (h15:keys.length≤15):PE X (.Dict keys values pos) (Zm3 trs):=by
 intro pins s σ H Q I q
 have hn:=I.hok.fresh (Nat.le_refl s.heap.objs.size)
 have I1:=I.laid (a:=s.heap.objs.size) (o:=.dK []) (h':=s.heap.push { cls:=.type "dict",data:=.dict #[] }) (t':=s.toks) (fun _ _ q=>Heap.get?_push_of_some _ q) (Nat.le_refl _) (Zkk s.heap I.big)
 refine wpAny_Dict_walk (knd:=Jv X.prog X.w) hall hl h0 h15 (thn (h pins _ σ _ _ I1 (q _ hn)) fun ws s2 ⟨ps,H2,I2,rel,e,kvs,ep,lk,q2⟩=>?_)
 subst ep
 obtain ⟨rs,c,rk⟩:=ZeK (P:=X.prog) (w:=X.w) rel
 obtain ⟨z,hd,vs0,r0,dd⟩:=ZkB I2.hok e
 cases r0
 refine ⟨rs,c,dd,fun h' dd' hs=>⟨.ref s.heap.objs.size,_,?_,rfl,q2⟩⟩
 have hz:(Zde [] kvs).length≤sizeLine:=by
  have h1:=ZcV kvs []
  rw [List.length_nil] at h1
  rw [sizeLine_eq];omega
 have he:∃ q,h'.get? s.heap.objs.size=some q:=let ⟨q,_,_,hq,_⟩:=dd';⟨q,hq⟩
 exact Zfh I2 (by rw [e];exact True.intro) hs he (Zgj hz hd (rk.merge .nil) dd')
structure M2 (X:Cx)(o:Expr)(m:Str)(apos:Pos)(e f:Expr)(cpos:Pos):Prop where
 base:attributeBase o m X.env (eval o X.env)=eval o X.env
 few:((backTo cpos (starEach [e,f] X.env)).all (fun x=>!x.1) && (backToKw cpos (keywordEach [] X.env)).all (fun x=>x.1.isSome)
  && decide (([e,f]:List Expr).length + ([]:List Keyword).length + (if ([]:List Keyword).isEmpty then 0 else 1) < 30))=true
 line:(apos.endLine == cpos.line)=true
 trees:backTo cpos (starEach [e,f] X.env)=[(false,eval e X.env),(false,eval f X.env)]
noncomputable def IsD (H:Hp) (a:Addr):Prop:=(∃ kvs,Rd H a (.dK kvs))∨∃ kvs,Rd H a (.dT kvs)
theorem Zmp {X:Cx}{pins:List (Addr × Obj)}{σ:St}{H:Hp}{s:Shared}{a:Addr}(I:Inv X pins σ H s)(d:IsD H a) :
  s.TypeIs (.ref a) "dict"∧(∀ b,Value.ref a=.ref b→∃ ob,s.heap.get? b=some ob∧ob.dict=none)∧(a == sysModules)=false:=by
 rcases d with ⟨kvs,e⟩ | ⟨kvs,e⟩
 ·obtain ⟨_,hd,vs,_,dd⟩:=Zcb I.hok e
  refine ⟨dd.typeIs,fun b q=>?_,hd⟩
  cases q
  obtain ⟨ob,_,_,h1,h2,_⟩:=dd
  exact ⟨ob,h1,h2.2.1⟩
 ·obtain ⟨_,hd,xs,_,dd⟩:=Zdt I.hok e
  refine ⟨dd.typeIs,fun b q=>?_,hd⟩
  cases q
  obtain ⟨ob,_,_,h1,h2,_⟩:=dd
  exact ⟨ob,h1,h2.2.1⟩
section
variable {X:Cx} {pins:List (Addr × Obj)} {σ:St} {H:Hp} {s:Shared} {a:Addr} {y d:V} {u r:Value} {o:Option V} {A:Around} {E:Value→Shared→Prop}
theorem Zl9 {Q:Value→Shared→Prop}(hu:A.units + 1 < cLine)(I:Inv X pins σ H s)(g:DGet H a y o)(ry:RelV y u)(rd:RelV d r)(h:∀ w' s',Inv X pins σ H s'→RelV (o.getD d) w'→Q w' s') :
  wpAny (model X.prog X.w) A (call (.builtin "dict.get") [.ref a,u,r]) Q E s:=by
 rcases g with ⟨kvs,k,e,ey,l⟩ | ⟨kvs,k,b,e,ey,eb,l⟩
 ·subst ey
  obtain ⟨z,hd,vs,rel,dd⟩:=Zcb I.hok e
  refine call_meetsIn PySem.F.slot_dict_get dd.typeIs PySem.F.entry_dict_get (PySem.F.args_dict_get_3 _ _ _) (meets_dict_get_default (Jv X.prog X.w) a (ZdD ry) hd r) ⟨_,dd.mapOf,h _ _ (I.tok _) ?_⟩
  rw [l]
  exact (rel.val k).getD rd
 ·subst ey
  cases (show u=Value.ref b from ry)
  obtain ⟨z,hd,xs,rel,dd⟩:=Zdt I.hok e
  refine call_meetsIn PySem.F.slot_dict_get dd.typeIs PySem.F.entry_dict_get (PySem.F.args_dict_get_3 _ _ _) (meetsH_dict_get_default (tupleKind (Jv X.prog X.w)) a b hd r) ⟨tupleKind_room_in1 hu,k,xs,Zdc I.hok eb,dd,h _ _ (I.tok _) ?_⟩
  rw [l]
  exact (rel.val k).getD rd
end
noncomputable def ZlS (td ty tx:TE):TE:=fun σ H Q=>td σ H fun x H1=>∃ a,x=.ref a∧IsD H1 a∧ty σ H1 fun y H2=>tx σ H2 fun z H3=>∃ o,DGet H3 a y o∧Q (o.getD z) H3
section
variable {X:Cx} {o e f:Expr} {apos cpos:Pos} {td ty tx:TE}
theorem ZjM (hu:X.A.units + 1 < cLine) (ho:PE X o td) (he:PE X e ty) (hf:PE X f tx) (m:M2 X o "get" apos e f cpos):PE X (.Call (.Attribute o "get" apos) [e,f] [] cpos) (ZlS td ty tx):=by
 intro pins s σ H Q I h
 refine wpAny_Call_method m.base m.few m.line PySem.F.plainAttrs_dict PySem.F.slot_dict_get PySem.F.type_dict_get (thn (ho pins s σ H _ I h) fun u s1 ⟨x,H1,I1,rx,a,ex,d,q1⟩=>?_)
 subst ex
 obtain rfl:u=Value.ref a:=rx
 obtain ⟨t1,t2,_⟩:=Zmp I1 d
 refine ⟨t1,t2,?_⟩
 rw [m.trees]
 refine Calls.callWith_builtin rfl (Calls.evalArgs_plain (Calls.spliced_cons (thn (he pins s1 σ H1 _ I1 q1) fun iv s2 ⟨y,H2,I2,ry,q2⟩ =>
  Calls.spliced_cons (thn (hf pins s2 σ H2 _ I2 q2) fun fv s3 ⟨z,H3,I3,rz,ov,g,q3⟩=>Calls.spliced_nil ?_))))
 exact Zl9 hu I3 g ry rz fun w' s4 I4 rw'=>⟨_,H3,I4,rw',q3⟩
end
section
variable {X:Cx} {pins:List (Addr × Obj)} {σ:St} {H:Hp} {s:Shared} {a:Addr} {kvs:List (Key × V)} {A:Around} {E:Value→Shared→Prop}
theorem Zj3 {Q:Value→Shared→Prop}(I:Inv X pins σ H s)(e:Rd H a (.dK kvs))(h:∀ p s',H p=none→Inv X pins σ (upd H p (.dK kvs)) s'→Q (.ref p) s'):wpAny (model X.prog X.w) A (call (.type "dict") [.ref a]) Q E s:=by
 obtain ⟨z,hd,vs,rel,dd⟩:=Zcb I.hok e
 refine kt_call_dict hd dd (by rw [← rel.length];exact z) fun h' dd' hs=>?_
 refine h _ _ (I.hok.fresh (Nat.le_refl _)) (I.laid (a:=s.heap.objs.size) (o:=.dK kvs) (t':=s.toks) (fun b q hq=>?_) (Nat.le_refl _) (Zgj z (beq_eq_false_iff_ne.mpr (Ne.symm (Nat.ne_of_lt I.big))) rel dd'))
 exact (hs.2 b (Nat.ne_of_lt (Heap.lt_size hq))).trans (Heap.get?_push_of_some _ hq)
end
section
variable {X:Cx} {pins:List (Addr × Obj)} {σ:St} {H:Hp} {s:Shared} {a:Addr} {y:V} {u:Value} {A:Around} {E:Value→Shared→Prop}
end
end L2
namespace L2
open PySem PySem.Spec PyProof.Rows
section
variable {X:Cx}
end
end L2
set_option linter.all false
set_option Elab.async false
namespace PV
open PySem (Str)
noncomputable def dget (kvs:List (Int × Int)) (k:Int):Option Int:=(kvs.find? fun p=>decide (p.1=k)).map (·.2)
noncomputable def dput (kvs:List (Int × Int)) (k v:Int):List (Int × Int) :=
 if (kvs.any fun p=>decide (p.1=k))=true then kvs.map (fun p=>if p.1=k then (p.1,v) else p) else kvs++[(k,v)]
noncomputable def Zia:D→D→Option D
 | .dct kvs,.int k=>match dget kvs k with
  | some v=>some (.int v)
  | none=>none
 | _,_=>none
noncomputable def Zbn (a b:Ex):Ex:=eF2 Zia a b
noncomputable def Zf8 (i:Nat) (b c:Ex):Ex:=fun env=>match env[i]?,b env,c env with
 | some (.dc kvs),some (.int k),some (.int x)=>some (.int ((dget kvs k).getD x))
 | _,_,_=>none
noncomputable def tInD (a b:Ex):Tx:=fun env=>match a env,b env with
 | some (.int k),some (.dct kvs)=>some (dget kvs k).isSome
 | _,_=>none
noncomputable def ZdH (a b:Ex):Ex:=fun env=>match a env,b env with
 | some (.int k),some (.int v)=>some (.dct [(k,v)])
 | _,_=>none
noncomputable def Zb7:D→Option D
 | .dct kvs=>some (.int kvs.length)
 | _=>none
noncomputable def ZbF (a:Ex):Lx:=fun env=>match a env with
 | some (.dct kvs)=>some (kvs.map fun p=>.int p.1)
 | _=>none
noncomputable def ZdE (i:Nat) (e:Ex):St:=fun env=>match e env with
 | some (.dct kvs)=>some (.nx,env.set i (.dc kvs))
 | _=>none
noncomputable def Zb6 (i:Nat) (a e:Ex):St:=fun env=>match env[i]?,e env,a env with
 | some (.dc kvs),some (.int v),some (.int k)=>if kvs.length < lim then some (.nx,env.set i (.dc (dput kvs k v))) else none
 | _,_,_=>none
noncomputable def ZcB:D→Option D
 | .lst xs=>match JC xs with
  | some ns=>if ns.length≤3000 then some (.int (seen ns).length) else none
  | none=>none
 | _=>none
end PV
namespace PV
noncomputable def eFrz (i:Nat) (f:Ex):Ex:=fun env=>match env[i]? with
 | some (.jk d)=>match f (env.set i (.sh d)) with
  | some y=>if J2 y then some y else none
  | none=>none
 | _=>none
end PV
namespace PV
end PV
set_option linter.all false
set_option Elab.async false
set_option maxRecDepth 100000
set_option maxHeartbeats 4000000
namespace PV
open PySem PySem.Spec PyProof.Rows
open L2 (V Hp HO Vals SqL SqT Same upd Cx PE PT PW PA PS PSs TE TT TA TS Inv RelV Jd Yd Ze Un)
theorem ZgA (kvs:List (Int × Int))(k:Int):L2.valV (kvV kvs) (Sum.inl k:L2.Key)=(dget kvs k).map V.int:=by
 unfold L2.valV kvV dget
 rw [List.find?_map]
 have e:((fun kv:L2.Key × V=>decide (kv.1=(Sum.inl k:L2.Key))) ∘ fun p:Int × Int=>((Sum.inl p.1:L2.Key),V.int p.2))=fun p:Int × Int=>decide (p.1=k):=by
  funext p
  simp
 rw [e]
 cases kvs.find? fun p=>decide (p.1=k) <;> rfl
theorem Zmi (kvs:List (Int × Int))(k v:Int):L2.putK (kvV kvs) (Sum.inl k:L2.Key) (V.int v)=kvV (dput kvs k v):=by
 unfold L2.putK dput
 have e:((kvV kvs).any fun kv=>decide (kv.1=(Sum.inl k:L2.Key)))=kvs.any fun p=>decide (p.1=k):=by
  unfold kvV
  rw [List.any_map]
  congr 1
  funext p
  simp
 rw [e]
 split
 ·unfold kvV
  rw [List.map_map,List.map_map]
  refine List.map_congr_left fun p _=>?_
  simp only [Function.comp]
  by_cases h:p.1=k
  ·rw [if_pos h,if_pos (by rw [h])]
  ·rw [if_neg h,if_neg (fun e=>h (Sum.inl.inj e))]
 ·unfold kvV
  rw [List.map_append]
  rfl
theorem Zcp {K:PySem.W.Frag}{H:Hp}{kvs:List (Int × Int)}{v:V}(h:Rep K H (.dct kvs) v):∃ a o,v=.ref a∧H a=some (.frz o (.dK (kvV kvs))):=by simpa [Rep] using h
theorem ZgC {H:Hp}{a:Addr}{o:Obj}{kvs:List (L2.Key × V)}{k:L2.Key}(e:H a=some (.frz o (.dK kvs))):L2.DGet H a (L2.kV k) (L2.valV kvs k):=.inl ⟨kvs,k,.inr ⟨o,e⟩,rfl,rfl⟩
section
variable {X:Cx} {m m1 m2 m3:Md} {r:RetP} {a b c e:Expr} {f g h:Ex} {pos p p2 pos':Pos}
theorem ZdQ (hu:X.A.units + 64 < cLine)(ha:PD X m1 a f)(hb:PD X m2 b g)(hs:L2.NoSl b:=by exact fun _ _=>rfl):PD X m (.Subscript a b pos) (Zbn f g) :=
 PD.mk <| PE.of (L2.Zlb (by omega) ha.r.h hb.r.h hs) fun σ H Q hh_=>el9 hh_ fun BF BH F env L d S e q=>by
  unfold Zbn eF2 at e
  split at e
  ·rename_i x y h1 h2
   unfold Zia at e
   split at e
   ·split at e
    ·rename_i kvs k _ v hv
     cases e
     refine two S h1 h2 fun v' w F' H' z r1 r2=>?_
     obtain ⟨p,o,rfl,hp⟩:=Zcp r1
     refine ⟨p,.int v,rfl,?_,q _ F' H' z (by simp [Rep])⟩
     rw [Jq r2]
     have:=ZgC (k:=(Sum.inl k:L2.Key)) hp
     rw [ZgA,hv] at this
     exact this
    ·cases e
   ·cases e
  ·cases e
theorem Zmq (hu:X.A.units + 64 < cLine)(ha:PD X m1 a f)(hb:PD X m2 b g)(hm:behindInMarks .In b=false:=by with_unfolding_all rfl):PTd X (.Compare a [.In] [b] pos) (tInD f g) :=
 PT.of (L2.ZaO (L2.ZmT (by omega) ha.r.h hb.r.h) hm) fun σ H Q hh_=>el9 hh_ fun BF BH F env L d S e q=>by
  unfold tInD at e
  split at e
  ·rename_i k kvs h1 h2
   cases e
   refine two S h1 h2 fun v' w F' H' z r1 r2=>?_
   obtain ⟨p,o,rfl,hp⟩:=Zcp r2
   have e2:((dget kvs k).map V.int).isSome=(dget kvs k).isSome:=by cases dget kvs k <;> rfl
   refine ⟨p,(dget kvs k).map V.int,rfl,?_,_,rfl,by rw [e2];exact q F' H' z⟩
   rw [Jq r1]
   have:=ZgC (k:=(Sum.inl k:L2.Key)) hp
   rw [ZgA] at this
   exact this
  ·cases e
theorem ZkK (hu:X.A.units + 64 < cLine) (i:Nat) {x:Str} {p1 p3 p4:Pos} (hb:PD X m2 b g) (hc:PD X m3 c h) (hN:X.N[i]?=some x:=by kernel_rfl) (hv:visB X.env.scope x=true:=by kernel_rfl) (hd:(x == ("__debug__":Str))=false:=by kernel_rfl)
  (hcd:(x == ("__classdict__":Str))=false:=by kernel_rfl)
  (hbase:attributeBase (.Name x p1) "get" X.env (eval (.Name x p1) X.env)=eval (.Name x p1) X.env:=by rfl) (hline:(p3.endLine == p4.line)=true:=by rfl)
  (hfew:((backTo p4 (starEach [b,c] X.env)).all (fun x=>!x.1) && (backToKw p4 (keywordEach [] X.env)).all (fun x=>x.1.isSome)
  && decide (([b,c]:List Expr).length + ([]:List Keyword).length + (if ([]:List Keyword).isEmpty then 0 else 1) < 30))=true:=by rfl)
  (htr:backTo p4 (starEach [b,c] X.env)=[(false,eval b X.env),(false,eval c X.env)]:=by rfl):PD X m (.Call (.Attribute (.Name x p1) "get" p3) [b,c] [] p4) (Zf8 i g h) :=
 PD.mk <| PE.of (L2.ZjM (by omega) (L2.JW hN (JK hv) hd hcd) hb.r.h hc.r.h ⟨hbase,hfew,hline,htr⟩) fun σ H Q hh_=>el9 hh_ fun BF BH F env L d S e q=>by
  unfold Zf8 at e
  split at e
  ·rename_i kvs k x h1 h2 h3
   cases e
   obtain ⟨ov,hσ,hso⟩:=S.sl i _ h1
   obtain ⟨p,rfl,hl,hp⟩:=hso
   refine ⟨_,hσ,p,rfl,.inl ⟨_,.inl hp⟩,BF,BH,F,env,L,_,S,h2,fun v2 F2 H2 z2 r2=>⟨BF,BH,F2,env,L,_,S.ext z2,h3,fun v3 F3 H3 z3 r3=>?_⟩⟩
   have hp3:H3 p=some (.dK (kvV kvs)):=z3.hh _ _ (z2.hh _ _ hp)
   have g1:=L2.DGet.k (k:=(Sum.inl k:L2.Key)) hp3
   rw [ZgA] at g1
   refine ⟨_,by rw [Jq r2];exact g1,?_⟩
   rw [Jq r3]
   have e2:((dget kvs k).map V.int).getD (.int x)=.int ((dget kvs k).getD x):=by cases dget kvs k <;> rfl
   rw [e2]
   exact q _ F3 H3 (z2.trans z3) (by simp [Rep])
  ·cases e
theorem Zji:L2.Zbo X (.builtin "len") (fun xs H Q=>∃ a o kvs,xs=[V.ref a]∧H a=some (.frz o (.dK kvs))∧Q (.int kvs.length) H):=by
 intro pins s σ H xs us Q I r h
 obtain ⟨a,o,kvs,rfl,ha,q⟩:=h
 obtain ⟨u,rfl,ru⟩:=r.one
 cases ru
 exact L2.Zm4 I (.inr ⟨o,ha⟩) fun t s' I'=>⟨.int kvs.length,H,I',⟨t,rfl⟩,q⟩
theorem Zdp {p:Pos} (T:Bt X.mg) (ha:PD X m1 a f) (hg:X.env.kindOf "len"=some .globalImplicit:=by kernel_rfl) (hs:nst a=true:=by rfl):PD X m (.Call (.Name "len" p) [a] [] pos) (eF1 Zb7 f) :=
 Zit Zji T.len PySem.boot_len (fun d y H' v Q e r k=>by
  unfold Zb7 at e
  split at e
  ·cases e
   obtain ⟨p,o,rfl,hp⟩:=Zcp r
   refine ⟨⟨p,o,_,rfl,hp,?_⟩,rfl⟩
   have:(kvV ‹_›).length=List.length ‹_›:=by unfold kvV;exact List.length_map ..
   rw [this]
   exact k _ (by simp [Rep])
  ·cases e) ha hg (by decide) (by decide) hs
noncomputable def tDN (K:PySem.W.Frag) (f:Ex):TE:=fun σ H Q=>∃ BF BH F env L kvs,SOk K BF BH F H σ env L∧f env=some (.dct kvs)∧∀ a F' H',Ext F H F' H'→H a=none→H' a=some (.dK (kvV kvs))→F' a=none→Q (.ref a) H'
theorem ZlJ (h:PE X e (tDN X.K f))(hf:∀ env d,f env=some d→∃ kvs,d=.dct kvs):PD X .k e f:=PD.mk fun pins s σ H Q I hh_=>el9 hh_ fun BF BH F env L d S e q=>by
 obtain ⟨kvs,rfl⟩:=hf env d e
 refine L2.thn (h pins s σ H (fun v H'=>∃ a F',v=.ref a∧Ext F H F' H'∧H a=none∧H' a=some (.dK (kvV kvs))∧F' a=none) I ⟨BF,BH,F,env,L,kvs,S,e,fun a F' H' z h0 h1 h2=>⟨a,F',rfl,z,h0,h1,h2⟩⟩) fun u s' ⟨v,H',I',rv,a,F',e1,z,h0,h1,h2⟩=>?_
 subst e1
 obtain ⟨o,I2⟩:=ZgE I' h1
 refine ⟨.ref a,_,I2,rv,q _ (upd F' a (.frz o (.dK (kvV kvs)))) _ ⟨fun b o hb=>?_,fun b o hb=>?_,fun b o hb=>?_,fun b o hb=>?_⟩ ?_⟩
 ·have hne:b≠a:=Ze hb h0
  rw [Yd hne];exact z.hh _ _ hb
 ·have hne:b≠a:=Ze (S.fh _ _ hb) h0
  rw [Yd hne];exact z.ff _ _ hb
 ·by_cases hbp:b=a
  ·subst hbp;exact .inr h0
  ·rw [Yd hbp] at hb;exact z.dm _ _ hb
 ·by_cases hbp:b=a
  ·subst hbp;rw [Jd] at hb ⊢;exact hb
  ·rw [Yd hbp] at hb ⊢;exact z.fh _ _ hb
 ·show Rep X.K (upd F' a (.frz o (.dK (kvV kvs)))) (.dct kvs) (.ref a)
  simp only [Rep]
  exact ⟨a,o,rfl,Jd⟩
theorem ZkN (ha:PD X m1 a f)(hb:PD X m2 b g):PD X .k (.Dict [some a] [b] pos) (ZdH f g) :=
 ZlJ (PE.of (L2.Zk7 (L2.ZjS ha.r.h hb.r.h L2.ZkZ) rfl rfl (by simp) (by simp)) fun σ H Q hh_=>el9 hh_ fun BF BH F env L kvs S e q=>by
  unfold ZdH at e
  split at e
  ·rename_i k v h1 h2
   cases e
   intro p hp
   have z0:=Ext.own (o:=HO.dK []) S.fh hp
   refine two (S.ext z0) h1 h2 fun v' w F' H' z r1 r2=>?_
   have hp':H' p=some (.dK []):=z.hh _ _ Jd
   refine ⟨hp',[(Sum.inl k,.int v)],by rw [Jq r1,Jq r2];rfl,by simp,?_⟩
   have zz:=z0.trans z
   have fp:F' p=none:=by
    cases hq:F' p with
    | none=>rfl
    | some o =>
     rcases z.dm p o hq with h' | h'
     ·rw [S.fh.free hp] at h';cases h'
     ·rw [Jd] at h';cases h'
   refine q p F' _ ⟨fun b o hb=>?_,zz.ff,zz.dm,fun b o hb=>?_⟩ hp Jd fp
   ·have hne:b≠p:=Ze hb hp
    rw [Yd hne];exact zz.hh _ _ hb
   ·have hne:b≠p:=Ze hb fp
    rw [Yd hne];exact zz.fh _ _ hb
  ·cases e) fun env d h=>by
  unfold ZdH at h
  split at h
  ·cases h;exact ⟨_,rfl⟩
  ·cases h
theorem Zho:L2.Zbo X (.type "dict") (fun xs H Q=>∃ a o kvs,xs=[.ref a]∧H a=some (.frz o (.dK kvs))∧∀ p,H p=none→Q (.ref p) (upd H p (.dK kvs))):=by
 intro pins s σ H xs us Q I r h
 obtain ⟨a,o,kvs,rfl,ha,q⟩:=h
 obtain ⟨u,rfl,ru⟩:=r.one
 cases ru
 exact L2.Zj3 I (.inr ⟨o,ha⟩) fun p s' hp I'=>⟨.ref p,_,I',rfl,q p hp⟩
theorem ZmI {K:PySem.W.Frag}{BF BH F F' H H':Hp}{σ:L2.St}{env:Env}{L:Nat→List Addr}(S:SOk K BF BH F H σ env L)(z:Ext F H F' H')(i:Nat){p:Addr}{kvs:List (Int × Int)}(h0:H p=none)(h1:H' p=some (.dK (kvV kvs)))(h2:F' p=none) :
  SOk K BF BH F' H' (σ.set i (some (.ref p))) (env.set i (.dc kvs)) (putL L i [p]) :=
 (S.ext z).set i ⟨p,rfl,rfl,h1⟩ (fun a h=>by
  rw [List.mem_singleton] at h;subst h
  exact ⟨h2,S.s0.free h0,by rw [h1];simp⟩) (fun a h j hj hm=>by
  rw [List.mem_singleton] at h;subst h
  exact (S.ow j a hm).2.2 h0)
theorem ZhU (nd:X.N.Nodup) (i:Nat) {x:Str} {p3:Pos} (T:Bt X.mg) (ha:PD X m1 a f) (hg:X.env.kindOf "dict"=some .globalImplicit:=by kernel_rfl) (hst:nst a=true:=by rfl) (hi:X.N[i]?=some x:=by kernel_rfl) (hx:locB X.env.scope x=true:=by kernel_rfl) (hs:swapsWith (.Call (.Name "dict" p) [a] [] p3) (some (.Name x pos')) pos.line X.env=pure false:=by rfl)
  (hf:fnB X x=true:=by kernel_rfl):PS1 X r (.Assign [.Name x pos'] (.Call (.Name "dict" p) [a] [] p3) pos) (ZdE i f) :=
 PS1.mk <| PS.of (L2.Zch nd hi (Zai hx) (L2.ZfG Zho hg T.dict (by decide +kernel) (L2.Zt ha.r.h L2.ZJ (Zw hst)) (by decide) (by decide) (Yi hst) rfl) hs (ZaP hf)) fun D0 σ H hh_=>el10 hh_ fun BF BH F env L o env' S e k=>by
  unfold ZdE at e
  split at e
  ·rename_i kvs h1
   cases e
   refine ⟨BF,BH,F,env,L,_,S,h1,fun v F' H' z rv=>?_⟩
   obtain ⟨p,o,rfl,hp⟩:=Zcp rv
   refine ⟨p,o,_,rfl,hp,fun q hq=>?_⟩
   exact k F' _ _ _ (ZmI S (z.trans (Ext.own z.fh hq)) i (z.hh.free hq) Jd (z.fh.free hq)) z.ff
  ·cases e
theorem Zdw (hu:X.A.units + 64 < cLine) (i:Nat) {x:Str} {p1:Pos} (hb:PD X m1 b g) (ha:PD X m2 e f) (hN:X.N[i]?=some x:=by kernel_rfl) (hv:visB X.env.scope x=true:=by kernel_rfl) (hd:(x == ("__debug__":Str))=false:=by kernel_rfl)
  (hcd:(x == ("__classdict__":Str))=false:=by kernel_rfl) (hs:swapsWith e (some (.Subscript (.Name x p1) b pos')) pos.line X.env=pure false:=by rfl):PS1 X r (.Assign [.Subscript (.Name x p1) b pos'] e pos) (Zb6 i g f) :=
 PS1.mk <| PS.of (L2.Zdw (by omega) (L2.JW hN (JK hv) hd hcd) hb.r.h ha.r.h hs) fun D0 σ H hh_=>el10 hh_ fun BF BH F env L o env' S e k=>by
  unfold Zb6 at e
  split at e
  ·rename_i kvs v kk he h1 h2
   split at e
   ·rename_i hlen
    cases e
    obtain ⟨ov,hσ,hso⟩:=S.sl i _ he
    obtain ⟨p,rfl,hl,hp⟩:=hso
    refine ⟨BF,BH,F,env,L,_,S,h1,fun v1 F1 H1 z1 r1=>⟨_,hσ,BF,BH,F1,env,L,_,S.ext z1,h2,fun v2 F2 H2 z2 r2=>?_⟩⟩
    have z:=z1.trans z2
    have hp2:H2 p=some (.dK (kvV kvs)):=z.hh _ _ hp
    refine ⟨p,_,rfl,by rw [Jq r1,Jq r2];exact L2.DPut.k (k:=(Sum.inl kk:L2.Key)) hp2 (by unfold kvV;rw [List.length_map];exact Nat.lt_of_lt_of_le hlen ZcY),?_⟩
    rw [Zmi]
    refine k F2 _ σ L ((S.ext z).own (i:=i) (a:=p) (by rw [hl];simp) _ fun s ov e1 e2 e3=>?_) z.ff
    rw [hσ] at e2;cases e2
    exact ⟨p,rfl,hl,Jd⟩
   ·cases e
  ·cases e
end
end PV
set_option linter.all false
set_option Elab.async false
set_option maxRecDepth 100000
set_option maxHeartbeats 4000000
namespace PV
open PySem PySem.Spec PyProof.Rows
open L2 (V Hp HO Vals SqL SqT Same upd Cx PE PT PW PA PS PSs TE TT TA TS Inv RelV Jd Yd Ze Un)
noncomputable def Itk (a:Addr) (o:Obj) (kvs:List (L2.Key × V)):L2.It :=
 ⟨fun i H=>H a=some (.frz o (.dK kvs))∧i < kvs.length,fun i H x H'=>H'=H∧∃ p,kvs[i]?=some p∧x=L2.kV p.1,fun i H=>H a=some (.frz o (.dK kvs))∧kvs.length≤i⟩
theorem Zk0 {P:Program}{w:World}{k:L2.Key}{u:Value}(h:(L2.Jv P w).is k u=true):RelV (L2.kV k) u:=by
 rcases L2.Zz (k:=k) (v:=u) h with ⟨i,t,rfl,rfl⟩ | ⟨x,t,rfl,rfl⟩
 ·exact ⟨t,rfl⟩
 ·exact ⟨t,rfl⟩
theorem ZgB {X:Cx}{pins:List (Addr × Obj)}{σ:L2.St}{H:Hp}{s:Shared}(I:Inv X pins σ H s){a:Addr}{o:Obj}{kvs:List (L2.Key × V)}(h:H a=some (.frz o (.dK kvs))) :
  ∃ vs es ep,L2.KV kvs vs∧o.data=.dict es ep∧s.heap.DictAt (L2.Jv X.prog X.w) a vs ep∧(a == sysModules)=false:=by
 obtain ⟨h0,z,y,vs,r,ob,es,ep,e,c1,c2,c3⟩:=I.hok a _ h
 rw [h0] at e;cases e
 exact ⟨vs,es,ep,r,c2,⟨o,es,h0,c1,c2,c3⟩,y⟩
theorem ZiF {P:Program}{w:World}{K:PySem.W.Frag}{tg:Expr}(a it:Addr)(o:Obj)(kvs:List (L2.Key × V))(ep:Nat)(hep:∃ es,o.data=.dict es ep):L2.Turn P w K tg (Itk a o kvs) [it] it (fun i h=>h.IsKeyIter it a i kvs.length ep) where
 mem:=by simp
 obj:=fun i h st b hb=>by
  have e:b=it:=by simpa using hb
  subst e
  obtain ⟨o,e,c,d⟩:=st
  exact ⟨o,e,fun v z=>by rw [d] at z;cases z⟩
 keep:=fun i h h' st k=>st.at fun o e=>k it (by simp) o e
 item:=by
  intro X hP hw hK hc i pins s σ H E I hf st hg
  subst hP hw hK
  obtain ⟨h1,h2⟩:=hg
  obtain ⟨vs,es,ep',r,hd,hm,_⟩:=ZgB I h1
  have eep:ep'=ep:=by
   obtain ⟨es',hep⟩:=hep
   rw [hd] at hep
   cases hep;rfl
  subst eep
  obtain ⟨f0,f1,f2,f3,f4,f5⟩:=hf it (by simp)
  have hlen:kvs.length=vs.length:=r.length
  have hk:=r.keys
  have hi:i < vs.length:=by omega
  have hkey:vs[i].1=kvs[i].1:=by
   have:=congrArg (fun l=>l[i]?) hk
   simpa [h2,hi] using this.symm
  rw [hlen] at st
  refine wpAny_pyNext_dict_item st hm (k:=vs[i].1) (v:=vs[i].2) (by simp [hi]) fun key h' hkk st' sb=>?_
  have I1:Inv X pins σ H { s with heap:=h' }:=I.turned (t':=s.toks) (fun b o hb e=>(sb.2 b hb).trans e) f0 f1 f3 f4 f5
  obtain ⟨oi,e,c,d⟩:=id st'
  rw [← hlen] at st'
  exact ⟨key,rfl,L2.Zf1 (s:={ s with heap:=h' }) e c d (by decide) ⟨L2.kV kvs[i].1,H,I1,by rw [← hkey];exact Zk0 hkk,⟨rfl,kvs[i],by simp [h2],rfl⟩,st',fun b hb=>(hf b hb).1⟩⟩
 done:=by
  intro X hP hw hK hc i pins s σ H E I hf st hg
  subst hP hw hK
  obtain ⟨h1,h2⟩:=hg
  obtain ⟨vs,es,ep',r,hd,hm,_⟩:=ZgB I h1
  have eep:ep'=ep:=by
   obtain ⟨es',hep⟩:=hep
   rw [hd] at hep
   cases hep;rfl
  subst eep
  obtain ⟨f0,f1,f2,f3,f4,f5⟩:=hf it (by simp)
  have hlen:kvs.length=vs.length:=r.length
  rw [hlen] at st
  exact wpAny_pyNext_dict_end (I.ok.hd hc) st hm (by simp;omega) fun h' eb=>⟨rfl,I.turned (t':=s.toks) (fun b o hb e=>eb b o hb e) f0 f1 f3 f4 f5⟩
 self:=fun _ _ _ _ _ st h=>wpAny_pyIter_keyiter st h
section
variable {X:Cx} {m m1:Md} {a e:Expr} {f:Ex} {tg:Expr}
noncomputable def iKey (tl:TE):L2.TI:=fun σ H R=>tl σ H fun x H1=>∃ a o kvs,x=.ref a∧H1 a=some (.frz o (.dK kvs))∧R (Itk a o kvs) H1
theorem Zmb {l:Expr}{tl:TE}(hl:PE X l tl):L2.PI X tg l (iKey tl):=by
 intro pins s σ H R I h
 refine L2.thn (hl pins s σ H _ I h) fun v s1 ⟨x,H1,I1,r1,q1⟩=>?_
 obtain ⟨a,o,kvs,e,hq,q⟩:=q1
 subst e
 cases r1
 obtain ⟨vs,es,ep,r,hd,hm,hsm⟩:=ZgB I1 hq
 refine wpAny_pyIter_dict hsm hm ?_
 have hlen:kvs.length=vs.length:=r.length
 refine ⟨s1.heap.objs.size,[s1.heap.objs.size],_,_,H1,rfl,I1.kept (t':=s1.toks) fun b o e=>Heap.get?_push_of_some _ e,ZiF a _ o kvs ep ⟨es,hd⟩,⟨_,Heap.get?_push_size _ rfl,rfl,by rw [hlen];rfl⟩,fun b hb=>?_,q⟩
 have e:b=s1.heap.objs.size:=by simpa using hb
 subst e
 exact I1.fpOk (Nat.le_refl _) (I1.hok.fresh (Nat.le_refl _))
theorem Zfi {tg:Expr}(ha:PD X .k a f):PId X tg a (ZbF f):=PI.of (Zmb ha.h) fun σ H R hh_=>el9 hh_ fun BF BH F env L ds S e q=>by
 unfold ZbF at e
 split at e
 ·rename_i kvs h1
  cases e
  refine ⟨BF,BH,F,env,L,_,S,h1,fun v F' H' z r=>?_⟩
  obtain ⟨p,o,rfl,hp⟩:=Zcp r
  have hp':F' p=some (.frz o (.dK (kvV kvs))):=hp
  have hl:(kvV kvs).length=kvs.length:=by unfold kvV;exact List.length_map ..
  refine ⟨p,o,_,rfl,z.fh _ _ hp',q _ F' H' z ⟨fun H2 s2=>⟨s2 _ _ hp',by rw [hl,List.length_map];exact Nat.le_refl _⟩,fun i H2 s2 hi=>⟨s2 _ _ hp',by rw [hl];rwa [List.length_map] at hi⟩,fun i H2 x H3 F0 s1 s2 hi hy=>?_⟩⟩
  obtain ⟨rfl,pp,hpp,rfl⟩:=hy
  rw [List.length_map] at hi
  have e1:pp=(Sum.inl kvs[i].1,V.int kvs[i].2):=by
   unfold kvV at hpp
   rw [List.getElem?_map,List.getElem?_eq_getElem hi] at hpp
   exact (Option.some.inj hpp).symm
  subst e1
  exact ⟨.int kvs[i].1,F0,by simp [hi],.refl s2,by simp [Rep,L2.kV]⟩
 ·cases e
end
end PV
set_option linter.all false
set_option Elab.async false
set_option maxRecDepth 100000
set_option maxHeartbeats 4000000
namespace PV
open PySem PySem.Spec PyProof.Rows
open L2 (V Hp HO Vals SqL SqT Same upd Cx PE PT PW PA PS PSs TE TT TA TS Inv RelV Jd Yd Ze Un)
section
variable {X:Cx} {m m1 m2:Md} {r:RetP} {a b e:Expr} {f g:Ex} {pos p p2 pos':Pos}
noncomputable def tLS (X:Cx) (ta:TE):TE:=fun σ H Q=>ta σ H fun x H1=>∃ y,[x]=[y]∧∃ (l:Addr) (ns:List Int),y=.ref l∧SqL X.K H1 l (ns.map V.int)∧ns.length≤3000∧Q (.int (seen ns).length) H1
theorem Zi4 {p3 p4 : Pos} {ta : TE} (T : Bt X.mg) (ha : PE X a ta) (hc : X.calm = true) (hg : X.env.kindOf "len" = some .globalImplicit) (hg2 : X.env.kindOf "set" = some .globalImplicit) (hs : nst a = true) :
    PE X (.Call (.Name "len" p) [.Call (.Name "set" p3) [a] [] p4] [] pos) (tLS X ta) := by
  intro pins s σ H Q I h
  refine wpAny_Call_Name_kw (L2.ZcC I hg T.len boot_len ?_ (by decide) (by decide))
  refine PyProof.Rows.callWith_builtin1 ?_ (Yi rfl) rfl
  rw [Zw (env := X.env) (e := .Call (.Name "set" p3) [a] [] p4) rfl]
  show wpAny _ _ (spliced ((false, eval (.Call (.Name "set" p3) [a] [] p4) X.env) :: [])) _ _ s
  refine Calls.spliced_cons (L2.thn (Q := fun u s1 => ∃ (q : Addr) (ns : List Int) (H1 : Hp) (s0 : Shared) (h' : Heap) (tk : Nat), u = .ref q ∧ s1 = { s0 with heap := h', toks := tk } ∧ Inv X pins σ H1 s0 ∧ (∀ b o, s0.heap.get? b = some o → h'.get? b = some o) ∧
      SetX X.prog X.w h' q (!byT X.w) (seen ns) ∧ Q (.int (seen ns).length) H1) ?inner fun u s1 hu => Calls.spliced_nil ?outer)
  case inner =>
    refine wpAny_Call_Name_kw (L2.ZcC I hg2 T.set PyProof.Rows.boot_set ?_ (by decide) (by decide))
    refine PyProof.Rows.callWith_type1 (L2.thn (L2.Zt ha L2.ZJ (Zw hs) p4 pins s σ H (fun xs H1 => ∃ x, xs = [x] ∧ ∃ (l : Addr) (ns : List Int), x = .ref l ∧ SqL X.K H1 l (ns.map V.int) ∧ ns.length ≤ 3000 ∧ Q (.int (seen ns).length) H1) I h) fun us s1 ⟨xs, H1, I1, r1, q1⟩ => ?_) (Yi hs) rfl
    obtain ⟨x, rfl, l, ns, rfl, hS, h3, q⟩ := q1
    obtain ⟨u, rfl, ru⟩ := r1.one
    cases ru
    obtain ⟨its, r, p, z⟩ := I1.list hS
    have hi := Zbt r
    refine ZjT (I1.ok.hd hc) p.isList (by simpa using hi) (by rw [show scanBound = 4096 from rfl]; omega) fun h' tk hX hk => ?_
    exact ⟨_, ns, H1, s1, h', tk, rfl, rfl, I1, fun b o e => hk b o (Heap.lt_size e) e, hX, q⟩
  case outer =>
    obtain ⟨q, ns, H1, s0, h', tk, rfl, rfl, I1, hk, hX, k⟩ := hu
    obtain ⟨o, es, ep, t, ho, hO⟩ := hX
    have hfew := hO.few
    refine call_len_set (s := { s0 with heap := h', toks := tk }) ho hO.ex hO.dat hO.fit (by rw [show scanBound = 4096 from rfl] at hfew; omega) ?_
    rw [hO.len]
    exact ⟨.int _, H1, I1.kept hk, ⟨_, rfl⟩, k⟩
theorem ZiL {p3 p4:Pos} (T:Bt X.mg) (ha:PD X m1 a f) (hc:X.calm=true:=by rfl) (hg:X.env.kindOf "len"=some .globalImplicit:=by kernel_rfl) (hg2:X.env.kindOf "set"=some .globalImplicit:=by kernel_rfl) (hs:nst a=true:=by rfl) :
  PD X m (.Call (.Name "len" p) [.Call (.Name "set" p3) [a] [] p4] [] pos) (eF1 ZcB f) :=
 PD.mk <| PE.of (Zi4 T ha.r.h hc hg hg2 hs) fun σ H Q hh_=>el9 hh_ fun BF BH F env L d S e q=>by
  unfold eF1 at e
  split at e
  ·rename_i x hx
   refine ⟨BF,BH,F,env,L,_,S,hx,fun v F' H' z rx=>?_⟩
   unfold ZcB at e
   split at e
   ·split at e
    ·rename_i xs ns hn
     split at e
     ·rename_i h3
      cases e
      have ex:=ints_of hn
      subst ex
      simp only [Rep] at rx
      obtain ⟨l,vs,rfl,hS,hr⟩:=rx
      have ev:=Ze5 hr
      subst ev
      exact ⟨_,rfl,l,ns,rfl,hS,h3,q _ F' H' z (by simp [Rep])⟩
     ·cases e
    ·cases e
   ·cases e
  ·cases e
end
end PV
set_option linter.all false
set_option Elab.async false
set_option maxRecDepth 100000
set_option maxHeartbeats 4000000
namespace PV
open PySem PySem.Spec PyProof.Rows
open L2 (V Hp HO Vals SqL SqT Same upd Cx PE PT PW PA PS PSs TE TT TA TS Inv RelV Jd Yd Ze Un)
section
variable {X:Cx} {m m1 m2:Md} {r:RetP} {a b e:Expr} {f g:Ex} {pos p p2 pos':Pos}
theorem Zjd {j}:PDn X (.Constant .none j pos) (eC .non):=⟨PE.of L2.Zja fun σ H Q hh_=>el9 hh_ fun BF BH F env L d S e q=>by
 cases e
 exact q _ F H (.refl S.fh) (by simp [RepN])⟩
theorem ZlQ (i:Nat)(h:PD X .k e f):PD X m e (eFrz i f):=PD.mk <| PE.of h.h fun σ H Q hh_=>el9 hh_ fun BF BH F env L y S e q=>by
 unfold eFrz at e
 split at e
 ·rename_i d he
  split at e
  ·rename_i y' hy
   split at e
   ·rename_i hsc
    cases e
    have S':=S.frz i (s':=.sh d) he fun ov _ h ff=>by
     obtain ⟨v,rfl,r⟩:=h
     refine ⟨v,rfl,RepN.rep _ _ (RepN.mono (fun b o q=>?_) _ _ r)⟩
     have hb:b ∈ L i:=ZaH q
     rw [Zag hb];exact ZaJ b o q
    refine ⟨BF,BH,_,_,_,_,S',hy,fun v F' H' z rv=>?_⟩
    exact q v F H' ⟨z.hh,.refl _,fun _ _ h=>.inl h,S.fh.trans z.hh⟩ (Rep.scal hsc rv)
   ·cases e
  ·cases e
 ·cases e
end
end PV
set_option linter.all false
set_option Elab.async false
namespace PV
open PySem (Str)
inductive XO where
 | ok (o:Out) | ex (c:Nat)
noncomputable abbrev Sx:=Env→Option (XO × Env)
noncomputable abbrev Fx:=List D→Option (D ⊕ Nat)
noncomputable def xOf (g:St):Sx:=fun env=>match g env with
 | some (o,e)=>some (.ok o,e)
 | none=>none
noncomputable def xSeq (a b:Sx):Sx:=fun env=>match a env with
 | some (.ok .nx,e)=>b e
 | r=>r
noncomputable def xIf (t:Tx) (a b:Sx):Sx:=fun env=>match t env with
 | some true=>a env
 | some false=>b env
 | none=>none
noncomputable def ZiP (c:Nat):Sx:=fun env=>some (.ex c,env)
noncomputable def Ze1 (φ:Fx) (es:List Ex):Env→Option (D ⊕ Nat):=fun env=>match evs es env with
 | some ds=>φ ds
 | none=>none
noncomputable def xRet (φ:Fx) (es:List Ex):Sx:=fun env=>match Ze1 φ es env with
 | some (.inl d)=>some (.ok (.rt d),env)
 | some (.inr c)=>some (.ex c,env)
 | none=>none
noncomputable def runX (p n:Nat) (g:Sx):Fx:=fun ds=>if ds.length=p then (match g (enter n ds) with
  | some (.ok (.rt d),_)=>some (.inl d)
  | some (.ok .nx,_)=>some (.inl .non)
  | some (.ex c,_)=>some (.inr c)
  | _=>none) else none
noncomputable def eIsX (cs:List Nat) (i c':Nat):Ex:=fun env=>match env[i]? with
 | some (.xc c)=>if c ∈ cs then some (.bl (decide (c=c'))) else none
 | _=>none
noncomputable def eIsV (cs:List Nat) (i:Nat):Ex:=fun env=>match env[i]? with
 | some (.xc c)=>if c ∈ cs then some (.bl true) else none
 | _=>none
noncomputable def runW (n:Nat) (g:St) (c:Nat):Option D:=match g (.xc c::List.replicate (n - 1) .un) with
 | some (.rt d,_)=>some d
 | _=>none
noncomputable def sTry (g:Sx) (φ:Nat→Option D):St:=fun env=>match g env with
 | some (.ok o,e)=>some (o,e)
 | some (.ex c,e)=>match φ c with
  | some (.str w)=>some (.rt (.str w),e.map fun _=>.un)
  | _=>none
 | none=>none
noncomputable def ZgX:D→D→Option D
 | .lst ys,x=>if D.deps ys≤8∧x.dep≤8 then some (.int ((ys.countP fun y=>eqD y x:Nat))) else none
 | _,_=>none
end PV
set_option linter.all false
set_option Elab.async false
set_option maxRecDepth 100000
set_option maxHeartbeats 4000000
namespace PV
open PySem PySem.Spec PyProof.Rows
section
variable {M:Model} {A:Around} {E:Value→Shared→Prop} {s:Shared} {B h h':Heap} {env:PySem.Env} {outer l:List PySem.Env} {L e C:Addr} {fl:Value}
noncomputable def Tr (B h:Heap) (e C:Addr) (fl:Value):Prop :=
 ∃ xo ws T to tw,(h.get? e=some xo∧xo.cls=.ref C∧xo.dict=none∧xo.data=.fields ws)∧ws[1]?=some (.ref T)∧B.get? T=none∧T≠e∧h.get? T=some to∧to.data=.fields tw∧tw[3]?=some fl
structure Fl (B:Heap)(l:List PySem.Env)(e C:Addr)(fl:Value)(h:Heap):Prop where
 st:B.StaysIn h
 no:B.get? e=none
 ff:h.FunFrames B l
 tr:Tr B h e C fl
theorem Zis (x:h.UpToSlots h')(f:h.FunFrames B l):h'.FunFrames B l:=f.of_keeps fun b o q n=>let ⟨sl,z⟩:=x b o q n;⟨_,z,rfl⟩
theorem Zk2 (o:Obj)(g:Array Value→Array Value):(Obj.mapFields g o).dict=o.dict:=by
 obtain ⟨_,_,dt,_⟩:=o
 cases dt <;> rfl
theorem Zc9 {xo:Obj}{ws:Array Value}{hd:Value}{nx:Bool}{Q:Unit→Shared→Prop}(fr:A.frames=some (env::outer))(ff:s.heap.FunFrames B (env::outer))(hf:env.frame=some L)
  (st:B.StaysIn s.heap) (no:B.get? e=none) (xe:s.heap.get? e=some xo) (xc:xo.cls=.ref C) (xd:xo.dict=none) (xw:xo.data=.fields ws) (x1:1 < ws.size)
  (k:∀ g,Fl B (env::outer) e C (rawInt L) g→s.heap.UpToSlots g→Q () { s with heap:=g }) :
  wpAny M A (do let a ← frameOf env;let pl ← entryPlaceOf L nx;let b ← EntryCells.newEntry hd a .none (rawInt L) .none pl;setField (.ref e) 1 b) Q E s:=by
 have nfr:e ∉ (env::outer).filterMap (·.frame):=fun z=>by
  obtain ⟨-,o,q,n⟩:=ff.mem z
  rw [xe] at q;cases q;exact n ws xw
 refine wpAny_bind (wpAny_frameOf_fun fr ff hf fun g so=>wpAny_bind (wpAny_entryPlaceOf fun pl ip=>?_))
 unfold EntryCells.newEntry newFields
 refine wpAny_bind (wpAny_newObj_type ?_ (ip.sizeOk5 _ _ _ _ _))
 have ge:g.get? e=some xo:=(so.2.1 e nfr).trans xe
 have gB:B.StaysIn g:=fun b o q=>(so.2.1 b fun z=>by rw [(ff.mem z).1] at q;cases q).trans (st b o q)
 generalize hto:({ cls:=.type "traceback",dict:=none,data:=.fields ([hd,.ref L,.none,rawInt L,.none]++(if pl.isEmpty then List.replicate 6 Value.none else pl)).toArray }:Obj)=to
 have td:to.data=.fields ([hd,.ref L,.none,rawInt L,.none]++(if pl.isEmpty then List.replicate 6 Value.none else pl)).toArray:=by rw [← hto]
 have tf:to.isFreed=false:=Obj.isFreed_of_fields td
 have pe:(g.push to).get? e=some xo:=Heap.get?_push_of_some _ ge
 refine wpAny_setField pe xw x1 ?_
 have Te:g.objs.size≠e:=Nat.ne_of_gt (Heap.lt_size ge)
 have ud:=Obj.data_mapFields xw (·.setIfInBounds 1 (Value.ref g.objs.size))
 have ue:=Heap.get?_update_self (Obj.mapFields (·.setIfInBounds 1 (Value.ref g.objs.size))) pe (Obj.isFreed_of_fields ud)
 have uT:((g.push to).update e (Obj.mapFields (·.setIfInBounds 1 (Value.ref g.objs.size)))).get? g.objs.size=some to:=(Heap.get?_update_other _ _ (Ne.symm Te)).trans (Heap.get?_push_size g tf)
 have kp:∀ b o,b≠e→g.get? b=some o→((g.push to).update e (Obj.mapFields (·.setIfInBounds 1 (Value.ref g.objs.size)))).get? b=some o:=fun b o n q =>
  (Heap.get?_update_other _ _ (Ne.symm n)).trans (Heap.get?_push_of_some _ q)
 have up:s.heap.UpToSlots ((g.push to).update e (Obj.mapFields (·.setIfInBounds 1 (Value.ref g.objs.size)))):=fun b o q n=>by
  obtain ⟨sl,z⟩:=so.2.2 b o q
  exact ⟨sl,kp b _ (fun y=>by subst y;rw [xe] at q;cases q;exact n ws xw) z⟩
 refine k _ ⟨fun b o q=>kp b o (fun y=>by rw [y,no] at q;cases q) (gB b o q),no,Zis up ff,?_⟩ up
 refine ⟨_,_,g.objs.size,to,_,⟨ue,(Obj.cls_mapFields _ _).trans xc,(Zk2 _ _).trans xd,ud⟩,by simp [x1],gB.fresh,Te,uT,td,?_⟩
 simp
theorem land {Q:Unit→Shared→Prop}(f:Fl B l e C fl s.heap)(k:∀ g,Fl B l e C .none g→s.heap.UpToSlots g→Q () { s with heap:=g }):wpAny M A (setFlight (.ref e) none) Q E s:=by
 obtain ⟨st,no,ff,xo,ws,T,to,tw,⟨xe,xc,xd,xw⟩,w1,nT,Te,tg,td,t3⟩:=f
 have t3':=(Array.getElem?_eq_some_iff.mp t3).1
 unfold setFlight
 refine wpAny_bind (wpAny_field xe xw w1 ?_)
 rw [if_pos (by simp)]
 have ot:∀ b,b≠T→(s.heap.update T (Obj.mapFields (·.setIfInBounds 3 Value.none))).get? b=s.heap.get? b:=fun b n=>Heap.get?_update_other _ _ (Ne.symm n)
 have up:s.heap.UpToSlots (s.heap.update T (Obj.mapFields (·.setIfInBounds 3 Value.none))):=fun b o q n=>⟨o.slots,(ot b fun y=>by subst y;rw [tg] at q;cases q;exact n tw td).trans q⟩
 refine wpAny_setField tg td t3' (k _ ⟨fun b o q=>(ot b fun y=>by rw [y,nT] at q;cases q).trans (st b o q),no,Zis up ff,?_⟩ up)
 exact ⟨xo,ws,T,_,_,⟨(ot e (Ne.symm Te)).trans xe,xc,xd,xw⟩,w1,nT,Te,Heap.get?_update_self _ tg (Obj.isFreed_of_fields (Obj.data_mapFields td _)),Obj.data_mapFields td _,by simp [t3']⟩
theorem ZhN {Q:Unit→Shared→Prop}(fr:A.frames=some (env::outer))(hf:env.frame=some L)(f:Fl B (env::outer) e C .none s.heap)
  (k:∀ g,Fl B (env::outer) e C (rawInt L) g→s.heap.UpToSlots g→Q () { s with heap:=g }):wpAny M A (noteFrame (.ref e) env) Q E s:=by
 obtain ⟨st,no,ff,xo,ws,T,to,tw,⟨xe,xc,xd,xw⟩,w1,nT,Te,tg,td,t3⟩:=f
 unfold noteFrame
 simp only [hf]
 refine wpAny_bind (wpAny_field xe xw w1 ?_)
 rw [if_pos (by simp)]
 refine wpAny_bind (wpAny_field tg td t3 ?_)
 rw [if_neg (by simp [rawInt])]
 have ot:∀ b,b≠T→(s.heap.update T (Obj.mapFields (·.setIfInBounds 3 Value.none))).get? b=s.heap.get? b:=fun b n=>Heap.get?_update_other _ _ (Ne.symm n)
 have up:s.heap.UpToSlots (s.heap.update T (Obj.mapFields (·.setIfInBounds 3 Value.none))):=fun b o q n=>⟨o.slots,(ot b fun y=>by subst y;rw [tg] at q;cases q;exact n tw td).trans q⟩
 refine wpAny_bind (wpAny_setField tg td (Array.getElem?_eq_some_iff.mp t3).1 ?_)
 exact Zc9 fr (Zis up ff) hf (fun b o q=>(ot b fun y=>by rw [y,nT] at q;cases q).trans (st b o q)) no ((ot e (Ne.symm Te)).trans xe) xc xd xw (Array.getElem?_eq_some_iff.mp w1).1 fun g f' u=>k g f' (up.trans u)
theorem ZfD {Q:Unit→Shared→Prop}(hf:env.frame=some L)(f:Fl B (env::outer) e C (rawInt L) s.heap)(k:Q () s):wpAny M A (noteFrame (.ref e) env) Q E s:=by
 obtain ⟨st,no,ff,xo,ws,T,to,tw,⟨xe,xc,xd,xw⟩,w1,nT,Te,tg,td,t3⟩:=f
 unfold noteFrame
 simp only [hf]
 refine wpAny_bind (wpAny_field xe xw w1 ?_)
 rw [if_pos (by simp)]
 refine wpAny_bind (wpAny_field tg td t3 ?_)
 rw [if_pos (by simp [rawInt])]
 exact wpAny_pure k
theorem leave_new {xo:Obj}{ws:Array Value}{Q:Unit→Shared→Prop}(fr:A.frames=some (env::outer))(hf:env.frame=some L)(ff:s.heap.FunFrames B (env::outer))
  (st:B.StaysIn s.heap) (no:B.get? e=none) (xe:s.heap.get? e=some xo) (xc:xo.cls=.ref C) (xd:xo.dict=none) (xw:xo.data=.fields ws) (x1:ws[1]?=some .none)
  (k:∀ g,Fl B outer e C .none g→s.heap.UpToSlots g→Q () { s with heap:=g }):wpAny M A (leaving env (.ref e)) Q E s:=by
 unfold leaving noteFrame
 simp only [hf]
 refine wpAny_bind (wpAny_bind (wpAny_field xe xw x1 ?_))
 rw [if_neg (by decide)]
 refine Zc9 fr ff hf st no xe xc xd xw (Array.getElem?_eq_some_iff.mp x1).1 fun g f u=>land f fun g2 f2 u2=>k g2 ⟨f2.st,f2.no,f2.ff.2.2,f2.tr⟩ (u.trans u2)
theorem ZjN {Q:Unit→Shared→Prop}(fr:A.frames=some (env::outer))(hf:env.frame=some L)(f:Fl B (env::outer) e C .none s.heap)
  (k:∀ g,Fl B outer e C .none g→s.heap.UpToSlots g→Q () { s with heap:=g }):wpAny M A (leaving env (.ref e)) Q E s:=by
 unfold leaving
 exact wpAny_bind (ZhN fr hf f fun g f1 u=>land f1 fun g2 f2 u2=>k g2 ⟨f2.st,f2.no,f2.ff.2.2,f2.tr⟩ (u.trans u2))
theorem Zij {Q:Unit→Shared→Prop}(hf:env.frame=some L)(f:Fl B (env::outer) e C (rawInt L) s.heap)
  (k:∀ g,Fl B outer e C .none g→s.heap.UpToSlots g→Q () { s with heap:=g }):wpAny M A (leaving env (.ref e)) Q E s:=by
 unfold leaving
 exact wpAny_bind (ZfD hf f (land f fun g2 f2 u2=>k g2 ⟨f2.st,f2.no,f2.ff.2.2,f2.tr⟩ u2))
end
end PV
set_option linter.all false
set_option Elab.async false
set_option maxRecDepth 100000
set_option maxHeartbeats 4000000
namespace PV
open PySem PySem.Spec PyProof.Rows
open L2 (V Hp HO Vals SqL SqT Same upd Cx PE PT PW PA PS PSs TE TT TA TS Inv RelV Jd Yd Ze Un HOk frs)
noncomputable def Cov (B:Heap) (fs:List Addr) (h0:Heap) (H:Hp):Prop:=∀ b,b ∉ fs→((∃ o,h0.get? b=some o)∨H b≠none)→∃ o,B.get? b=some o
noncomputable def CXe (P:Program) (w:World):L2.CXT:=fun outer H s E e s'=>∃ a C H' B,e=.ref a∧s'.os=s.os∧AllBare s'.gens∧Un (frs outer) [] H H' s.heap s'.heap∧HOk P w H' s'.heap ∧
 Cov B (frs outer) s.heap H'∧Fl B outer a C .none s'.heap∧E (.ref C) none H'
noncomputable def Ned (X:Cx) (pins:List (Addr × Obj)) (H:Hp) (b:Addr):Prop :=
 ((∃ o,X.s₀.heap.get? b=some o)∧b ∉ X.ex)∨H b≠none∨(∃ p ∈ X.pn++pins,p.1=b)∨∃ x,X.env.cells.lookup x=some b
structure XSt (X:Cx)(pins:List (Addr × Obj))(H:Hp)(s:Shared)(a C:Addr)(B:Heap):Prop where
 st:B.StaysIn s.heap
 no:B.get? a=none
 ff:s.heap.FunFrames B X.stack
 cov:∀ b,b ∉ frs X.stack→Ned X pins H b→∃ o,B.get? b=some o
 it:(∃ xo ws,(s.heap.get? a=some xo∧xo.cls=.ref C∧xo.dict=none∧xo.data=.fields ws)∧ws[1]?=some .none)∨Tr B s.heap a C .none∨Tr B s.heap a C (rawInt X.env.locals)
section
variable {P:Program} {w:World} {X:Cx} {pins:List (Addr × Obj)} {σ:L2.St} {H H':Hp} {s s':Shared} {a C:Addr} {B g h:Heap}
theorem Zic {o:HO}(x:L2.Yy P w H h a o):∃ v,h.get? a=some v:=by
 cases o with
 | lst xs=>obtain ⟨_,_,_,_,e⟩:=x;exact ⟨_,e⟩
 | tup xs=>obtain ⟨_,_,_,o,e,_⟩:=x;exact ⟨_,e⟩
 | dK kvs=>obtain ⟨_,_,_,_,o,_,_,e,_⟩:=x;exact ⟨_,e⟩
 | dT kvs=>obtain ⟨_,_,_,_,o,_,_,e,_⟩:=x;exact ⟨_,e⟩
 | set S n=>obtain ⟨o,_,_,_,e,_⟩:=x;exact ⟨_,e⟩
 | ins C dx fs=>obtain ⟨_,_,_,e,_⟩:=x;exact ⟨_,e⟩
 | own y=>obtain ⟨_,e⟩:=x;exact ⟨_,e⟩
 | xd fs=>obtain ⟨_,⟨_,_,_,e,_⟩,_⟩:=x;exact ⟨_,e⟩
 | rng lo hi=>obtain ⟨_,_,_,e⟩:=x;exact ⟨_,e⟩
 | frz ob u=>obtain ⟨e,_⟩:=x;exact ⟨_,e⟩
 | tbl ps=>exact ⟨_,x⟩
 | met f y=>exact ⟨_,x⟩
 | ext φ=>obtain ⟨_,⟨_,e⟩,_⟩:=x;exact ⟨_,e⟩
theorem ZhK (I:Inv X pins σ H s)(cov:∀ b,b ∉ frs X.stack→H b≠none→∃ o,B.get? b=some o)(st:B.StaysIn s.heap)(sg:B.StaysIn g):HOk X.prog X.w H g:=fun b u q=>by
 refine (I.hok b u q).stay (fun c v hc z=>?_) (fun _ z=>z) fun _ _ z=>z
 have ht:H c≠none:=by
  rcases hc with rfl | hc
  ·rw [q];simp
  ·rw [hc];simp
 obtain ⟨o,ho⟩:=cov c (fun m=>ht (I.Zfe c m)) ht
 have:=st c o ho
 rw [z] at this
 cases this
 exact sg c v ho
theorem Zem (hs:X.stack=X.env::X.outer)(hf:X.env.frame=some X.env.locals):frs X.stack=X.env.locals::frs X.outer:=by
 rw [hs];unfold frs;rw [List.filterMap_cons,hf]
theorem leaves {E:L2.XK}(hs:X.stack=X.env::X.outer)(hf:X.env.frame=some X.env.locals)(hex:X.ex=[])(I:Inv X pins σ H s)(x:XSt X pins H s a C B)(hE:E (.ref C) none H) :
  wpAny (model X.prog X.w) X.A (leaving X.env (.ref a)) (fun _ s''=>CXe X.prog X.w X.outer X.H₀ X.s₀ E (.ref a) s'') (fun e' s''=>CXe X.prog X.w X.outer X.H₀ X.s₀ E e' s'') s:=by
 have fc:=Zem hs hf
 have neL:∀ b o,X.s₀.heap.get? b=some o→b≠X.env.locals:=fun b o e=>Nat.ne_of_lt (Nat.lt_of_lt_of_le (Heap.lt_size e) I.ok.above)
 have inB:∀ b o,X.s₀.heap.get? b=some o→b ∉ frs X.outer→∃ u,B.get? b=some u:=fun b o e n=>x.cov b (fun m=>by
  rw [fc] at m
  rcases List.mem_cons.mp m with m | m
  ·exact neL b o e m
  ·exact n m) (.inl ⟨⟨o,e⟩,by rw [hex];simp⟩)
 have key:∀ g,Fl B X.outer a C .none g→s.heap.UpToSlots g→CXe X.prog X.w X.outer X.H₀ X.s₀ E (.ref a) { s with heap:=g }:=fun g f up=>by
  have fru:∀ b o,b ∈ frs X.outer→s.heap.get? b=some o→∃ sl,g.get? b=some { o with slots:=sl }:=fun b o m q=>by
   have mm:b ∈ frs X.stack:=by rw [fc];exact List.mem_cons_of_mem _ m
   obtain ⟨-,o',q',n⟩:=x.ff.mem mm
   rw [q] at q';cases q'
   exact up b o q n
  refine ⟨a,C,H,B,rfl,I.os,I.bare,⟨fun b o e n hb hx=>?_,fun b o e n hb hx=>?_,fun b o e n hx=>?_,fun b o e hx=>?_,I.base.tups,I.base.frzs,I.base.tbls⟩,ZhK I (fun b n t=>x.cov b n (.inr (.inl t))) x.st f.st,fun b n t=>?_,f,hE⟩
  ·have q:=I.base.keep b o e n hb (by rw [hex];simp)
   obtain ⟨u,hu⟩:=inB b o e hb
   have:=x.st b u hu
   rw [q] at this;cases this
   exact f.st b o hu
  ·obtain ⟨sl,q⟩:=I.base.slot b o e n hb (by rw [hex];simp)
   obtain ⟨sl',q'⟩:=fru b _ hb q
   exact ⟨sl',q'⟩
  ·exact I.base.free b o e n (by rw [hex];simp)
  ·obtain ⟨o',q⟩:=I.base.there b o e (by rw [hex];simp)
   by_cases hb:b ∈ frs X.outer
   ·obtain ⟨sl',q'⟩:=fru b _ hb q
    exact ⟨_,q'⟩
   ·obtain ⟨u,hu⟩:=inB b o e hb
    exact ⟨u,f.st b u hu⟩
  ·by_cases hb:b=X.env.locals
   ·subst hb
    rcases t with ⟨o,e⟩ | t
    ·exact absurd rfl (neL _ o e)
    ·exact absurd I.free t
   ·refine x.cov b (fun m=>?_) (t.elim (fun t=>.inl ⟨t,by rw [hex];simp⟩) fun t=>.inr (.inl t))
    rw [fc] at m
    rcases List.mem_cons.mp m with m | m
    ·exact hb m
    ·exact n m
 have fr:X.A.frames=some (X.env::X.outer):=I.ok.frames.trans (congrArg some hs)
 have ff:=x.ff
 rw [hs] at ff
 rcases x.it with ⟨xo,ws,⟨q1,q2,q3,q4⟩,q5⟩ | tr | tr
 ·exact leave_new fr hf ff x.st x.no q1 q2 q3 q4 q5 key
 ·exact ZjN fr hf ⟨x.st,x.no,ff,tr⟩ key
 ·exact Zij hf ⟨x.st,x.no,ff,tr⟩ key
theorem XSt.ZlB {E:L2.XK}{e:Value}(I:Inv X pins σ H s)(h:CXe X.prog X.w X.stack H s E e s'):∃ a C H' B,e=.ref a∧Inv X pins σ H' s'∧XSt X pins H' s' a C B∧E (.ref C) none H':=by
 obtain ⟨a,C,H',B,rfl,os,bare,un,hok,cov,f,hE⟩:=h
 obtain ⟨hh,gg,d,t,os'⟩:=s'
 obtain rfl:os'=s.os:=os
 have I':Inv X pins σ H' ⟨hh,gg,d,t,s.os⟩:=I.call (h':=hh) (g':=gg) (d':=d) (t':=t) (ch:=[]) un hok bare (fun b z=>absurd z (by simp))
 refine ⟨a,C,H',B,rfl,I',⟨f.st,f.no,f.ff,fun b n t=>?_,.inr (.inl f.tr)⟩,hE⟩
 rcases t with ⟨⟨o,q⟩,hx⟩ | t | ⟨p,hp,rfl⟩ | ⟨x,hx⟩
 ·obtain ⟨o',q'⟩:=I.base.there b o q hx
  exact cov b n (.inl ⟨o',q'⟩)
 ·exact cov b n (.inr t)
 ·exact cov _ n (.inl ⟨_,(I.pin p hp).1⟩)
 ·obtain ⟨v,o,ho,_⟩:=I.cell x b hx
  exact cov b n (.inl ⟨o,ho⟩)
end
end PV
set_option linter.all false
set_option Elab.async false
set_option maxRecDepth 100000
set_option maxHeartbeats 4000000
namespace PV
open PySem PySem.Spec PyProof.Rows
open L2 (V Hp HO Vals SqL SqT Same upd Cx PE PT PW PA PS PSs TE TT TA TS Inv RelV Jd Yd Ze Un HOk frs)
noncomputable def AfX (X:Cx) (pins:List (Addr × Obj)) (D0:L2.Ends) (m:RetP) (BF BH F:Hp) (env':Env):XO→Prop
 | .ok o=>∀ F' H' σ' L',SOk X.K BF BH F' H' σ' env' L'→Same F F'→After D0 m BH F' H' σ' o
 | .ex c=>∀ F' H' σ' L' s' a C B,SOk X.K BF BH F' H' σ' env' L'→Same F F'→Inv X pins σ' H' s'→XSt X pins H' s' a C B→CN X.K c C→X.xe (.ref a) s'
noncomputable def tX (X:Cx) (pins:List (Addr × Obj)) (m:RetP) (g:Sx) (D0:L2.Ends) (σ:L2.St) (H:Hp):Prop :=
 ∃ BF BH F env L o env',SOk X.K BF BH F H σ env L∧g env=some (o,env')∧AfX X pins D0 m BF BH F env' o
structure PX (X:Cx)(m:RetP)(st:List Stmt)(g:Sx):Prop where
 h:∀ pins s σ H D0,Inv X pins σ H s→tX X pins m g D0 σ H→wpAny (model X.prog X.w) X.A (execs st X.env) (L2.SP X pins D0) X.xe s
structure PX1 (X:Cx)(m:RetP)(st:Stmt)(g:Sx):Prop where
 h:∀ pins s σ H D0,Inv X pins σ H s→tX X pins m g D0 σ H→wpAny (model X.prog X.w) X.A (exec st X.env) (L2.SP X pins D0) X.xe s
theorem PS.nox {X:Cx}{st:Stmt}{t:TS}(h:PS X.nox st t):PS X st t:=fun pins s σ H D I hw =>
 wpAny_mono (h pins s σ H D (I.wish _) hw) (fun _ _ q=>q.Z4) fun _ _ z=>False.elim z
theorem PA.nox {X:Cx}{es:List Expr}{t:TA}(h:PA X.nox es t):PA X es t:=fun pos pins s σ H Q I hw =>
 wpAny_mono (h pos pins s σ H Q (I.wish _) hw) (fun _ _ ⟨vs,H',I',r,q⟩=>⟨vs,H',I'.Z4,r,q⟩) fun _ _ z=>False.elim z
section
variable {X:Cx} {m:RetP} {st:Stmt} {rest body orelse:List Stmt} {g:St} {ga gb:Sx} {c:Expr} {t:Tx} {pos:Pos}
theorem ZhW {env env':Env}{o:XO}(h:xOf g env=some (o,env')):∃ o',o=.ok o'∧g env=some (o',env'):=by
 unfold xOf at h
 split at h
 ·rename_i o' e h1;cases h;exact ⟨o',rfl,h1⟩
 ·cases h
theorem Zkx (h:PSd X.nox m rest g):PX X m rest (xOf g):=⟨fun pins s σ H D0 I hh_=>el10 hh_ fun BF BH F env L o env' S e k=>by
 obtain ⟨o,rfl,e1⟩:=ZhW e
 exact L2.PSs.nox h.h pins s σ H D0 I ⟨BF,BH,F,env,L,o,env',S,e1,k⟩⟩
theorem Zgl (h:PS1 X.nox m st g):PX1 X m st (xOf g):=⟨fun pins s σ H D0 I hh_=>el10 hh_ fun BF BH F env L o env' S e k=>by
 obtain ⟨o,rfl,e1⟩:=ZhW e
 exact PS.nox h.h pins s σ H D0 I ⟨BF,BH,F,env,L,o,env',S,e1,k⟩⟩
theorem AfX.after {pins:List (Addr × Obj)}{D0:L2.Ends}{BF BH F F1:Hp}{env':Env}{o:XO}(k:AfX X pins D0 m BF BH F env' o)(s:Same F F1):AfX X pins D0 m BF BH F1 env' o:=by
 cases o with
 | ok o=>exact fun F' H' σ' L' S z=>k F' H' σ' L' S (s.trans z)
 | ex c=>exact fun F' H' σ' L' s' a C B S z=>k F' H' σ' L' s' a C B S (s.trans z)
theorem Zhw (h:PX1 X m st ga):PX X m [st] ga:=⟨fun pins s σ H D0 I q=>by
 refine wpAny_execs_cons (L2.thn (h.h pins s σ H D0 I q) fun f s1 q=>?_)
 cases f with
 | next=>exact wpAny_execs_nil q
 | ret v=>exact q
 | brk=>exact q
 | cont=>exact q⟩
theorem ZdO (h1 : PX1 X m st ga)(h2 : PX X m rest gb) : PX X m (st :: rest) (xSeq ga gb) := ⟨fun pins s σ H D0 I hh_ => el10 hh_ fun BF BH F env L o env' S e k => by
  unfold xSeq at e
  have go : ∀ (D1 : L2.Ends), tX X pins m ga D1 σ H → (∀ f s1, L2.SP X pins D1 f s1 → match f with | .next => wpAny (model X.prog X.w) X.A (execs rest X.env) (L2.SP X pins D0) X.xe s1 | f => L2.SP X pins D0 f s1) →
      wpAny (model X.prog X.w) X.A (execs (st :: rest) X.env) (L2.SP X pins D0) X.xe s := fun D1 q z => by
    refine wpAny_execs_cons (L2.thn (h1.h pins s σ H D1 I q) fun f s1 q => ?_)
    have := z f s1 q
    cases f <;> exact this
  split at e
  · rename_i e1 h1'
    refine go { D0 with nx := fun σ' H' => ∃ F' L', SOk X.K BF BH F' H' σ' e1 L' ∧ Same F F' } ⟨BF, BH, F, env, L, _, e1, S, h1', fun F' H' σ' L' S' z => ⟨F', L', S', z⟩⟩ fun f s1 q => ?_
    cases f with
    | next =>
      obtain ⟨σ', H', I', F', L', S', z⟩ := q
      exact h2.h pins s1 σ' H' D0 I' ⟨BF, BH, F', e1, L', o, env', S', e, k.after z⟩
    | ret v => exact q
    | brk => exact q
    | cont => exact q
  · rename_i r hne
    cases hr : ga env with
    | none => rw [hr] at e; cases e
    | some p =>
      obtain ⟨o1, e1⟩ := p
      rw [hr] at e
      cases e
      refine go { D0 with nx := fun _ _ => False } ⟨BF, BH, F, env, L, o, env', S, hr, ?_⟩ fun f s1 q => ?_
      · cases o with
        | ex c => exact k
        | ok o =>
          cases o with
          | nx => exact absurd hr (hne _)
          | bk => exact k
          | ct => exact k
          | rt d => exact k
      · cases f with
        | next => obtain ⟨_, _, _, q⟩ := q; exact q.elim
        | ret v => exact q
        | brk => exact q
        | cont => exact q⟩
theorem Zmr:PX X m [] (xOf Jj):=Zkx Zk
theorem ZmH (hc:PTd X.nox c t)(ha:PX X m body ga)(hb:PX X m orelse gb):PX1 X m (.If c body orelse pos) (xIf t ga gb):=⟨fun pins s σ H D0 I hh_=>el10 hh_ fun BF BH F env L o env' S e k=>by
 unfold xIf at e
 have go:∀ b:Bool,t env=some b→(match b with | true=>ga env | false=>gb env)=some (o,env')→wpAny (model X.prog X.w) X.A (exec (.If c body orelse pos) X.env) (L2.SP X pins D0) X.xe s:=fun b hb' he=>by
  refine wpAny_If (L2.thn (L2.PT.nox hc pins s σ H (fun b' H1=>b'=b∧∃ F1,SOk X.K BF BH F1 H1 σ env L∧Same F F1) I ⟨BF,BH,F,env,L,b,S,hb',fun F' H' z=>⟨rfl,F',S.ext z,z.ff⟩⟩) fun d s1 q=>?_)
  obtain ⟨H1,I1,rfl,F1,S1,z⟩:=q
  cases d with
  | true=>exact ha.h pins s1 σ H1 D0 I1 ⟨BF,BH,F1,env,L,o,env',S1,he,k.after z⟩
  | false=>exact hb.h pins s1 σ H1 D0 I1 ⟨BF,BH,F1,env,L,o,env',S1,he,k.after z⟩
 split at e
 ·rename_i h1;exact go true h1 e
 ·rename_i h1;exact go false h1 e
 ·cases e⟩
theorem ZhS {h h1 base:Heap}{fs:List Addr}(k:∀ b o,h.get? b=some o→h1.get? b=some o):∀ {l:List PySem.Env},(∀ b ∈ frs l,b ∈ fs)→h.FunFrames base l→h1.FunFrames (PySem.W.hideAll h fs) l
 | [],_,_=>trivial
 | env::r,hs,⟨h1,⟨L,o,hf,hn,ho,hd⟩,hr⟩=>by
  have hL:L ∈ frs (env::r):=by unfold frs;rw [List.filterMap_cons,hf];exact List.mem_cons_self
  refine ⟨h1,⟨L,o,hf,PySem.W.hideAll_none _ (hs L hL),k _ _ ho,hd⟩,ZhS k (fun b hb=>hs b ?_) hr⟩
  unfold frs at hb ⊢
  rw [List.filterMap_cons,hf];exact List.mem_cons_of_mem _ hb
theorem XSt.made {pins:List (Addr × Obj)}{σ:L2.St}{H:Hp}{s:Shared}{a C:Addr}{h1:Heap}{vs:List Value}(I:Inv X pins σ H s)(hm:Heap.MadeExcOf s.heap h1 a (.ref C) vs) :
  Inv X pins σ H { s with heap:=h1 }∧XSt X pins H { s with heap:=h1 } a C (PySem.W.hideAll s.heap (frs X.stack)):=by
 have here:∀ b,Ned X pins H b→∃ o,s.heap.get? b=some o:=fun b t=>by
  rcases t with ⟨⟨o,q⟩,hx⟩ | t | ⟨p,hp,rfl⟩ | ⟨x,hx⟩
  ·exact I.base.there b o q hx
  ·cases q:H b with
   | none=>exact absurd q t
   | some o=>exact Zic (I.hok b o q)
  ·exact ⟨_,(I.pin p hp).1⟩
  ·obtain ⟨v,o,ho,_⟩:=I.cell x b hx
   exact ⟨o,ho⟩
 obtain ⟨t,h2,h3,h4⟩:=hm.there
 refine ⟨I.kept (t':=s.toks) hm.keeps,fun b o q=>hm.keeps b o (PySem.W.of_hideAll _ q),?_,ZhS hm.keeps (fun _ z=>z) I.stack,fun b n t=>?_,.inl ⟨_,_,⟨h2,rfl,rfl,rfl⟩,rfl⟩⟩
 ·cases q:(PySem.W.hideAll s.heap (frs X.stack)).get? a with
  | none=>rfl
  | some o=>have:=PySem.W.of_hideAll _ q;rw [hm.new] at this;cases this
 ·obtain ⟨o,q⟩:=here b t
  exact ⟨o,PySem.W.hideAll_get _ q n⟩
structure XCl (K:PySem.W.Frag)(c:Nat):Prop where
 ex:∃ C,CN K c C∧PySem.W.excIn K C [.type "ValueError",.type "Exception",.type "BaseException",.type "object"] "ValueError.__new__"=true
theorem Zjf {K:PySem.W.Frag}{h:Heap}{C:Addr}{bmB:List Value}{newId:String}(X:K.In h)(q:PySem.W.excIn K C bmB newId=true) :
  ∃ bm N nm qn bs hd sn sub ab col dd k0 k1 k2 k3 k5 mN,h.get? C=some (excClassObj nm qn C N bs bm hd sn sub ab col dd k0 k1 k2 k3 k5 newId)∧h.Ns N mN∧mN "__init__"=none∧OwnTail h bmB bm:=by
 unfold PySem.W.excIn at q
 split at q
 ·rename_i dd cd sl ho
  split at q
  ·rename_i C' bm k0 k1 k2 k3 n k5 hm hs
   simp only [Bool.and_eq_true,beq_iff_eq,Bool.not_eq_true'] at q
   obtain ⟨⟨⟨⟨⟨rfl,rfl⟩,z1⟩,z2⟩,z3⟩,z4⟩:=q
   obtain ⟨nm,bs,mro,ns,qn,hd,sn,sub,ab,col,del⟩:=cd
   dsimp only at hm z1 z3 z4
   subst hm z1
   obtain ⟨l⟩:=sl
   simp only at hs
   subst hs
   exact ⟨bm,ns,nm,qn,bs,hd,sn,sub,ab,col,dd,k0,k1,k2,k3,k5,_,X _ _ ho,.of_isNs (PySem.W.isNs_of_in X z3),PySem.W.nsMap_none_of_in X z3 z4,PySem.W.tail_of_in X z2⟩
  ·cases q
 ·cases q
theorem Zjx (n:Nat) {x msg:Str} {np cp cpos:Pos} {j} (hcl:XCl X.K n) (hc:X.calm=true) (hx:xName n=x) (hg:X.env.kindOf x=some .globalImplicit:=by kernel_rfl) (hdb:(x == ("__debug__":Str))=false:=by kernel_rfl) :
  PX1 X m (.Raise (some (.Call (.Name x np) [.Constant (.str msg) j cp] [] cpos)) none pos) (ZiP n):=⟨fun pins s σ H D0 I hh_=>el10 hh_ fun BF BH F env L o env' S e k=>by
 cases e
 obtain ⟨C,hC,hex⟩:=hcl.ex
 subst hx
 obtain ⟨bm,N,nm,qn,bs,hd,sn,sub,ab,col,dd,k0,k1,k2,k3,k5,mN,c1,c2,c3,c4⟩:=Zjf I.mod.kin hex
 have hmg:X.mg (xName n)=some (.ref C):=PySem.W.mg_of I.mod.kin I.mod.glob hC
 refine wpAny_Raise_call_subT (C:=C) (nm:=nm) (q:=qn) (N:=N) (bs:=bs) (bm:=bm) (hdct:=hd) (sn:=sn) (sub:=sub) (ab:=ab) (col:=col) (dd:=dd) (k0:=k0) (k1:=k1) (k2:=k2) (k3:=k3) (k5:=k5) PySem.F.excBase_ValueError (mN:=mN)
  (c4.hasType PySem.F.excBase_ValueError.hasBase) (I.ok.hd hc) rfl c3 (L2.ZaI I hg hmg ⟨rfl,?_⟩ hdb)
 show wpAny _ _ (evalArgs (.ref C) true ((false,eval (.Constant (.str msg) j cp) X.env)::backTo cpos (starEach [] X.env)) []) _ _ s
 refine Calls.evalArgs_plain ?_
 have pa:PA X [.Constant (.str msg) j cp] _:=L2.Zt L2.Zjh L2.ZJ rfl
 refine L2.thn (pa cpos pins s σ H (fun vs H1=>vs=[.str msg]∧H1=H) I ⟨rfl,rfl⟩) fun us s1 q=>?_
 obtain ⟨vs,H1,I1,r,rfl,rfl⟩:=q
 refine ⟨rfl,?_,I1.bk _ _ c1,c2.keeps I1.bk,c4.keeps I1.bk,fun h' a hm=>?_⟩
 ·rw [← r.length];show 1≤sizeLine;decide
 ·obtain ⟨I2,x2⟩:=XSt.made I1 hm
  exact k F _ σ L _ a C _ S (.refl _) I2 x2 hC⟩
end
noncomputable def spX (K:PySem.W.Frag) (m:RetP) (φ:Fx):L2.Sp:=fun vs H Q E=>∃ F ds,Same F H∧Reps K F ds vs ∧
 ((∃ d,φ ds=some (.inl d)∧∀ v F' H',Ext F H F' H'→m H F' H' d v→Q v H')∨∃ c,φ ds=some (.inr c)∧∀ C F' H',CN K c C→Ext F H F' H'→E (.ref C) none H')
structure CalX (P:Program)(w:World)(K:PySem.W.Frag)(mg:Str→Option Value)(base:Heap)(k:Nat)(x:Str)(m:RetP)(φ:Fx):Prop where
 ex:∃ (fa:Addr) (fd:FuncData) (ps:List Str),mg x=some (.ref fa)∧PySem.W.keepIn K (.ref fa)=true∧L2.FnOk P w K mg base (CXe P w) k fa fd ps (spX K m φ)∧L2.Binds K fd ps []
section
variable {X:Cx} {m m1:RetP} {e:Expr} {es:List Expr} {fs:List Ex} {x:Str} {p pos pos':Pos} {k:Nat} {φ:Fx}
theorem Zje {pins:List (Addr × Obj)} {σ:L2.St} {H BF BH F:Hp} {s:Shared} {env:Env} {L:Nat→List Addr} {r:D ⊕ Nat} {Q:L2.VK} (G:CalX X.prog X.w X.K X.mg X.base k x m1 φ) (hr:L2.Room k X.A) (ha:PAd X.nox .k (e::es) fs) (hg:L2.Gl X x) (hdb:(x == ("__debug__":Str))=false)
  (he:starEach (e::es) X.env=(false,eval e X.env)::starEach es X.env) (hpl:(backTo pos (starEach es X.env)).any (·.1)=false) (I:Inv X pins σ H s) (S:SOk X.K BF BH F H σ env L) (hφ:Ze1 φ fs env=some r)
  (ok:∀ d,r=.inl d→∀ v F' H' H0,Same BH H0→Same H H0→Ext F H F' H'→m1 H0 F' H' d v→Q v H')
  (ex:∀ c,r=.inr c→∀ F' H' s' a C B,Ext F H F' H'→Inv X pins σ H' s'→XSt X pins H' s' a C B→CN X.K c C→X.xe (.ref a) s') :
  wpAny (model X.prog X.w) X.A (eval (.Call (.Name x p) (e::es) [] pos) X.env) (L2.EP X pins σ Q) X.xe s:=by
 obtain ⟨fa,fd,ps,h1,h2,h3,h4⟩:=G.ex
 unfold Ze1 at hφ
 split at hφ
 ·rename_i ds h5
  refine wpAny_Call_Name_kw (L2.ZaI I hg h1 ?_ hdb)
  refine PySem.W.callWith_K (h₀:=X.base) I.ok.mod.kin h2 (L2.thn (PA.nox ha.h pos pins s σ H (fun vs H1=>∃ F1,Ext F H F1 H1∧Reps X.K F1 ds vs) I ⟨BF,BH,F,env,L,ds,S,h5,fun vs F' H' z r=>⟨F',z,r⟩⟩) fun us s1 ⟨vs,H1,I1,rv,F1,z,rp⟩=>⟨I1.kIn,?_⟩) he hpl
  have sp:spX X.K m1 φ (vs++[]) H1 Q (fun cls _ H2=>∃ C F2 c,cls=.ref C∧Ext F1 H1 F2 H2∧r=.inr c∧CN X.K c C):=by
   rw [List.append_nil]
   refine ⟨F1,ds,z.fh,rp,?_⟩
   cases r with
   | inl d=>exact .inl ⟨d,hφ,fun v F2 H2 z2 r2=>ok d rfl v F2 H2 H1 (S.s0.trans z.hh) z.hh (z.trans z2) r2⟩
   | inr c=>exact .inr ⟨c,hφ,fun C F2 H2 hc z2=>⟨C,F2,c,rfl,z2,rfl,hc⟩⟩
  have r2:Vals (vs++[]) (us++[]):=rv.append .nil
  have hl:(us++[]).length=ps.length:=by rw [← r2.length];exact h3.len _ _ _ _ sp
  refine wpAny_call (codeAny_mono (h3.run X.A X.stack s1 H1 ⟨us,[]⟩ (us++[]) (vs++[]) Q _ hr I1.env0 (h4 s1 us I1.kIn hl) r2 sp) fun rr s' hq=>?_)
  cases rr with
  | error v =>
   have hq:CXe X.prog X.w X.stack H1 s1 (fun cls _ H2=>∃ C F2 c,cls=.ref C∧Ext F1 H1 F2 H2∧r=.inr c∧CN X.K c C) v s':=hq
   obtain ⟨a,C,H',B,rfl,I',x',C',F2,c,hcc,z2,hc,hcn⟩:=XSt.ZlB I1 hq
   cases hcc
   exact ex c hc F2 H' s' a C B (z.trans z2) I' x' hcn
  | ok fl =>
   cases fl with
   | ret u=>exact I1.after hq
   | next=>exact False.elim hq
   | brk=>exact False.elim hq
   | cont=>exact False.elim hq
 ·cases hφ
theorem ZkI (hm:∀ A B F' H' d v,Same A B→m B F' H' d v→m A F' H' d v) (G:CalX X.prog X.w X.K X.mg X.base k x m φ) (hr:L2.Room k X.A) (ha:PAd X.nox .k (e::es) fs) (hg:X.env.kindOf x=some .globalImplicit:=by kernel_rfl) (hdb:(x == ("__debug__":Str))=false:=by kernel_rfl)
  (hn:nst e=true:=by rfl) (hns:nsts es=true:=by rfl):PX1 X m (.Return (some (.Call (.Name x p) (e::es) [] pos)) pos') (xRet φ fs):=⟨fun pins s σ H D0 I hh_=>el10 hh_ fun BF BH F env L o env' S e k=>by
 unfold xRet at e
 refine wpAny_Return_some (L2.thn (Q:=L2.EP X pins σ fun v H'=>D0.rt v H') ?_ fun v s1 ⟨x,H1,I1,r1,q1⟩=>⟨x,σ,H1,I1,r1,q1⟩)
 split at e
 ·rename_i d h1
  cases e
  exact Zje G hr ha hg hdb (Yi hn) (ZaC hns) I S h1 (fun d' hd v F' H' H0 s0 s1 z r=>by cases hd;exact k F' H' σ L (S.ext z) z.ff v (hm _ _ _ _ _ _ s0 r)) (fun c hc=>by cases hc)
 ·rename_i c h1
  cases e
  exact Zje G hr ha hg hdb (Yi hn) (ZaC hns) I S h1 (fun d' hd=>by cases hd) (fun c' hc F' H' s' a C B z I' x' hcn=>by cases hc;exact k F' H' σ L s' a C B (S.ext z) z.ff I' x' hcn)
 ·cases e⟩
end
theorem Zes {p n:Nat}{g:Sx}{ds:List D}{r:D ⊕ Nat}(h:runX p n g ds=some r):ds.length=p ∧
  ((∃ d env',r=.inl d∧g (enter n ds)=some (.ok (.rt d),env'))∨(r=.inl .non∧∃ env',g (enter n ds)=some (.ok .nx,env'))∨∃ c env',r=.inr c∧g (enter n ds)=some (.ex c,env')):=by
 unfold runX at h
 split at h
 ·rename_i hl
  split at h
  ·rename_i d e1 hg;cases h;exact ⟨hl,.inl ⟨d,e1,rfl,hg⟩⟩
  ·rename_i e1 hg;cases h;exact ⟨hl,.inr (.inl ⟨rfl,e1,hg⟩)⟩
  ·rename_i c e1 hg;cases h;exact ⟨hl,.inr (.inr ⟨c,e1,rfl,hg⟩)⟩
  ·cases h
 ·cases h
theorem Zl6 {P : Program}{w : World}{K : PySem.W.Frag}{mg : Str → Option Value}{base : Heap}{x qual : Str}{st : Stmt}{f : Addr}{fd : FuncData}{N ps : List Str}{k : Nat}{m : RetP}{g : Sx}(F : L2.Fun K x qual st f fd)(S : L2.Zi N ps (L2.Yb st))
    (hm : (∀ BH F' H', m BH F' H' .non .non) ∨ ∀ env env', g env ≠ some (.ok .nx, env')) (hb : ∀ (cdv : Value) (A : Around) (outer : List PySem.Env) (s : Shared) (H : Hp) (E : L2.XK), L2.Room k (A.deeper (envOfC qual (L2.Yb st) s.heap.objs.size f cdv)) →
      PX (L2.cxOf (CXe P w) P w K mg base N qual (L2.Yb st) f cdv A outer s H E) m (L2.Jf st) g) : L2.FnOk P w K mg base (CXe P w) (k + 1) f fd ps (spX K m (runX ps.length N.length g)) := by
  have hpl : ps.length ≤ N.length := by have := congrArg List.length S.pre; rw [List.length_take] at this; omega
  obtain ⟨oc, od, kV, doc, pm, an, cdv, ct, osl, rfl, lk, hcd⟩ := F.ex
  refine L2.Zku lk hcd S (fun vs H Q E h => ?_) (fun A outer s H vs Q E hr h => ?_)
  · obtain ⟨F0, ds, h1, h2, h3⟩ := h
    rw [← h2.length]
    rcases h3 with ⟨d, h3, _⟩ | ⟨c, h3, _⟩
    · exact (Zes h3).1
    · exact (Zes h3).1
  · obtain ⟨F0, ds, h1, h2, h3⟩ := h
    refine ⟨fun D0 σ H => ∀ pins, tX _ pins m g D0 σ H, fun pins s1 σ H1 D0 I q => (hb cdv A outer s H E hr).h pins s1 σ H1 D0 I (q pins), fun pins => ?_⟩
    have fin : ∀ (r : D ⊕ Nat), runX ps.length N.length g ds = some r → (∀ d, r = .inl d → ∀ v F' H', Ext F0 H F' H' → m H F' H' d v → Q v H') → (∀ c, r = .inr c → ∀ C F' H', CN K c C → Ext F0 H F' H' → E (.ref C) none H') →
        tX (L2.cxOf (CXe P w) P w K mg base N qual (L2.Yb st) f cdv A outer s H E) pins m g { nx := fun _ H' => Q .non H', rt := Q } (L2.start N vs) H := fun r hr ok ex => by
      obtain ⟨hl, h3⟩ := Zes hr
      have S0 := ZfQ (N := N) h1 h2 (by omega)
      rcases h3 with ⟨d, env', rfl, hg⟩ | ⟨rfl, env', hg⟩ | ⟨c, env', rfl, hg⟩
      · exact ⟨F0, H, F0, _, _, _, env', S0, hg, fun F' H' σ' L' S' s' v r => ok d rfl v F' H' S'.ZdJ r⟩
      · rcases hm with hm | hm
        · exact ⟨F0, H, F0, _, _, _, env', S0, hg, fun F' H' σ' L' S' s' => ok .non rfl .non F' H' S'.ZdJ (hm _ _ _)⟩
        · exact absurd hg (hm _ _)
      · exact ⟨F0, H, F0, _, _, _, env', S0, hg, fun F' H' σ' L' s' a C B S' z I' x' hc => leaves rfl rfl rfl I' x' (ex c rfl C F' H' hc S'.ZdJ)⟩
    rcases h3 with ⟨d, h3, h4⟩ | ⟨c, h3, h4⟩
    · exact fin _ h3 (fun d' hd => by cases hd; exact h4) (fun c hc => by cases hc)
    · exact fin _ h3 (fun d' hd => by cases hd) (fun c' hc => by cases hc; exact h4)
end PV
set_option linter.all false
set_option Elab.async false
set_option maxRecDepth 100000
set_option maxHeartbeats 4000000
namespace PV
open PySem PySem.Spec PyProof.Rows
section
variable {prog:Program} {w:World} {A:Around} {E:Value→Shared→Prop} {s:Shared} {K:PySem.W.Frag} {a C:Addr} {o:Obj}
theorem Ze4 {tk:Tok} {Q:Fin→Shared→Prop} (X:K.In s.heap) (I:PySem.W.InstAt s.heap a o C none) (hf:PySem.W.findObj K C none "__class__"=some (.bind (.builtin "getset_descriptor.__get__") (.builtin "object.__class__")))
  (hm:PySem.W.mroIn K C (.type "object")=some true) (hq:Q (.done (.ret (.ref C))) s):wpAny (model prog w) A (Builtin.«object.__getattribute__» ⟨[.ref a,.str "__class__" tk],[]⟩) Q E s:=by
 have L0:=I.type (M:=model prog w)
 have L1:=PySem.W.looks_find (M:=model prog w) X I hf
 unfold Builtin.«object.__getattribute__»
 refine wpAny_bind (wpAny_pure ?_)
 refine wpAny_bind (wpAny_pure (wpAny_bind (L0.at (wpAny_bind (L1.at ?_)))))
 show wpAny _ _ (holding [.builtin "object.__class__"] (call (.builtin "getset_descriptor.__get__") [.builtin "object.__class__",.ref a,.ref C]) >>= ret) _ _ _
 exact wpAny_bind (wpAny_holding (wpAny_call (PySem.W.class_get (ox:=o) (od:=none) X I hm (wpAny_pure hq))))
theorem Ziz {tk:Tok} {R:Result→Shared→Prop} (X:K.In s.heap) (I:PySem.W.InstAt s.heap a o C none) (hf:PySem.W.findObj K C none "__class__"=some (.bind (.builtin "getset_descriptor.__get__") (.builtin "object.__class__")))
  (hm:PySem.W.mroIn K C (.type "object")=some true) (hb:PySem.W.mroIn K C (.type "BaseException")=some true) (hq:R (.ok (.ret (.ref C))) s):codeAny (model prog w) A (.call (.builtin "BaseException.__getattribute__") ⟨[.ref a,.str "__class__" tk],[]⟩) R s:=by
 refine codeAny_call_builtin F.excAttr_ValueError.ga.plain F.entry_bexc_ga ?_
 have hk:builtinKind "BaseException.__getattribute__"=some .slot:=by decide +kernel
 have hsplit:splitId "BaseException.__getattribute__"=some ("BaseException","__getattribute__"):=by decide +kernel
 have ha:=F.args_bexc_ga (.ref a) (.str "__class__" tk)
 have L0:=I.type (M:=model prog w)
 have L1:=PySem.W.looks_mroIn (M:=model prog w) X hb
 simp only [checkBuiltinCall,hk,hsplit]
 refine wpAny_bind ?_
 unfold isInstance
 refine wpAny_bind (L0.at ?_)
 refine L1.at ?_
 rw [if_neg (by decide)]
 unfold argsOk at ha
 generalize Manifest.signature? "BaseException.__getattribute__"=sg at ha ⊢
 cases sg with
 | none=>exact wpAny_pure (Ze4 X I hf hm hq)
 | some sig =>
  dsimp only at ha ⊢
  rw [ha]
  exact wpAny_pure (Ze4 X I hf hm hq)
theorem xcls {Q:Option Value→Shared→Prop} (X:K.In s.heap) (I:PySem.W.InstAt s.heap a o C none) (hga:PySem.W.findIn K (.ref C) "__getattribute__"=some (some (.builtin "BaseException.__getattribute__"))) (hgx:PySem.W.findIn K (.ref C) "__getattr__"=some none)
  (hf:PySem.W.findObj K C none "__class__"=some (.bind (.builtin "getset_descriptor.__get__") (.builtin "object.__class__"))) (hm:PySem.W.mroIn K C (.type "object")=some true) (hb:PySem.W.mroIn K C (.type "BaseException")=some true)
  (h:Q (some (.ref C)) { s with toks:=s.toks + 1 }):wpAny (model prog w) A (getAttr? (.ref a) "__class__") Q E s:=by
 obtain ⟨hh,g,d,t,os⟩:=s
 have L0:=I.type (M:=model prog w)
 have L1:=PySem.W.looks_findIn (M:=model prog w) X hga
 have L2:=PySem.W.looks_findIn (M:=model prog w) X hgx
 unfold getAttr? getAttrBy? getAttrBy
 refine wpAny_bind (wpAny_mkText (wpAny_bind (wpAny_attempt (wpAny_holding (wpAny_bind (L0.at (wpAny_bind (L1.at ?_))))))))
 have hx2:(Value.builtin "BaseException.__getattribute__" == Value.builtin "object.__getattribute__")=false:=by decide +kernel
 dsimp only
 rw [hx2,Bool.and_false,if_neg (by decide)]
 unfold getAttrByItsOwn hookBefore
 rw [if_pos (by rfl)]
 refine wpAny_bind (L2.at ?_)
 refine wpAny_bind (wpAny_attempt (wpAny_holding ?_))
 unfold callGetattribute boundAndCalled
 rw [if_neg (by decide),F.excAttr_ValueError.ga.bind (.ref a)]
 refine wpAny_bind (wpAny_pure ?_)
 refine wpAny_call (Ziz (s:=⟨hh,g,d,t + 1,os⟩) X I hf hm hb ?_)
 exact PySem.W.handed_on rfl (wpAny_pure h)
end
end PV
set_option linter.all false
set_option Elab.async false
set_option maxRecDepth 100000
set_option maxHeartbeats 4000000
namespace PV
open PySem PySem.Spec PyProof.Rows
open L2 (V Hp HO Vals SqL SqT Same upd Cx PE PT PW PA PS PSs TE TT TA TS Inv RelV Jd Yd Ze Un HOk frs)
structure Zf3 (K:PySem.W.Frag)(C:Addr):Prop where
 ga:PySem.W.findIn K (.ref C) "__getattribute__"=some (some (.builtin "BaseException.__getattribute__"))
 gx:PySem.W.findIn K (.ref C) "__getattr__"=some none
 mb:PySem.W.mroIn K C (.type "BaseException")=some true
 cl:(PySem.W.clsIn K C).isSome=true
 fi:PySem.W.findIn K (.ref C) "__class__"=some (some (.builtin "object.__class__"))
 sp:PySem.W.specialIn K (.builtin "object.__class__") "__get__"=some (some (.builtin "getset_descriptor.__get__"))
 tk:PySem.W.takesIn K (.builtin "object.__class__")=some true
 mo:PySem.W.mroIn K C (.type "object")=some true
theorem ZeJ {K:PySem.W.Frag}{C:Addr}(h:(PySem.W.clsIn K C).isSome=true):∃ c d cd sl,K.lookup C=some ⟨c,d,.cls cd,sl⟩:=by
 unfold PySem.W.clsIn at h
 split at h
 ·rename_i c d cd sl ho;exact ⟨c,d,cd,sl,ho⟩
 ·cases h
theorem ZiK {K:PySem.W.Frag}{a C:Addr}(f:Zf3 K C):PySem.W.KitX K (.ref a) (.ref C) (isX a C) where
 ty:=fun M h _ p=>by
  obtain ⟨o,ws,h1,h2,-⟩:=p
  exact h2 ▸ (PySem.W.Looks.ld h1).andThen .now
 it:=fun M h X _=>by
  obtain ⟨c,d,cd,sl,ho⟩:=ZeJ f.cl
  intro A' Q' E' s' k q
  unfold isType loadHead
  exact wpAny_bind (wpAny_loadPart (k _ _ (X _ _ ho)) (wpAny_pure q))
 ne:=fun h tp dd its n sl X htp=>by
  obtain ⟨c,d,cd,sl',ho⟩:=ZeJ f.cl
  refine Bool.eq_false_iff.mpr fun q=>?_
  have e:C=tp:=Value.ref.inj (beq_iff_eq.mp q)
  subst e
  have z:=(X _ _ ho).symm.trans htp
  cases z
 ca:=fun {prog w A E Q s} X p k=>by
  obtain ⟨o,ws,h1,h2,h3,h4⟩:=p
  have I:PySem.W.InstAt s.heap a o C none:=⟨h1,h2,by unfold PySem.W.notCls;rw [h4],by rw [h3];trivial⟩
  have hf:PySem.W.findObj K C none "__class__"=some (.bind (.builtin "getset_descriptor.__get__") (.builtin "object.__class__")):=by
   obtain ⟨cd,hc⟩:=Option.isSome_iff_exists.mp f.cl
   unfold PySem.W.findObj
   rw [hc,Option.bind_some,f.fi,Option.bind_some]
   simp [f.sp,f.tk]
  exact xcls X I f.ga f.gx hf f.mo f.mb k
structure Zb1 (K:PySem.W.Frag)(cs:List Nat):Prop where
 cls:∀ c,c < 7→∃ C,CN K c C
 inst:∀ c ∈ cs,∀ C,CN K c C→Zf3 K C
 one:∀ c ∈ cs,∀ C,CN K c C→∀ c',c' < 7→∀ C',CN K c' C'→PySem.W.kitOne K (.ref C) (.ref C')=some (decide (c=c'))
 val:∀ c ∈ cs,∀ C,CN K c C→PySem.W.kitOne K (.ref C) (.type "ValueError")=some true
 folk:∃ CF,PySem.W.nsIn K mainGlobals "FolkError"=some (some (.ref CF))∧∀ c ∈ cs,∀ C,CN K c C→PySem.W.exmOne K (.ref C) (.ref CF)=some true
section
variable {X:Cx} {m:Md} {pos:Pos} {cs:List Nat}
theorem ZgV:L2.Zbo X (.builtin "isinstance") (fun xs H Q=>∃ a C v cv b,xs=[.ref a,v]∧(∀ u,RelV v u→u=cv)∧H a=some (.ext (isX a C))∧Zf3 X.K C∧PySem.W.kitOne X.K (.ref C) cv=some b∧Q (.bl b) H):=by
 intro pins s σ H xs us Q I r h
 obtain ⟨a,C,v,cv,b,rfl,hv,ha,hi,hk,q⟩:=h
 obtain ⟨u,w,rfl,ru,rw'⟩:=r.two
 obtain rfl:u=Value.ref a:=ru
 obtain rfl:=hv w rw'
 obtain ⟨p,-,-⟩:=(show L2.Yy X.prog X.w H s.heap a (.ext (isX a C)) from I.hok a _ ha)
 exact PySem.W.kia_one (ZiK hi) I.kIn p hk (fun z=>nomatch z) fun tk=>⟨.bl b,H,I.tok tk,rfl,q⟩
theorem ZmB {c:Nat} {C:Addr} {y:Str} (hC:CN X.K c C) (hy:xName c=y) (hg:L2.Gl X y) (hd:(y == ("__debug__":Str))=false):PE X (.Name y pos) (L2.tC (.ref C)):=fun _ _ _ H _ I h=>by
 subst hy
 exact L2.ZaI I hg (PySem.W.mg_of I.mod.kin I.mod.glob hC) ⟨.ref C,H,I,rfl,h⟩ hd
theorem Zb0 (i c':Nat) {x y:Str} {p p1 p2:Pos} (T:Bt X.mg) (XF:Zb1 X.K cs) (hc:c' < 7) (hy:xName c'=y) (hN:X.N[i]?=some x:=by kernel_rfl) (hv:visB X.env.scope x=true:=by kernel_rfl) (hd:(x == ("__debug__":Str))=false:=by kernel_rfl)
  (hcd:(x == ("__classdict__":Str))=false:=by kernel_rfl) (hg:X.env.kindOf "isinstance"=some .globalImplicit:=by kernel_rfl) (hg2:X.env.kindOf y=some .globalImplicit:=by kernel_rfl) (hd2:(y == ("__debug__":Str))=false:=by kernel_rfl) :
  PD X m (.Call (.Name "isinstance" p) [.Name x p1,.Name y p2] [] pos) (eIsX cs i c'):=by
 obtain ⟨C',hC'⟩:=XF.cls c' hc
 exact PD.mk <| PE.of (L2.ZcI ZgV hg T.isinstance boot_isinstance (L2.Zt (L2.JW hN (JK hv) hd hcd) (L2.Zt (ZmB hC' hy hg2 hd2) L2.ZJ (Zw rfl)) (Yi rfl)) (by decide) (by decide) (Yi rfl) rfl) fun σ H Q hh_=>el9 hh_ fun BF BH F env L d S e q=>by
  unfold eIsX at e
  split at e
  ·rename_i c he
   split at e
   ·rename_i hm
    cases e
    obtain ⟨ov,hσ,a,C,rfl,hcn,hF⟩:=S.sl i _ he
    exact ⟨_,hσ,a,C,_,_,_,rfl,fun u r=>r,S.fh _ _ hF,XF.inst c hm C hcn,XF.one c hm C hcn c' hc C' hC',q _ F H (.refl S.fh) (by simp [Rep])⟩
   ·cases e
  ·cases e
theorem ZmE (i:Nat) {x:Str} {p p1 p2:Pos} (T:Bt X.mg) (hxv:X.mg "ValueError"=none) (XF:Zb1 X.K cs) (hN:X.N[i]?=some x:=by kernel_rfl) (hv:visB X.env.scope x=true:=by kernel_rfl) (hd:(x == ("__debug__":Str))=false:=by kernel_rfl)
  (hcd:(x == ("__classdict__":Str))=false:=by kernel_rfl) (hg:X.env.kindOf "isinstance"=some .globalImplicit:=by kernel_rfl) (hg2:X.env.kindOf "ValueError"=some .globalImplicit:=by kernel_rfl) :
  PD X m (.Call (.Name "isinstance" p) [.Name x p1,.Name "ValueError" p2] [] pos) (eIsV cs i):=by
 exact PD.mk <| PE.of (L2.ZcI ZgV hg T.isinstance boot_isinstance (L2.Zt (L2.JW hN (JK hv) hd hcd) (L2.Zt (L2.ZhY (v:=.ty "ValueError") hg2 hxv (by decide +kernel) rfl (by decide) (by decide)) L2.ZJ (Zw rfl)) (Yi rfl)) (by decide) (by decide) (Yi rfl) rfl) fun σ H Q hh_=>el9 hh_ fun BF BH F env L d S e q=>by
  unfold eIsV at e
  split at e
  ·rename_i c he
   split at e
   ·rename_i hm
    cases e
    obtain ⟨ov,hσ,a,C,rfl,hcn,hF⟩:=S.sl i _ he
    exact ⟨_,hσ,a,C,_,_,_,rfl,fun u r=>r,S.fh _ _ hF,XF.inst c hm C hcn,XF.val c hm C hcn,q _ F H (.refl S.fh) (by simp [Rep])⟩
   ·cases e
  ·cases e
end
noncomputable abbrev clr (A:Around):Around:={ A with handled:=none }
noncomputable def cxH (P:Program) (w:World) (K:PySem.W.Frag) (mg:Str→Option Value) (base:Heap) (N:List Str) (qual:Str) (scope:Scope) (f:Addr) (cd:Value) (A:Around) (outer:List PySem.Env) (s:Shared) (H:Hp):Cx :=
 { L2.cxOf L2.CX0 P w K mg base N qual scope f cd A outer s H L2.E0 with calm:=false,xe:=fun _ _=>False }
structure FnW (P:Program)(w:World)(K:PySem.W.Frag)(mg:Str→Option Value)(base:Heap)(k:Nat)(f:Addr)(fd:FuncData)(x:Str)(φ:Nat→Option D):Prop where
 run:∀ (A:Around) (outer:List PySem.Env) (s:Shared) (H F:Hp) (args:Args) (a C:Addr) (c:Nat) (d:D) (Q:L2.VK),L2.Room k (clr A)→L2.Env0 P w K mg base A outer s H→BindsTo s fd args [(x,.ref a)]→Same F H→F a=some (.ext (isX a C))→CN K c C→φ c=some d →
  (∀ v F' H',Ext F H F' H'→Rep K F' d v→Q v H')→codeAny (model P w) A (.call (.ref f) args) (L2.CR L2.CX0 outer P w H s Q L2.E0) s
theorem ZmA {P:Program}{w:World}{K:PySem.W.Frag}{mg:Str→Option Value}{base:Heap}{x qual y:Str}{st:Stmt}{f:Addr}{fd:FuncData}{N:List Str}{k:Nat}{g:St}(F:L2.Fun K x qual st f fd)(S:L2.Zi N [y] (L2.Yb st))
  (hb:∀ (cdv:Value) (A:Around) (outer:List PySem.Env) (s:Shared) (H:Hp),L2.Room k ((clr A).deeper (envOfC qual (L2.Yb st) s.heap.objs.size f cdv)) →
   PSd (cxH P w K mg base N qual (L2.Yb st) f cdv A outer s H) (rk K .k) (L2.Jf st) g):FnW P w K mg base (k + 1) f fd y (runW N.length g):=by
 obtain ⟨oc,od,kV,doc,pm,an,cdv,ct,osl,rfl,lk,hcd⟩:=F.ex
 refine ⟨fun A outer s H F0 args a C c d Q hr e0 hbind fh hF hcn hφ kk=>?_⟩
 have KX:K.In s.heap:=e0.mod.kin.keeps fun b o e=>(e0.bs b o e).1
 have lim:s.heap.NoLimit:=e0.mod.nolimit.keeps fun b o e=>(e0.bs b o e).1
 have hkind:∀ z ∈ [(y,Value.ref a)],(L2.Yb st).names.lookup z.1=some .local∨((L2.Yb st).names.lookup z.1=some .cell∧((cellsFrom (s.heap.objs.size + 1) (L2.Yb st).names []).lookup z.1).isSome=true):=fun z hz=>by
  simp at hz;subst hz
  rcases S.par y (by simp) with q | q
  ·exact .inl q
  ·exact .inr ⟨q,PySem.W.cellsFrom_some _ _ _ (.inl q)⟩
 refine codeAny_call_function (show A.depth < recursionLimit from hr.depth) (KX _ _ lk) rfl S.co S.gen rfl (PySem.W.codeRec_of KX hcd) (hbind _ _ _ _ ?_)
 refine wpAny_newFunctionEnv_cells S.kind hkind fun env he s1 xx=>?_
 subst he
 refine ⟨lim.keeps xx.toInCall.keep,codeAny_func ?_⟩
 have e0':L2.Env0 P w K mg base (clr A) outer s H:=⟨e0.frames,e0.mod,e0.bs,e0.bsz,e0.funs,e0.frf,e0.hok,e0.bare⟩
 have rv:Vals [V.ref a] [Value.ref a]:=.cons rfl .nil
 have I0:Inv (L2.cxOf L2.CX0 P w K mg base N qual (L2.Yb st) f cdv (clr A) outer s H L2.E0) [] (L2.start N [.ref a]) H s1:=L2.Zfx (us:=[Value.ref a]) S rfl e0' rfl rv xx
 have I:Inv (cxH P w K mg base N qual (L2.Yb st) f cdv A outer s H) [] (L2.start N [.ref a]) H s1 :=
  ⟨⟨I0.ok.mod,I0.ok.kind,I0.ok.glob,I0.ok.blt,I0.ok.above,I0.ok.inj,I0.ok.has,I0.ok.cab,fun h=>(nomatch (show false=true from h)),Around.frames_deeper e0.frames,I0.ok.stk,I0.ok.exf,I0.ok.bs,I0.ok.bsz,I0.ok.noex,I0.ok.exfs,I0.ok.funs,I0.ok.frf⟩,I0.os,I0.bare,I0.base,I0.loc,I0.cell,I0.free,I0.freeC,I0.pin,I0.hok,I0.len⟩
 have h1:1≤N.length:=by have:=congrArg List.length S.pre;rw [List.length_take] at this;simp at this;omega
 unfold runW at hφ
 split at hφ
 ·rename_i d' env' hg
  cases hφ
  have S0:SOk K F0 H F0 H (L2.start N [.ref a]) (.xc c::List.replicate (N.length - 1) .un) (fun _=>[]):={
   s0:=.refl _
   f0:=.refl _
   fh:=fh
   fd:=fun a o h=>.inl h
   ow:=fun i a h=>by cases h
   dj:=fun i j a h=>by cases h
   len:=by unfold L2.start;simp
   sl:=fun i sl h=>by
    cases i with
    | zero=>cases h;exact ⟨_,rfl,a,C,rfl,hcn,hF⟩
    | succ i =>
     simp only [List.getElem?_cons_succ,List.getElem?_replicate] at h
     split at h
     ·rename_i hlt
      cases h
      refine ⟨none,?_,trivial⟩
      unfold L2.start
      simp only [List.map_cons,List.map_nil,List.cons_append,List.nil_append,List.getElem?_cons_succ,List.getElem?_replicate,List.length_cons,List.length_nil]
      rw [if_pos (by simpa using hlt)]
     ·cases h }
  refine wpAny_mono ((hb cdv A outer s H (hr.deeper _)).h [] s1 (L2.start N [.ref a]) H { nx:=fun _ _=>False,rt:=Q } I ⟨F0,H,F0,_,_,_,env',S0,hg,fun F' H' σ' L' S' s' v r=>kk v F' H' S'.ZdJ r⟩) (fun fl s' hs=>?_) fun e s' hs=>hs.elim
  cases fl with
  | ret u =>
   obtain ⟨v,σ',H',J,rv,q⟩:=hs
   exact ⟨v,H',J.os,J.bare,J.base,J.hok,rv,q⟩
  | next=>obtain ⟨_,_,_,q⟩:=hs;exact q.elim
  | brk=>obtain ⟨_,_,_,q⟩:=hs;exact q.elim
  | cont=>obtain ⟨_,_,_,q⟩:=hs;exact q.elim
 ·cases hφ
end PV
set_option linter.all false
set_option Elab.async false
set_option maxRecDepth 100000
set_option maxHeartbeats 4000000
namespace PV
open PySem PySem.Spec PyProof.Rows
open L2 (V Hp HO Vals SqL SqT Same upd Cx PE PT PW PA PS PSs TE TT TA TS Inv RelV Jd Yd Ze Un HOk frs)
section
variable {X:Cx} {pins:List (Addr × Obj)} {σ:L2.St} {H:Hp} {s:Shared} {a C:Addr} {B g:Heap}
theorem Zh0 (hs:X.stack=X.env::X.outer)(hf:X.env.frame=some X.env.locals)(I:Inv X pins σ H s)(x:XSt X pins H s a C B)(sg:B.StaysIn g)(up:s.heap.UpToSlots g):Inv X pins σ H { s with heap:=g }:=by
 have fc:=Zem hs hf
 have inB:∀ b o,s.heap.get? b=some o→b ∉ frs X.stack→Ned X pins H b→g.get? b=some o:=fun b o q n t=>by
  obtain ⟨u,hu⟩:=x.cov b n t
  have:=x.st b u hu
  rw [q] at this;cases this
  exact sg b o hu
 have fru:∀ b o,b ∈ frs X.stack→s.heap.get? b=some o→∃ sl,g.get? b=some { o with slots:=sl }:=fun b o m q=>by
  obtain ⟨-,o',q',n⟩:=x.ff.mem m
  rw [q] at q';cases q'
  exact up b o q n
 have any:∀ b o,s.heap.get? b=some o→Ned X pins H b→∃ sl,g.get? b=some { o with slots:=sl }:=fun b o q t=>by
  by_cases m:b ∈ frs X.stack
  ·exact fru b o m q
  ·exact ⟨o.slots,inB b o q m t⟩
 have neL:∀ b o,X.s₀.heap.get? b=some o→b≠X.env.locals:=fun b o e=>Nat.ne_of_lt (Nat.lt_of_lt_of_le (Heap.lt_size e) I.ok.above)
 have nst:∀ b,b≠X.env.locals→b ∉ X.fs→b ∉ frs X.stack:=fun b n1 n2 m=>by
  rw [fc] at m
  rcases List.mem_cons.mp m with m | m
  ·exact n1 m
  ·exact n2 m
 have cellK:∀ y c v,X.env.cells.lookup y=some c→s.heap.IsCell c v→g.IsCell c v:=fun y c v e ⟨o,ho,hd⟩=>by
  obtain ⟨sl,q⟩:=any c o ho (.inr (.inr (.inr ⟨y,e⟩)))
  exact ⟨_,q,hd⟩
 refine ⟨I.ok,I.os,I.bare,⟨fun b o e n hb hx=>?_,fun b o e n hb hx=>?_,I.base.free,fun b o e hx=>?_,I.base.tups,I.base.frzs,I.base.tbls⟩,?_,fun y c e=>?_,I.free,I.freeC,fun p hp=>?_,ZhK I (fun b n t=>x.cov b n (.inr (.inl t))) x.st sg,I.len⟩
 ·exact inB b o (I.base.keep b o e n hb hx) (nst b (neL b o e) hb) (.inl ⟨⟨o,e⟩,hx⟩)
 ·obtain ⟨sl,q⟩:=I.base.slot b o e n hb hx
  obtain ⟨sl',q'⟩:=any b _ q (.inl ⟨⟨o,e⟩,hx⟩)
  exact ⟨sl',q'⟩
 ·obtain ⟨o',q⟩:=I.base.there b o e hx
  obtain ⟨sl',q'⟩:=any b _ q (.inl ⟨⟨o,e⟩,hx⟩)
  exact ⟨_,q'⟩
 ·obtain ⟨mm,⟨oL,es,ep,ho,hd,r⟩,hl⟩:=I.loc
  obtain ⟨sl,q⟩:=fru X.env.locals oL (by rw [fc];exact List.mem_cons_self) ho
  refine ⟨mm,⟨_,es,ep,q,hd,r⟩,fun i y v e1 e2 e3=>?_⟩
  obtain ⟨u,ru,l⟩:=hl i y v e1 e2 e3
  refine ⟨u,ru,?_⟩
  rcases l with l | ⟨k,c,e,z⟩
  ·exact .inl l
  ·exact .inr ⟨k,c,e,cellK y c _ e z⟩
 ·obtain ⟨v,z⟩:=I.cell y c e
  exact ⟨v,cellK y c v e z⟩
 ·obtain ⟨e,n,ne,nf,d⟩:=I.pin p hp
  exact ⟨inB p.1 p.2 e (nst _ ne nf) (.inr (.inr (.inl ⟨p,hp,rfl⟩))),n,ne,nf,d⟩
theorem Zjs {fl:Value}{g:Heap}(x:XSt X pins H s a C B)(f:Fl B X.stack a C .none g):XSt X pins H { s with heap:=g } a C B:=⟨f.st,f.no,f.ff,x.cov,.inr (.inl f.tr)⟩
theorem Zki {A:Around}{E:Value→Shared→Prop}{Q:Unit→Shared→Prop}(hs:X.stack=X.env::X.outer)(hf:X.env.frame=some X.env.locals)(fr:A.frames=some X.stack)(x:XSt X pins H s a C B)
  (k:∀ g,Fl B X.stack a C (rawInt X.env.locals) g→s.heap.UpToSlots g→Q () { s with heap:=g }):wpAny (model X.prog X.w) A (noteFrame (.ref a) X.env) Q E s:=by
 have ff:=x.ff
 rw [hs] at ff fr k
 rcases x.it with ⟨xo,ws,⟨q1,q2,q3,q4⟩,q5⟩ | tr | tr
 ·unfold noteFrame
  simp only [hf]
  refine wpAny_bind (wpAny_field q1 q4 q5 ?_)
  rw [if_neg (by decide)]
  exact Zc9 fr ff hf x.st x.no q1 q2 q3 q4 (Array.getElem?_eq_some_iff.mp q5).1 k
 ·exact ZhN fr hf ⟨x.st,x.no,ff,tr⟩ k
 ·exact ZfD hf ⟨x.st,x.no,ff,tr⟩ (k s.heap ⟨x.st,x.no,ff,tr⟩ (fun b o q n=>⟨o.slots,q⟩))
theorem Zmx (hs:X.stack=X.env::X.outer)(hf:X.env.frame=some X.env.locals)(I:Inv X pins σ H s)(x:XSt X pins H s a C B)(hp:isX a C s.heap):H a=none∧Inv X pins σ (upd H a (.ext (isX a C))) s:=by
 obtain ⟨o,ws,h1,h2,h3,h4⟩:=id hp
 have nfr:a ∉ frs X.stack:=fun m=>by
  obtain ⟨-,o',q,n⟩:=x.ff.mem m
  rw [h1] at q;cases q;exact n ws h4
 have nn:∀ b,Ned X pins H b→b≠a:=fun b t e=>by
  subst e
  obtain ⟨u,hu⟩:=x.cov b nfr t
  rw [x.no] at hu;cases hu
 have ha:H a=none:=by
  cases q:H a with
  | none=>rfl
  | some u=>exact absurd rfl (nn a (.inr (.inl (by rw [q];simp))))
 have neL:X.env.locals≠a:=fun e=>nfr (by rw [Zem hs hf,e];exact List.mem_cons_self)
 have keep:∀ b u,H b=some u→upd H a (.ext (isX a C)) b=some u:=fun b u q=>by rw [Yd (Ze q ha)];exact q
 refine ⟨ha,I.ok,I.os,I.bare,⟨I.base.keep,I.base.slot,fun b o e n hx=>?_,I.base.there,fun b xs q=>keep _ _ (I.base.tups b xs q),fun b o u q=>keep _ _ (I.base.frzs b o u q),fun b ps q=>?_⟩,I.loc,I.cell,?_,fun y c e=>?_,fun p hp'=>?_,fun b u q=>?_,I.len⟩
 ·rw [Yd (nn b (.inl ⟨⟨o,e⟩,hx⟩))];exact I.base.free b o e n hx
 ·obtain ⟨more,z⟩:=I.base.tbls b ps q
  exact ⟨more,keep _ _ z⟩
 ·rw [Yd neL];exact I.free
 ·rw [Yd (nn c (.inr (.inr (.inr ⟨y,e⟩))))];exact I.freeC y c e
 ·obtain ⟨e,n,ne,nf,d⟩:=I.pin p hp'
  refine ⟨e,?_,ne,nf,d⟩
  rw [Yd (nn _ (.inr (.inr (.inl ⟨p,hp',rfl⟩))))];exact n
 ·by_cases hb:b=a
  ·subst hb
   rw [Jd] at q
   cases q
   refine ⟨hp,⟨o,h1⟩,fun g1 g2 p k=>?_⟩
   obtain ⟨o',ws',z1,z2,z3,z4⟩:=p
   exact ⟨o',ws',k _ z1,z2,z3,z4⟩
  ·rw [Yd hb] at q
   exact (I.hok b u q).stay (fun _ _ _ z=>z) (fun c z=>keep _ _ z) fun c xs z=>keep _ _ z
end
theorem Zjt {B h:Heap}{a C:Addr}{fl:Value}(t:Tr B h a C fl):isX a C h:=by
 obtain ⟨xo,ws,T,to,tw,⟨q1,q2,q3,q4⟩,-⟩:=t
 exact ⟨xo,ws,q1,q2,q3,q4⟩
theorem ZlN {X:Cx}{pins:List (Addr × Obj)}{σ:L2.St}{H:Hp}{s:Shared}{h':Heap}{t:Nat}{mm:Str→Option Value}(I:Inv X pins σ H s)(hn:h'.Ns X.env.locals mm)(sb:Heap.SameBut X.env.locals s.heap h'):Inv X pins (σ.map fun _=>none) H { s with heap:=h',toks:=t }:=by
 have neL:∀ b o,X.s₀.heap.get? b=some o→b≠X.env.locals:=fun b o e=>Nat.ne_of_lt (Nat.lt_of_lt_of_le (Heap.lt_size e) I.ok.above)
 refine ⟨I.ok,I.os,I.bare,⟨fun b o e n hb hx=>(sb.2 b (neL b o e)).trans (I.base.keep b o e n hb hx),fun b o e n hb hx=>?_,I.base.free,fun b o e hx=>?_,I.base.tups,I.base.frzs,I.base.tbls⟩,⟨mm,hn,fun i y v e1 e2 e3=>?_⟩,fun y c e=>?_,I.free,I.freeC,fun p hp=>?_,fun b u e=>?_,by rw [List.length_map];exact I.len⟩
 ·obtain ⟨sl,q⟩:=I.base.slot b o e n hb hx
  exact ⟨sl,(sb.2 b (neL b o e)).trans q⟩
 ·obtain ⟨o',q⟩:=I.base.there b o e hx
  exact ⟨o',(sb.2 b (neL b o e)).trans q⟩
 ·rw [List.getElem?_map] at e2
  cases q:σ[i]? with
  | none=>rw [q] at e2;cases e2
  | some z=>rw [q] at e2;cases e2
 ·obtain ⟨v,o,ho,hd⟩:=I.cell y c e
  exact ⟨v,o,(sb.2 c (I.cne y c e)).trans ho,hd⟩
 ·obtain ⟨e,n,ne,nf,d⟩:=I.pin p hp
  exact ⟨(sb.2 p.1 ne).trans e,n,ne,nf,d⟩
 ·refine (I.hok b u e).stay (fun c v hc q=>(sb.2 c ?_).trans q) (fun _ q=>q) fun _ _ q=>q
  rintro rfl
  rcases hc with rfl | hc
  ·rw [I.free] at e;cases e
  ·rw [I.free] at hc;cases hc
noncomputable def mkH (X:Cx) (a:Addr):Cx:={ X with A:=X.A.mark (some (.ref a)),calm:=false,xe:=fun _ _=>False }
theorem Zjq {X:Cx}{pins:List (Addr × Obj)}{σ:L2.St}{H:Hp}{s:Shared}(a:Addr)(I:Inv X pins σ H s):Inv (mkH X a) pins σ H s :=
 ⟨⟨I.ok.mod,I.ok.kind,I.ok.glob,I.ok.blt,I.ok.above,I.ok.inj,I.ok.has,I.ok.cab,fun h=>(nomatch (show false=true from h)),I.ok.frames,I.ok.stk,I.ok.exf,I.ok.bs,I.ok.bsz,I.ok.noex,I.ok.exfs,I.ok.funs,I.ok.frf⟩,I.os,I.bare,I.base,I.loc,I.cell,I.free,I.freeC,I.pin,I.hok,I.len⟩
theorem Zj0 {X:Cx}{pins:List (Addr × Obj)}{σ:L2.St}{H:Hp}{s:Shared}{a:Addr}(hd:X.calm=true→X.A.handled=none)(I:Inv (mkH X a) pins σ H s):Inv X pins σ H s :=
 ⟨⟨I.ok.mod,I.ok.kind,I.ok.glob,I.ok.blt,I.ok.above,I.ok.inj,I.ok.has,I.ok.cab,hd,I.ok.frames,I.ok.stk,I.ok.exf,I.ok.bs,I.ok.bsz,I.ok.noex,I.ok.exfs,I.ok.funs,I.ok.frf⟩,I.os,I.bare,I.base,I.loc,I.cell,I.free,I.freeC,I.pin,I.hok,I.len⟩
structure CalW (P:Program)(w:World)(K:PySem.W.Frag)(mg:Str→Option Value)(base:Heap)(k:Nat)(x:Str)(φ:Nat→Option D):Prop where
 ex:∃ (fa:Addr) (fd:FuncData) (y:Str),mg x=some (.ref fa)∧PySem.W.keepIn K (.ref fa)=true∧FnW P w K mg base k fa fd y φ∧L2.Binds K fd [y] []
section
variable {X:Cx} {m:RetP} {pos hpos tp p1 p2 p3 p4:Pos} {body:List Stmt} {g:Sx} {φ:Nat→Option D} {cs:List Nat} {k:Nat} {n wn:Str}
theorem ZmP (i:Nat)(hs:X.stack=X.env::X.outer)(hf:X.env.frame=some X.env.locals)(nd:X.N.Nodup)(XF:Zb1 X.K cs)(hcs:∀ c d,φ c=some d→c ∈ cs)(hm:∀ BH F' H' w v,Rep X.K F' (.str w) v→m BH F' H' (.str w) v)
  (G:CalW X.prog X.w X.K X.mg X.base k wn φ) (hr:L2.Room k X.A) (hb:∀ E,PX (X.wish E) m body g)
  (hN:X.N[i]?=some n:=by kernel_rfl) (hl:locB X.env.scope n=true:=by kernel_rfl) (hk:X.env.kindOf n=some .local:=by kernel_rfl) (hfn:fnB X n=true:=by kernel_rfl) (hv:visB X.env.scope n=true:=by kernel_rfl) (hd:(n == ("__debug__":Str))=false:=by kernel_rfl) (hcd:(n == ("__classdict__":Str))=false:=by kernel_rfl)
  (hg1:X.env.kindOf "FolkError"=some .globalImplicit:=by kernel_rfl) (hg2:X.env.kindOf wn=some .globalImplicit:=by kernel_rfl) (hdw:(wn == ("__debug__":Str))=false:=by kernel_rfl) :
  PS1 X m (.Try body [.ExceptHandler (some (.Name "FolkError" tp)) (some n) [.Return (some (.Call (.Name wn p1) [.Name n p2] [] p3)) p4] hpos] [] [] pos) (sTry g φ):=PS1.mk fun pins s σ H D0 I hh_=>el10 hh_ fun BF BH F env L o env' S e kk=>by
 obtain ⟨CF,hCF,hexm⟩:=XF.folk
 obtain ⟨fa,fd,y,hmw,hkw,FW,hbw⟩:=G.ex
 have kfin:∀ {s1:Shared} {f:Flow},L2.SP X pins D0 f s1→(match f with | .next=>wpAny (model X.prog X.w) X.A (execs [] X.env) (L2.SP X pins D0) X.xe s1 | f=>L2.SP X pins D0 f s1):=fun {s1 f} q=>by
  cases f with
  | next=>exact wpAny_execs_nil q
  | ret v=>exact q
  | brk=>exact q
  | cont=>exact q
 refine wpAny_Try_except (wpAny_mono ((hb fun e s1=>wpAny (model X.prog X.w) X.A (noteFrame e X.env) (fun _ s2=>wpAny (model X.prog X.w) X.A (setFlight e none) (fun _ s3=>wpAny (model X.prog X.w) X.A (handleBy e X.env [.ExceptHandler (some (.Name "FolkError" tp)) (some n) [.Return (some (.Call (.Name wn p1) [.Name n p2] [] p3)) p4] hpos]) (L2.SP X pins D0) X.xe s3) X.xe s2) X.xe s1).h pins s σ H D0 (I.wish _) ?_) (fun f s1 q=>kfin q.Z4) fun e s1 q=>q)
 unfold sTry at e
 split at e
 ·rename_i o1 e1 hg
  cases e
  exact ⟨BF,BH,F,env,L,.ok o,env',S,hg,kk⟩
 ·rename_i c e1 hg
  split at e
  ·rename_i w hφ
   cases e
   refine ⟨BF,BH,F,env,L,.ex c,e1,S,hg,fun F1 H1 σ1 L1 s1 a C B S1 z1 I1 x1 hcn=>?_⟩
   have hmem:=hcs c _ hφ
   have I1:Inv X pins σ1 H1 s1:=I1.Z4
   have x1:XSt X pins H1 s1 a C B:=⟨x1.st,x1.no,x1.ff,x1.cov,x1.it⟩
   have hhd:=I1.ok.hd
   show wpAny _ _ (noteFrame (.ref a) X.env) _ _ s1
   refine Zki hs hf I1.ok.frames x1 fun g2 f2 u2=>?_
   refine land (s:={ s1 with heap:=g2 }) f2 fun g3 f3 u3=>?_
   have u13:=u2.trans u3
   have I3:Inv X pins σ1 H1 { s1 with heap:=g3 }:=Zh0 hs hf I1 x1 f3.st u13
   have x3:XSt X pins H1 { s1 with heap:=g3 } a C B:=Zjs (fl:=.none) x1 f3
   have J3:=Zjq a I3
   refine wpAny_handleBy_cons (codeAny_handlers_test ?_) (by intro q;cases q)
   refine L2.ZaI (X:=mkH X a) J3 hg1 (PySem.W.mg_of I3.mod.kin I3.mod.glob hCF) ?_ (by decide)
   have LT:=(ZiK (XF.inst c hmem C hcn)).ty (model X.prog X.w) g3 I3.kIn (Zjt f3.tr)
   refine PySem.W.exm_one I3.kIn LT (hexm c hmem C hcn) _ _ _ _ (fun _ _ q=>q) ?_
   refine codeAny_handlers_suite_as ?_
   refine land (s:={ s1 with heap:=g3 }) f3 fun g4 f4 u4=>?_
   have I4:Inv X pins σ1 H1 { s1 with heap:=g4 }:=Zh0 (s:={ s1 with heap:=g3 }) hs hf I3 x3 f4.st u4
   have x4:XSt X pins H1 { s1 with heap:=g4 } a C B:=Zjs (s:={ s1 with heap:=g3 }) (fl:=.none) x3 f4
   obtain ⟨ha,I4'⟩:=Zmx hs hf I4 x4 (Zjt f4.tr)
   have J4:=Zjq a I4'
   refine L2.ZcM (X:=mkH X a) (v:=.ref a) J4 nd hN (Zai hl) rfl (fun s5 J5=>?_) (ZaP hfn)
   have hi:i < σ1.length:=by rw [I1.len];exact (List.getElem?_eq_some_iff.mp hN).1
   refine wpAny_execs_cons (wpAny_Return_some ?_)
   refine wpAny_Call_Name_kw (L2.ZaI (X:=mkH X a) J5 hg2 hmw ?_ hdw)
   have pa:PA (mkH X a) [.Name n p2] _:=L2.Zt (L2.JW hN (JK hv) hd hcd) L2.ZJ rfl
   refine PySem.W.callWith_K (h₀:=X.base) J5.ok.mod.kin hkw (wpAny_mono (pa p3 pins s5 _ _ (fun vs H6=>vs=[.ref a]∧H6=upd H1 a (.ext (isX a C))) J5 ⟨.ref a,List.getElem?_set_self hi,rfl,rfl⟩) (fun us s6 q=>?_) fun _ _ q=>q.elim) rfl rfl
   obtain ⟨vs,H6,J6,rv,rfl,rfl⟩:=q
   refine ⟨J6.kIn,?_⟩
   obtain ⟨u,us',rfl⟩:∃ u us',us=u::us':=by
    cases us with
    | nil=>cases rv
    | cons u us'=>exact ⟨u,us',rfl⟩
   cases rv with
   | cons r1 r2 =>
    cases r2
    obtain rfl:u=Value.ref a:=r1
    have z0:Ext F1 H1 (upd F1 a (.ext (isX a C))) (upd H1 a (.ext (isX a C))):=Ext.laid S1.fh ha
    have room:L2.Room k (clr (mkH X a).A):=⟨rfl,hr.dp,hr.un⟩
    have key:=FW.run (mkH X a).A (mkH X a).stack s6 _ (upd F1 a (.ext (isX a C))) ⟨[.ref a],[]⟩ a C c (.str w) (fun v H7=>∃ F7,Ext F1 H1 F7 H7∧Rep X.K F7 (.str w) v) room J6.env0 (hbw s6 [.ref a] J6.kIn rfl) z0.fh Jd hcn hφ fun v F' H' z r=>⟨F',z0.trans z,r⟩
    refine wpAny_call (codeAny_mono key fun rr s7 hq=>?_)
    cases rr with
    | error v=>exact (show False from hq).elim
    | ok fl =>
     cases fl with
     | next=>exact False.elim hq
     | brk=>exact False.elim hq
     | cont=>exact False.elim hq
     | ret u =>
      obtain ⟨v,H7,J7,r7,F7,z7,rep⟩:=J6.after hq
      obtain ⟨mm,hns,-⟩:=J7.loc
      have hcl:(X.env.scope.kind == .class || (X.env.scope.kind == .module && X.env.locals != X.env.globals))=false:=by rw [I.ok.kind];rfl
      refine wpAny_nameGoes hk hns hcl fun h8 m8 n8 sb=>?_
      have I8:Inv X pins _ H7 _:=ZlN (t:=s7.toks + 1) (Zj0 hhd J7) n8 sb
      have S7:=S1.ext z7
      refine ⟨v,_,H7,I8,r7,kk F7 H7 ((σ1.set i (some (.ref a))).map fun _=>none) L1 ⟨S7.s0,S7.f0,S7.fh,S7.fd,S7.ow,S7.dj,?_,fun j sl hj=>?_⟩ (z1.trans z7.ff) v (hm _ _ _ _ _ rep)⟩
      ·rw [List.length_map,List.length_map,List.length_set];exact S1.len
      ·rw [List.getElem?_map] at hj
       cases q:e1[j]? with
       | none=>rw [q] at hj;cases hj
       | some z =>
        rw [q] at hj
        cases hj
        have hlt:j < σ1.length:=by rw [S1.len];exact (List.getElem?_eq_some_iff.mp q).1
        refine ⟨none,?_,trivial⟩
        rw [List.getElem?_map,List.getElem?_eq_getElem (by rw [List.length_set];exact hlt)];rfl
  ·cases e
 ·cases e
end
end PV
set_option linter.all false
set_option Elab.async false
set_option maxRecDepth 100000
set_option maxHeartbeats 4000000
namespace PV
open PySem PySem.Spec PyProof.Rows
open L2 (V Hp HO Vals SqL SqT Same upd Cx PE PT PW PA PS PSs TE TT TA TS Inv RelV Jd Yd Ze Un HOk frs)
section
variable {X:Cx} {m m1 m2:Md} {a b:Expr} {f g:Ex} {p2 p3:Pos}
theorem Zjb {s:Shared}{dx:D}:∀ {ys:List D} {its:List Value},Hrs s ys its→its.countP (eqH s dx)=ys.countP fun y=>eqD y dx
 | [],its,h=>by simp only [Hrs] at h;subst h;rfl
 | y::ys,its,h=>by
  simp only [Hrs] at h
  obtain ⟨u,r,rfl,h1,h2⟩:=h
  rw [List.countP_cons,List.countP_cons,Zjb h2,Zdi h1]
theorem Zju (hu:X.A.units + 64 < cLine):L2.MtR X "list.count" (fun x xs H Q=>∃ (dx:D) (y:V) (ys:List D),xs=[y]∧Rep X.K H (.lst ys) x∧Rep X.K H dx y∧(D.deps ys≤8∧dx.dep≤8)∧Q (.int ((ys.countP fun y=>eqD y dx:Nat))) H):=by
 intro pins s σ H x xs v us Q I rx rv h
 obtain ⟨dx,y,ys,rfl,h1,h2,hd,q⟩:=h
 obtain ⟨u,rfl,ru⟩:=rv.one
 have hx:=Z9 I _ _ _ (by omega) h2 ru
 have hy:=Z9 I _ _ _ (by simp only [D.dep];omega) h1 rx
 simp only [Hr] at hy
 obtain ⟨p,its,rfl,hl,hr⟩:=hy
 have hin:X.A.in1.units + D.deps ys < cLine:=by show X.A.units + 1 + _ < _;omega
 obtain ⟨⟨cls,dd,data,sl⟩,ho,hc,n,hdt⟩:=id hl
 simp only at hc hdt
 subst hc hdt
 refine call_meets PySem.F.slot_list_count ⟨_,ho,rfl⟩ PySem.F.entry_list_count (PySem.F.args_list_count_2 _ _)
  (SeqAt.list_countAt p its.toArray n dd sl u (eqH s dx)) ⟨ho,fun y hy=>Zcw hx hin hr y (by simpa using hy),?_⟩
 refine ⟨.int ((ys.countP fun y=>eqD y dx:Nat)),H,I.tok _,⟨s.toks,?_⟩,q⟩
 rw [show (its.toArray.toList)=its from rfl,Zjb hr]
theorem Zj6 (hu:X.A.units + 64 < cLine)(ha:PD X m1 a f)(hb:PD X m2 b g)(hst:nst b=true:=by rfl)
  (hbase:attributeBase a "count" X.env (eval a X.env)=eval a X.env:=by rfl) (hline:(p2.endLine == p3.line)=true:=by rfl) :
  PD X m (.Call (.Attribute a "count" p2) [b] [] p3) (eF2 ZgX f g) :=
 PD.mk <| PE.of (L2.Zdy PySem.F.plainAttrs_list PySem.F.slot_list_count PySem.F.type_list_count (Zju hu) ha.r.h (L2.Zt hb.r.h L2.ZJ (Zw hst)) hbase (by rw [ZaB (Za9 hst)];rfl) hline (Yi hst) rfl) fun σ H Q hh_=>el9 hh_ fun BF BH F env L d S e q=>by
  unfold eF2 at e
  split at e
  ·rename_i x y h1 h2
   unfold ZgX at e
   split at e
   ·rename_i ys
    split at e
    ·rename_i hd
     cases e
     refine ⟨BF,BH,F,env,L,_,S,h1,fun v F1 H1 z1 r1=>⟨?_,BF,BH,F1,env,L,y,S.ext z1,h2,fun w F2 H2 z2 r2=>⟨y,w,ys,rfl,Rep.mono z2.hh _ _ r1,r2,hd,q _ F2 H2 (z1.trans z2) (by simp [Rep])⟩⟩⟩
     have r1':=r1
     simp only [Rep,hpM] at r1'
     obtain ⟨p,vs,rfl,hs,_⟩:=r1'
     exact .inl ⟨rfl,vs,hs⟩
    ·cases e
   ·cases e
  ·cases e
end
theorem ZeL {K:PySem.W.Frag}{c:Nat}{C C':Addr}(h:CN K c C)(h':CN K c C'):C=C':=by
 unfold CN at h h'
 rw [h] at h'
 cases h'
 rfl
theorem Zne {K:PySem.W.Frag} {Cs:Nat→Addr} {CF:Addr} {cs:List Nat} (n:∀ c,c < 7→CN K c (Cs c)) (nF:PySem.W.nsIn K mainGlobals "FolkError"=some (some (.ref CF))) (hlt:∀ c ∈ cs,c < 7) (inst:∀ c ∈ cs,Zf3 K (Cs c))
  (one:∀ c ∈ cs,∀ c',c' < 7→PySem.W.kitOne K (.ref (Cs c)) (.ref (Cs c'))=some (decide (c=c'))) (val:∀ c ∈ cs,PySem.W.kitOne K (.ref (Cs c)) (.type "ValueError")=some true) (folk:∀ c ∈ cs,PySem.W.exmOne K (.ref (Cs c)) (.ref CF)=some true):Zb1 K cs where
 cls:=fun c h=>⟨_,n c h⟩
 inst:=fun c h C hC=>ZeL (n c (hlt c h)) hC ▸ inst c h
 one:=fun c h C hC c' h' C' hC'=>ZeL (n c (hlt c h)) hC ▸ ZeL (n c' h') hC' ▸ one c h c' h'
 val:=fun c h C hC=>ZeL (n c (hlt c h)) hC ▸ val c h
 folk:=⟨CF,nF,fun c h C hC=>ZeL (n c (hlt c h)) hC ▸ folk c h⟩
theorem Zlm:∀ A B F' H' d v,Same A B→rN B F' H' d v→rN A F' H' d v:=fun A B F' H' d v s r=>RepN.mono (fun b o h=>by
 unfold cut at h ⊢
 split at h
 ·rename_i hn;rw [s.free hn];exact h
 ·cases h) _ _ r
theorem Zmf {K:PySem.W.Frag}:∀ BH F' H' (w:Str) v,Rep K F' (.str w) v→rN BH F' H' (.str w) v:=fun _ _ _ _ _ h=>by
 simp only [Rep] at h;unfold rN;simp only [RepN];exact h
end PV
set_option linter.all false
set_option Elab.async false
namespace PV
open PySem PySem.Spec PyProof.Rows
open L2 (V Hp HO Same Cx)
theorem ZfR {K:PySem.W.Frag}{H:Hp}:∀ ns:List Int,Reps K H (ns.map D.int) (ns.map V.int)
 | []=>Reps.nil
 | n::r=>by
  rw [List.map_cons,List.map_cons]
  exact Reps.cons (by simp [Rep]) (ZfR r)
theorem Zi5 {K:PySem.W.Frag}{H:Hp}{a:Addr}{ns:List Int}{φ:List D→Option D}{z}(h:φ [rowD ns]=some (.bl true))(hS:L2.SqL K H a (ns.map V.int)) :
  spR K (rk K .k) φ [.ref a] H (fun v _=>v=.bl true) z :=
 ⟨H,[rowD ns],.bl true,.refl H,Reps.cons (by unfold rowD;simp only [Rep];exact ⟨a,_,rfl,hS,ZfR ns⟩) Reps.nil,h,fun v F' H' _ r=>by
  simp only [rk,Rep] at r
  exact r⟩
end PV
set_option linter.all false
set_option Elab.async false
namespace PV
open PySem (Str)
noncomputable def Zc6:St:=(sRet (eB (tAnd (t2I pGe (eVar 1) (eC (.int 0))) (t2I pLt (eVar 1) (eF1 fLen (eVar 0))))))
noncomputable def Yr:List D→Option D:=run 2 2 Zc6
noncomputable def ZdZ:St:=(sSeq (sSet 1 (eF1 fLen (eVar 0))) (sSeq (sIf (tOr (t2I pLt (eVar 1) (eC (.int 1))) (t2I pGt (eVar 1) (eC (.int 12)))) (ZaS) Jj) (sFor (gN 2) (iOf (eVar 0)) (sSeq (sIf (tNe (eF1 fLen (eVar 2)) (eVar 1)) (ZaS) Jj) (sIf (tNot (tB (eF1 fAll (Yk 3 (iOf (eVar 2)) Js (Yc Yr [(eVar 0),(eVar 3)]))))) (ZaS) Jj)))))
noncomputable def JH:List D→Option D:=run 1 4 ZdZ
noncomputable def ZcX:St:=(sSeq (sSet 1 (eF1 fLen (eVar 0))) (sSeq (sFor (gN 2) (iRng (eVar 1)) (sFor (gN 3) (iRng (eVar 1)) (sFor (gN 4) (iRng (eVar 1)) (sIf (tNe (eIx (eIx (eVar 0) (eIx (eIx (eVar 0) (eVar 2)) (eVar 3))) (eVar 4)) (eIx (eIx (eVar 0) (eVar 2)) (eIx (eIx (eVar 0) (eVar 3)) (eVar 4)))) (sRet (eTup [(eC (.str "three")),(eVar 2),(eVar 3),(eVar 4)])) Jj)))) (sRet (eC .non))))
noncomputable def Y5:List D→Option D:=run 1 5 ZcX
noncomputable def Zd6:St:=(sSeq (sSet 1 (eF1 fLen (eVar 0))) (sSeq (sFor (gN 2) (iRng (eVar 1)) (sIf (tB (eF1 fAll (Yk 3 (iRng (eVar 1)) Js (eB (tAnd (tEq (eIx (eIx (eVar 0) (eVar 2)) (eVar 3)) (eVar 3)) (tEq (eIx (eIx (eVar 0) (eVar 3)) (eVar 2)) (eVar 3))))))) (sRet (eVar 2)) Jj)) (sRet (eC .non))))
noncomputable def Zn:List D→Option D:=run 1 4 Zd6
noncomputable def Zd9:St:=(sSeq (sFor (gN 3) (iRng (eF1 fLen (eVar 0))) (sIf (tAnd (tEq (eIx (eIx (eVar 0) (eVar 2)) (eVar 3)) (eVar 1)) (tEq (eIx (eIx (eVar 0) (eVar 3)) (eVar 2)) (eVar 1))) (sRet (eVar 3)) Jj)) (sRet (eC .non)))
noncomputable def Y9:List D→Option D:=run 3 4 Zd9
noncomputable def Zd2:St:=(sSeq (sSet 1 (Yc Y5 [(eVar 0)])) (sSeq (sIf (tNoN (eVar 1)) (sRet (eVar 1)) Jj) (sSeq (sSet 2 (Yc Zn [(eVar 0)])) (sSeq (sIf (tIsN (eVar 2)) (sRet (eTup [(eC (.str "rest"))])) Jj) (sSeq (sFor (gN 3) (iRng (eF1 fLen (eVar 0))) (sIf (tIsN (Yc Y9 [(eVar 0),(eVar 2),(eVar 3)])) (sRet (eTup [(eC (.str "back")),(eVar 3)])) Jj)) (sRet (eC .non)))))))
noncomputable def JN:List D→Option D:=run 1 4 Zd2
noncomputable def Zjm:St:=(sSeq (sDo (Yc JH [(eVar 0)])) (sRet (Yc JN [(eVar 0)])))
noncomputable def Zdf:List D→Option D:=run 1 1 Zjm
noncomputable def ZeP:St:=(sSeq (sDo (Yc JH [(eVar 0)])) (sIf (tNoN (Yc JN [(eVar 0)])) (ZaS) Jj))
noncomputable def Yt:List D→Option D:=run 1 1 ZeP
noncomputable def ZcS:St:=(sIf (tNot (tB (Yc Yr [(eVar 0),(eVar 1)]))) (ZaS) Jj)
noncomputable def Z8:List D→Option D:=run 2 2 ZcS
noncomputable def Zd8:St:=(sSeq (sSet 2 (Yc Zn [(eVar 0)])) (sSeq (sOwn 3 (eLst [(eVar 2)])) (sSeq (sSet 4 (eVar 1)) (sSeq (YJ (tNe (eVar 4) (eVar 2)) (sSeq (sApp 3 (eVar 4)) (sSet 4 (eIx (eIx (eVar 0) (eVar 4)) (eVar 1)))) 1000) (sSeq (sFrz 3) (sRet (eVar 3)))))))
noncomputable def Zas:List D→Option D:=run 2 5 Zd8
noncomputable def ZhL:St:=(sSeq (sDo (Yc Yt [(eVar 0)])) (sSeq (sDo (Yc Z8 [(eVar 0),(eVar 1)])) (sRet (eF1 fLen (Yc Zas [(eVar 0),(eVar 1)])))))
noncomputable def Za8:List D→Option D:=run 2 2 ZhL
noncomputable def Z7:St:=(sSeq (sSet 1 (eC (.int 0))) (sSeq (YJ (tInD (eVar 1) (eVar 0)) (sSet 1 (eAdd (eVar 1) (eC (.int 1)))) 1000) (sRet (eVar 1))))
noncomputable def ZC:List D→Option D:=run 1 2 Z7
noncomputable def ZaE:St:=(sSeq (ZdE 3 (eVar 2)) (sSeq (sFor (gN 4) (ZbF (eVar 2)) (sFor (gN 5) (ZbF (eVar 2)) (sSeq (sSet 6 (eIx (eIx (eVar 0) (eVar 4)) (eVar 5))) (sSeq (sSet 7 (eIx (eIx (eVar 1) (Zbn (eVar 2) (eVar 4))) (Zbn (eVar 2) (eVar 5)))) (sSeq (sIf (tNe (Zf8 3 (eVar 6) (eVar 7)) (eVar 7)) (sRet (eC .non)) Jj) (Zb6 3 (eVar 6) (eVar 7))))))) (sSeq (sFrz 3) (sSeq (sIf (t2I pLt (eF1 ZcB (Yk 8 (ZbF (eVar 3)) Js (Zbn (eVar 3) (eVar 8)))) (eF1 Zb7 (eVar 3))) (sRet (eC .non)) Jj) (sSeq (sFrz 3) (sRet (eVar 3)))))))
noncomputable def JD:List D→Option D:=run 3 9 ZaE
noncomputable def Zce:St:=(sSeq (ZdE 5 (eVar 2)) (sSeq (Zb6 5 (eVar 3) (eVar 4)) (sSeq (sFrz 5) (sSeq (sSet 6 (Yc JD [(eVar 0),(eVar 1),(eVar 5)])) (sSeq (YJ (tAnd (tNoN (eVar 6)) (t2I pGt (eF1 Zb7 (eVar 6)) (eF1 Zb7 (eVar 5)))) (sSeq (sSet 5 (eVar 6)) (sSeq (sFrz 5) (sSet 6 (Yc JD [(eVar 0),(eVar 1),(eVar 5)])))) 1000) (sRet (eVar 6)))))))
noncomputable def Zaa:List D→Option D:=run 5 7 Zce
noncomputable def Za6 (self:List D→Option D):St:=(sSeq (sIf (tEq (eF1 Zb7 (eVar 2)) (eF1 fLen (eVar 0))) (sRet (eFl (Yk 3 (iRng (eF1 fLen (eVar 0))) Js (Zbn (eVar 2) (eVar 3))))) Jj) (sSeq (sSet 3 (Yc ZC [(eVar 2)])) (sSeq (sFor (gN 4) (iRng (eF1 fLen (eVar 1))) (sSeq (sSet 5 (Yc Zaa [(eVar 0),(eVar 1),(eVar 2),(eVar 3),(eVar 4)])) (sIf (tNoN (eVar 5)) (sSeq (ZeG 6 (Yc self [(eVar 0),(eVar 1),(eVar 5)])) (sIf (tNoN (eVar 6)) (sRet (ZdN 6)) Jj)) Jj))) (sRet (eC .non)))))
noncomputable def Yu:Nat→List D→Option D
 | 0=>fun _=>none
 | k + 1=>run 3 7 (Za6 (Yu k))
noncomputable def ZaW:List D→Option D:=Yu 13
noncomputable def Zey:St:=(sSeq (sDo (Yc Yt [(eVar 0)])) (sSeq (sDo (Yc Yt [(eVar 1)])) (sSeq (sIf (tNe (eF1 fLen (eVar 0)) (eF1 fLen (eVar 1))) (sRet (eC .non)) Jj) (sRet (Yc ZaW [(eVar 0),(eVar 1),(ZdH (Yc Zn [(eVar 0)]) (Yc Zn [(eVar 1)]))])))))
noncomputable def ZaM:List D→Option D:=run 2 2 Zey
noncomputable def Zcc:St:=(sSeq (sSet 4 (eF1 fLen (eVar 0))) (sSeq (sSet 5 (eIx (eIx (eVar 0) (e2I iMod (eVar 2) (eVar 4))) (e2I iMod (eVar 3) (eVar 4)))) (sSeq (sSet 6 (eIx (eIx (eVar 1) (e2I iDiv (eVar 2) (eVar 4))) (e2I iDiv (eVar 3) (eVar 4)))) (sRet (eAdd (eVar 5) (e2I iMul (eVar 6) (eVar 4)))))))
noncomputable def Yw:List D→Option D:=run 4 7 Zcc
noncomputable def ZfS:Sx:=(xSeq (xOf (sDo (Yc Yt [(eVar 0)]))) (xSeq (xOf (sDo (Yc Yt [(eVar 1)]))) (xSeq (xOf (sSet 2 (e2I iMul (eF1 fLen (eVar 0)) (eF1 fLen (eVar 1))))) (xSeq (xIf (t2I pGt (eVar 2) (eC (.int 12))) (ZiP 5) (xOf Jj)) (xOf (sSeq (sNew 3 (eLst [])) (sSeq (sFor (gN 4) (iRng (eVar 2)) (ZcJ 3 (eFl (Yk 5 (iRng (eVar 2)) Js (Yc Yw [(eVar 0),(eVar 1),(eVar 4),(eVar 5)]))))) (sSeq (sFrz 3) (sRet (ZdN 3))))))))))
noncomputable def ZP:Fx:=runX 2 6 ZfS
noncomputable def Zgy:St:=(sSeq (sDo (Yc Yt [(eVar 0)])) (sSeq (sDo (Yc Yt [(eVar 1)])) (sSeq (sSet 2 (e2I iMul (eF1 fLen (eVar 0)) (eF1 fLen (eVar 1)))) (sSeq (sIf (t2I pGt (eVar 2) (eC (.int 12))) (ZaS) Jj) (sSeq (sNew 3 (eLst [])) (sSeq (sFor (gN 4) (iRng (eVar 2)) (ZcJ 3 (eFl (Yk 5 (iRng (eVar 2)) Js (Yc Yw [(eVar 0),(eVar 1),(eVar 4),(eVar 5)]))))) (sSeq (sFrz 3) (sRet (ZdN 3)))))))))
noncomputable def ZbV:List D→Option D:=run 2 6 Zgy
noncomputable def ZcU:St:=(sSeq (sIf (t2I pLt (eVar 1) (eF1 fLen (eVar 0))) (sRet (eIx (eVar 0) (eVar 1))) Jj) (sRet (eC (.int 0))))
noncomputable def Ji:List D→Option D:=run 2 2 ZcU
noncomputable def ZeU:St:=(sSeq (sIf (tEq (e2I iMod (eVar 0) (eC (.int 2))) (eC (.int 0))) (sSeq (sSet 3 (e2I iDiv (eVar 0) (eC (.int 2)))) (sSeq (sFor (gN 4) (iRng (eVar 1)) (sSet 3 (e2I iDiv (eVar 3) (eVar 2)))) (sRet (e2I iMod (eVar 3) (eVar 2))))) Jj) (sSeq (sSet 5 (e2I iMod (e2I iMul (eAdd (eAdd (e2I iMod (eVar 0) (eC (.int 2147483647))) (e2I iMul (eC (.int 977)) (eVar 1))) (eC (.int 1))) (eC (.int 48271))) (eC (.int 2147483647)))) (sSeq (sSet 5 (e2I iMod (e2I iMul (eVar 5) (eVar 5)) (eC (.int 2147483629)))) (sSeq (sSet 5 (e2I iMod (e2I iMul (eAdd (eVar 5) (e2I iMul (eC (.int 40692)) (eAdd (eVar 1) (eC (.int 3))))) (eC (.int 69621))) (eC (.int 2147483647)))) (sRet (e2I iMod (e2I iDiv (eVar 5) (eC (.int 8))) (eVar 2)))))))
noncomputable def ZX:List D→Option D:=run 3 6 ZeU
noncomputable def Zd5:St:=(sRet (eB (tAnd (tB (eF1 (fIs .int) (eVar 0))) (tNot (tB (eF1 (fIs .bool) (eVar 0)))))))
noncomputable def Zav:List D→Option D:=run 1 1 Zd5
noncomputable def Zc3:St:=(sSeq (sSet 1 (eC (.int 1))) (sSeq (sFor (gN 2) (iOf (eVar 0)) (sSet 1 (e2I iMul (eVar 1) (eVar 2)))) (sSeq (sOwn 3 (eLst [])) (sSeq (sFor (gN 4) (iRng (eVar 1)) (sSeq (sOwn 5 (eLst [])) (sSeq (sFor (gN 6) (iRng (eVar 1)) (sSeq (sSet 7 (eC (.int 0))) (sSeq (sSet 8 (eC (.int 1))) (sSeq (sFor (gN 2) (iOf (eVar 0)) (sSeq (sSet 7 (eAdd (eVar 7) (e2I iMul (e2I iMod (eAdd (e2I iDiv (eVar 4) (eVar 8)) (e2I iDiv (eVar 6) (eVar 8))) (eVar 2)) (eVar 8)))) (sSet 8 (e2I iMul (eVar 8) (eVar 2))))) (sApp 5 (eVar 7)))))) (sSeq (sFrz 5) (sApp 3 (eVar 5)))))) (sSeq (sFrz 3) (sRet (eVar 3)))))))
noncomputable def ZaQ:List D→Option D:=run 1 9 Zc3
noncomputable def ZcT:St:=(sSeq (sOwn 2 (eLst [])) (sSeq (sFor (gN 3) (iRng (e2I iMul (eC (.int 2)) (eVar 0))) (sSeq (sOwn 4 (eLst [])) (sSeq (sFor (gN 5) (iRng (e2I iMul (eC (.int 2)) (eVar 0))) (sSeq (sSet 6 (eIx (eLst [(e2I iMod (eVar 5) (eVar 0)),(e2I iSub (eC (.int 0)) (e2I iMod (eVar 5) (eVar 0)))]) (e2I iDiv (eVar 3) (eVar 0)))) (sSeq (sSet 7 (e2I iMul (e2I iDiv (eVar 3) (eVar 0)) (e2I iDiv (eVar 5) (eVar 0)))) (sSeq (sSet 8 (e2I iMod (eAdd (eAdd (e2I iMod (eVar 3) (eVar 0)) (eVar 6)) (e2I iMul (eVar 1) (eVar 7))) (eVar 0))) (sApp 4 (eAdd (eVar 8) (e2I iMul (eVar 0) (e2I iMod (eAdd (e2I iDiv (eVar 3) (eVar 0)) (e2I iDiv (eVar 5) (eVar 0))) (eC (.int 2)))))))))) (sSeq (sFrz 4) (sApp 2 (eVar 4)))))) (sSeq (sFrz 2) (sRet (eVar 2)))))
noncomputable def Zay:List D→Option D:=run 2 9 ZcT
noncomputable def Ze2:St:=(sSeq (sSet 0 (eLst [(eLst [])])) (sSeq (sFor (gN 1) (iRng (eC (.int 4))) (sSeq (sSet 2 (eLst [])) (sSeq (sFor (gN 3) (iOf (eVar 0)) (sSet 2 (eAdd (eVar 2) (Yk 4 (iRng (eC (.int 4))) (tNi (eVar 4) (eVar 3)) (eAdd (eVar 3) (eLst [(eVar 4)])))))) (sSet 0 (eVar 2))))) (sSeq (sOwn 5 (eLst [])) (sSeq (sFor (gN 3) (iOf (eVar 0)) (sSeq (sSet 6 (eC (.int 0))) (sSeq (sFor (gN 7) (iRng (eC (.int 4))) (sSet 6 (eAdd (eVar 6) (eF1 fLen (Yk 1 (iRng (eVar 7)) (t2I pGt (eIx (eVar 3) (eVar 1)) (eIx (eVar 3) (eVar 7))) (eVar 1)))))) (sIf (tEq (e2I iMod (eVar 6) (eC (.int 2))) (eC (.int 0))) (sApp 5 (eVar 3)) Jj)))) (sSeq (sOwn 8 (eLst [])) (sSeq (sFrz 5) (sSeq (sFor (gN 9) (iOf (eVar 5)) (sSeq (sFrz 5) (sApp 8 (Yk 10 (iOf (eVar 5)) Js (eF2 ZeZ (Jw 5) (Yk 4 (iOf (eVar 9)) Js (eIx (eVar 10) (eVar 4)))))))) (sSeq (sFrz 8) (sRet (eVar 8))))))))))
noncomputable def ZbB:List D→Option D:=run 0 11 Ze2
noncomputable def ZeO:St:=(sSeq (sSet 1 (eLst [(eLst [(eC (.int 1))]),(eLst [(eC (.int 2))]),(eLst [(eC (.int 3))]),(eLst [(eC (.int 4))]),(eLst [(eC (.int 2)),(eC (.int 2))]),(eLst [(eC (.int 5))]),(eLst [(eC (.int 6))]),(eLst [(eC (.int 7))]),(eLst [(eC (.int 8))])])) (sSeq (sSet 1 (eAdd (eVar 1) (eLst [(eLst [(eC (.int 2)),(eC (.int 4))]),(eLst [(eC (.int 2)),(eC (.int 2)),(eC (.int 2))]),(eLst [(eC (.int 9))]),(eLst [(eC (.int 3)),(eC (.int 3))]),(eLst [(eC (.int 10))]),(eLst [(eC (.int 11))]),(eLst [(eC (.int 12))]),(eLst [(eC (.int 2)),(eC (.int 6))])]))) (sSeq (sIf (t2I pLt (eVar 0) (eC (.int 17))) (sRet (Yc ZaQ [(eIx (eVar 1) (eVar 0))])) Jj) (sSeq (sIf (t2I pLt (eVar 0) (eC (.int 23))) (sSeq (sSet 2 (eIx (eLst [(eTup [(eC (.int 3)),(eC (.int 0))]),(eTup [(eC (.int 4)),(eC (.int 0))]),(eTup [(eC (.int 5)),(eC (.int 0))]),(eTup [(eC (.int 6)),(eC (.int 0))]),(eTup [(eC (.int 4)),(eC (.int 2))]),(eTup [(eC (.int 6)),(eC (.int 3))])]) (e2I iSub (eVar 0) (eC (.int 17))))) (sRet (Yc Zay [(eIx (eVar 2) (eC (.int 0))),(eIx (eVar 2) (eC (.int 1)))]))) Jj) (sRet (Yc ZbB []))))))
noncomputable def Jr:List D→Option D:=run 1 3 ZeO
noncomputable def Zaw:St:=(sSeq (sOwn 2 (eLst [])) (sSeq (sFor (gN 3) (iRng (eF1 fLen (eVar 0))) (sIns 2 (e2I iMod (Yc ZX [(eVar 1),(eVar 3),(eC (.int 12))]) (eAdd (eVar 3) (eC (.int 1)))) (eVar 3))) (sSeq (sTab 4 (Yk 5 (iOf (eVar 0)) Js (eF1 Zbm (eVar 5)))) (sSeq (sFor (gN 6) (iRng (eF1 fLen (eVar 0))) (sFor (gN 7) (iRng (eF1 fLen (eVar 0))) (ZcN 4 (eIx (Jw 2) (eVar 6)) (eIx (Jw 2) (eVar 7)) (eSc (eIx (Jw 2) (eIx (eIx (eVar 0) (eVar 6)) (eVar 7))))))) (ZdA 4)))))
noncomputable def Zv:List D→Option D:=run 2 8 Zaw
noncomputable def ZaA:St:=(sRet (Yc Zv [(Yc Jr [(e2I iMod (Yc Ji [(eVar 0),(eVar 1)]) (eC (.int 24)))]),(Yc Ji [(eVar 0),(eAdd (eVar 1) (eC (.int 1)))])]))
noncomputable def ZW:List D→Option D:=run 2 2 ZaA
noncomputable def ZdT:St:=(sSeq (sIf (tNot (tB (eF1 (fIs .list) (eVar 0)))) (sRet (eC (.bl false))) Jj) (sSeq (sFor (gN 1) (iOf (eVar 0)) (sIf (tOr (tNot (tB (eF1 (fIs .list) (eVar 1)))) (tNot (tB (eF1 fAll (Yk 2 (iOf (eVar 1)) Js (Yc Zav [(eVar 2)])))))) (sRet (eC (.bl false))) Jj)) (sRet (eC (.bl true)))))
noncomputable def Zar:List D→Option D:=run 1 3 ZdT
noncomputable def Zex:St:=(sRet (Yk 1 (iOf (eVar 0)) Js (eF1 Zbm (eVar 1))))
noncomputable def Zaj:List D→Option D:=run 1 2 Zex
noncomputable def Zbw:St:=(sSeq (sSet 1 (eLst [(eIsX [5] 0 0),(eIsX [5] 0 1),(eIsX [5] 0 2)])) (sSeq (sSet 1 (eAdd (eVar 1) (eLst [(eIsX [5] 0 3),(eIsX [5] 0 4),(eIsX [5] 0 5)]))) (sSeq (sSet 1 (eAdd (eVar 1) (eLst [(eIsX [5] 0 6)]))) (sSeq (sIf (tOr (tNe (eF2 ZgX (eVar 1) (eC (.bl true))) (eC (.int 1))) (tNot (tB (eIsV [5] 0)))) (sRet (eC (.str "other"))) Jj) (sRet (eIx (eLst [(eC (.str "table")),(eC (.str "folk")),(eC (.str "element")),(eC (.str "part")),(eC (.str "loose")),(eC (.str "large")),(eC (.str "note"))]) (eF2 ZeZ (eVar 1) (eC (.bl true)))))))))
noncomputable def YK:Nat→Option D:=runW 2 Zbw
noncomputable def ZbD:St:=(sTry (xRet ZP [(eVar 0),(eVar 1)]) YK)
noncomputable def YM:List D→Option D:=run 2 3 ZbD
noncomputable def Ze0:St:=(sSeq (sSet 2 (eF1 fLen (eVar 0))) (sSeq (sOwn 3 (eLst [])) (sSeq (sFor (gN 4) (iRng (e2I iMul (eVar 2) (eF1 fLen (eVar 1)))) (sSeq (sOwn 5 (eLst [])) (sSeq (sFor (gN 6) (iRng (e2I iMul (eVar 2) (eF1 fLen (eVar 1)))) (sSeq (sSet 7 (eIx (eIx (eVar 0) (e2I iMod (eVar 4) (eVar 2))) (e2I iMod (eVar 6) (eVar 2)))) (sApp 5 (eAdd (eVar 7) (e2I iMul (eVar 2) (eIx (eIx (eVar 1) (e2I iDiv (eVar 4) (eVar 2))) (e2I iDiv (eVar 6) (eVar 2)))))))) (sSeq (sFrz 5) (sApp 3 (eVar 5)))))) (sSeq (sFrz 3) (sRet (eVar 3))))))
noncomputable def Za3:List D→Option D:=run 2 8 Ze0
noncomputable def Zkz:St:=(sSeq (sSet 1 (Yc ZW [(eVar 0),(eC (.int 0))])) (sSeq (sSet 2 (Yc Zv [(Yc Jr [(e2I iMod (Yc Ji [(eVar 0),(eC (.int 2))]) (eC (.int 24)))]),(Yc Ji [(eVar 0),(eC (.int 3))])])) (sSeq (sIf (t2I pGt (e2I iMod (Yc Ji [(eVar 0),(eC (.int 4))]) (eC (.int 4))) (eC (.int 0))) (sSeq (sSet 1 (Yc Zv [(Yc Jr [(e2I iMod (Yc Ji [(eVar 0),(eC (.int 0))]) (eC (.int 5)))]),(Yc Ji [(eVar 0),(eC (.int 1))])])) (sSet 2 (Yc Zv [(Yc Jr [(e2I iMod (Yc Ji [(eVar 0),(eC (.int 2))]) (eC (.int 8)))]),(Yc Ji [(eVar 0),(eC (.int 3))])]))) Jj) (sSeq (sSet 3 (eLst [(Yc Zaj [(eVar 1)]),(Yc Zaj [(eVar 2)])])) (sSeq (sJk 4 (Yc YM [(eIx (eVar 3) (eC (.int 0))),(eIx (eVar 3) (eC (.int 1)))])) (sSeq (sIf (tNe (eVar 3) (eLst [(eVar 1),(eVar 2)])) (sRet (eC (.bl false))) Jj) (sSeq (sIf (t2I pGt (e2I iMul (eF1 fLen (eVar 1)) (eF1 fLen (eVar 2))) (eC (.int 12))) (sRet (eFrz 4 (eB (tEq (eVar 4) (eC (.str "large")))))) Jj) (sSeq (sSet 5 (Yc Za3 [(eVar 1),(eVar 2)])) (sSeq (sIf (tFrz 4 (tOr (tNot (tB (Yc Zar [(eVar 4)]))) (tOr (tNe (eVar 4) (eVar 5)) (tNoN (Yc Zdf [(eVar 4)]))))) (sRet (eC (.bl false))) Jj) (sSeq (sSet 6 (e2I iMod (Yc Ji [(eVar 0),(eC (.int 5))]) (eF1 fLen (eVar 1)))) (sSeq (sSet 7 (e2I iMod (Yc Ji [(eVar 0),(eC (.int 6))]) (eF1 fLen (eVar 2)))) (sSeq (sSet 8 (eC (.int 1))) (sSeq (YJ (tOr (tNe (e2I iMod (eVar 8) (Yc Za8 [(eVar 1),(eVar 6)])) (eC (.int 0))) (tNe (e2I iMod (eVar 8) (Yc Za8 [(eVar 2),(eVar 7)])) (eC (.int 0)))) (sSet 8 (eAdd (eVar 8) (eC (.int 1)))) 1000) (sSeq (sIf (tNe (Yc Za8 [(eVar 5),(eAdd (eVar 6) (e2I iMul (eF1 fLen (eVar 1)) (eVar 7)))]) (eVar 8)) (sRet (eC (.bl false))) Jj) (sSeq (sIf (tIsN (Yc ZaM [(eVar 5),(Yc ZbV [(eVar 2),(eVar 1)])])) (sRet (eC (.bl false))) Jj) (sSeq (Zdo 4 0) (sRet (eB (tAnd (tEq (Yc YM [(eIx (eVar 3) (eC (.int 0))),(eIx (eVar 3) (eC (.int 1)))]) (eVar 5)) (tEq (eVar 3) (eLst [(eVar 1),(eVar 2)])))))))))))))))))))))
noncomputable def ZeC:List D→Option D:=run 1 9 Zkz
end PV
set_option linter.all false
set_option Elab.async false
set_option maxHeartbeats 2000000
namespace PV
open PySem (Str)
noncomputable def Zbh (T:List (List Int)):D→D→D→Option D
 | .int a,.int b,.int c=>if tg T (tg T a b) c == tg T a (tg T b c) then none else some (.tup [.str "three",.int a,.int b,.int c])
 | _,_,_=>none
noncomputable def Zam (T:List (List Int)) (n:Nat):Option D :=
 (Yh 0 n).findSome? fun a=>(Yh 0 n).findSome? fun b=>(Yh 0 n).findSome? fun c=>Zbh T a b c
noncomputable def Zab:St:=sIf (tNe (eIx (eIx (eVar 0) (eIx (eIx (eVar 0) (eVar 2)) (eVar 3))) (eVar 4)) (eIx (eIx (eVar 0) (eVar 2)) (eIx (eIx (eVar 0) (eVar 3)) (eVar 4))))
 (sRet (eTup [(eC (.str "three")),(eVar 2),(eVar 3),(eVar 4)])) Jj
theorem Zib {T:List (List Int)}{n:Nat}(hT:Tab T n){env:Env}{a b c:Nat}(ha:a < n)(hb:b < n)(hc:c < n)(k0:eVar 0 env=some (tabD T))(k2:eVar 2 env=some (.int a))(k3:eVar 3 env=some (.int b))(k4:eVar 4 env=some (.int c)) :
  Zab env=match Zbh T (.int a) (.int b) (.int c) with
   | some r=>some (.rt r,env)
   | none=>some (.nx,env):=by
 have b1:=hT.bound (a:=a) (b:=b) (by omega) (by omega) (by omega) (by omega)
 have b2:=hT.bound (a:=b) (b:=c) (by omega) (by omega) (by omega) (by omega)
 have e1:=ix2 hT (env:=env) (e0:=eVar 0) (e1:=eVar 2) (e2:=eVar 3) k0 k2 k3 (by omega) (by omega) (by omega) (by omega)
 have e2:=ix2 hT (env:=env) (e0:=eVar 0) (e1:=eVar 3) (e2:=eVar 4) k0 k3 k4 (by omega) (by omega) (by omega) (by omega)
 have e3:=ix2 hT (env:=env) (e0:=eVar 0) k0 e1 k4 b1.1 b1.2 (by omega) (by omega)
 have e4:=ix2 hT (env:=env) (e0:=eVar 0) k0 k2 e2 (by omega) (by omega) b2.1 b2.2
 simp only [Zab,sIf,Zff e3 e4,Zbh]
 cases hq:tg T (tg T (a:Int) (b:Int)) (c:Int) == tg T (a:Int) (tg T (b:Int) (c:Int)) with
 | true=>simp [Jj]
 | false=>simp [sRet,eTup,evs,eC,k2,k3,k4]
theorem Zio {T:List (List Int)}{n:Nat}(hT:Tab T n){it:Lx}{env0:Env}(k0:eVar 0 env0=some (tabD T))(hl:5≤env0.length)
  (hit:∀ env,Agr [2,3,4] env env0→it env=some (Yh 0 n)) :
  (∀ r,Zam T n=some r→∃ e1,sFor (gN 2) it (sFor (gN 3) it (sFor (gN 4) it Zab)) env0=some (.rt r,e1)) ∧
  (Zam T n=none→∃ e1,sFor (gN 2) it (sFor (gN 3) it (sFor (gN 4) it Zab)) env0=some (.nx,e1)∧Agr [2,3,4] e1 env0):=by
 rw [Z5 (hit env0 (Agr.refl _ _))]
 refine Zaf (fun env=>Agr [2,3,4] env env0) _ _ env0 (fun da hda env hA=>?_) (Agr.refl _ _)
 obtain ⟨a,ha,rfl⟩:=Ym hda
 refine ⟨_,rfl,?_⟩
 have A1:Agr [2,3,4] (env.set 2 (.sh (.int a))) env0:=hA.set (by simp) _
 have v2:eVar 2 (env.set 2 (.sh (.int a)))=some (.int a):=YC (by rw [hA.len];omega)
 rw [Z5 (hit _ A1)]
 have key:=Zaf (g:=gN 3) (b:=sFor (gN 4) it Zab)
  (fun env=>Agr [2,3,4] env env0∧eVar 2 env=some (.int a)) (fun b=>(Yh 0 n).findSome? fun c=>Zbh T (.int a) b c) (Yh 0 n) (env.set 2 (.sh (.int a))) (fun db hdb env hB=>?_) ⟨A1,v2⟩
 ·exact ⟨key.1,fun h=>let ⟨e1,x,y⟩:=key.2 h;⟨e1,x,y.1⟩⟩
 obtain ⟨b,hb,rfl⟩:=Ym hdb
 obtain ⟨hB,w2⟩:=hB
 refine ⟨_,rfl,?_⟩
 have A2:Agr [2,3,4] (env.set 3 (.sh (.int b))) env0:=hB.set (by simp) _
 have v3:eVar 3 (env.set 3 (.sh (.int b)))=some (.int b):=YC (by rw [hB.len];omega)
 have v2':eVar 2 (env.set 3 (.sh (.int b)))=some (.int a):=by rw [Jz (by decide)];exact w2
 rw [Z5 (hit _ A2)]
 have key:=Zaf (g:=gN 4) (b:=Zab) (fun env=>Agr [2,3,4] env env0∧eVar 2 env=some (.int a)∧eVar 3 env=some (.int b)) (fun c=>Zbh T (.int a) (.int b) c) (Yh 0 n)
  (env.set 3 (.sh (.int b))) (fun dc hdc env hC=>?_) ⟨A2,v2',v3⟩
 ·exact ⟨key.1,fun h=>let ⟨e1,x,y⟩:=key.2 h;⟨e1,x,y.1,y.2.1⟩⟩
 obtain ⟨c,hc,rfl⟩:=Ym hdc
 obtain ⟨hC,u2,u3⟩:=hC
 refine ⟨_,rfl,?_⟩
 have A3:Agr [2,3,4] (env.set 4 (.sh (.int c))) env0:=hC.set (by simp) _
 have v4:eVar 4 (env.set 4 (.sh (.int c)))=some (.int c):=YC (by rw [hC.len];omega)
 have v2'':eVar 2 (env.set 4 (.sh (.int c)))=some (.int a):=by rw [Jz (by decide)];exact u2
 have v3'':eVar 3 (env.set 4 (.sh (.int c)))=some (.int b):=by rw [Jz (by decide)];exact u3
 have v0:eVar 0 (env.set 4 (.sh (.int c)))=some (tabD T):=by rw [A3.var (by decide)];exact k0
 have tb:=Zib hT ha hb hc v0 v2'' v3'' v4
 refine ⟨fun r hr=>?_,fun hn=>?_⟩
 ·rw [hr] at tb;exact ⟨_,tb⟩
 ·rw [hn] at tb;exact ⟨_,tb,A3,v2'',v3''⟩
theorem ZfV {T:List (List Int)}{n:Nat}(hT:Tab T n):Y5 [tabD T]=some ((Zam T n).getD .non):=by
 have e:sSet 1 (eF1 fLen (eVar 0)) (enter 5 [tabD T])=some (.nx,[Sl.sh (tabD T),Sl.sh (.int n),Sl.un,Sl.un,Sl.un]):=by
  rw [Y4 (Zcx rfl |>.trans (Zeu T)),hT.len];rfl
 have key:=Zio hT (it:=iRng (eVar 1)) (env0:=[Sl.sh (tabD T),Sl.sh (.int n),Sl.un,Sl.un,Sl.un]) rfl (by simp) fun env hA=>JV (by rw [hA.var (by decide)];rfl) (by have:=hT.top;omega)
 unfold Zab at key
 cases h:Zam T n with
 | some r =>
  obtain ⟨e1,x⟩:=key.1 r h
  exact Yo rfl ((Jh e).trans (ZaL x))
 | none =>
  obtain ⟨e1,x,hA⟩:=key.2 h
  exact Yo rfl ((Jh e).trans ((Jh x).trans (Jy rfl)))
noncomputable def Y8 (T:List (List Int)) (n:Nat) (e:Int):Bool:=(List.range n).all fun a=>tg T e a == a && tg T a e == a
noncomputable def intOf:D→Int
 | .int i=>i
 | _=>0
noncomputable def restOf (T:List (List Int)) (n:Nat):Option D:=(Yh 0 n).findSome? fun d=>if Y8 T n (intOf d) then some d else none
theorem all_rangeD {n:Nat}{p:D→Bool}:(Yh 0 n).all p=(List.range n).all fun k=>p (.int k):=by
 simp only [Yh,List.all_map]
 congr 1
 funext k
 simp
theorem ZiV {T:List (List Int)}{n:Nat}(hT:Tab T n){it:Lx}{env:Env}{ie ia:Nat}(hne:ia≠ie)(hne0:ia≠0)(hl:ia < env.length)(hit:it env=some (Yh 0 n))(k0:eVar 0 env=some (tabD T)){e:Nat}(he:e < n)(ke:eVar ie env=some (.int e)) :
  tB (eF1 fAll (Yk ia it Js (eB (tAnd (tEq (eIx (eIx (eVar 0) (eVar ie)) (eVar ia)) (eVar ia)) (tEq (eIx (eIx (eVar 0) (eVar ia)) (eVar ie)) (eVar ia)))))) env=some (Y8 T n e):=by
 have hn:n≤lim:=by have:=hT.top;rw [ZD];omega
 have hc:=ZaK (i:=ia) (e:=eB (tAnd (tEq (eIx (eIx (eVar 0) (eVar ie)) (eVar ia)) (eVar ia)) (tEq (eIx (eIx (eVar 0) (eVar ia)) (eVar ie)) (eVar ia)))) (env:=env)
  (fun d=>.bl (tg T e (intOf d) == intOf d && tg T (intOf d) e == intOf d)) (Yh 0 n) (fun d hd=>by
   obtain ⟨a,ha,rfl⟩:=Ym hd
   have v0:eVar 0 (env.set ia (.sh (.int a)))=some (tabD T):=by rw [Jz hne0];exact k0
   have ve:eVar ie (env.set ia (.sh (.int a)))=some (.int e):=by rw [Jz hne];exact ke
   have va:eVar ia (env.set ia (.sh (.int a)))=some (.int a):=YC hl
   have e1:=ix2 hT v0 ve va (by omega) (by omega) (by omega) (by omega)
   have e2:=ix2 hT v0 va ve (by omega) (by omega) (by omega) (by omega)
   simp only [eB,tAnd,ZbK e1 va,ZbK e2 va,intOf]
   cases tg T (e:Int) (a:Int) == (a:Int) <;> simp)
 simp only [tB,eF1,Yk,hit,Jm,hn,if_true,hc,fAll,Zej,all_rangeD,Y8,intOf]
theorem ZaR {T:List (List Int)}{n:Nat}(hT:Tab T n):Zn [tabD T]=some ((restOf T n).getD .non):=by
 have e:sSet 1 (eF1 fLen (eVar 0)) (enter 4 [tabD T])=some (.nx,[Sl.sh (tabD T),Sl.sh (.int n),Sl.un,Sl.un]):=by
  rw [Y4 (Zcx rfl |>.trans (Zeu T)),hT.len];rfl
 have i1:∀ env,Agr [2] env [Sl.sh (tabD T),Sl.sh (.int n),Sl.un,Sl.un]→iRng (eVar 1) env=some (Yh 0 n):=fun env hA=>JV (by rw [hA.var (by decide)];rfl) (by have:=hT.top;omega)
 have key:=Zaf (g:=gN 2) (b:=sIf (tB (eF1 fAll (Yk 3 (iRng (eVar 1)) Js (eB (tAnd (tEq (eIx (eIx (eVar 0) (eVar 2)) (eVar 3)) (eVar 3)) (tEq (eIx (eIx (eVar 0) (eVar 3)) (eVar 2)) (eVar 3))))))) (sRet (eVar 2)) Jj)
  (fun env=>Agr [2] env [Sl.sh (tabD T),Sl.sh (.int n),Sl.un,Sl.un]) (fun d=>if Y8 T n (intOf d) then some d else none) (Yh 0 n) [Sl.sh (tabD T),Sl.sh (.int n),Sl.un,Sl.un] (fun d hd env hA=>by
   obtain ⟨a,ha,rfl⟩:=Ym hd
   refine ⟨_,rfl,?_⟩
   have A1:Agr [2] (env.set 2 (.sh (.int a))) [Sl.sh (tabD T),Sl.sh (.int n),Sl.un,Sl.un]:=hA.set (by simp) _
   have v2:eVar 2 (env.set 2 (.sh (.int a)))=some (.int a):=YC (by rw [hA.len];simp)
   have tst:=ZiV hT (it:=iRng (eVar 1)) (env:=env.set 2 (.sh (.int a))) (ie:=2) (ia:=3) (by decide) (by decide) (by rw [A1.len];simp) (i1 _ A1) (by rw [A1.var (by decide)];rfl) ha v2
   by_cases hq:Y8 T n (a:Int)=true
   ·rw [hq] at tst
    rw [ZbW tst,Jy v2]
    simp [intOf,hq]
   ·rw [Bool.not_eq_true] at hq
    rw [hq] at tst
    rw [ZM tst]
    simp [intOf,hq,Jj,A1]) (Agr.refl _ _)
 have hi:=i1 _ (Agr.refl _ _)
 rw [← Z5 (g:=gN 2) hi] at key
 unfold restOf
 cases h:(Yh 0 n).findSome? fun d=>if Y8 T n (intOf d) then some d else none with
 | some r =>
  obtain ⟨e1,x⟩:=key.1 r h
  exact Yo rfl ((Jh e).trans (ZaL x))
 | none =>
  obtain ⟨e1,x,hA⟩:=key.2 h
  exact Yo rfl ((Jh e).trans ((Jh x).trans (Jy rfl)))
end PV
namespace PV
open PySem (Str)
noncomputable def Zaq (T:List (List Int)) (s e b:Int):Bool:=tg T e b == s && tg T b e == s
noncomputable def Zau (T:List (List Int)) (n:Nat) (s e:Int):Option D:=(Yh 0 n).findSome? fun d=>if Zaq T s e (intOf d) then some d else none
theorem Yn {T:List (List Int)}{n:Nat}(hT:Tab T n){env:Env}{e:Ex}(h:e env=some (tabD T)):eF1 fLen e env=some (.int n):=by rw [Zcx h,Zeu,hT.len]
theorem Tab.le {T:List (List Int)}{n:Nat}(h:Tab T n):n≤1000:=by have:=h.top;omega
theorem Zjg {T:List (List Int)}{n:Nat}(hT:Tab T n){env:Env}{e0 ee es eb:Ex}(k0:e0 env=some (tabD T)){e b:Nat}{s:Int}(he:e < n)(hb:b < n)(ke:ee env=some (.int e))(ks:es env=some (.int s))(kb:eb env=some (.int b)) :
  tAnd (tEq (eIx (eIx e0 ee) eb) es) (tEq (eIx (eIx e0 eb) ee) es) env=some (Zaq T s e b):=by
 have e1:=ix2 hT k0 ke kb (by omega) (by omega) (by omega) (by omega)
 have e2:=ix2 hT k0 kb ke (by omega) (by omega) (by omega) (by omega)
 simp only [tAnd,ZbK e1 ks,ZbK e2 ks,Zaq]
 cases tg T (e:Int) (b:Int) == s <;> simp
theorem Zgn {T:List (List Int)}{n:Nat}(hT:Tab T n){s e:Nat}(he:e < n):Y9 [tabD T,.int s,.int e]=some ((Zau T n s e).getD .non):=by
 have i1:iRng (eF1 fLen (eVar 0)) (enter 4 [tabD T,.int s,.int e])=some (Yh 0 n):=JV (Yn hT rfl) hT.le
 have key:=Zaf (g:=gN 3) (b:=sIf (tAnd (tEq (eIx (eIx (eVar 0) (eVar 2)) (eVar 3)) (eVar 1)) (tEq (eIx (eIx (eVar 0) (eVar 3)) (eVar 2)) (eVar 1))) (sRet (eVar 3)) Jj)
  (fun env=>Agr [3] env (enter 4 [tabD T,.int s,.int e])) (fun d=>if Zaq T s e (intOf d) then some d else none) (Yh 0 n) (enter 4 [tabD T,.int s,.int e]) (fun d hd env hA=>by
   obtain ⟨b,hb,rfl⟩:=Ym hd
   refine ⟨_,rfl,?_⟩
   have A1:Agr [3] (env.set 3 (.sh (.int b))) (enter 4 [tabD T,.int s,.int e]):=hA.set (by simp) _
   have v3:eVar 3 (env.set 3 (.sh (.int b)))=some (.int b):=YC (by rw [hA.len];simp [enter])
   have tst:=Zjg hT (env:=env.set 3 (.sh (.int b))) (e0:=eVar 0) (ee:=eVar 2) (es:=eVar 1) (eb:=eVar 3) (s:=s) (by rw [A1.var (by decide)];rfl) he hb (by rw [A1.var (by decide)];rfl) (by rw [A1.var (by decide)];rfl) v3
   by_cases hq:Zaq T s e (b:Int)=true
   ·rw [hq] at tst
    rw [ZbW tst,Jy v3]
    simp [intOf,hq]
   ·rw [Bool.not_eq_true] at hq
    rw [hq] at tst
    rw [ZM tst]
    simp [intOf,hq,Jj,A1]) (Agr.refl _ _)
 rw [← Z5 (g:=gN 3) i1] at key
 unfold Zau
 cases h:(Yh 0 n).findSome? fun d=>if Zaq T s e (intOf d) then some d else none with
 | some r =>
  obtain ⟨e1,x⟩:=key.1 r h
  exact Yo rfl (ZaL x)
 | none =>
  obtain ⟨e1,x,hA⟩:=key.2 h
  exact Yo rfl ((Jh x).trans (Jy rfl))
noncomputable def Zck (T:List (List Int)) (n:Nat) (s:Int):Option D:=(Yh 0 n).findSome? fun d=>if (Zau T n s (intOf d)).isSome then none else some (.tup [.str "back",d])
noncomputable def Zap (T:List (List Int)) (n:Nat):D:=match Zam T n with
 | some r=>r
 | none=>match restOf T n with
  | none=>.tup [.str "rest"]
  | some r=>(Zck T n (intOf r)).getD .non
theorem Zad {α β:Type}{q:α→Option β}{ds:List α}{r:β}(h:ds.findSome? q=some r):∃ d ∈ ds,q d=some r:=by
 induction ds with
 | nil=>simp at h
 | cons d ds ih =>
  rw [List.findSome?_cons] at h
  cases hq:q d with
  | some x=>rw [hq] at h;cases h;exact ⟨d,List.mem_cons_self,hq⟩
  | none=>rw [hq] at h;obtain ⟨d',h1,h2⟩:=ih h;exact ⟨d',List.mem_cons_of_mem _ h1,h2⟩
theorem ZfT {T:List (List Int)}{n:Nat}{r:D}(h:Zam T n=some r):∃ a b c:Nat,r=.tup [.str "three",.int a,.int b,.int c]:=by
 obtain ⟨da,ha,h⟩:=Zad h
 obtain ⟨db,hb,h⟩:=Zad h
 obtain ⟨dc,hc,h⟩:=Zad h
 obtain ⟨a,_,rfl⟩:=Ym ha
 obtain ⟨b,_,rfl⟩:=Ym hb
 obtain ⟨c,_,rfl⟩:=Ym hc
 simp only [Zbh] at h
 by_cases hq:(tg T (tg T (a:Int) (b:Int)) (c:Int) == tg T (a:Int) (tg T (b:Int) (c:Int)))=true
 ·rw [if_pos hq] at h;cases h
 ·rw [if_neg hq] at h;cases h;exact ⟨a,b,c,rfl⟩
theorem Zg2 {T:List (List Int)}{n:Nat}{r:D}(h:restOf T n=some r):∃ s:Nat,s < n∧r=.int s∧Y8 T n s=true:=by
 obtain ⟨d,hd,h⟩:=Zad h
 obtain ⟨s,hs,rfl⟩:=Ym hd
 by_cases hq:Y8 T n (s:Int)=true
 ·simp [intOf,hq] at h;exact ⟨s,hs,h.symm,hq⟩
 ·simp [intOf,hq] at h
theorem Zdn {T:List (List Int)}{n:Nat}{s e:Int}{r:D}(h:Zau T n s e=some r):∃ b:Nat,b < n∧r=.int b∧Zaq T s e b=true:=by
 obtain ⟨d,hd,h⟩:=Zad h
 obtain ⟨b,hb,rfl⟩:=Ym hd
 by_cases hq:Zaq T s e (b:Int)=true
 ·simp [intOf,hq] at h;exact ⟨b,hb,h.symm,hq⟩
 ·simp [intOf,hq] at h
theorem ZkJ {e:Ex}{env:Env}{x:D}(h:e env=some x):tIsN e env=some x.isN:=by simp [tIsN,h]
theorem Zlv {e:Ex}{env:Env}{x:D}(h:e env=some x):tNoN e env=some (!x.isN):=by simp [tNoN,h]
theorem Zdd {T:List (List Int)}{n:Nat}(hT:Tab T n):JN [tabD T]=some (Zap T n):=by
 have s1:sSet 1 (Yc Y5 [(eVar 0)]) (enter 4 [tabD T])=some (.nx,[.sh (tabD T),.sh ((Zam T n).getD .non),.un,.un]):=by
  rw [Y4 ((Jp rfl).trans (ZfV hT))];rfl
 cases h3:Zam T n with
 | some r =>
  rw [h3,Option.getD_some] at s1
  obtain ⟨a,b,c,rfl⟩:=ZfT h3
  have e:Zap T n=.tup [.str "three",.int a,.int b,.int c]:=by simp only [Zap,h3]
  rw [e]
  exact Yo rfl ((Jh s1).trans (ZaL ((ZbW rfl).trans (Jy rfl))))
 | none =>
  rw [h3,Option.getD_none] at s1
  have s2:sSet 2 (Yc Zn [(eVar 0)]) [.sh (tabD T),.sh .non,.un,.un]=some (.nx,[.sh (tabD T),.sh .non,.sh ((restOf T n).getD .non),.un]):=by
   rw [Y4 ((Jp rfl).trans (ZaR hT))];rfl
  cases h2:restOf T n with
  | none =>
   rw [h2,Option.getD_none] at s2
   have e:Zap T n=.tup [.str "rest"]:=by simp only [Zap,h3,h2]
   rw [e]
   exact Yo rfl ((Jh s1).trans ((Jh ((ZM rfl).trans YB)).trans ((Jh s2).trans (ZaL ((ZbW rfl).trans (Jy rfl))))))
  | some r =>
   obtain ⟨s,hs,rfl,_⟩:=Zg2 h2
   rw [h2,Option.getD_some] at s2
   have e:Zap T n=(Zck T n s).getD .non:=by simp only [Zap,h3,h2,intOf]
   rw [e]
   have i1:iRng (eF1 fLen (eVar 0)) [.sh (tabD T),.sh .non,.sh (.int s),.un]=some (Yh 0 n):=JV (Yn hT rfl) hT.le
   have key:=Zaf (g:=gN 3) (b:=sIf (tIsN (Yc Y9 [(eVar 0),(eVar 2),(eVar 3)])) (sRet (eTup [(eC (.str "back")),(eVar 3)])) Jj)
    (fun env=>Agr [3] env [.sh (tabD T),.sh .non,.sh (.int s),.un]) (fun d=>if (Zau T n s (intOf d)).isSome then none else some (.tup [.str "back",d])) (Yh 0 n) [.sh (tabD T),.sh .non,.sh (.int s),.un] (fun d hd env hA=>by
     obtain ⟨b,hb,rfl⟩:=Ym hd
     refine ⟨_,rfl,?_⟩
     have A1:Agr [3] (env.set 3 (.sh (.int b))) [.sh (tabD T),.sh .non,.sh (.int s),.un]:=hA.set (by simp) _
     have v3:eVar 3 (env.set 3 (.sh (.int b)))=some (.int b):=YC (by rw [hA.len];simp)
     have v0:eVar 0 (env.set 3 (.sh (.int b)))=some (tabD T):=by rw [A1.var (by decide)];rfl
     have v2:eVar 2 (env.set 3 (.sh (.int b)))=some (.int s):=by rw [A1.var (by decide)];rfl
     have tst:=ZkJ ((Zcl v0 v2 v3).trans (Zgn hT hb))
     cases hq:Zau T n s (b:Int) with
     | none =>
      rw [hq] at tst
      rw [ZbW tst,Jy (show eTup [(eC (.str "back")),(eVar 3)] _=some (.tup [.str "back",.int b]) by simp [eTup,evs,eC,v3])]
      simp [intOf,hq]
     | some r =>
      obtain ⟨b',_,rfl,_⟩:=Zdn hq
      rw [hq] at tst
      rw [ZM tst]
      simp [intOf,hq,Jj,A1]) (Agr.refl _ _)
   rw [← Z5 (g:=gN 3) i1] at key
   unfold Zck
   cases h:(Yh 0 n).findSome? fun d=>if (Zau T n s (intOf d)).isSome then none else some (D.tup [.str "back",d]) with
   | some r =>
    obtain ⟨e1,x⟩:=key.1 r h
    exact Yo rfl ((Jh s1).trans ((Jh ((ZM rfl).trans YB)).trans ((Jh s2).trans ((Jh ((ZM rfl).trans YB)).trans (ZaL x)))))
   | none =>
    obtain ⟨e1,x,hA⟩:=key.2 h
    exact Yo rfl ((Jh s1).trans ((Jh ((ZM rfl).trans YB)).trans ((Jh s2).trans ((Jh ((ZM rfl).trans YB)).trans ((Jh x).trans (Jy rfl))))))
end PV
namespace PV
open PySem (Str)
theorem ZcP {T:List (List Int)}{n:Nat}(hT:Tab T n)(x:Int):Yr [tabD T,.int x]=some (.bl (decide (0≤x) && decide (x < n))):=by
 refine Yo rfl (Jy ?_)
 have h1:t2I pGe (eVar 1) (eC (.int 0)) (enter 2 [tabD T,.int x])=some (decide (0≤x)):=rfl
 have h2:t2I pLt (eVar 1) (eF1 fLen (eVar 0)) (enter 2 [tabD T,.int x])=some (decide (x < n)):=by
  simp only [t2I,Yn hT (show eVar 0 (enter 2 [tabD T,.int x])=some (tabD T) from rfl)]
  rfl
 simp only [eB,tAnd,h1,h2]
 cases decide (0≤x) <;> simp
theorem ZhF {e:Ex}{env:Env}{xs:List D}(h:e env=some (.lst xs)):iOf e env=some xs:=by simp [iOf,h]
theorem Zfj {T:List (List Int)}{e:Ex}{env:Env}(h:e env=some (tabD T)):iOf e env=some (T.map rowD):=ZhF h
theorem Zlt {r:List Int}{e:Ex}{env:Env}(h:e env=some (rowD r)):iOf e env=some (r.map .int):=ZhF h
theorem Zdj {T:List (List Int)}{n:Nat}(hT:Tab T n):JH [tabD T]=some .non:=by
 have e:sSet 1 (eF1 fLen (eVar 0)) (enter 4 [tabD T])=some (.nx,[Sl.sh (tabD T),Sl.sh (.int n),Sl.un,Sl.un]):=by
  rw [Y4 (Yn hT rfl)];rfl
 have t1:tOr (t2I pLt (eVar 1) (eC (.int 1))) (t2I pGt (eVar 1) (eC (.int 12))) [Sl.sh (tabD T),Sl.sh (.int n),Sl.un,Sl.un]=some false:=by
  have h1:t2I pLt (eVar 1) (eC (.int 1)) [Sl.sh (tabD T),Sl.sh (.int n),Sl.un,Sl.un]=some (decide ((n:Int) < 1)):=rfl
  have h2:t2I pGt (eVar 1) (eC (.int 12)) [Sl.sh (tabD T),Sl.sh (.int n),Sl.un,Sl.un]=some (decide (12 < (n:Int))):=rfl
  have p1:=hT.pos
  have p2:=hT.top
  rw [decide_eq_false (by omega)] at h1 h2
  simp only [tOr,h1,h2]
 have key:=ZbP (g:=gN 2) (ds:=T.map rowD) (b:=sSeq (sIf (tNe (eF1 fLen (eVar 2)) (eVar 1)) (ZaS) Jj) (sIf (tNot (tB (eF1 fAll (Yk 3 (iOf (eVar 2)) Js (Yc Yr [(eVar 0),(eVar 3)]))))) (ZaS) Jj))
  (fun _ env=>Agr [2] env [Sl.sh (tabD T),Sl.sh (.int n),Sl.un,Sl.un]) (fun k d env hd hA=>by
   rw [List.getElem?_map] at hd
   cases hr:T[k]? with
   | none=>rw [hr] at hd;cases hd
   | some r =>
    rw [hr] at hd
    have hd':rowD r=d:=by simpa using hd
    subst hd'
    have hm:r ∈ T:=List.mem_of_getElem? hr
    have A1:Agr [2] (env.set 2 (.sh (rowD r))) [Sl.sh (tabD T),Sl.sh (.int n),Sl.un,Sl.un]:=hA.set (by simp) _
    have v2:eVar 2 (env.set 2 (.sh (rowD r)))=some (rowD r):=YC (by rw [hA.len];simp)
    have v1:eVar 1 (env.set 2 (.sh (rowD r)))=some (.int n):=by rw [A1.var (by decide)];rfl
    have v0:eVar 0 (env.set 2 (.sh (rowD r)))=some (tabD T):=by rw [A1.var (by decide)];rfl
    have t2:tNe (eF1 fLen (eVar 2)) (eVar 1) (env.set 2 (.sh (rowD r)))=some false:=by
     rw [Zff (i:=r.length) (j:=n) ((Zcx v2).trans (Zeo r)) v1,hT.row r hm]
     simp
    have hlen:(r.map D.int).length≤lim:=by rw [List.length_map,hT.row r hm,ZD];have:=hT.top;omega
    have hc:=ZaK (i:=3) (e:=Yc Yr [(eVar 0),(eVar 3)]) (env:=env.set 2 (.sh (rowD r))) (fun d=>.bl (decide (0≤intOf d) && decide (intOf d < n))) (r.map .int) (fun d hd=>by
     obtain ⟨x,hx,rfl⟩:=List.mem_map.mp hd
     refine (Jx (x:=tabD T) (y:=.int x) ?_ ?_).trans (ZcP hT x)
     ·rw [Jz (by decide)];exact v0
     ·exact YC (by rw [A1.len];simp))
    have t3:tNot (tB (eF1 fAll (Yk 3 (iOf (eVar 2)) Js (Yc Yr [(eVar 0),(eVar 3)])))) (env.set 2 (.sh (rowD r)))=some false:=by
     have ha:(r.map D.int).all (fun d=>decide (0≤intOf d) && decide (intOf d < (n:Int)))=true:=by
      rw [List.all_eq_true]
      intro d hd
      obtain ⟨x,hx,rfl⟩:=List.mem_map.mp hd
      have:=hT.ent r hm x hx
      simp [intOf,this.1,this.2]
     simp only [tNot,tB,eF1,Yk,Zlt v2,hlen,if_true,hc,fAll,Zej,ha]
     rfl
    refine ⟨_,_,rfl,(Jh ((ZM t2).trans YB)).trans ((ZM t3).trans YB),A1⟩) [Sl.sh (tabD T),Sl.sh (.int n),Sl.un,Sl.un] (Agr.refl _ _)
 obtain ⟨e1,x,_⟩:=key
 rw [← Z5 (it:=iOf (eVar 0)) (Zfj (T:=T) rfl)] at x
 exact ZeM rfl ((Jh e).trans ((Jh ((ZM t1).trans YB)).trans x))
theorem ZlO {T:List (List Int)}{n:Nat}(hT:Tab T n):Zdf [tabD T]=some (Zap T n):=by
 have s1:sDo (Yc JH [(eVar 0)]) (enter 1 [tabD T])=some (.nx,enter 1 [tabD T]):=Zbr ((Jp rfl).trans (Zdj hT))
 exact Yo rfl ((Jh s1).trans (Jy ((Jp rfl).trans (Zdd hT))))
theorem Zd1 {T:List (List Int)}(hl:T.length≤1000):Zaj [tabD T]=some (tabD T):=by
 have hlen:(T.map rowD).length≤lim:=by rw [List.length_map,ZD];omega
 refine Yo rfl (Jy (d:=tabD T) ?_)
 have hc:=ZaK (i:=1) (e:=eF1 Zbm (eVar 1)) (env:=enter 2 [tabD T]) (fun d=>d) (T.map rowD) (fun d hd=>by
  obtain ⟨r,hr,rfl⟩:=List.mem_map.mp hd
  rfl)
 simp only [Yk,Zfj (T:=T) (show eVar 0 (enter 2 [tabD T])=some (tabD T) from rfl),hlen,if_true,hc,List.map_id']
 rfl
theorem ZfX (x:Int):Zav [.int x]=some (.bl true):=rfl
end PV
namespace PV
open PySem (Str)
noncomputable def Zan (ns:List Int) (k:Nat):Int:=ns.getD k 0
theorem JF (ns:List Int)(k:Nat):Ji [rowD ns,.int k]=some (.int (Zan ns k)):=by
 have t1:t2I pLt (eVar 1) (eF1 fLen (eVar 0)) (enter 2 [rowD ns,.int k])=some (decide ((k:Int) < ns.length)):=by
  have h:eF1 fLen (eVar 0) (enter 2 [rowD ns,.int k])=some (.int ns.length):=(Zcx (x:=rowD ns) rfl).trans (Zeo ns)
  simp only [t2I,h];rfl
 by_cases hk:(k:Int) < ns.length
 ·rw [decide_eq_true hk] at t1
  refine Yo rfl (ZaL ((ZbW t1).trans (Jy ?_)))
  show fIx (rowD ns) (.int k)=_
  rw [Zft (by omega) hk]
  simp [Zan]
 ·rw [decide_eq_false hk] at t1
  have e:Zan ns k=0:=by unfold Zan;rw [List.getD_eq_getElem?_getD,List.getElem?_eq_none (by omega)];rfl
  rw [e]
  exact Yo rfl ((Jh ((ZM t1).trans YB)).trans (Jy rfl))
theorem YH {f:Int→Int→Option D}{a b:Ex}{env:Env}{i j:Int}(h1:a env=some (.int i))(h2:b env=some (.int j)):e2I f a b env=f i j:=by simp [e2I,h1,h2]
theorem Zal {i j:Int}(h:0 < j):iMod i j=some (.int (i % j)):=by unfold iMod;rw [if_pos h]
theorem Zfa {i j:Int}(h:0 < j)(h2:j < 1073741824):iDiv i j=some (.int (i / j)):=by unfold iDiv;rw [if_pos ⟨h,h2⟩]
theorem Zgs {i j:Int}(h:-18446744073709551616 < i)(h2:i < 18446744073709551616):iMul i j=some (.int (i * j)):=by unfold iMul;rw [if_pos (.inl ⟨h,h2⟩)]
theorem Zjc {i j:Int}(h:-18446744073709551616 < j)(h2:j < 18446744073709551616):iMul i j=some (.int (i * j)):=by unfold iMul;rw [if_pos (.inr ⟨h,h2⟩)]
theorem Zbk {a b:Ex}{env:Env}{i j:Int}(h1:a env=some (.int i))(h2:b env=some (.int j)):eAdd a b env=some (.int (i + j)):=by simp [eAdd,eF2,h1,h2,fAdd]
theorem Zhd (c : Int)(k : Nat)(bound : Int)(hk : k ≤ 1000)(hb : 0 < bound)(hb2 : bound ≤ 12) : ∃ r : Int, ZX [.int c, .int k, .int bound] = some (.int r) ∧ 0 ≤ r ∧ r < bound := by
  have t1 : tEq (e2I iMod (eVar 0) (eC (.int 2))) (eC (.int 0)) (enter 6 [.int c, .int k, .int bound]) = some (c % 2 == 0) :=
    ZbK ((YH (i := c) (j := 2) rfl rfl).trans (Zal (by decide))) rfl
  by_cases h2 : (c % 2 == 0) = true
  · rw [h2] at t1
    have s1 : sSet 3 (e2I iDiv (eVar 0) (eC (.int 2))) (enter 6 [.int c, .int k, .int bound]) = some (.nx, [.sh (.int c), .sh (.int k), .sh (.int bound), .sh (.int (c / 2)), .un, .un]) := by
      rw [Y4 ((YH (i := c) (j := 2) rfl rfl).trans (Zfa (by decide) (by decide)))]; rfl
    have key := ZbP (g := gN 4) (ds := Yh 0 k) (b := sSet 3 (e2I iDiv (eVar 3) (eVar 2))) (fun _ env => Agr [3, 4] env [.sh (.int c), .sh (.int k), .sh (.int bound), .sh (.int (c / 2)), .un, .un] ∧ ∃ l : Int, eVar 3 env = some (.int l))
      (fun j d env hd ⟨hA, l, hl⟩ => by
        have A1 : Agr [3, 4] (env.set 4 (.sh d)) [.sh (.int c), .sh (.int k), .sh (.int bound), .sh (.int (c / 2)), .un, .un] := hA.set (by simp) _
        have v3 : eVar 3 (env.set 4 (.sh d)) = some (.int l) := by rw [Jz (by decide)]; exact hl
        have v2 : eVar 2 (env.set 4 (.sh d)) = some (.int bound) := by rw [A1.var (by decide)]; rfl
        refine ⟨_, _, rfl, Y4 ((YH v3 v2).trans (Zfa hb (by omega))), A1.set (by simp) _, _, YC (by rw [A1.len]; simp)⟩)
      [.sh (.int c), .sh (.int k), .sh (.int bound), .sh (.int (c / 2)), .un, .un] ⟨Agr.refl _ _, _, rfl⟩
    obtain ⟨e1, x, hA, l, hl⟩ := key
    rw [← Z5 (it := iRng (eVar 1)) (JV rfl hk)] at x
    have v2 : eVar 2 e1 = some (.int bound) := by rw [hA.var (by decide)]; rfl
    refine ⟨l % bound, Yo rfl (ZaL ((ZbW t1).trans ((Jh s1).trans ((Jh x).trans (Jy ((YH hl v2).trans (Zal hb))))))), Int.emod_nonneg _ (by omega), Int.emod_lt_of_pos _ hb⟩
  · rw [Bool.not_eq_true] at h2
    rw [h2] at t1
    let q1 : Int := (c % 2147483647 + 977 * k + 1) * 48271 % 2147483647
    have m0 := Int.emod_nonneg c (show (2147483647 : Int) ≠ 0 by decide)
    have m0' := Int.emod_lt_of_pos c (show (0 : Int) < 2147483647 by decide)
    have n1 : 0 ≤ q1 := Int.emod_nonneg _ (by decide)
    have n1' : q1 < 2147483647 := Int.emod_lt_of_pos _ (by decide)
    let q2 : Int := q1 * q1 % 2147483629
    have n2 : 0 ≤ q2 := Int.emod_nonneg _ (by decide)
    have n2' : q2 < 2147483629 := Int.emod_lt_of_pos _ (by decide)
    let q3 : Int := (q2 + 40692 * (k + 3)) * 69621 % 2147483647
    have n3 : 0 ≤ q3 := Int.emod_nonneg _ (by decide)
    have s1 : sSet 5 (e2I iMod (e2I iMul (eAdd (eAdd (e2I iMod (eVar 0) (eC (.int 2147483647))) (e2I iMul (eC (.int 977)) (eVar 1))) (eC (.int 1))) (eC (.int 48271))) (eC (.int 2147483647))) (enter 6 [.int c, .int k, .int bound]) =
        some (.nx, [.sh (.int c), .sh (.int k), .sh (.int bound), .un, .un, .sh (.int q1)]) := by
      rw [Y4 ((YH ((YH (Zbk (Zbk ((YH (i := c) (j := 2147483647) rfl rfl).trans (Zal (by decide))) ((YH (i := 977) (j := k) rfl rfl).trans (Zgs (by decide) (by decide)))) rfl) rfl).trans (Zjc (j := 48271) (by decide) (by decide))) rfl).trans (Zal (by decide)))]
      rfl
    have s2 : sSet 5 (e2I iMod (e2I iMul (eVar 5) (eVar 5)) (eC (.int 2147483629))) [.sh (.int c), .sh (.int k), .sh (.int bound), .un, .un, .sh (.int q1)] =
        some (.nx, [.sh (.int c), .sh (.int k), .sh (.int bound), .un, .un, .sh (.int q2)]) := by
      rw [Y4 ((YH ((YH (i := q1) (j := q1) rfl rfl).trans (Zgs (by omega) (by omega))) rfl).trans (Zal (by decide)))]
      rfl
    have s3 : sSet 5 (e2I iMod (e2I iMul (eAdd (eVar 5) (e2I iMul (eC (.int 40692)) (eAdd (eVar 1) (eC (.int 3))))) (eC (.int 69621))) (eC (.int 2147483647))) [.sh (.int c), .sh (.int k), .sh (.int bound), .un, .un, .sh (.int q2)] =
        some (.nx, [.sh (.int c), .sh (.int k), .sh (.int bound), .un, .un, .sh (.int q3)]) := by
      rw [Y4 ((YH ((YH (Zbk (i := q2) rfl ((YH (i := 40692) rfl (Zbk (i := k) (j := 3) rfl rfl)).trans (Zgs (by decide) (by decide)))) rfl).trans (Zjc (j := 69621) (by decide) (by decide))) rfl).trans (Zal (by decide)))]
      rfl
    refine ⟨q3 / 8 % bound, Yo rfl ((Jh ((ZM t1).trans YB)).trans ((Jh s1).trans ((Jh s2).trans ((Jh s3).trans (Jy ((YH ((YH (i := q3) (j := 8) rfl rfl).trans (Zfa (by decide) (by decide))) rfl).trans (Zal hb))))))),
      Int.emod_nonneg _ (by omega), Int.emod_lt_of_pos _ hb⟩
end PV
namespace PV
open PySem (Str)
structure Prm (nm:List Int)(n:Nat):Prop where
 len:nm.length=n
 nd:nm.Nodup
 bd:∀ x ∈ nm,0≤x∧x < n
noncomputable def at1 (nm:List Int) (k:Int):Int:=nm.getD k.toNat 0
theorem Zlw {nm:List Int}{k:Int}(h0:0≤k)(h1:k < nm.length):at1 nm k ∈ nm:=by
 have hk:k.toNat < nm.length:=by omega
 unfold at1
 rw [List.getD_eq_getElem?_getD,List.getElem?_eq_getElem hk]
 exact List.getElem_mem hk
theorem Prm.at {nm:List Int}{n:Nat}(h:Prm nm n){k:Int}(h0:0≤k)(h1:k < n):0≤at1 nm k∧at1 nm k < n:=h.bd _ (Zlw h0 (by rw [h.len];exact h1))
theorem Prm.inj {nm:List Int}{n:Nat}(h:Prm nm n){a b:Int}(a0:0≤a)(a1:a < n)(b0:0≤b)(b1:b < n)(e:at1 nm a=at1 nm b):a=b:=by
 have hl:=h.len
 have ha:a.toNat < nm.length:=by omega
 have hb:b.toNat < nm.length:=by omega
 unfold at1 at e
 rw [List.getD_eq_getElem?_getD,List.getD_eq_getElem?_getD,List.getElem?_eq_getElem ha,List.getElem?_eq_getElem hb] at e
 have:=(List.getElem_inj h.nd).mp (show nm[a.toNat]=nm[b.toNat] from e)
 omega
theorem Zbe {α:Type}{x y:α}:∀ {nm:List α} {j:Nat},y ∈ nm.insertIdx j x→y=x∨y ∈ nm
 | nm,0,h=>by rw [List.insertIdx_zero] at h;exact List.mem_cons.mp h
 | [],j + 1,h=>by simp at h
 | z::nm,j + 1,h=>by
  rw [List.insertIdx_succ_cons] at h
  rcases List.mem_cons.mp h with e | e
  ·exact .inr (by rw [e];exact List.mem_cons_self)
  ·rcases Zbe e with e | e
   ·exact .inl e
   ·exact .inr (List.mem_cons_of_mem _ e)
theorem Zci {α β:Type}(f:α→β)(x:α):∀ (nm:List α) (j:Nat),(nm.insertIdx j x).map f=(nm.map f).insertIdx j (f x)
 | nm,0=>by simp
 | [],j + 1=>by simp
 | z::nm,j + 1=>by simp only [List.insertIdx_succ_cons,List.map_cons,Zci f x nm j]
theorem Zca {x:Int}:∀ {nm:List Int} {j:Nat},nm.Nodup→x ∉ nm→(nm.insertIdx j x).Nodup
 | nm,0,h,hx=>by rw [List.insertIdx_zero];exact List.nodup_cons.mpr ⟨hx,h⟩
 | [],j + 1,h,hx=>by simp
 | y::nm,j + 1,h,hx=>by
  rw [List.insertIdx_succ_cons]
  obtain ⟨h1,h2⟩:=List.nodup_cons.mp h
  refine List.nodup_cons.mpr ⟨fun hm=>?_,Zca h2 fun z=>hx (List.mem_cons_of_mem _ z)⟩
  rcases Zbe hm with e | e
  ·exact hx (by rw [← e];exact List.mem_cons_self)
  ·exact h1 e
noncomputable def Z2 (T:List (List Int)):List (List D):=T.map fun r=>r.map .int
theorem ZfB:∀ T:List (List Int),Zdr (T.map rowD)=some (Z2 T)
 | []=>rfl
 | r::T=>by simp only [List.map_cons,rowD,Zdr];rw [ZfB T];rfl
theorem Zif (T:List (List Int)):D.lst ((Z2 T).map .lst)=tabD T:=by simp only [Z2,tabD,List.map_map];rfl
noncomputable def tset (T:List (List Int)) (i j v:Int):List (List Int):=T.set i.toNat ((T.getD i.toNat []).set j.toNat v)
theorem Tab.tset {T:List (List Int)}{n:Nat}(h:Tab T n){i j v:Int}(i0:0≤i)(i1:i < n)(v0:0≤v)(v1:v < n):Tab (tset T i j v) n:=by
 have hr:=h.Zdh i0 i1
 have hm:(T.getD i.toNat []) ∈ T:=by
  have hk:i.toNat < T.length:=by have:=h.len;omega
  rw [List.getD_eq_getElem?_getD,List.getElem?_eq_getElem hk];exact List.getElem_mem hk
 refine ⟨by unfold PV.tset;rw [List.length_set];exact h.len,fun r hr'=>?_,fun r hr' x hx=>?_,h.pos,h.top⟩
 ·rcases List.mem_or_eq_of_mem_set hr' with z | z
  ·exact h.row r z
  ·rw [z,List.length_set];exact hr
 ·rcases List.mem_or_eq_of_mem_set hr' with z | z
  ·exact h.ent r z x hx
  ·rw [z] at hx
   rcases List.mem_or_eq_of_mem_set hx with y | y
   ·exact h.ent _ hm x y
   ·rw [y];exact ⟨v0,v1⟩
theorem ZhV {T:List (List Int)}{n:Nat}(h:Tab T n){i j v a b:Int}(i0:0≤i)(i1:i < n)(j0:0≤j)(j1:j < n)(a0:0≤a)(a1:a < n)(b0:0≤b)(b1:b < n) :
  tg (tset T i j v) a b=if a=i∧b=j then v else tg T a b:=by
 have hl:=h.len
 have hr:=h.Zdh i0 i1
 unfold tg PV.tset
 simp only [List.getD_eq_getElem?_getD]
 by_cases hai:a=i
 ·subst hai
  rw [List.getElem?_set_self (by omega),Option.getD_some]
  by_cases hbj:b=j
  ·subst hbj
   rw [List.getElem?_set_self (by simpa [List.getD_eq_getElem?_getD] using (show b.toNat < (T.getD a.toNat []).length by omega))]
   simp
  ·rw [List.getElem?_set_ne (by omega)]
   simp [hbj]
 ·rw [List.getElem?_set_ne (by omega)]
  simp [hai]
theorem ZgN {env:Env}{i j:Nat}{s:Sl}(h:i≠j):Jw j (env.set i s)=Jw j env:=by unfold Jw;rw [List.getElem?_set_ne h]
theorem Zcz {B : List (List Int)}{n : Nat}(hB : Tab B n)(c : Int) : ∃ (T : List (List Int)) (nm : List Int), Zv [tabD B, .int c] = some (tabD T) ∧ Tab T n ∧ Prm nm n ∧
    ∀ a b : Int, 0 ≤ a → a < n → 0 ≤ b → b < n → tg T (at1 nm a) (at1 nm b) = at1 nm (tg B a b) := by
  have hn := hB.top
  let env0 : Env := [.sh (tabD B), .sh (.int c), .ow [], .un, .un, .un, .un, .un]
  have s1 : sOwn 2 (eLst []) (enter 8 [tabD B, .int c]) = some (.nx, env0) := rfl
  have key := ZbP (g := gN 3) (ds := Yh 0 n) (b := sIns 2 (e2I iMod (Yc ZX [(eVar 1), (eVar 3), (eC (.int 12))]) (eAdd (eVar 3) (eC (.int 1)))) (eVar 3))
    (fun k env => Agr [2, 3] env env0 ∧ ∃ nm : List Int, env[2]? = some (.ow (nm.map .int)) ∧ Prm nm k) (fun k d env hd ⟨hA, nm, hv, hp⟩ => by
      have hk : k < n := by have := (List.getElem?_eq_some_iff.mp hd).1; rwa [Jm] at this
      rw [JM hk] at hd
      obtain rfl : D.int k = d := by simpa using hd
      have A1 : Agr [2, 3] (env.set 3 (.sh (.int k))) env0 := hA.set (by simp) _
      have v3 : eVar 3 (env.set 3 (.sh (.int k))) = some (.int k) := YC (by rw [hA.len]; simp [env0])
      have v1 : eVar 1 (env.set 3 (.sh (.int k))) = some (.int c) := by rw [A1.var (by decide)]; rfl
      obtain ⟨r, hr, r0, r1⟩ := Zhd c k 12 (by omega) (by decide) (by decide)
      have ea : e2I iMod (Yc ZX [(eVar 1), (eVar 3), (eC (.int 12))]) (eAdd (eVar 3) (eC (.int 1))) (env.set 3 (.sh (.int k))) = some (.int (r % ((k : Int) + 1))) :=
        (YH ((Zcl v1 v3 rfl).trans hr) (Zbk v3 rfl)).trans (Zal (by omega))
      have p0 := Int.emod_nonneg r (show ((k : Int) + 1) ≠ 0 by omega)
      have p1 := Int.emod_lt_of_pos r (show (0 : Int) < (k : Int) + 1 by omega)
      have hl := hp.len
      have w2 : (env.set 3 (.sh (.int k)))[2]? = some (.ow (nm.map .int)) := by rw [List.getElem?_set_ne (by decide)]; exact hv
      have hs : sIns 2 (e2I iMod (Yc ZX [(eVar 1), (eVar 3), (eC (.int 12))]) (eAdd (eVar 3) (eC (.int 1)))) (eVar 3) (env.set 3 (.sh (.int k))) =
          some (.nx, (env.set 3 (.sh (.int k))).set 2 (.ow ((nm.map .int).insertIdx (r % ((k : Int) + 1)).toNat (.int k)))) := by
        simp only [sIns, w2, ea, v3]
        rw [if_pos ⟨p0, by rw [List.length_map]; omega, by rw [List.length_map, ZD]; omega⟩]
      refine ⟨_, _, rfl, hs, A1.set (by simp) _, nm.insertIdx (r % ((k : Int) + 1)).toNat k, ?_, ⟨?_, ?_, fun x hx => ?_⟩⟩
      · rw [ZdI (by rw [List.length_set, hA.len]; simp [env0]), Zci]
      · rw [List.length_insertIdx, if_pos (by omega)]; omega
      · exact Zca hp.nd fun z => by have := hp.bd _ z; omega
      · rcases Zbe hx with e | e
        · subst e; omega
        · have := hp.bd x e; omega) env0 ⟨Agr.refl _ _, [], rfl, ⟨rfl, List.nodup_nil, fun x hx => by cases hx⟩⟩
  obtain ⟨e1, x1, A1, nm, v2, hp⟩ := key
  rw [Jm] at hp
  rw [← Z5 (it := iRng (eF1 fLen (eVar 0))) (JV (Yn hB rfl) hB.le)] at x1
  have l1 : e1.length = 8 := A1.len
  have w0 : eVar 0 e1 = some (tabD B) := by rw [A1.var (by decide)]; rfl
  have s2 : sTab 4 (Yk 5 (iOf (eVar 0)) Js (eF1 Zbm (eVar 5))) e1 = some (.nx, e1.set 4 (.tab (Z2 B))) := by
    have hlen : (B.map rowD).length ≤ lim := by rw [List.length_map, hB.len, ZD]; omega
    have hc := ZaK (i := 5) (e := eF1 Zbm (eVar 5)) (env := e1) (fun d => d) (B.map rowD) (fun d hd => by
      obtain ⟨r, hr, rfl⟩ := List.mem_map.mp hd
      rw [Zcx (YC (by rw [l1]; decide))]; rfl)
    rw [List.map_id'] at hc
    simp only [sTab, Yk, Zfj w0, hlen, if_true, hc, ZfB]
  let e2 := e1.set 4 (.tab (Z2 B))
  have l2 : e2.length = 8 := by show (e1.set 4 _).length = 8; rw [List.length_set]; exact l1
  have z0 : eVar 0 e2 = some (tabD B) := by show eVar 0 (e1.set 4 _) = _; rw [Jz (by decide)]; exact w0
  have z2 : Jw 2 e2 = some (rowD nm) := by show Jw 2 (e1.set 4 _) = _; rw [ZgN (by decide)]; unfold Jw; rw [v2]; rfl
  have z4 : e2[4]? = some (.tab (Z2 B)) := ZdI (by rw [l1]; decide)
  have irow : ∀ {env : Env} {e1 e2 : Ex} {k : Int}, e1 env = some (rowD nm) → e2 env = some (.int k) → 0 ≤ k → k < n → eIx e1 e2 env = some (.int (at1 nm k)) := fun {env e1 e2 k} h1 h2 k0 k1 => by
    simp only [eIx, eF2, h1, h2]
    rw [Zft k0 (by rw [hp.len]; exact k1)]; rfl
  have turn : ∀ (a b : Nat) (env : Env) (T : List (List Int)), a < n → b < n → Agr [4, 6, 7] env e2 → eVar 6 env = some (.int a) → eVar 7 env = some (.int b) → env[4]? = some (.tab (Z2 T)) → Tab T n →
      ZcN 4 (eIx (Jw 2) (eVar 6)) (eIx (Jw 2) (eVar 7)) (eSc (eIx (Jw 2) (eIx (eIx (eVar 0) (eVar 6)) (eVar 7)))) env = some (.nx, env.set 4 (.tab (Z2 (tset T (at1 nm a) (at1 nm b) (at1 nm (tg B a b)))))) := by
    intro a b env T ha hb hA k6 k7 k4 hT
    have k0 : eVar 0 env = some (tabD B) := by rw [hA.var (by decide)]; exact z0
    have k2 : Jw 2 env = some (rowD nm) := by rw [hA.varR (by decide)]; exact z2
    have ea := irow k2 k6 (by omega) (by omega)
    have eb := irow k2 k7 (by omega) (by omega)
    have ex := ix2 hB k0 k6 k7 (by omega) (by omega) (by omega) (by omega)
    have bb := hB.bound (a := a) (b := b) (by omega) (by omega) (by omega) (by omega)
    have ev := irow k2 ex bb.1 bb.2
    have pa := hp.at (k := a) (by omega) (by omega)
    have pb := hp.at (k := b) (by omega) (by omega)
    have es : eSc (eIx (Jw 2) (eIx (eIx (eVar 0) (eVar 6)) (eVar 7))) env = some (.int (at1 nm (tg B a b))) := by simp only [eSc, ev, J2]; rfl
    have hl := hT.len
    have i1 : ixN (Z2 T).length (at1 nm a) = some (at1 nm a).toNat := by unfold ixN; rw [if_pos pa.1, if_pos (by rw [Z2, List.length_map]; omega)]
    have g1 : (Z2 T)[(at1 nm a).toNat]? = some ((T.getD (at1 nm a).toNat []).map .int) := by
      have hk : (at1 nm a).toNat < T.length := by omega
      rw [Z2, List.getElem?_map, List.getElem?_eq_getElem hk, List.getD_eq_getElem?_getD, List.getElem?_eq_getElem hk]; rfl
    have rl := hT.Zdh pa.1 pa.2
    have i2 : ixN ((T.getD (at1 nm a).toNat []).map D.int).length (at1 nm b) = some (at1 nm b).toNat := by unfold ixN; rw [if_pos pb.1, if_pos (by rw [List.length_map, rl]; omega)]
    simp only [ZcN, k4, es, ea, eb, i1, g1, i2]
    congr 3
    simp only [Z2, PV.tset, List.map_set]
  have key2 := ZbP (g := gN 6) (ds := Yh 0 n) (b := sFor (gN 7) (iRng (eF1 fLen (eVar 0))) (ZcN 4 (eIx (Jw 2) (eVar 6)) (eIx (Jw 2) (eVar 7)) (eSc (eIx (Jw 2) (eIx (eIx (eVar 0) (eVar 6)) (eVar 7))))))
    (fun k env => Agr [4, 6, 7] env e2 ∧ ∃ T, env[4]? = some (.tab (Z2 T)) ∧ Tab T n ∧ ∀ a b : Int, 0 ≤ a → a < k → 0 ≤ b → b < n → tg T (at1 nm a) (at1 nm b) = at1 nm (tg B a b)) (fun k d env hd ⟨hA, T, hv, hT, hI⟩ => by
      have hk : k < n := by have := (List.getElem?_eq_some_iff.mp hd).1; rwa [Jm] at this
      rw [JM hk] at hd
      obtain rfl : D.int k = d := by simpa using hd
      have A2 : Agr [4, 6, 7] (env.set 6 (.sh (.int k))) e2 := hA.set (by simp) _
      have u6 : eVar 6 (env.set 6 (.sh (.int k))) = some (.int k) := YC (by rw [hA.len, l2]; decide)
      have u0 : eVar 0 (env.set 6 (.sh (.int k))) = some (tabD B) := by rw [A2.var (by decide)]; exact z0
      have inner := ZbP (g := gN 7) (ds := Yh 0 n) (b := ZcN 4 (eIx (Jw 2) (eVar 6)) (eIx (Jw 2) (eVar 7)) (eSc (eIx (Jw 2) (eIx (eIx (eVar 0) (eVar 6)) (eVar 7)))))
        (fun j env => Agr [4, 6, 7] env e2 ∧ eVar 6 env = some (.int k) ∧ ∃ T, env[4]? = some (.tab (Z2 T)) ∧ Tab T n ∧ (∀ a b : Int, 0 ≤ a → a < k → 0 ≤ b → b < n → tg T (at1 nm a) (at1 nm b) = at1 nm (tg B a b)) ∧
          ∀ b : Int, 0 ≤ b → b < j → tg T (at1 nm k) (at1 nm b) = at1 nm (tg B k b)) (fun j d env hd ⟨hA, h6, T, hv, hT, hI, hJ⟩ => by
          have hj : j < n := by have := (List.getElem?_eq_some_iff.mp hd).1; rwa [Jm] at this
          rw [JM hj] at hd
          obtain rfl : D.int j = d := by simpa using hd
          have A3 : Agr [4, 6, 7] (env.set 7 (.sh (.int j))) e2 := hA.set (by simp) _
          have t7 : eVar 7 (env.set 7 (.sh (.int j))) = some (.int j) := YC (by rw [hA.len, l2]; decide)
          have t6 : eVar 6 (env.set 7 (.sh (.int j))) = some (.int k) := by rw [Jz (by decide)]; exact h6
          have t4 : (env.set 7 (.sh (.int j)))[4]? = some (.tab (Z2 T)) := by rw [List.getElem?_set_ne (by decide)]; exact hv
          have pk := hp.at (k := k) (by omega) (by omega)
          have pj := hp.at (k := j) (by omega) (by omega)
          have bb := hB.bound (a := k) (b := j) (by omega) (by omega) (by omega) (by omega)
          have pv := hp.at bb.1 bb.2
          refine ⟨_, _, rfl, turn k j _ T hk hj A3 t6 t7 t4 hT, A3.set (by simp) _, by rw [Jz (by decide)]; exact t6, _, ZdI (by rw [A3.len, l2]; decide), hT.tset pk.1 pk.2 pv.1 pv.2, fun a b a0 a1 b0 b1 => ?_, fun b b0 b1 => ?_⟩
          · have qa := hp.at (k := a) a0 (by omega)
            have qb := hp.at (k := b) b0 b1
            rw [ZhV hT pk.1 pk.2 pj.1 pj.2 qa.1 qa.2 qb.1 qb.2, if_neg]
            · exact hI a b a0 a1 b0 b1
            · rintro ⟨e, _⟩
              have := hp.inj a0 (by omega) (by omega) (by omega) e
              omega
          · have qb := hp.at (k := b) b0 (by omega)
            rw [ZhV hT pk.1 pk.2 pj.1 pj.2 pk.1 pk.2 qb.1 qb.2]
            by_cases e : b = j
            · subst e; simp
            · rw [if_neg]
              · exact hJ b b0 (by omega)
              · rintro ⟨_, e2⟩
                exact e (hp.inj b0 (by omega) (by omega) (by omega) e2)) (env.set 6 (.sh (.int k))) ⟨A2, u6, T, by rw [List.getElem?_set_ne (by decide)]; exact hv, hT, hI, fun b b0 b1 => by omega⟩
      obtain ⟨e3, x3, hA3, h6, T3, hv3, hT3, hI3, hJ3⟩ := inner
      rw [Jm] at hJ3
      refine ⟨_, e3, rfl, (Z5 (JV (Yn hB u0) hB.le)).trans x3, hA3, T3, hv3, hT3, fun a b a0 a1 b0 b1 => ?_⟩
      by_cases e : a = k
      · subst e; exact hJ3 b b0 b1
      · exact hI3 a b a0 (by omega) b0 b1) e2 ⟨Agr.refl _ _, B, z4, hB, fun a b a0 a1 _ _ => by omega⟩
  obtain ⟨e3, x3, A3, T, hv, hT, hI⟩ := key2
  rw [Jm] at hI
  rw [← Z5 (it := iRng (eF1 fLen (eVar 0))) (JV (Yn hB z0) hB.le)] at x3
  have s3 : ZdA 4 e3 = some (.rt (tabD T), e3) := by simp only [ZdA, hv, Zif]
  exact ⟨T, nm, Yo rfl ((Jh s1).trans ((Jh x1).trans ((Jh s2).trans ((Jh x3).trans s3)))), hT, hp, hI⟩
end PV
set_option maxRecDepth 100000
namespace PV
open PySem (Str)
theorem ZhX:∀ {ds:List D} {xs:List Int},JC ds=some xs→ds=xs.map .int
 | [],xs,h=>by simp [JC] at h;subst h;rfl
 | .int i::ds,xs,h=>by
  simp only [JC] at h
  cases e:JC ds with
  | none=>rw [e] at h;cases h
  | some r=>rw [e] at h;cases h;rw [ZhX e];rfl
 | .non::_,_,h=>by simp [JC] at h
 | .bl _::_,_,h=>by simp [JC] at h
 | .str _::_,_,h=>by simp [JC] at h
 | .lst _::_,_,h=>by simp [JC] at h
 | .tup _::_,_,h=>by simp [JC] at h
noncomputable def ZaN:List D→Option (List (List Int))
 | []=>some []
 | .lst ds::r=>match JC ds,ZaN r with
  | some xs,some T=>some (xs::T)
  | _,_=>none
 | _::_=>none
theorem ZhZ:∀ {ds:List D} {T:List (List Int)},ZaN ds=some T→ds=T.map rowD
 | [],T,h=>by simp [ZaN] at h;subst h;rfl
 | .lst ds::r,T,h=>by
  simp only [ZaN] at h
  split at h
  ·rename_i xs T' e1 e2
   cases h
   rw [ZhX e1,ZhZ e2];rfl
  ·cases h
 | .non::_,_,h=>by simp [ZaN] at h
 | .bl _::_,_,h=>by simp [ZaN] at h
 | .int _::_,_,h=>by simp [ZaN] at h
 | .str _::_,_,h=>by simp [ZaN] at h
 | .tup _::_,_,h=>by simp [ZaN] at h
noncomputable def tab?:D→Option (List (List Int))
 | .lst ds=>ZaN ds
 | _=>none
theorem Zmw {d:D}{T:List (List Int)}(h:tab? d=some T):d=tabD T:=by
 cases d with
 | lst ds=>rw [ZhZ (show ZaN ds=some T from h)];rfl
 | _=>cases h
noncomputable def tabB (T:List (List Int)):Bool:=decide (1≤T.length) && decide (T.length≤12) && T.all fun r=>r.length == T.length && r.all fun x=>decide (0≤x) && decide (x < T.length)
theorem Zk4 {T:List (List Int)}(h:tabB T=true):Tab T T.length:=by
 simp only [tabB,Bool.and_eq_true,decide_eq_true_eq,List.all_eq_true,beq_iff_eq] at h
 exact ⟨rfl,fun r hr=>(h.2 r hr).1,fun r hr x hx=>(h.2 r hr).2 x hx,h.1.1,h.1.2⟩
noncomputable def Zbp (k:Nat):List (List Int):=((Jr [.int k]).bind tab?).getD []
noncomputable def Zin (k:Nat):Bool:=match Jr [.int k] with
 | some d=>match tab? d with
  | some T=>tabB T
  | none=>false
 | none=>false
theorem ZjK:(List.range 24).all Zin=true:=by decide +kernel
theorem Zdv {k:Nat}(h:k < 24):Jr [.int k]=some (tabD (Zbp k))∧Tab (Zbp k) (Zbp k).length:=by
 have hb:Zin k=true:=List.all_eq_true.mp ZjK k (List.mem_range.mpr h)
 unfold Zin at hb
 unfold Zbp
 cases e:Jr [.int k] with
 | none=>rw [e] at hb;cases hb
 | some d =>
  rw [e] at hb
  dsimp only at hb
  cases e2:tab? d with
  | none=>rw [e2] at hb;cases hb
  | some T =>
   rw [e2] at hb
   rw [Option.bind_some,e2,Option.getD_some,Zmw e2]
   exact ⟨rfl,Zk4 hb⟩
end PV
namespace PV
open PySem (Str)
theorem ZdK (i:Int){n:Nat}(h:0 < n):∃ k:Nat,k < n∧i % (n:Int)=k:=by
 have h0:=Int.emod_nonneg i (show (n:Int)≠0 by omega)
 have h1:=Int.emod_lt_of_pos i (show (0:Int) < n by omega)
 exact ⟨(i % n).toNat,by omega,by omega⟩
theorem Zfb (ns:List Int)(f:Nat):∃ (k n:Nat) (T:List (List Int)) (nm:List Int),k < 24∧ZW [rowD ns,.int f]=some (tabD T)∧Tab (Zbp k) n∧Tab T n∧Prm nm n ∧
  ∀ a b:Int,0≤a→a < n→0≤b→b < n→tg T (at1 nm a) (at1 nm b)=at1 nm (tg (Zbp k) a b):=by
 obtain ⟨k,hk,ek⟩:=ZdK (Zan ns f) (show 0 < 24 by decide)
 obtain ⟨eb,tb⟩:=Zdv hk
 obtain ⟨T,nm,e,hT,hp,hI⟩:=Zcz tb (Zan ns (f + 1))
 refine ⟨k,_,T,nm,hk,Yo rfl (Jy ((Jx ((Jp ((YH ((Jx rfl rfl).trans (JF ns f)) rfl).trans (Zal (by decide)))).trans ?_) ((Jx rfl (Zbk (i:=f) (j:=1) rfl rfl)).trans (JF ns (f + 1)))).trans e)),tb,hT,hp,hI⟩
 have:(Zan ns f % 24)=k:=ek
 rw [this]
 exact eb
end PV
namespace PV
open PySem (Str)
noncomputable def Zf5:List (List (List Int)):=[
 [[0]],
 [[0,1],[1,0]],
 [[0,1,2],[1,2,0],[2,0,1]],
 [[0,1,2,3],[1,2,3,0],[2,3,0,1],[3,0,1,2]],
 [[0,1,2,3],[1,0,3,2],[2,3,0,1],[3,2,1,0]],
 [[0,1,2,3,4],[1,2,3,4,0],[2,3,4,0,1],[3,4,0,1,2],[4,0,1,2,3]],
 [[0,1,2,3,4,5],[1,2,3,4,5,0],[2,3,4,5,0,1],[3,4,5,0,1,2],[4,5,0,1,2,3],[5,0,1,2,3,4]],
 [[0,1,2,3,4,5,6],[1,2,3,4,5,6,0],[2,3,4,5,6,0,1],[3,4,5,6,0,1,2],[4,5,6,0,1,2,3],[5,6,0,1,2,3,4],[6,0,1,2,3,4,5]],
 [[0,1,2,3,4,5,6,7],[1,2,3,4,5,6,7,0],[2,3,4,5,6,7,0,1],[3,4,5,6,7,0,1,2],[4,5,6,7,0,1,2,3],[5,6,7,0,1,2,3,4],[6,7,0,1,2,3,4,5],[7,0,1,2,3,4,5,6]],
 [[0,1,2,3,4,5,6,7],[1,0,3,2,5,4,7,6],[2,3,4,5,6,7,0,1],[3,2,5,4,7,6,1,0],[4,5,6,7,0,1,2,3],[5,4,7,6,1,0,3,2],[6,7,0,1,2,3,4,5],[7,6,1,0,3,2,5,4]],
 [[0,1,2,3,4,5,6,7],[1,0,3,2,5,4,7,6],[2,3,0,1,6,7,4,5],[3,2,1,0,7,6,5,4],[4,5,6,7,0,1,2,3],[5,4,7,6,1,0,3,2],[6,7,4,5,2,3,0,1],[7,6,5,4,3,2,1,0]],
 [[0,1,2,3,4,5,6,7,8],[1,2,3,4,5,6,7,8,0],[2,3,4,5,6,7,8,0,1],[3,4,5,6,7,8,0,1,2],[4,5,6,7,8,0,1,2,3],[5,6,7,8,0,1,2,3,4],[6,7,8,0,1,2,3,4,5],[7,8,0,1,2,3,4,5,6],[8,0,1,2,3,4,5,6,7]],
 [[0,1,2,3,4,5,6,7,8],[1,2,0,4,5,3,7,8,6],[2,0,1,5,3,4,8,6,7],[3,4,5,6,7,8,0,1,2],[4,5,3,7,8,6,1,2,0],[5,3,4,8,6,7,2,0,1],[6,7,8,0,1,2,3,4,5],[7,8,6,1,2,0,4,5,3],[8,6,7,2,0,1,5,3,4]],
 [[0,1,2,3,4,5,6,7,8,9],[1,2,3,4,5,6,7,8,9,0],[2,3,4,5,6,7,8,9,0,1],[3,4,5,6,7,8,9,0,1,2],[4,5,6,7,8,9,0,1,2,3],[5,6,7,8,9,0,1,2,3,4],[6,7,8,9,0,1,2,3,4,5],[7,8,9,0,1,2,3,4,5,6],[8,9,0,1,2,3,4,5,6,7],[9,0,1,2,3,4,5,6,7,8]],
 [[0,1,2,3,4,5,6,7,8,9,10],[1,2,3,4,5,6,7,8,9,10,0],[2,3,4,5,6,7,8,9,10,0,1],[3,4,5,6,7,8,9,10,0,1,2],[4,5,6,7,8,9,10,0,1,2,3],[5,6,7,8,9,10,0,1,2,3,4],[6,7,8,9,10,0,1,2,3,4,5],[7,8,9,10,0,1,2,3,4,5,6],[8,9,10,0,1,2,3,4,5,6,7],[9,10,0,1,2,3,4,5,6,7,8],[10,0,1,2,3,4,5,6,7,8,9]],
 [[0,1,2,3,4,5,6,7,8,9,10,11],[1,2,3,4,5,6,7,8,9,10,11,0],[2,3,4,5,6,7,8,9,10,11,0,1],[3,4,5,6,7,8,9,10,11,0,1,2],[4,5,6,7,8,9,10,11,0,1,2,3],[5,6,7,8,9,10,11,0,1,2,3,4],[6,7,8,9,10,11,0,1,2,3,4,5],[7,8,9,10,11,0,1,2,3,4,5,6],[8,9,10,11,0,1,2,3,4,5,6,7],[9,10,11,0,1,2,3,4,5,6,7,8],[10,11,0,1,2,3,4,5,6,7,8,9],[11,0,1,2,3,4,5,6,7,8,9,10]],
 [[0,1,2,3,4,5,6,7,8,9,10,11],[1,0,3,2,5,4,7,6,9,8,11,10],[2,3,4,5,6,7,8,9,10,11,0,1],[3,2,5,4,7,6,9,8,11,10,1,0],[4,5,6,7,8,9,10,11,0,1,2,3],[5,4,7,6,9,8,11,10,1,0,3,2],[6,7,8,9,10,11,0,1,2,3,4,5],[7,6,9,8,11,10,1,0,3,2,5,4],[8,9,10,11,0,1,2,3,4,5,6,7],[9,8,11,10,1,0,3,2,5,4,7,6],[10,11,0,1,2,3,4,5,6,7,8,9],[11,10,1,0,3,2,5,4,7,6,9,8]],
 [[0,1,2,3,4,5],[1,2,0,4,5,3],[2,0,1,5,3,4],[3,5,4,0,2,1],[4,3,5,1,0,2],[5,4,3,2,1,0]],
 [[0,1,2,3,4,5,6,7],[1,2,3,0,5,6,7,4],[2,3,0,1,6,7,4,5],[3,0,1,2,7,4,5,6],[4,7,6,5,0,3,2,1],[5,4,7,6,1,0,3,2],[6,5,4,7,2,1,0,3],[7,6,5,4,3,2,1,0]],
 [[0,1,2,3,4,5,6,7,8,9],[1,2,3,4,0,6,7,8,9,5],[2,3,4,0,1,7,8,9,5,6],[3,4,0,1,2,8,9,5,6,7],[4,0,1,2,3,9,5,6,7,8],[5,9,8,7,6,0,4,3,2,1],[6,5,9,8,7,1,0,4,3,2],[7,6,5,9,8,2,1,0,4,3],[8,7,6,5,9,3,2,1,0,4],[9,8,7,6,5,4,3,2,1,0]],
 [[0,1,2,3,4,5,6,7,8,9,10,11],[1,2,3,4,5,0,7,8,9,10,11,6],[2,3,4,5,0,1,8,9,10,11,6,7],[3,4,5,0,1,2,9,10,11,6,7,8],[4,5,0,1,2,3,10,11,6,7,8,9],[5,0,1,2,3,4,11,6,7,8,9,10],[6,11,10,9,8,7,0,5,4,3,2,1],[7,6,11,10,9,8,1,0,5,4,3,2],[8,7,6,11,10,9,2,1,0,5,4,3],[9,8,7,6,11,10,3,2,1,0,5,4],[10,9,8,7,6,11,4,3,2,1,0,5],[11,10,9,8,7,6,5,4,3,2,1,0]],
 [[0,1,2,3,4,5,6,7],[1,2,3,0,5,6,7,4],[2,3,0,1,6,7,4,5],[3,0,1,2,7,4,5,6],[4,7,6,5,2,1,0,3],[5,4,7,6,3,2,1,0],[6,5,4,7,0,3,2,1],[7,6,5,4,1,0,3,2]],
 [[0,1,2,3,4,5,6,7,8,9,10,11],[1,2,3,4,5,0,7,8,9,10,11,6],[2,3,4,5,0,1,8,9,10,11,6,7],[3,4,5,0,1,2,9,10,11,6,7,8],[4,5,0,1,2,3,10,11,6,7,8,9],[5,0,1,2,3,4,11,6,7,8,9,10],[6,11,10,9,8,7,3,2,1,0,5,4],[7,6,11,10,9,8,4,3,2,1,0,5],[8,7,6,11,10,9,5,4,3,2,1,0],[9,8,7,6,11,10,0,5,4,3,2,1],[10,9,8,7,6,11,1,0,5,4,3,2],[11,10,9,8,7,6,2,1,0,5,4,3]],
 [[0,1,2,3,4,5,6,7,8,9,10,11],[1,2,0,5,3,4,7,8,6,11,9,10],[2,0,1,4,5,3,8,6,7,10,11,9],[3,6,9,0,7,10,1,4,11,2,5,8],[4,8,10,2,6,11,0,5,9,1,3,7],[5,7,11,1,8,9,2,3,10,0,4,6],[6,9,3,10,0,7,4,11,1,8,2,5],[7,11,5,9,1,8,3,10,2,6,0,4],[8,10,4,11,2,6,5,9,0,7,1,3],[9,3,6,7,10,0,11,1,4,5,8,2],[10,4,8,6,11,2,9,0,5,3,7,1],[11,5,7,8,9,1,10,2,3,4,6,0]]]
noncomputable def litB (k:Nat):Bool:=match Jr [.int k] with
 | some d=>tab? d == some (Zf5.getD k [])
 | none=>false
theorem Zlk:(List.range 24).all litB=true:=by decide +kernel
theorem Zkp {k:Nat}(h:k < 24):Zbp k=Zf5.getD k []:=by
 have hb:litB k=true:=List.all_eq_true.mp Zlk k (List.mem_range.mpr h)
 unfold litB at hb
 unfold Zbp
 cases e:Jr [.int k] with
 | none=>rw [e] at hb;cases hb
 | some d =>
  rw [e] at hb
  have hb:tab? d=some (Zf5.getD k []):=by simpa using hb
  simp [hb]
structure Grp (T:List (List Int))(n:Nat)(s:Nat):Prop where
 tab:Tab T n
 lt:s < n
 asc:∀ a b c:Int,0≤a→a < n→0≤b→b < n→0≤c→c < n→tg T (tg T a b) c=tg T a (tg T b c)
 idl:∀ a:Int,0≤a→a < n→tg T s a=a
 idr:∀ a:Int,0≤a→a < n→tg T a s=a
 inv:∀ a:Int,0≤a→a < n→∃ b:Int,0≤b∧b < n∧tg T a b=s∧tg T b a=s
noncomputable def ascB (T:List (List Int)) (n:Nat):Bool:=(List.range n).all fun a=>(List.range n).all fun b=>(List.range n).all fun c=>tg T (tg T a b) c == tg T a (tg T b c)
noncomputable def idB (T:List (List Int)) (n s:Nat):Bool:=(List.range n).all fun a=>tg T s a == a && tg T a s == a
noncomputable def invB (T:List (List Int)) (n s:Nat):Bool:=(List.range n).all fun a=>(List.range n).any fun b=>tg T a b == s && tg T b a == s
noncomputable def grpB (T:List (List Int)):Bool:=decide (0 < T.length) && ascB T T.length && idB T T.length 0 && invB T T.length 0
theorem Zah {a:Int}{n:Nat}(h0:0≤a)(h1:a < n):∃ k:Nat,k < n∧a=k:=⟨a.toNat,by omega,by omega⟩
theorem ZlK {T:List (List Int)}(ht:Tab T T.length)(h:grpB T=true):Grp T T.length 0:=by
 simp only [grpB,Bool.and_eq_true,decide_eq_true_eq,ascB,idB,invB,List.all_eq_true,List.any_eq_true,List.mem_range,beq_iff_eq] at h
 obtain ⟨⟨⟨h0,ha⟩,hi⟩,hv⟩:=h
 refine ⟨ht,h0,fun a b c a0 a1 b0 b1 c0 c1=>?_,fun a a0 a1=>?_,fun a a0 a1=>?_,fun a a0 a1=>?_⟩
 ·obtain ⟨a,a2,rfl⟩:=Zah a0 a1
  obtain ⟨b,b2,rfl⟩:=Zah b0 b1
  obtain ⟨c,c2,rfl⟩:=Zah c0 c1
  exact ha a a2 b b2 c c2
 ·obtain ⟨a,a2,rfl⟩:=Zah a0 a1
  exact (hi a a2).1
 ·obtain ⟨a,a2,rfl⟩:=Zah a0 a1
  exact (hi a a2).2
 ·obtain ⟨a,a2,rfl⟩:=Zah a0 a1
  obtain ⟨b,hb,h1,h2⟩:=hv a a2
  exact ⟨b,by omega,by omega,h1,h2⟩
theorem ZkP:(List.range 24).all (fun k=>grpB (Zf5.getD k []))=true:=by decide +kernel
theorem ZgR {k:Nat}(h:k < 24):Grp (Zbp k) (Zbp k).length 0:=ZlK (Zdv h).2 (by
 rw [Zkp h]
 exact List.all_eq_true.mp ZkP k (List.mem_range.mpr h))
theorem Prm.onto {nm:List Int}{n:Nat}(h:Prm nm n){x:Int}(x0:0≤x)(x1:x < n):∃ a:Int,0≤a∧a < n∧at1 nm a=x:=by
 have hsub:nm ⊆ (List.range n).map Int.ofNat:=fun y hy=>by
  obtain ⟨h0,h1⟩:=h.bd y hy
  exact List.mem_map.mpr ⟨y.toNat,List.mem_range.mpr (by omega),by simp [Int.toNat_of_nonneg h0]⟩
 have hmem:x ∈ nm:=by
  apply Classical.byContradiction
  intro hx
  have hnd:(x::nm).Nodup:=List.nodup_cons.mpr ⟨hx,h.nd⟩
  have hsub2:(x::nm) ⊆ (List.range n).map Int.ofNat:=fun y hy=>by
   rcases List.mem_cons.mp hy with rfl | hy
   ·exact List.mem_map.mpr ⟨y.toNat,List.mem_range.mpr (by omega),by simp [Int.toNat_of_nonneg x0]⟩
   ·exact hsub hy
  have hl:=hnd.length_le_of_subset hsub2
  simp [h.len] at hl
  omega
 obtain ⟨i,hi,e⟩:=List.mem_iff_getElem.mp hmem
 refine ⟨i,by omega,by have:=h.len;omega,?_⟩
 unfold at1
 rw [List.getD_eq_getElem?_getD,Int.toNat_natCast,List.getElem?_eq_getElem hi]
 exact e
theorem Grp.ren {B T:List (List Int)}{n s:Nat}{nm:List Int}(G:Grp B n s)(hT:Tab T n)(hp:Prm nm n)(hI:∀ a b:Int,0≤a→a < n→0≤b→b < n→tg T (at1 nm a) (at1 nm b)=at1 nm (tg B a b)):∃ s':Nat,(s':Int)=at1 nm s∧Grp T n s':=by
 have hs:=G.lt
 obtain ⟨z0,z1⟩:=hp.at (k:=s) (by omega) (by omega)
 obtain ⟨s',hs',es⟩:=Zah z0 z1
 have bd:=fun {a b:Int} a0 a1 b0 b1=>G.tab.bound (a:=a) (b:=b) a0 a1 b0 b1
 refine ⟨s',es.symm,hT,hs',?_,?_,?_,?_⟩
 ·intro a b c a0 a1 b0 b1 c0 c1
  obtain ⟨a',a2,a3,rfl⟩:=hp.onto a0 a1
  obtain ⟨b',b2,b3,rfl⟩:=hp.onto b0 b1
  obtain ⟨c',c2,c3,rfl⟩:=hp.onto c0 c1
  obtain ⟨p0,p1⟩:=bd a2 a3 b2 b3
  obtain ⟨q0,q1⟩:=bd b2 b3 c2 c3
  rw [hI _ _ a2 a3 b2 b3,hI _ _ p0 p1 c2 c3,hI _ _ b2 b3 c2 c3,hI _ _ a2 a3 q0 q1,G.asc _ _ _ a2 a3 b2 b3 c2 c3]
 ·intro a a0 a1
  obtain ⟨a',a2,a3,rfl⟩:=hp.onto a0 a1
  rw [← es,hI _ _ (by omega) (by omega) a2 a3,G.idl _ a2 a3]
 ·intro a a0 a1
  obtain ⟨a',a2,a3,rfl⟩:=hp.onto a0 a1
  rw [← es,hI _ _ a2 a3 (by omega) (by omega),G.idr _ a2 a3]
 ·intro a a0 a1
  obtain ⟨a',a2,a3,rfl⟩:=hp.onto a0 a1
  obtain ⟨b,b0,b1,h1,h2⟩:=G.inv a' a2 a3
  obtain ⟨y0,y1⟩:=hp.at b0 b1
  refine ⟨at1 nm b,y0,y1,?_,?_⟩
  ·rw [hI _ _ a2 a3 b0 b1,h1,es]
  ·rw [hI _ _ b0 b1 a2 a3,h2,es]
theorem Zgo (ns:List Int)(f:Nat):∃ (n s:Nat) (T:List (List Int)),ZW [rowD ns,.int f]=some (tabD T)∧Grp T n s:=by
 obtain ⟨k,n,T,nm,hk,e,tb,hT,hp,hI⟩:=Zfb ns f
 have G:=ZgR hk
 rw [tb.len] at G
 obtain ⟨s',_,G'⟩:=G.ren hT hp hI
 exact ⟨n,s',T,e,G'⟩
theorem Zax {α β:Type}{q:α→Option β}{ds:List α}(h:∀ d ∈ ds,q d=none):ds.findSome? q=none:=List.findSome?_eq_none_iff.mpr h
theorem Zfr {n:Nat}{p:Nat→Bool}{k:Nat}(hk:k < n)(hp:p k=true)(hu:∀ j,j < k→p j=false){q:D→Option D}(hq:∀ j:Nat,q (.int j)=if p j then some (.int j) else none):(Yh 0 n).findSome? q=some (.int k):=by
 cases e:(Yh 0 n).findSome? q with
 | none =>
  have:=List.findSome?_eq_none_iff.mp e (.int k) (List.mem_of_getElem? (by rw [JM hk];simp))
  rw [hq,if_pos hp] at this
  cases this
 | some r =>
  obtain ⟨l1,d,l2,h1,h2,h3⟩:=List.findSome?_eq_some_iff.mp e
  have hd:d ∈ Yh 0 n:=by rw [h1];simp
  obtain ⟨j,hj,rfl⟩:=Ym hd
  rw [hq] at h2
  split at h2
  ·rename_i hpj
   cases h2
   rcases Nat.lt_trichotomy j k with hlt | rfl | hgt
   ·rw [hu j hlt] at hpj;cases hpj
   ·rfl
   ·exfalso
    have hl:l1.length=j:=by
     have hg:(Yh 0 n)[l1.length]?=some (.int j):=by rw [h1];simp
     have hlt:l1.length < n:=by
      have:=congrArg List.length h1
      rw [Jm] at this
      simp at this
      omega
     rw [JM hlt] at hg
     injection hg with hg
     injection hg with hg
     omega
    have hm:(D.int k) ∈ l1:=by
     have hg:(Yh 0 n)[k]?=some (.int k):=by rw [JM hk];simp
     rw [h1,List.getElem?_append_left (by omega)] at hg
     exact List.mem_of_getElem? hg
    have:=h3 _ hm
    rw [hq,if_pos hp] at this
    cases this
  ·cases h2
end PV
set_option linter.all false
set_option Elab.async false
set_option maxHeartbeats 2000000
namespace PV
open PySem (Str)
noncomputable def pw (T:List (List Int)) (s e:Int):Nat→Int
 | 0=>s
 | k + 1=>tg T (pw T s e k) e
noncomputable def El (n:Nat) (a:Int):Prop:=0≤a∧a < n
theorem El.nat {n:Nat}{a:Int}(h:El n a):∃ k:Nat,k < n∧a=k:=Zah h.1 h.2
theorem El.of {n k:Nat}(h:k < n):El n (k:Int):=⟨by omega,by omega⟩
theorem Grp.bd {T:List (List Int)}{n s:Nat}(G:Grp T n s){a b:Int}(ha:El n a)(hb:El n b):El n (tg T a b):=G.tab.bound ha.1 ha.2 hb.1 hb.2
theorem Grp.as {T:List (List Int)}{n s:Nat}(G:Grp T n s){a b c:Int}(ha:El n a)(hb:El n b)(hc:El n c):tg T (tg T a b) c=tg T a (tg T b c):=G.asc a b c ha.1 ha.2 hb.1 hb.2 hc.1 hc.2
theorem Grp.l {T:List (List Int)}{n s:Nat}(G:Grp T n s){a:Int}(ha:El n a):tg T s a=a:=G.idl a ha.1 ha.2
theorem Grp.r {T:List (List Int)}{n s:Nat}(G:Grp T n s){a:Int}(ha:El n a):tg T a s=a:=G.idr a ha.1 ha.2
theorem Grp.i {T:List (List Int)}{n s:Nat}(G:Grp T n s){a:Int}(ha:El n a):∃ b,El n b∧tg T a b=s∧tg T b a=s:=by
 obtain ⟨b,b0,b1,h1,h2⟩:=G.inv a ha.1 ha.2;exact ⟨b,⟨b0,b1⟩,h1,h2⟩
theorem Grp.s {T:List (List Int)}{n s:Nat}(G:Grp T n s):El n (s:Int):=El.of G.lt
theorem Grp.cl {T:List (List Int)}{n s:Nat}(G:Grp T n s){a x y:Int}(ha:El n a)(hx:El n x)(hy:El n y)(h:tg T a x=tg T a y):x=y:=by
 obtain ⟨b,hb,h1,h2⟩:=G.i ha
 rw [← G.l hx,← G.l hy,← h2,G.as hb ha hx,G.as hb ha hy,h]
theorem Grp.pw {T:List (List Int)}{n s:Nat}(G:Grp T n s){e:Int}(he:El n e):∀ k,El n (pw T s e k)
 | 0=>G.s
 | k + 1=>G.bd (G.pw he k) he
theorem Grp.pw1 {T:List (List Int)}{n s:Nat}(G:Grp T n s){e:Int}(he:El n e):PV.pw T s e 1=e:=G.l he
theorem Grp.pwa {T:List (List Int)}{n s:Nat}(G:Grp T n s){e:Int}(he:El n e)(i:Nat):∀ k,tg T (PV.pw T s e i) (PV.pw T s e k)=PV.pw T s e (i + k)
 | 0=>G.r (G.pw he i)
 | k + 1=>by
  show tg T (PV.pw T s e i) (tg T (PV.pw T s e k) e)=tg T (PV.pw T s e (i + k)) e
  rw [← G.as (G.pw he i) (G.pw he k) he,G.pwa he i k]
structure Od (T:List (List Int))(s e:Int)(m:Nat):Prop where
 pos:1≤m
 is:pw T s e m=s
 low:∀ j,1≤j→j < m→pw T s e j≠s
theorem Grp.hole {T:List (List Int)}{n s:Nat}(G:Grp T n s){e:Int}(he:El n e):∃ i j,i < j∧j≤n∧PV.pw T s e i=PV.pw T s e j:=by
 apply Classical.byContradiction
 intro hno
 have hnd:((List.range (n + 1)).map (PV.pw T s e)).Nodup:=by
  rw [List.Nodup,List.pairwise_map]
  refine List.Pairwise.imp_of_mem (R:=(· < ·)) (fun {a b} ha hb hab heq=>hno ⟨a,b,hab,?_,heq⟩) List.pairwise_lt_range
  have:=List.mem_range.mp hb
  omega
 have hsub:((List.range (n + 1)).map (PV.pw T s e)) ⊆ upto n:=fun y hy=>by
  obtain ⟨k,_,rfl⟩:=List.mem_map.mp hy
  exact JB.mpr (G.pw he k)
 have:=hnd.length_le_of_subset hsub
 rw [Zy] at this
 simp at this
 omega
theorem Zjz {T:List (List Int)}{s e:Int}:∀ m,1≤m→pw T s e m=s→∃ k,k≤m∧Od T s e k:=by
 intro m
 induction m using Nat.strongRecOn with
 | ind m ih =>
  intro h1 h2
  by_cases hx:∃ j,1≤j∧j < m∧pw T s e j=s
  ·obtain ⟨j,j1,j2,j3⟩:=hx
   obtain ⟨k,k1,k2⟩:=ih j j2 j1 j3
   exact ⟨k,by omega,k2⟩
  ·exact ⟨m,Nat.le_refl _,h1,h2,fun j j1 j2 j3=>hx ⟨j,j1,j2,j3⟩⟩
theorem Grp.od {T:List (List Int)}{n s:Nat}(G:Grp T n s){e:Int}(he:El n e):∃ m,m≤n∧Od T s e m:=by
 obtain ⟨i,j,hij,hj,h⟩:=G.hole he
 have h':=G.pwa he i (j - i)
 rw [show i + (j - i)=j by omega,← h] at h'
 have:=G.cl (G.pw he i) (G.pw he (j - i)) G.s (by rw [h',G.r (G.pw he i)])
 obtain ⟨k,k1,k2⟩:=Zjz (j - i) (by omega) this
 exact ⟨k,by omega,k2⟩
theorem Grp.pwm {T:List (List Int)}{n s:Nat}(G:Grp T n s){e:Int}(he:El n e){m:Nat}(h:Od T s e m):∀ q k,PV.pw T s e (k + m * q)=PV.pw T s e k
 | 0,k=>by simp
 | q + 1,k=>by
  rw [show k + m * (q + 1)=(k + m * q) + m by rw [Nat.mul_add];omega,← G.pwa he,h.is,G.r (G.pw he _),G.pwm he h q k]
theorem Grp.Znw {T:List (List Int)}{n s:Nat}(G:Grp T n s){e:Int}(he:El n e){m:Nat}(h:Od T s e m)(k:Nat):PV.pw T s e (k % m)=PV.pw T s e k:=by
 have:=G.pwm he h (k / m) (k % m)
 rw [Nat.mod_add_div] at this
 exact this.symm
noncomputable def pws (T:List (List Int)) (s e:Int) (m:Nat):List Int:=(List.range m).map (pw T s e)
theorem ZhM {T:List (List Int)}{s e:Int}{m:Nat}:(pws T s e m).length=m:=by simp [pws]
theorem Zko {T:List (List Int)}{s e:Int}{m:Nat}:pws T s e (m + 1)=pws T s e m++[pw T s e m]:=by simp [pws,List.range_succ]
end PV
set_option linter.all false
set_option Elab.async false
set_option maxHeartbeats 2000000
namespace PV
open PySem (Str)
theorem Grp.three {T:List (List Int)}{n s:Nat}(G:Grp T n s):Zam T n=none:=by
 refine Zax fun a ha=>Zax fun b hb=>Zax fun c hc=>?_
 obtain ⟨a,a1,rfl⟩:=Ym ha
 obtain ⟨b,b1,rfl⟩:=Ym hb
 obtain ⟨c,c1,rfl⟩:=Ym hc
 unfold Zbh;dsimp only
 rw [if_pos (by rw [G.asc a b c (by omega) (by omega) (by omega) (by omega) (by omega) (by omega)];simp)]
theorem ZeR {T:List (List Int)}{n:Nat}{e:Int}:Y8 T n e=true↔∀ a:Nat,a < n→tg T e a=a∧tg T a e=a:=by
 simp [Y8,List.all_eq_true]
theorem Grp.rest {T:List (List Int)}{n s:Nat}(G:Grp T n s):restOf T n=some (.int s):=by
 have hs:=G.lt
 refine Zfr (p:=fun j=>Y8 T n j) hs ?_ (fun j hj=>?_) fun j=>rfl
 ·exact ZeR.mpr fun a ha=>⟨G.idl a (by omega) (by omega),G.idr a (by omega) (by omega)⟩
 ·cases e:Y8 T n j with
  | false=>rfl
  | true =>
   have h1:=(ZeR.mp e s hs).1
   have h2:=G.idr j (by omega) (by omega)
   omega
theorem Grp.back {T:List (List Int)}{n s:Nat}(G:Grp T n s){a:Nat}(ha:a < n):∃ b:Nat,b < n∧Zau T n s a=some (.int b)∧tg T a b=s∧tg T b a=s:=by
 obtain ⟨b,b0,b1,h1,h2⟩:=G.inv a (by omega) (by omega)
 cases e:Zau T n s a with
 | none =>
  obtain ⟨b,b2,rfl⟩:=Zah b0 b1
  have:=List.findSome?_eq_none_iff.mp e (.int b) (List.mem_of_getElem? (by rw [JM b2];simp))
  simp [intOf,Zaq,h1,h2] at this
 | some r =>
  obtain ⟨c,c1,rfl,hc⟩:=Zdn e
  simp [Zaq] at hc
  exact ⟨c,c1,rfl,hc.1,hc.2⟩
theorem Grp.flaw {T:List (List Int)}{n s:Nat}(G:Grp T n s):Zap T n=.non:=by
 unfold Zap
 rw [G.three,G.rest]
 have:Zck T n (intOf (.int s))=none:=Zax fun d hd=>by
  obtain ⟨a,a1,rfl⟩:=Ym hd
  obtain ⟨b,_,e,_⟩:=G.back a1
  show (if (Zau T n s a).isSome=true then none else _)=none
  rw [e];rfl
 show (Zck T n (intOf (.int s))).getD .non=.non
 rw [this];rfl
theorem Zx {T:List (List Int)}{n s:Nat}(G:Grp T n s):Yt [tabD T]=some .non:=by
 have s1:sDo (Yc JH [(eVar 0)]) (enter 1 [tabD T])=some (.nx,enter 1 [tabD T]):=Zbr ((Jp rfl).trans (Zdj G.tab))
 have t1:tNoN (Yc JN [(eVar 0)]) (enter 1 [tabD T])=some false:=by rw [Zlv ((Jp rfl).trans (Zdd G.tab)),G.flaw];rfl
 exact ZeM rfl ((Jh s1).trans ((ZM t1).trans YB))
theorem Zfd {T:List (List Int)}{n s:Nat}(G:Grp T n s){a:Nat}(ha:a < n):Z8 [tabD T,.int a]=some .non:=by
 have t1:tNot (tB (Yc Yr [(eVar 0),(eVar 1)])) (enter 2 [tabD T,.int a])=some false:=by
  have h:=(Jx (φ:=Yr) (a:=eVar 0) (b:=eVar 1) (env:=enter 2 [tabD T,.int a]) rfl rfl).trans (ZcP G.tab a)
  have e:(decide (0≤(a:Int)) && decide ((a:Int) < n))=true:=by simp;omega
  rw [e] at h
  simp only [tNot,tB,h]
  rfl
 exact ZeM rfl ((ZM t1).trans YB)
theorem Zgz {T:List (List Int)}{n s:Nat}(G:Grp T n s){a:Int}(ha:El n a){m:Nat}(hm:m≤n)(hO:Od T s a m):Zas [tabD T,.int a]=some (rowD (pws T s a m)):=by
 have hn:=G.tab.top
 refine Zbq rfl ?_
 refine wp_seq (Zq (Zgc (Yg rfl ⟨_,(ZaR G.tab).trans (by rw [G.rest]),?_⟩)))
 refine wp_seq (ZgW (ZkQ (Yg rfl ⟨_,rfl,?_⟩)))
 refine wp_seq (Zq (Yg rfl ?_))
 refine wp_seq (ZcK (N:=m) (fun k e=>k < m∧e=[.sh (tabD T),.sh (.int a),.sh (.int s),.ow ((pws T s a (k + 1)).map .int),.sh (.int (pw T s a (k + 1)))]) (by omega) ⟨hO.pos,?_⟩ fun k e ⟨hk,he⟩=>?_)
 ·have:pws T s a 1=[(s:Int)]:=rfl
  rw [this,G.pw1 ha];rfl
 ·subst he
  refine Zbs (Zd rfl (Zd rfl ⟨fun h=>?_,fun h=>?_⟩))
  ·have h:pw T s a (k + 1)≠s:=by simpa using h
   have hk1:k + 1 < m:=by
    rcases Nat.lt_or_ge (k + 1) m with h1 | h1
    ·exact h1
    ·exact absurd (by rw [show k + 1=m by omega];exact hO.is) h
   refine ⟨by omega,wp_seq (Zg3 rfl (Yg rfl ⟨?_,?_⟩))⟩
   ·rw [List.length_map,ZhM,ZD];omega
   ·refine Zq (evI.ev (Zbj G.tab rfl (Zd rfl (Zd rfl ⟨G.pw ha (k + 1),ha,?_⟩))))
    refine ⟨hk1,?_⟩
    rw [Zko (m:=k + 1),List.map_append]
    rfl
  ·have h:pw T s a (k + 1)=s:=by simpa using h
   have hk1:k + 1=m:=by
    rcases Nat.lt_or_ge (k + 1) m with h1 | h1
    ·exact absurd h (hO.low _ (by omega) h1)
    ·omega
   subst hk1
   exact wp_seq (ZgI rfl (Yz (Yg rfl rfl)))
theorem order_eq {T:List (List Int)}{n s:Nat}(G:Grp T n s){a:Nat}(ha:a < n){m:Nat}(hm:m≤n)(hO:Od T s a m):Za8 [tabD T,.int a]=some (.int m):=by
 refine Zbq rfl (wp_seq (Zdz (Zgc (Yg rfl ⟨_,Zx G,?_⟩))))
 refine wp_seq (Zdz (Zkb (Yg rfl (Yg rfl ⟨_,Zfd G ha,?_⟩))))
 refine Yz (evI.ev (ZjU (Zi1 ((Jx rfl rfl).trans (Zgz G (El.of ha) hm hO)) ?_)))
 show D.int (pws T s a m).length=_
 rw [ZhM]
end PV
set_option linter.all false
set_option Elab.async false
set_option maxHeartbeats 2000000
namespace PV
open PySem (Str)
structure Rs (n:Nat)(r:List Int):Prop where
 el:∀ x ∈ r,El n x
 up:r.Pairwise (· < ·)
theorem ZmO {n:Nat}{r:List Int}(hn:r.Nodup)(h:∀ x ∈ r,El n x):r.length≤n:=by
 have:=hn.length_le_of_subset (l₂:=upto n) fun x hx=>JB.mpr (h x hx)
 rwa [Zy] at this
noncomputable def Cls (T:List (List Int)) (r:List Int):Prop:=∀ a ∈ r,∀ b ∈ r,tg T a b ∈ r
noncomputable def Gen (T:List (List Int)) (s:Int) (S:List Int) (x:Int):Prop:=∀ C:Int→Prop,(∀ y ∈ S,C y)→C s→(∀ a b,C a→C b→C (tg T a b))→C x
end PV
set_option linter.all false
set_option Elab.async false
set_option maxHeartbeats 2000000
namespace PV
open PySem (Str)
noncomputable def kdB (T:List (List Int)) (n:Nat) (x y:Int):Bool:=(upto n).any fun a=>decide (tg T a x=tg T y a)
noncomputable def ZkA (T:List (List Int)) (n:Nat) (x:Int):List Int:=(upto n).filter fun y=>kdB T n x y
noncomputable def ldB (T:List (List Int)) (n:Nat) (x:Int):Bool:=decide ((ZkA T n x).getD 0 0=x)
noncomputable def ZnA (T:List (List Int)) (n m:Nat):List (List Int):=((upto m).filter fun x=>ldB T n x).map (ZkA T n)
theorem ZfW {R:List (List Int)}(hl:R.length≤1000)(hr:∀ r ∈ R,r.length≤1000):Zar [tabD R]=some (.bl true):=by
 refine Zbq rfl (wp_seq (Zaz (ZeH (tv_B (Yg rfl ⟨_,rfl,rfl⟩))) ?_))
 refine wp_seq (Zi6 (r:=R) (fun _ e=>∃ x y,e=[.sh (tabD R),x,y]) (Zng rfl) ⟨_,_,rfl⟩ (fun k e r hk he=>?_) (fun e he=>?_))
 ·obtain ⟨_,_,rfl⟩:=he
  have hrl:=hr r (List.mem_of_getElem? hk)
  refine Zaz (Zf0 (ZeH (tv_B (Yg rfl ⟨_,rfl,fun h=>(by cases h),fun _=>ZeH (tv_B (Zli (r:=r) (fun _=>true) (Znq rfl) (by rw [ZD];omega) (fun x hx=>Yg ((Jp rfl).trans (ZfX x)) rfl) ?_))⟩)))) ⟨_,_,rfl⟩
  rw [List.all_eq_true.mpr (fun _ _=>rfl)];simp
 ·obtain ⟨_,_,rfl⟩:=he
  exact Yz (Yg rfl rfl)
end PV
set_option linter.all false
set_option Elab.async false
set_option maxHeartbeats 2000000
namespace PV
open PySem (Str)
theorem Y6 {kvs:List (Int × Int)}(nd:(kvs.map (·.1)).Nodup){k v:Int}:dget kvs k=some v↔(k,v) ∈ kvs:=by
 induction kvs with
 | nil=>simp [dget]
 | cons p kvs ih =>
  simp only [List.map_cons,List.nodup_cons] at nd
  unfold dget
  rw [List.find?_cons]
  by_cases h:p.1=k
  ·rw [decide_eq_true h]
   simp only [Option.map_some,Option.some.injEq,List.mem_cons]
   constructor
   ·rintro rfl;exact .inl (by rw [← h])
   ·rintro (h' | h')
    ·rw [← h']
    ·exact absurd (List.mem_map.mpr ⟨_,h',h.symm⟩) nd.1
  ·rw [decide_eq_false h]
   rw [List.mem_cons]
   refine (ih nd.2).trans ⟨.inr,fun h'=>h'.resolve_left fun e=>h (by rw [← e])⟩
theorem Zfl {kvs:List (Int × Int)}{k:Int}:dget kvs k=none↔k ∉ kvs.map (·.1):=by
 unfold dget
 rw [Option.map_eq_none_iff,List.find?_eq_none]
 constructor
 ·intro h hm
  obtain ⟨p,hp,e⟩:=List.mem_map.mp hm
  exact h p hp (decide_eq_true e)
 ·intro h p hp e
  exact h (List.mem_map.mpr ⟨p,hp,of_decide_eq_true e⟩)
theorem Zgh {kvs:List (Int × Int)}{k v:Int}(h:dget kvs k=none):dput kvs k v=kvs++[(k,v)]:=by
 unfold dput
 rw [if_neg]
 intro e
 rw [List.any_eq_true] at e
 obtain ⟨p,hp,e⟩:=e
 exact Zfl.mp h (List.mem_map.mpr ⟨p,hp,of_decide_eq_true e⟩)
theorem Zkn {kvs:List (Int × Int)}(nd:(kvs.map (·.1)).Nodup){k v:Int}(h:dget kvs k=some v):dput kvs k v=kvs:=by
 have hm:=(Y6 nd).mp h
 unfold dput
 rw [if_pos (List.any_eq_true.mpr ⟨_,hm,by simp⟩)]
 conv=>rhs;rw [← List.map_id kvs]
 refine List.map_congr_left fun p hp=>?_
 by_cases e:p.1=k
 ·rw [if_pos e]
  have:dget kvs p.1=some p.2:=(Y6 nd).mpr hp
  rw [e,h] at this
  cases this
  rfl
 ·rw [if_neg e];rfl
structure Dk (n:Nat)(kvs:List (Int × Int)):Prop where
 nd:(kvs.map (·.1)).Nodup
 el:∀ p ∈ kvs,El n p.1∧El n p.2
theorem Dk.len {n:Nat}{kvs:List (Int × Int)}(h:Dk n kvs):kvs.length≤n:=by
 have:=ZmO (n:=n) h.nd fun x hx=>by
  obtain ⟨p,hp,rfl⟩:=List.mem_map.mp hx
  exact (h.el p hp).1
 rwa [List.length_map] at this
theorem Dk.snoc {n:Nat}{kvs:List (Int × Int)}(h:Dk n kvs){k v:Int}(hk:El n k)(hv:El n v)(hn:dget kvs k=none):Dk n (kvs++[(k,v)]):=by
 refine ⟨?_,fun p hp=>?_⟩
 ·rw [List.map_append,List.nodup_append]
  refine ⟨h.nd,by simp,fun a ha b hb=>?_⟩
  simp at hb;subst hb
  rintro rfl
  exact Zfl.mp hn ha
 ·rcases List.mem_append.mp hp with hp | hp
  ·exact h.el p hp
  ·simp at hp;subst hp;exact ⟨hk,hv⟩
structure Iso (A B:List (List Int))(n:Nat)(g:Int→Int):Prop where
 el:∀ a,El n a→El n (g a)
 inj:∀ a b,El n a→El n b→g a=g b→a=b
 mul:∀ a b,El n a→El n b→g (tg A a b)=tg B (g a) (g b)
noncomputable def Ag (g:Int→Int) (kvs:List (Int × Int)):Prop:=∀ p ∈ kvs,g p.1=p.2
theorem Ag.snoc {g:Int→Int}{kvs:List (Int × Int)}(h:Ag g kvs){k v:Int}(e:g k=v):Ag g (kvs++[(k,v)]):=fun p hp=>by
 rcases List.mem_append.mp hp with hp | hp
 ·exact h p hp
 ·simp at hp;subst hp;exact e
noncomputable def PreD (a b:List (Int × Int)):Prop:=∃ t,b=a++t
theorem PreD.mem {a b:List (Int × Int)}(h:PreD a b){p:Int × Int}(hp:p ∈ a):p ∈ b:=by obtain ⟨t,rfl⟩:=h;exact List.mem_append_left _ hp
theorem PreD.refl (a:List (Int × Int)):PreD a a:=⟨[],by simp⟩
theorem PreD.trans {a b c:List (Int × Int)}(h:PreD a b)(k:PreD b c):PreD a c:=by obtain ⟨t,rfl⟩:=h;obtain ⟨u,rfl⟩:=k;exact ⟨t++u,by simp⟩
theorem PreD.snoc (a:List (Int × Int))(p:Int × Int):PreD a (a++[p]):=⟨[p],rfl⟩
theorem PreD.le {a b:List (Int × Int)}(h:PreD a b):a.length≤b.length:=by obtain ⟨t,rfl⟩:=h;simp
noncomputable def Mk2 (A B:List (List Int)) (kvs w:List (Int × Int)):Prop:=∀ p ∈ kvs,∀ q ∈ kvs,(tg A p.1 q.1,tg B p.2 q.2) ∈ w
theorem ZhT {i:Nat}{e:Ex}{env:Env}{Q:Out→Env→Prop}{kvs:List (Int × Int)}(h:e env=some (.dct kvs))(k:Q .nx (env.set i (.dc kvs))):wp (ZdE i e) env Q:=⟨_,_,by simp only [ZdE,h],k⟩
theorem ZhD {i:Nat}{env:Env}{Q:Out→Env→Prop}{kvs:List (Int × Int)}(h:env[i]?=some (.dc kvs))(k:Q .nx (env.set i (.sh (.dct kvs)))):wp (sFrz i) env Q:=⟨_,_,by simp only [sFrz,h],k⟩
theorem Zfp {i:Nat}{a e:Ex}{env:Env}{Q:Out→Env→Prop}{kvs:List (Int × Int)}{x y:Int}(h:env[i]?=some (.dc kvs))(ha:a env=some (.int x))(he:e env=some (.int y))(hl:kvs.length≤1000)(k:Q .nx (env.set i (.dc (dput kvs x y)))):wp (Zb6 i a e) env Q :=
 ⟨_,_,by simp only [Zb6,h,ha,he];rw [if_pos (by rw [ZD];omega)],k⟩
theorem ZdC {a b:Ex}{env:Env}{kvs:List (Int × Int)}{k v:Int}(ha:a env=some (.dct kvs))(hb:b env=some (.int k))(h:dget kvs k=some v):Zbn a b env=some (.int v):=by
 simp only [Zbn,eF2,ha,hb,Zia,h]
theorem Zdx {a:Ex}{env:Env}{kvs:List (Int × Int)}(ha:a env=some (.dct kvs)):eF1 Zb7 a env=some (.int kvs.length):=by
 simp only [eF1,ha,Zb7]
theorem Zen {a:Ex}{env:Env}{kvs:List (Int × Int)}(ha:a env=some (.dct kvs)):ZbF a env=some ((kvs.map (·.1)).map .int):=by
 simp only [ZbF,ha,List.map_map];rfl
theorem Zd3 {r:List Int}:(seen r).length=r.length↔r.Nodup:=by
 constructor
 ·intro h
  have p:∀ (vs σ:List Int),(vs.foldl addv σ).length=σ.length + vs.length→vs.Nodup∧∀ x ∈ vs,x ∉ σ:=by
   intro vs
   induction vs with
   | nil=>intro σ _;exact ⟨by simp,by simp⟩
   | cons v vs ih =>
    intro σ hl
    have bound:∀ (vs σ:List Int),(vs.foldl addv σ).length≤σ.length + vs.length:=by
     intro vs
     induction vs with
     | nil=>intro σ;simp
     | cons v vs ih2 =>
      intro σ
      rw [List.foldl_cons,List.length_cons]
      have:=ih2 (addv σ v)
      have h2:(addv σ v).length≤σ.length + 1:=by unfold addv;split <;> simp
      omega
    rw [List.foldl_cons,List.length_cons] at hl
    by_cases hm:v ∈ σ
    ·have e:addv σ v=σ:=by unfold addv;rw [if_pos hm]
     rw [e] at hl
     have:=bound vs σ
     omega
    ·have e:addv σ v=σ++[v]:=by unfold addv;rw [if_neg hm]
     rw [e] at hl
     obtain ⟨h1,h2⟩:=ih (σ++[v]) (by rw [hl,List.length_append];simp;omega)
     refine ⟨List.nodup_cons.mpr ⟨fun hv=>h2 v hv (by simp),h1⟩,fun x hx=>?_⟩
     rcases List.mem_cons.mp hx with rfl | hx
     ·exact hm
     ·exact fun hs=>h2 x hx (List.mem_append_left _ hs)
  exact (p r [] (by simpa [seen] using h)).1
 ·intro h
  have h1:=Zeq r
  have h2:=h.length_le_of_subset (l₂:=seen r) fun x hx=>ZjP.mpr hx
  omega
theorem Zea {A B : List (List Int)}{n s s' : Nat}(GA : Grp A n s)(GB : Grp B n s'){kvs : List (Int × Int)}(hk : Dk n kvs) :
    ∃ d, JD [tabD A, tabD B, .dct kvs] = some d ∧ ((d = .non ∧ ∀ g, Iso A B n g → ¬ Ag g kvs) ∨
      ∃ w, d = .dct w ∧ PreD kvs w ∧ Dk n w ∧ Mk2 A B kvs w ∧ (w.map (·.2)).Nodup ∧ ∀ g, Iso A B n g → Ag g kvs → Ag g w) := by
  have hA := GA.tab
  have hB := GB.tab
  have hn := hA.top
  have hkl := hk.len
  have hlm := ZD
  have key : wp ZaE (enter 9 [tabD A, tabD B, .dct kvs]) (fun o _ => ∃ d, o = .rt d ∧ ((d = .non ∧ ∀ g, Iso A B n g → ¬ Ag g kvs) ∨
      ∃ w, d = .dct w ∧ PreD kvs w ∧ Dk n w ∧ Mk2 A B kvs w ∧ (w.map (·.2)).Nodup ∧ ∀ g, Iso A B n g → Ag g kvs → Ag g w)) := by
    refine wp_seq (ZhT (kvs := kvs) rfl ?_)
    refine wp_seq (ZfC (r := kvs.map (·.1)) (fun i e => ∃ w x y z u, PreD kvs w ∧ Dk n w ∧ (∀ p ∈ kvs.take i, ∀ q ∈ kvs, (tg A p.1 q.1, tg B p.2 q.2) ∈ w) ∧ (∀ g, Iso A B n g → Ag g kvs → Ag g w) ∧ e = [.sh (tabD A), .sh (tabD B), .sh (.dct kvs), .dc w, x, y, z, u, .un]) (Zen rfl) ⟨kvs, _, _, _, _, PreD.refl _, hk, by simp, fun g _ h => h, rfl⟩ (fun i e a ha he => ?_) (fun e he => ?_))
    · obtain ⟨w, _, _, _, _, hp, hw, hc, hg, rfl⟩ := he
      rw [List.getElem?_map, Option.map_eq_some_iff] at ha
      obtain ⟨pa, hpa, rfl⟩ := ha
      have hpm := List.mem_of_getElem? hpa
      obtain ⟨ea1, ea2⟩ := hk.el pa hpm
      have ga : dget kvs pa.1 = some pa.2 := (Y6 hk.nd).mpr hpm
      refine ZfC (r := kvs.map (·.1)) (fun j e => ∃ w y z u, PreD kvs w ∧ Dk n w ∧ (∀ p ∈ kvs.take i, ∀ q ∈ kvs, (tg A p.1 q.1, tg B p.2 q.2) ∈ w) ∧ (∀ q ∈ kvs.take j, (tg A pa.1 q.1, tg B pa.2 q.2) ∈ w) ∧ (∀ g, Iso A B n g → Ag g kvs → Ag g w) ∧ e = [.sh (tabD A), .sh (tabD B), .sh (.dct kvs), .dc w, .sh (.int pa.1), y, z, u, .un]) (Zen rfl) ⟨w, _, _, _, hp, hw, hc, by simp, hg, rfl⟩ (fun j e b hb he => ?_) (fun e he => ?_)
      · obtain ⟨w, _, _, _, hp, hw, hc, hc2, hg, rfl⟩ := he
        rw [List.getElem?_map, Option.map_eq_some_iff] at hb
        obtain ⟨pb, hpb, rfl⟩ := hb
        have hqm := List.mem_of_getElem? hpb
        obtain ⟨eb1, eb2⟩ := hk.el pb hqm
        have gb : dget kvs pb.1 = some pb.2 := (Y6 hk.nd).mpr hqm
        have hwl := hw.len
        have e1 : El n (tg A pa.1 pb.1) := GA.bd ea1 eb1
        have e2 : El n (tg B pa.2 pb.2) := GB.bd ea2 eb2
        refine wp_seq (Zq (evI.ev (Zbj hA rfl (Zd rfl (Zd rfl ⟨ea1, eb1, ?_⟩)))))
        refine wp_seq (Zq (evI.ev (Zbj hB rfl (Zd (ZdC rfl rfl ga) (Zd (ZdC rfl rfl gb) ⟨ea2, eb2, ?_⟩)))))
        have iso : ∀ g, Iso A B n g → Ag g kvs → g (tg A pa.1 pb.1) = tg B pa.2 pb.2 := fun g hG hA' => by rw [hG.mul _ _ ea1 eb1, hA' pa hpm, hA' pb hqm]
        obtain ⟨mm, emm⟩ : ∃ x, x = tg A pa.1 pb.1 := ⟨_, rfl⟩
        obtain ⟨nn, enn⟩ : ∃ x, x = tg B pa.2 pb.2 := ⟨_, rfl⟩
        rw [← emm] at e1 iso ⊢
        rw [← enn] at e2 iso ⊢
        have nx : ∀ w2, PreD w w2 → Dk n w2 → (mm, nn) ∈ w2 → (∀ g, Iso A B n g → Ag g kvs → Ag g w2) → ∀ z5 z6 z7, ∃ w y z u, PreD kvs w ∧ Dk n w ∧ (∀ p ∈ kvs.take i, ∀ q ∈ kvs, (tg A p.1 q.1, tg B p.2 q.2) ∈ w) ∧ (∀ q ∈ kvs.take (j + 1), (tg A pa.1 q.1, tg B pa.2 q.2) ∈ w) ∧ (∀ g, Iso A B n g → Ag g kvs → Ag g w) ∧ [Sl.sh (tabD A), .sh (tabD B), .sh (.dct kvs), .dc w2, .sh (.int pa.1), z5, z6, z7, .un] = [.sh (tabD A), .sh (tabD B), .sh (.dct kvs), .dc w, .sh (.int pa.1), y, z, u, .un] := fun w2 q1 q2 q3 q4 z5 z6 z7 =>
          ⟨w2, z5, z6, z7, hp.trans q1, q2, fun p hp' q hq => q1.mem (hc p hp' q hq), fun q hq => by
            rw [List.take_add_one, hpb, List.mem_append] at hq
            rcases hq with hq | hq
            · exact q1.mem (hc2 q hq)
            · simp at hq; subst hq; rw [← emm, ← enn]; exact q3, q4, rfl⟩
        have eg : ∀ z5, Zf8 3 (eVar 6) (eVar 7) [Sl.sh (tabD A), .sh (tabD B), .sh (.dct kvs), .dc w, .sh (.int pa.1), z5, .sh (.int mm), .sh (.int nn), .un] = some (.int ((dget w mm).getD nn)) := fun _ => rfl
        cases hq : dget w mm with
        | none =>
          rw [hq] at eg
          refine wp_seq (Zaz (Zbs (Zd (eg _) (Zd rfl (by simp)))) ?_)
          refine Zfp (kvs := w) rfl rfl rfl (by omega) ?_
          rw [Zgh hq]
          exact nx _ (PreD.snoc _ _) (hw.snoc e1 e2 hq) (by simp) (fun g h1 h2 => (hg g h1 h2).snoc (iso g h1 h2)) _ _ _
        | some v =>
          rw [hq] at eg
          refine wp_seq (ZbC (Zbs (Zd (eg _) (Zd rfl ⟨fun h => ?_, fun h => ?_⟩))))
          · have h : v ≠ nn := by simpa using h
            refine Yz (Yg rfl ⟨_, rfl, .inl ⟨rfl, fun g h1 h2 => h ?_⟩⟩)
            have := hg g h1 h2 _ ((Y6 hw.nd).mp hq)
            exact (show g mm = v from this).symm.trans (iso g h1 h2)
          · have h : v = nn := by simpa using h
            subst h
            refine Zcr (Zfp (kvs := w) rfl rfl rfl (by omega) ?_)
            rw [Zkn hw.nd hq]
            exact nx w (PreD.refl _) hw ((Y6 hw.nd).mp hq) hg _ _ _
      · obtain ⟨w, _, _, _, hp, hw, hc, hc2, hg, rfl⟩ := he
        rw [List.length_map, List.take_length] at hc2
        refine ⟨w, _, _, _, _, hp, hw, fun p hp' => ?_, hg, rfl⟩
        rw [List.take_add_one, hpa, List.mem_append] at hp'
        rcases hp' with hp' | hp'
        · exact hc p hp'
        · simp at hp'; subst hp'; exact hc2
    · obtain ⟨w, z4, z5, z6, z7, hp, hw, hc, hg, rfl⟩ := he
      rw [List.length_map, List.take_length] at hc
      have hwl := hw.len
      refine wp_seq (ZhD (kvs := w) rfl ?_)
      have ec : evR (Yk 8 (ZbF (eVar 3)) Js (Zbn (eVar 3) (eVar 8))) [.sh (tabD A), .sh (tabD B), .sh (.dct kvs), .sh (.dct w), z4, z5, z6, z7, .un] (· = w.map (·.2)) := by
        refine ZgU (r := w.map (·.1)) (fun k => (dget w k).getD 0) (Zen rfl) (by rw [List.length_map]; omega) (fun k hk' => ?_) ?_
        · obtain ⟨p, hp', rfl⟩ := List.mem_map.mp hk'
          have := (Y6 hw.nd).mpr hp'
          exact Zd (ZdC rfl rfl this) (by rw [this]; rfl)
        · rw [List.map_map]
          refine List.map_congr_left fun p hp' => ?_
          simp only [Function.comp]
          rw [(Y6 hw.nd).mpr hp']; rfl
      obtain ⟨r, hr1, hr2⟩ := ec
      have els : eF1 ZcB (Yk 8 (ZbF (eVar 3)) Js (Zbn (eVar 3) (eVar 8))) [.sh (tabD A), .sh (tabD B), .sh (.dct kvs), .sh (.dct w), z4, z5, z6, z7, .un] = some (.int (seen (w.map (·.2))).length) := by
        rw [hr2] at hr1
        simp only [eF1, hr1, rowD, ZcB, ints_map]
        rw [if_pos (by rw [List.length_map]; omega)]
      refine wp_seq (ZbC (Zno (Zd els (Zd (Zdx rfl) ⟨fun h => ?_, fun h => ?_⟩))))
      · have h : ((seen (w.map (·.2))).length : Int) < w.length := by simpa using h
        refine Yz (Yg rfl ⟨_, rfl, .inl ⟨rfl, fun g h1 h2 => ?_⟩⟩)
        have hw2 := hg g h1 h2
        have : (w.map (·.2)).Nodup := by
          have e : w.map (·.2) = (w.map (·.1)).map g := by
            rw [List.map_map]
            exact List.map_congr_left fun p hp' => (hw2 p hp').symm
          rw [e]
          unfold List.Nodup
          rw [List.pairwise_map]
          refine List.Pairwise.imp_of_mem (R := (· ≠ ·)) (fun {a b} ha hb hne he => hne ?_) hw.nd
          obtain ⟨p, hp', rfl⟩ := List.mem_map.mp ha
          obtain ⟨q, hq', rfl⟩ := List.mem_map.mp hb
          exact h1.inj _ _ (hw.el p hp').1 (hw.el q hq').1 he
        have := Zd3.mpr this
        rw [List.length_map] at this
        omega
      · have h : ¬ ((seen (w.map (·.2))).length : Int) < w.length := by simpa using h
        have hs := Zeq (w.map (·.2))
        rw [List.length_map] at hs
        refine Zcr (wp_seq (ZhC rfl (Yz (Yg rfl ⟨_, rfl, .inr ⟨w, rfl, hp, hw, hc, Zd3.mp (by rw [List.length_map]; omega), hg⟩⟩))))
  obtain ⟨o, e, h1, d, rfl, h2⟩ := key
  exact ⟨d, Yo rfl h1, h2⟩
end PV
set_option linter.all false
set_option Elab.async false
set_option maxHeartbeats 2000000
namespace PV
open PySem (Str)
structure Hm (A B:List (List Int))(n:Nat)(m:List (Int × Int)):Prop where
 dk:Dk n m
 cl:Mk2 A B m m
 vn:(m.map (·.2)).Nodup
theorem Zj2 {n:Nat}{kvs:List (Int × Int)}(hk:Dk n kvs)(hn:n≤12)(hl:kvs.length < n):∃ e:Nat,e < n∧ZC [.dct kvs]=some (.int e)∧dget kvs e=none:=by
 have ex:∃ e:Nat,e < n∧dget kvs e=none:=by
  apply Classical.byContradiction
  intro h
  have:∀ x ∈ upto n,x ∈ kvs.map (·.1):=fun x hx=>by
   obtain ⟨k,hk',rfl⟩:=(show El n x from JB.mp hx).nat
   apply Classical.byContradiction
   intro hx'
   exact h ⟨k,hk',Zfl.mpr hx'⟩
  have:=(ZhE n).length_le_of_subset this
  rw [Zy,List.length_map] at this
  omega
 obtain ⟨e0,he0,hd0⟩:=ex
 have key:wp Z7 (enter 2 [.dct kvs]) (fun o _=>∃ e:Nat,o=.rt (.int e)∧e < n∧dget kvs e=none):=by
  refine wp_seq (Zq (Yg rfl ?_))
  refine wp_seq (ZcK (N:=12) (fun k e=>k≤e0∧e=[.sh (.dct kvs),.sh (.int k)]) (by omega) ⟨Nat.zero_le _,rfl⟩ fun k e he=>?_)
  obtain ⟨hk0,rfl⟩:=he
  refine Zf2 (d:=(dget kvs k).isSome) rfl ⟨fun h=>⟨by omega,?_⟩,fun h=>?_⟩
  ·refine Zq (evI.ev (ZbO (Zd rfl (Zd rfl ⟨?_,rfl⟩))))
   rcases Nat.lt_or_ge k e0 with h1 | h1
   ·omega
   ·have:k=e0:=by omega
    subst this
    rw [hd0] at h;cases h
  ·refine Yz (Yg rfl ⟨k,rfl,by omega,?_⟩)
   cases hq:dget kvs k with
   | none=>rfl
   | some v=>rw [hq] at h;cases h
 obtain ⟨o,e,h1,k,rfl,h2,h3⟩:=key
 exact ⟨k,h2,Yo rfl h1,h3⟩
theorem Zgr {A B : List (List Int)}{n s s' : Nat}(GA : Grp A n s)(GB : Grp B n s'){kvs : List (Int × Int)}(hk : Dk n kvs){e x : Int}(he : El n e)(hx : El n x)(hd : dget kvs e = none) :
    ∃ d, Zaa [tabD A, tabD B, .dct kvs, .int e, .int x] = some d ∧ ((d = .non ∧ ∀ g, Iso A B n g → Ag g kvs → g e ≠ x) ∨
      ∃ m, d = .dct m ∧ Hm A B n m ∧ kvs.length < m.length ∧ ∀ g, Iso A B n g → Ag g kvs → g e = x → Ag g m) := by
  have hn := GA.tab.top
  have hkl := hk.len
  have key : wp Zce (enter 7 [tabD A, tabD B, .dct kvs, .int e, .int x]) (fun o _ => ∃ d, o = .rt d ∧ ((d = .non ∧ ∀ g, Iso A B n g → Ag g kvs → g e ≠ x) ∨
      ∃ m, d = .dct m ∧ Hm A B n m ∧ kvs.length < m.length ∧ ∀ g, Iso A B n g → Ag g kvs → g e = x → Ag g m)) := by
    refine wp_seq (ZhT (kvs := kvs) rfl ?_)
    refine wp_seq (Zfp (kvs := kvs) rfl rfl rfl (by omega) ?_)
    rw [Zgh hd]
    have h0 : Dk n (kvs ++ [(e, x)]) := hk.snoc he hx hd
    refine wp_seq (ZhD (kvs := kvs ++ [(e, x)]) rfl ?_)
    obtain ⟨d0, ed0, hd0⟩ := Zea GA GB h0
    refine wp_seq (Zq (Yg ((Zcl rfl rfl rfl).trans ed0) ?_))
    refine wp_seq (ZcK (N := 12) (fun k en => ∃ w d, Dk n w ∧ kvs.length < w.length ∧ k < w.length ∧ (∀ g, Iso A B n g → Ag g kvs → g e = x → Ag g w) ∧ ((d = .non ∧ ∀ g, Iso A B n g → ¬ Ag g w) ∨
      ∃ w', d = .dct w' ∧ PreD w w' ∧ Dk n w' ∧ Mk2 A B w w' ∧ (w'.map (·.2)).Nodup ∧ ∀ g, Iso A B n g → Ag g w → Ag g w') ∧ en = [.sh (tabD A), .sh (tabD B), .sh (.dct kvs), .sh (.int e), .sh (.int x), .sh (.dct w), .sh d]) (by omega)
      ⟨kvs ++ [(e, x)], d0, h0, by simp, by simp, fun g _ h1 h2 => h1.snoc h2, hd0, rfl⟩ fun k en hen => ?_)
    obtain ⟨w, d, hw, hwl, hkw, hg, hor, rfl⟩ := hen
    have hwn := hw.len
    rcases hor with ⟨rfl, hno⟩ | ⟨w', rfl, hp, hw', hm, hv, hgw⟩
    · refine Zgg (ZbZ (Yg rfl ⟨fun h => (by cases h), fun _ => ⟨fun h => (by cases h), fun _ => ?_⟩⟩))
      exact Yz (Yg rfl ⟨_, rfl, .inl ⟨rfl, fun g h1 h2 h3 => hno g h1 (hg g h1 h2 h3)⟩⟩)
    · refine Zgg (ZbZ (Yg rfl ⟨fun _ => ZcL (Zd (Zdx rfl) (Zd (Zdx rfl) ⟨fun h => ⟨by omega, ?_⟩, fun h => ?_⟩)), fun h => (by cases h)⟩))
      · have h : (w.length : Int) < w'.length := by simpa using h
        refine wp_seq (Zq (Yg rfl ?_))
        refine wp_seq (ZhC rfl ?_)
        obtain ⟨d1, ed1, hd1⟩ := Zea GA GB hw'
        refine Zq (Yg ((Zcl rfl rfl rfl).trans ed1) ?_)
        exact ⟨w', d1, hw', by omega, by omega, fun g h1 h2 h3 => hgw g h1 (hg g h1 h2 h3), hd1, rfl⟩
      · have h : ¬ ((w.length : Int) < w'.length) := by simpa using h
        have hle := hp.le
        have e2 : w' = w := by
          obtain ⟨t, rfl⟩ := hp
          have : t = [] := by
            rw [List.length_append] at h
            exact List.length_eq_zero_iff.mp (by omega)
          rw [this]; simp
        subst e2
        exact Yz (Yg rfl ⟨_, rfl, .inr ⟨w', rfl, ⟨hw', hm, hv⟩, by omega, hg⟩⟩)
  obtain ⟨o, en, h1, d, rfl, h2⟩ := key
  exact ⟨d, Yo rfl h1, h2⟩
structure IsoR (A B:List (List Int))(n:Nat)(r:List Int):Prop where
 len:r.length=n
 nd:r.Nodup
 el:∀ x ∈ r,El n x
 mul:∀ a b:Int,El n a→El n b→r.getD (tg A a b).toNat 0=tg B (r.getD a.toNat 0) (r.getD b.toNat 0)
theorem ZjY {A B:List (List Int)}{n s s':Nat}(GA:Grp A n s)(GB:Grp B n s'){m:List (Int × Int)}(h:Hm A B n m)(hl:m.length=n):(∀ x ∈ upto n,(dget m x).isSome=true)∧IsoR A B n ((upto n).map fun x=>(dget m x).getD 0):=by
 have all:∀ x,El n x→∃ v,(x,v) ∈ m:=fun x hx=>by
  have hs:∀ y ∈ m.map (·.1),y ∈ upto n:=fun y hy=>by
   obtain ⟨p,hp,rfl⟩:=List.mem_map.mp hy
   exact JB.mpr (h.dk.el p hp).1
  apply Classical.byContradiction
  intro hno
  have hx':x ∉ m.map (·.1):=fun hm=>by
   obtain ⟨p,hp,rfl⟩:=List.mem_map.mp hm
   exact hno ⟨p.2,hp⟩
  have:=(List.nodup_cons.mpr ⟨hx',h.dk.nd⟩).length_le_of_subset (l₂:=upto n) fun y hy=>by
   rcases List.mem_cons.mp hy with rfl | hy
   ·exact JB.mpr hx
   ·exact hs y hy
  rw [List.length_cons,List.length_map,Zy] at this
  omega
 have val:∀ x v,(x,v) ∈ m→dget m x=some v:=fun x v hm=>(Y6 h.dk.nd).mpr hm
 have at':∀ a:Int,El n a→((upto n).map fun x=>(dget m x).getD 0).getD a.toNat 0=(dget m a).getD 0:=fun a ha=>by
  obtain ⟨k,hk,rfl⟩:=ha.nat
  simp [List.getD,upto,hk]
 refine ⟨fun x hx=>?_,⟨by rw [List.length_map,Zy],?_,fun y hy=>?_,fun a b ha hb=>?_⟩⟩
 ·obtain ⟨v,hv⟩:=all x (JB.mp hx)
  rw [val x v hv];rfl
 ·unfold List.Nodup
  rw [List.pairwise_map]
  refine List.Pairwise.imp_of_mem (R:=(·≠·)) (fun {a b} ha hb hne he=>hne ?_) (ZhE n)
  obtain ⟨v,hv⟩:=all a (JB.mp ha)
  obtain ⟨u,hu⟩:=all b (JB.mp hb)
  rw [val a v hv,val b u hu] at he
  have he:v=u:=he
  subst he
  have vn:=h.vn
  have inj:∀ {l:List (Int × Int)},(l.map (·.2)).Nodup→∀ {p q:Int × Int},p ∈ l→q ∈ l→p.2=q.2→p=q:=by
   intro l
   induction l with
   | nil=>intro _ p q hp;cases hp
   | cons z l ih =>
    intro nd p q hp hq e
    simp only [List.map_cons,List.nodup_cons] at nd
    rcases List.mem_cons.mp hp with rfl | hp' <;> rcases List.mem_cons.mp hq with rfl | hq'
    ·rfl
    ·exact absurd (List.mem_map.mpr ⟨q,hq',e.symm⟩) nd.1
    ·exact absurd (List.mem_map.mpr ⟨p,hp',e⟩) nd.1
    ·exact ih nd.2 hp' hq' e
  have:=inj vn hv hu rfl
  exact congrArg Prod.fst this
 ·obtain ⟨x,hx,rfl⟩:=List.mem_map.mp hy
  obtain ⟨v,hv⟩:=all x (JB.mp hx)
  rw [val x v hv]
  exact (h.dk.el _ hv).2
 ·obtain ⟨v,hv⟩:=all a ha
  obtain ⟨u,hu⟩:=all b hb
  rw [at' _ (GA.bd ha hb),at' a ha,at' b hb,val a v hv,val b u hu,val _ _ (h.cl _ hv _ hu)]
  rfl
theorem ZhH {A B:List (List Int)}{n s s':Nat}(GA:Grp A n s)(GB:Grp B n s'):∀ (k:Nat) {m:List (Int × Int)},Hm A B n m→n - m.length < k →
  ∃ d,Yu k [tabD A,tabD B,.dct m]=some d∧((d=.non∧∀ g,Iso A B n g→¬ Ag g m)∨∃ r,d=rowD r∧IsoR A B n r)
 | 0,m,h,hk=>by omega
 | k + 1,m,h,hk=>by
  have hA:=GA.tab
  have hB:=GB.tab
  have hn:=hA.top
  have hml:=h.dk.len
  have key:wp (Za6 (Yu k)) (enter 7 [tabD A,tabD B,.dct m]) (fun o _=>∃ d,o=.rt d∧((d=.non∧∀ g,Iso A B n g→¬ Ag g m)∨∃ r,d=rowD r∧IsoR A B n r)):=by
   refine wp_seq (ZbC (Zma (Zd (Zdx rfl) (Zd (Yn hA rfl) ⟨fun he=>?_,fun he=>?_⟩))))
   ·have he:(m.length:Int)=n:=by simpa using he
    obtain ⟨f1,f2⟩:=ZjY GA GB h (by omega)
    refine Yz (evR.ev (ZiW (ZgU (r:=upto n) (fun x=>(dget m x).getD 0) (Zfy (Yn hA rfl) (by omega)) (by rw [Zy,ZD];omega) (fun x hx=>?_) ⟨_,rfl,.inr ⟨_,rfl,f2⟩⟩)))
    have:=f1 x hx
    cases hq:dget m x with
    | none=>rw [hq] at this;cases this
    | some v=>exact Zd (ZdC rfl rfl hq) rfl
   ·have he:¬ ((m.length:Int)=n):=by simpa using he
    refine Zcr ?_
    obtain ⟨e,hel,ee,hde⟩:=Zj2 h.dk hn (by omega)
    refine wp_seq (Zq (Yg ((Jp rfl).trans ee) ?_))
    refine wp_seq (Zds (n:=n) (fun j en=>∃ z4 z5 z6,(∀ i:Nat,i < j→∀ g,Iso A B n g→Ag g m→g e≠i)∧en=[.sh (tabD A),.sh (tabD B),.sh (.dct m),.sh (.int e),z4,z5,z6]) (JV (Yn hB rfl) (by omega)) ⟨_,_,_,fun i hi=>by omega,rfl⟩ (fun j en hj hen=>?_) (fun en hen=>?_))
    ·obtain ⟨_,_,_,hno,rfl⟩:=hen
     obtain ⟨d,ed,hd⟩:=Zgr GA GB h.dk (El.of hel) (El.of hj) hde
     have e5:∀ z4 z5,Yc Zaa [(eVar 0),(eVar 1),(eVar 2),(eVar 3),(eVar 4)] [Sl.sh (tabD A),.sh (tabD B),.sh (.dct m),.sh (.int e),.sh (.int j),z4,z5]=some d:=fun _ _=>ed
     refine wp_seq (Zq (Yg (e5 _ _) ?_))
     have step:(∀ g,Iso A B n g→Ag g m→g e≠(j:Int))→∀ i:Nat,i < j + 1→∀ g,Iso A B n g→Ag g m→g e≠i:=fun h1 i hi=>by
      rcases Nat.lt_or_ge i j with h2 | h2
      ·exact hno i h2
      ·have:i=j:=by omega
       subst this;exact h1
     rcases hd with ⟨rfl,hne⟩ | ⟨m',rfl,hm',hlt,hgm⟩
     ·exact Zaz (ZbZ (Yg rfl rfl)) ⟨_,_,_,step hne,rfl⟩
     ·obtain ⟨d2,ed2,hd2⟩:=ZhH GA GB k hm' (by omega)
      refine ZbC (ZbZ (Yg rfl ⟨fun _=>?_,fun h=>(by cases h)⟩))
      refine wp_seq (Zlh (Yg ((Zcl rfl rfl rfl).trans ed2) ?_))
      rcases hd2 with ⟨rfl,hno2⟩ | ⟨r,rfl,hr⟩
      ·exact Zaz (ZbZ (Yg rfl rfl)) ⟨_,_,_,step fun g h1 h2 h3=>hno2 g h1 (hgm g h1 h2 h3),rfl⟩
      ·exact ZbC (ZbZ (Yg rfl ⟨fun _=>Yz (Yg rfl ⟨_,rfl,.inr ⟨r,rfl,hr⟩⟩),fun h=>(by cases h)⟩))
    ·obtain ⟨_,_,_,hno,rfl⟩:=hen
     refine Yz (Yg rfl ⟨_,rfl,.inl ⟨rfl,fun g h1 h2=>?_⟩⟩)
     obtain ⟨i,hi,ei⟩:=(h1.el e (El.of hel)).nat
     exact hno i hi g h1 h2 ei
  obtain ⟨o,en,h1,d,rfl,h2⟩:=key
  exact ⟨d,Yo rfl h1,h2⟩
theorem Iso.rest {A B:List (List Int)}{n s s':Nat}(GA:Grp A n s)(GB:Grp B n s'){g:Int→Int}(h:Iso A B n g):g s=s':=by
 have h1:=h.mul s s GA.s GA.s
 rw [GA.l GA.s] at h1
 have hE:=h.el _ GA.s
 have h2:tg B (g s) (g s)=tg B (g s) s':=by rw [← h1,GB.r hE]
 exact GB.cl hE hE GB.s h2
theorem Zhh {A B:List (List Int)}{n n' s s':Nat}(GA:Grp A n s)(GB:Grp B n' s'):∃ d,ZaM [tabD A,tabD B]=some d∧((n≠n'∧d=.non)∨(n=n'∧((d=.non∧∀ g,¬ Iso A B n g)∨∃ r,d=rowD r∧IsoR A B n r))):=by
 have hA:=GA.tab
 have hB:=GB.tab
 by_cases hnn:n=n'
 ·subst hnn
  have hn:=hA.top
  have hm:Hm A B n [((s:Int),(s':Int))]:=by
   refine ⟨⟨by simp,fun p hp=>?_⟩,fun p hp q hq=>?_,by simp⟩
   ·simp at hp;subst hp;exact ⟨GA.s,GB.s⟩
   ·simp at hp hq;subst hp;subst hq
    simp only
    rw [GA.l GA.s,GB.l GB.s];simp
  obtain ⟨d,ed,hd⟩:=ZhH GA GB 13 hm (by simp;omega)
  refine ⟨d,?_,.inr ⟨rfl,?_⟩⟩
  ·refine Zbq rfl (wp_seq (Zdz (Yg ((Jp rfl).trans (Zx GA)) ?_)))
   refine wp_seq (Zdz (Yg ((Jp rfl).trans (Zx GB)) ?_))
   refine wp_seq (Zaz (Zbs (Zd (Yn hA rfl) (Zd (Yn hB rfl) (by simp)))) ?_)
   have r1:Yc Zn [(eVar 0)] [.sh (tabD A),.sh (tabD B)]=some (.int s):=(Jp rfl).trans ((ZaR hA).trans (by rw [GA.rest];rfl))
   have r2:Yc Zn [(eVar 1)] [.sh (tabD A),.sh (tabD B)]=some (.int s'):=(Jp rfl).trans ((ZaR hB).trans (by rw [GB.rest];rfl))
   have r3:ZdH (Yc Zn [(eVar 0)]) (Yc Zn [(eVar 1)]) [.sh (tabD A),.sh (tabD B)]=some (.dct [((s:Int),(s':Int))]):=by simp only [ZdH,r1,r2]
   exact Yz (Yg ((Zcl rfl rfl r3).trans ed) rfl)
  ·rcases hd with ⟨rfl,hno⟩ | hr
   ·refine .inl ⟨rfl,fun g hg=>hno g hg fun p hp=>?_⟩
    simp at hp;subst hp
    exact hg.rest GA GB
   ·exact .inr hr
 ·refine ⟨.non,?_,.inl ⟨hnn,rfl⟩⟩
  refine Zbq rfl (wp_seq (Zdz (Yg ((Jp rfl).trans (Zx GA)) ?_)))
  refine wp_seq (Zdz (Yg ((Jp rfl).trans (Zx GB)) ?_))
  exact wp_seq (ZbC (Zbs (Zd (Yn hA rfl) (Zd (Yn hB rfl) ⟨fun _=>Yz (Yg rfl rfl),fun h=>absurd h (by simp;omega)⟩))))
end PV
set_option linter.all false
set_option Elab.async false
set_option maxHeartbeats 2000000
namespace PV
open PySem (Str)
theorem Za7 {a b:Sx}{env e1:Env}(h:a env=some (.ok .nx,e1)):xSeq a b env=b e1:=by unfold xSeq;rw [h]
theorem Zk6 {a b:Sx}{env e1:Env}{c:Nat}(h:a env=some (.ex c,e1)):xSeq a b env=some (.ex c,e1):=by unfold xSeq;rw [h]
theorem Zbu {g:St}{env e1:Env}{o:Out}(h:g env=some (o,e1)):xOf g env=some (.ok o,e1):=by unfold xOf;rw [h]
theorem Zl4 {t:Tx}{a b:Sx}{env:Env}(h:t env=some true):xIf t a b env=a env:=by unfold xIf;rw [h]
theorem ZmY {t:Tx}{a b:Sx}{env:Env}(h:t env=some false):xIf t a b env=b env:=by unfold xIf;rw [h]
theorem ZlM {p n:Nat}{g:Sx}{ds:List D}{c:Nat}{e1:Env}(hp:ds.length=p)(h:g (enter n ds)=some (.ex c,e1)):runX p n g ds=some (.inr c):=by unfold runX;rw [if_pos hp,h]
theorem Zls {p n:Nat}{g:Sx}{ds:List D}{d:D}{e1:Env}(hp:ds.length=p)(h:g (enter n ds)=some (.ok (.rt d),e1)):runX p n g ds=some (.inl d):=by unfold runX;rw [if_pos hp,h]
end PV
set_option linter.all false
set_option Elab.async false
set_option maxHeartbeats 2000000
namespace PV
open PySem (Str)
theorem Zac {n:Nat}{i j:Int}(h:El n i):(i + j * n) % (n:Int)=i:=by
 rw [Int.add_mul_emod_self_right,Int.emod_eq_of_lt h.1 h.2]
theorem Zae {n:Nat}{i j:Int}(h:El n i):(i + j * n) / (n:Int)=j:=by
 have h1:=h.1
 have h2:=h.2
 rw [Int.add_mul_ediv_right _ _ (by omega),Int.ediv_eq_zero_of_lt h1 h2,Int.zero_add]
theorem ZcH {n m:Nat}{i j:Int}(hi:El n i)(hj:El m j):El (n * m) (i + j * n):=by
 obtain ⟨a,ha,rfl⟩:=hi.nat
 obtain ⟨b,hb,rfl⟩:=hj.nat
 have:a + b * n < n * m:=by
  have:(b + 1) * n≤m * n:=Nat.mul_le_mul_right n hb
  rw [Nat.add_mul,Nat.one_mul,Nat.mul_comm m n] at this
  omega
 have e:(a:Int) + b * n=((a + b * n:Nat):Int):=by push_cast;rfl
 rw [e]
 exact El.of this
theorem sp_m {n m:Nat}{x:Int}(h:El (n * m) x):El n (x % n):=by
 have hn:0 < n:=by
  rcases Nat.eq_zero_or_pos n with h0 | h0
  ·subst h0;have:=h.1;have:=h.2;simp at *;omega
  ·exact h0
 exact ⟨Int.emod_nonneg _ (by omega),Int.emod_lt_of_pos _ (by omega)⟩
theorem sp_d {n m:Nat}{x:Int}(h:El (n * m) x):El m (x / n):=by
 obtain ⟨a,ha,rfl⟩:=h.nat
 have e:(a:Int) / n=((a / n:Nat):Int):=by simp
 rw [e]
 exact El.of (Nat.div_lt_of_lt_mul ha)
theorem Znk {n:Nat}(x:Int):x % n + x / n * n=x:=by rw [Int.mul_comm];exact Int.emod_add_mul_ediv x n
noncomputable def bes (A B:List (List Int)) (n m:Nat):List (List Int):=(upto (n * m)).map fun a=>(upto (n * m)).map fun b=>tg A (a % n) (b % n) + tg B (a / n) (b / n) * n
theorem Zel {n k:Nat}(h:k < n):(upto n)[k]?=some (k:Int):=by simp [upto,h]
theorem Zmy {A B:List (List Int)}{n m:Nat}{a b:Int}(ha:El (n * m) a)(hb:El (n * m) b):tg (bes A B n m) a b=tg A (a % n) (b % n) + tg B (a / n) (b / n) * n:=by
 obtain ⟨i,hi,rfl⟩:=ha.nat
 obtain ⟨j,hj,rfl⟩:=hb.nat
 unfold tg bes
 simp only [List.getD_eq_getElem?_getD,List.getElem?_map,Int.toNat_natCast,Zel hi,Zel hj,Option.map_some,Option.getD_some]
 simp only [tg,List.getD_eq_getElem?_getD]
theorem ZaZ {A B:List (List Int)}{n m:Nat}{a b c d:Int}(ha:El n a)(hb:El m b)(hc:El n c)(hd:El m d):tg (bes A B n m) (a + b * n) (c + d * n)=tg A a c + tg B b d * n:=by
 rw [Zmy (ZcH ha hb) (ZcH hc hd),Zac ha,Zac hc,Zae ha,Zae hc]
theorem El.pr {n m:Nat}{x:Int}(h:El (n * m) x):∃ a b,El n a∧El m b∧x=a + b * n:=⟨_,_,sp_m h,sp_d h,(Znk x).symm⟩
theorem ZhI {A B:List (List Int)}{n m s s':Nat}(GA:Grp A n s)(GB:Grp B m s')(hnm:n * m≤12):Grp (bes A B n m) (n * m) (s + s' * n):=by
 have ap:=GA.tab.pos
 have bp:=GB.tab.pos
 have e:((s + s' * n:Nat):Int)=(s:Int) + s' * n:=by push_cast;rfl
 refine ⟨⟨by simp [bes,Zy],fun r hr=>?_,fun r hr x hx=>?_,Nat.mul_pos ap bp,hnm⟩,?_,fun a b c a0 a1 b0 b1 c0 c1=>?_,fun a a0 a1=>?_,fun a a0 a1=>?_,fun a a0 a1=>?_⟩
 ·obtain ⟨a,_,rfl⟩:=List.mem_map.mp hr
  simp [Zy]
 ·obtain ⟨a,ha,rfl⟩:=List.mem_map.mp hr
  obtain ⟨b,hb,rfl⟩:=List.mem_map.mp hx
  exact ZcH (GA.bd (sp_m (JB.mp ha)) (sp_m (JB.mp hb))) (GB.bd (sp_d (JB.mp ha)) (sp_d (JB.mp hb)))
 ·have:=(ZcH GA.s GB.s).2
  rw [← e] at this
  omega
 ·obtain ⟨i,j,hi,hj,rfl⟩:=El.pr ⟨a0,a1⟩
  obtain ⟨k,l,hk,hl,rfl⟩:=El.pr ⟨b0,b1⟩
  obtain ⟨p,q,hp,hq,rfl⟩:=El.pr ⟨c0,c1⟩
  rw [ZaZ hi hj hk hl,ZaZ hk hl hp hq,ZaZ (GA.bd hi hk) (GB.bd hj hl) hp hq,ZaZ hi hj (GA.bd hk hp) (GB.bd hl hq),GA.as hi hk hp,GB.as hj hl hq]
 ·obtain ⟨i,j,hi,hj,rfl⟩:=El.pr ⟨a0,a1⟩
  rw [e,ZaZ GA.s GB.s hi hj,GA.l hi,GB.l hj]
 ·obtain ⟨i,j,hi,hj,rfl⟩:=El.pr ⟨a0,a1⟩
  rw [e,ZaZ hi hj GA.s GB.s,GA.r hi,GB.r hj]
 ·obtain ⟨i,j,hi,hj,rfl⟩:=El.pr ⟨a0,a1⟩
  obtain ⟨k,hk,k1,k2⟩:=GA.i hi
  obtain ⟨l,hl,l1,l2⟩:=GB.i hj
  have:=ZcH hk hl
  exact ⟨k + l * n,this.1,this.2,by rw [ZaZ hi hj hk hl,k1,l1,e],by rw [ZaZ hk hl hi hj,k2,l2,e]⟩
theorem ZlC {A B:List (List Int)}{n m s s':Nat}(GA:Grp A n s)(GB:Grp B m s'):Iso (bes A B n m) (bes B A m n) (n * m) (fun x=>x / n + x % n * m):=by
 refine ⟨fun a ha=>?_,fun a b ha hb h=>?_,fun a b ha hb=>?_⟩
 ·have:=ZcH (sp_d ha) (sp_m ha)
  rwa [Nat.mul_comm m n] at this
 ·obtain ⟨i,j,hi,hj,rfl⟩:=ha.pr
  obtain ⟨k,l,hk,hl,rfl⟩:=hb.pr
  simp only [Zac hi,Zae hi,Zac hk,Zae hk] at h
  have h1:=congrArg (· % (m:Int)) h
  have h2:=congrArg (· / (m:Int)) h
  simp only [Zac hj,Zae hj,Zac hl,Zae hl] at h1 h2
  rw [h1,h2]
 ·obtain ⟨i,j,hi,hj,rfl⟩:=ha.pr
  obtain ⟨k,l,hk,hl,rfl⟩:=hb.pr
  rw [ZaZ hi hj hk hl,Zac (GA.bd hi hk),Zae (GA.bd hi hk),Zac hi,Zae hi,Zac hk,Zae hk,ZaZ hj hi hl hk]
theorem ZkF {A B:List (List Int)}{n m s s':Nat}(GA:Grp A n s)(GB:Grp B m s'){a b:Int}(ha:El n a)(hb:El m b):∀ k,pw (bes A B n m) ((s + s' * n:Nat):Int) (a + b * n) k=pw A s a k + pw B s' b k * n
 | 0=>by simp only [pw];push_cast;rfl
 | k + 1=>by
  simp only [pw]
  rw [ZkF GA GB ha hb k,ZaZ (GA.pw ha k) (GB.pw hb k) ha hb]
theorem ZkD {T:List (List Int)}{n s:Nat}(G:Grp T n s){e:Int}(he:El n e){p:Nat}(h:Od T s e p)(k:Nat):pw T s e k=s↔k % p=0:=by
 have:=G.Znw he h k
 rw [← this]
 have hp:=h.pos
 have hlt:=Nat.mod_lt k (show 0 < p by omega)
 constructor
 ·intro e1
  rcases Nat.eq_zero_or_pos (k % p) with h1 | h1
  ·exact h1
  ·exact absurd e1 (h.low _ h1 hlt)
 ·intro e1;rw [e1];rfl
theorem ZlT {n:Nat}{a b c d:Int}(ha:El n a)(hc:El n c)(h:a + b * n=c + d * n):a=c∧b=d:=by
 have h1:=congrArg (· % (n:Int)) h
 have h2:=congrArg (· / (n:Int)) h
 simp only [Zac ha,Zae ha,Zac hc,Zae hc] at h1 h2
 exact ⟨h1,h2⟩
theorem Zna {A B:List (List Int)}{n m s s':Nat}(GA:Grp A n s)(GB:Grp B m s'){a b:Int}(ha:El n a)(hb:El m b){p q:Nat}(hp:Od A s a p)(hq:Od B s' b q)(k:Nat) :
  pw (bes A B n m) ((s + s' * n:Nat):Int) (a + b * n) k=((s + s' * n:Nat):Int)↔k % p=0∧k % q=0:=by
 rw [ZkF GA GB ha hb,← ZkD GA ha hp,← ZkD GB hb hq]
 constructor
 ·intro h
  exact ZlT (GA.pw ha k) GA.s (by rw [h];push_cast;rfl)
 ·rintro ⟨h1,h2⟩
  rw [h1,h2];push_cast;rfl
theorem ZkT {A B:List (List Int)}{n m s s':Nat}(GA:Grp A n s)(GB:Grp B m s')(hnm:n * m≤12){a b:Int}(ha:El (n * m) a)(hb:El (n * m) b):Yw [tabD A,tabD B,.int a,.int b]=some (.int (tg A (a % n) (b % n) + tg B (a / n) (b / n) * n)):=by
 have ap:=GA.tab.pos
 have at':=GA.tab.top
 refine Zbq rfl (wp_seq (Zq (Yg (Yn GA.tab rfl) ?_)))
 refine wp_seq (Zq (evI.ev (Zbj GA.tab rfl (J9 (Zd rfl (Zd rfl ⟨by omega,J9 (Zd rfl (Zd rfl ⟨by omega,sp_m ha,sp_m hb,?_⟩))⟩))))))
 refine wp_seq (Zq (evI.ev (Zbj GB.tab rfl (Zdu (Zd rfl (Zd rfl ⟨⟨by omega,by omega⟩,Zdu (Zd rfl (Zd rfl ⟨⟨by omega,by omega⟩,sp_d ha,sp_d hb,?_⟩))⟩))))))
 exact Yz (evI.ev (ZbO (Zd rfl (ZbL (Zd rfl (Zd rfl ⟨.inr ⟨by omega,by omega⟩,rfl⟩))))))
theorem take_snoc {α:Type}(f:Int→α){n k:Nat}(h:k < n):((upto n).take (k + 1)).map f=((upto n).take k).map f++[f k]:=by
 rw [List.take_add_one,Zel h];simp
theorem Zeb {A B:List (List Int)}{n m s s':Nat}(GA:Grp A n s)(GB:Grp B m s')(hnm:n * m≤12) :
  wp (sSeq (sNew 3 (eLst [])) (sSeq (sFor (gN 4) (iRng (eVar 2)) (ZcJ 3 (eFl (Yk 5 (iRng (eVar 2)) Js (Yc Yw [(eVar 0),(eVar 1),(eVar 4),(eVar 5)]))))) (sSeq (sFrz 3) (sRet (ZdN 3)))))
   [.sh (tabD A),.sh (tabD B),.sh (.int ((n * m:Nat):Int)),.un,.un,.un] (fun o _=>o=.rt (tabD (bes A B n m))):=by
 have hlm:=ZD
 let F:Int→List Int:=fun a=>(upto (n * m)).map fun b=>tg A (a % n) (b % n) + tg B (a / n) (b / n) * n
 refine wp_seq (Zl1 (Yg rfl ⟨[],rfl,?_⟩))
 refine wp_seq (Zds (n:=n * m) (fun k e=>∃ x,e=[.sh (tabD A),.sh (tabD B),.sh (.int ((n * m:Nat):Int)),.nw ((((upto (n * m)).take k).map F).map rowD),x,.un]) (JV rfl (by omega)) ⟨_,rfl⟩ (fun k e hk he=>?_) (fun e he=>?_))
 ·obtain ⟨_,rfl⟩:=he
  refine Zlf (ds:=(((upto (n * m)).take k).map F).map rowD) rfl (evR.ev (ZiW (ZgU (r:=upto (n * m)) (fun b=>tg A ((k:Int) % n) (b % n) + tg B ((k:Int) / n) (b / n) * n) (Zfy rfl (by omega)) (by rw [Zy];omega) (fun b hb=>?_) ⟨?_,?_⟩)))
  ·refine Zd (Eq.trans ?_ (ZkT GA GB hnm (El.of hk) (JB.mp hb))) rfl
   simp [Yc,evs,eVar,Sl.shd]
  ·simp [Zy];omega
  ·refine ⟨.sh (.int k),?_⟩
   rw [take_snoc F hk,List.map_append]
   rfl
 ·obtain ⟨_,rfl⟩:=he
  refine wp_seq (Zlc (ds:=(((upto (n * m)).take (n * m)).map F).map rowD) rfl (Yz (Yg rfl ?_)))
  rw [List.take_of_length_le (by rw [Zy];omega)]
  rfl
theorem size_eq {A B:List (List Int)}{n m s s':Nat}(GA:Grp A n s)(GB:Grp B m s')(x y z u:Sl):sSet 2 (e2I iMul (eF1 fLen (eVar 0)) (eF1 fLen (eVar 1))) [.sh (tabD A),.sh (tabD B),x,y,z,u]=some (.nx,[.sh (tabD A),.sh (tabD B),.sh (.int ((n * m:Nat):Int)),y,z,u]):=by
 have h1:=GA.tab.top
 refine Y4 ?_
 refine (ZbL (P:=(·=((n * m:Nat):Int))) (Zd (Yn GA.tab rfl) (Zd (Yn GB.tab rfl) ⟨.inl ⟨by omega,by omega⟩,?_⟩))).eq
 push_cast;rfl
theorem Ziy {A B:List (List Int)}{n m s s':Nat}(GA:Grp A n s)(GB:Grp B m s')(hnm:n * m≤12):ZP [tabD A,tabD B]=some (.inl (tabD (bes A B n m))):=by
 obtain ⟨o,e,h1,rfl⟩:=Zeb GA GB hnm
 refine Zls rfl (e1:=e) ?_
 refine (Za7 (Zbu (Zbr ((Jp rfl).trans (Zx GA))))).trans ((Za7 (Zbu (Zbr ((Jp rfl).trans (Zx GB))))).trans ((Za7 (Zbu (size_eq GA GB _ _ _ _))).trans ((Za7 ((ZmY ?_).trans (Zbu YB))).trans (Zbu h1))))
 exact (ZcL (P:=(·=false)) (Zd rfl (Zd rfl (by simp;omega)))).eq
theorem Zha {A B:List (List Int)}{n m s s':Nat}(GA:Grp A n s)(GB:Grp B m s')(hnm:12 < n * m):ZP [tabD A,tabD B]=some (.inr 5):=by
 refine ZlM rfl ((Za7 (Zbu (Zbr ((Jp rfl).trans (Zx GA))))).trans ((Za7 (Zbu (Zbr ((Jp rfl).trans (Zx GB))))).trans ((Za7 (Zbu (size_eq GA GB _ _ _ _))).trans (Zk6 ((Zl4 ?_).trans rfl)))))
 exact (ZcL (P:=(·=true)) (Zd rfl (Zd rfl (by simp;omega)))).eq
theorem ZiI {A B:List (List Int)}{n m s s':Nat}(GA:Grp A n s)(GB:Grp B m s')(hnm:n * m≤12):ZbV [tabD A,tabD B]=some (tabD (bes A B n m)):=by
 obtain ⟨o,e,h1,rfl⟩:=Zeb GA GB hnm
 refine Yo rfl (e1:=e) ?_
 refine (Jh (Zbr ((Jp rfl).trans (Zx GA)))).trans ((Jh (Zbr ((Jp rfl).trans (Zx GB)))).trans ((Jh (size_eq GA GB _ _ _ _)).trans ((Jh ((ZM ?_).trans YB)).trans h1)))
 exact (ZcL (P:=(·=false)) (Zd rfl (Zd rfl (by simp;omega)))).eq
theorem ZhJ {A B:List (List Int)}{n m s s':Nat}(GA:Grp A n s)(GB:Grp B m s')(hnm:n * m≤12):YM [tabD A,tabD B]=some (tabD (bes A B n m)):=by
 have h:xRet ZP [(eVar 0),(eVar 1)] (enter 3 [tabD A,tabD B])=some (.ok (.rt (tabD (bes A B n m))),enter 3 [tabD A,tabD B]):=by
  have h0:Ze1 ZP [(eVar 0),(eVar 1)] (enter 3 [tabD A,tabD B])=some (.inl (tabD (bes A B n m))):=Ziy GA GB hnm
  unfold xRet;rw [h0]
 refine Yo rfl (e1:=enter 3 [tabD A,tabD B]) ?_
 unfold ZbD sTry;rw [h]
theorem Zj4 {A B:List (List Int)}{n m s s':Nat}(GA:Grp A n s)(GB:Grp B m s')(hnm:12 < n * m):YM [tabD A,tabD B]=some (.str "large"):=by
 have h:xRet ZP [(eVar 0),(eVar 1)] (enter 3 [tabD A,tabD B])=some (.ex 5,enter 3 [tabD A,tabD B]):=by
  have h0:Ze1 ZP [(eVar 0),(eVar 1)] (enter 3 [tabD A,tabD B])=some (.inr 5):=Zha GA GB hnm
  unfold xRet;rw [h0]
 have hw:YK 5=some (.str "large"):=by rfl
 refine Yo rfl (e1:=(enter 3 [tabD A,tabD B]).map fun _=>.un) ?_
 unfold ZbD sTry;rw [h];simp only;rw [hw]
theorem Zlu {A B:List (List Int)}{n m s s':Nat}(GA:Grp A n s)(GB:Grp B m s')(hnm:n * m≤12):Za3 [tabD A,tabD B]=some (tabD (bes A B n m)):=by
 have ap:=GA.tab.pos
 have at':=GA.tab.top
 have hlm:=ZD
 let F:Int→List Int:=fun a=>(upto (n * m)).map fun b=>tg A (a % n) (b % n) + tg B (a / n) (b / n) * n
 have it:∀ x y z u v:Sl,iRng (e2I iMul (eVar 2) (eF1 fLen (eVar 1))) [.sh (tabD A),.sh (tabD B),.sh (.int n),x,y,z,u,v]=some (Yh 0 (n * m)):=fun x y z u v=>by
  refine JV ?_ (by omega)
  refine (ZbL (P:=(·=((n * m:Nat):Int))) (Zd rfl (Zd (Yn GB.tab rfl) ⟨.inl ⟨by omega,by omega⟩,?_⟩))).eq
  push_cast;rfl
 refine Zbq rfl (wp_seq (Zq (Yg (Yn GA.tab rfl) ?_)))
 refine wp_seq (ZgW (Yg rfl ⟨[],rfl,?_⟩))
 refine wp_seq (Zds (n:=n * m) (fun k e=>∃ x y z u,e=[.sh (tabD A),.sh (tabD B),.sh (.int n),.ow ((((upto (n * m)).take k).map F).map rowD),x,y,z,u]) (it _ _ _ _ _) ⟨_,_,_,_,rfl⟩ (fun k e hk he=>?_) (fun e he=>?_))
 ·obtain ⟨_,_,_,_,rfl⟩:=he
  refine wp_seq (ZgW (Yg rfl ⟨[],rfl,?_⟩))
  refine wp_seq (Zds (n:=n * m) (fun j e=>∃ z u,e=[.sh (tabD A),.sh (tabD B),.sh (.int n),.ow ((((upto (n * m)).take k).map F).map rowD),.sh (.int k),.ow ((((upto (n * m)).take j).map fun b=>tg A ((k:Int) % n) (b % n) + tg B ((k:Int) / n) (b / n) * n).map .int),z,u]) (it _ _ _ _ _) ⟨_,_,rfl⟩ (fun j e hj he=>?_) (fun e he=>?_))
  ·obtain ⟨_,_,rfl⟩:=he
   have hK:=El.of hk
   have hJ:=El.of hj
   refine wp_seq (Zq (evI.ev (Zbj GA.tab rfl (J9 (Zd rfl (Zd rfl ⟨by omega,J9 (Zd rfl (Zd rfl ⟨by omega,sp_m hK,sp_m hJ,?_⟩))⟩))))))
   refine Zlg (r:=((upto (n * m)).take j).map fun b=>tg A ((k:Int) % n) (b % n) + tg B ((k:Int) / n) (b / n) * n) rfl (ZbO (Zd rfl (ZbL (Zd rfl (Zbj GB.tab rfl (Zdu (Zd rfl (Zd rfl ⟨⟨by omega,by omega⟩,Zdu (Zd rfl (Zd rfl ⟨⟨by omega,by omega⟩,sp_d hK,sp_d hJ,.inl ⟨by omega,by omega⟩,?_,?_⟩))⟩))))))))
   ·simp [Zy];omega
   ·refine ⟨.sh (.int j),.sh (.int (tg A ((k:Int) % n) ((j:Int) % n))),?_⟩
    rw [take_snoc _ hj,Int.mul_comm (n:Int)]
    rfl
  ·obtain ⟨z6,z7,rfl⟩:=he
   rw [show (upto (n * m)).take (n * m)=upto (n * m) from List.take_of_length_le (by rw [Zy];omega)]
   refine wp_seq (ZgI rfl (ZkH (T:=((upto (n * m)).take k).map F) rfl (Zi1 (d:=F k) rfl ⟨by simp [Zy];omega,?_⟩)))
   refine ⟨.sh (.int k),.sh (rowD (F k)),z6,z7,?_⟩
   rw [take_snoc F hk]
   rfl
 ·obtain ⟨_,_,_,_,rfl⟩:=he
  refine wp_seq (ZgI rfl (Yz (Yg rfl ?_)))
  rw [List.take_of_length_le (by rw [Zy];omega)]
  rfl
end PV
set_option linter.all false
set_option Elab.async false
set_option maxHeartbeats 2000000
namespace PV
open PySem (Str)
theorem Zgi (ns:List Int)(i j q:Nat)(h0:0 < q)(hq:q≤24):∃ (T:List (List Int)) (n s:Nat),Grp T n s∧∀ env,eVar 0 env=some (rowD ns) →
  Yc Zv [(Yc Jr [(e2I iMod (Yc Ji [(eVar 0),(eC (.int i))]) (eC (.int q)))]),(Yc Ji [(eVar 0),(eC (.int j))])] env=some (tabD T):=by
 obtain ⟨k,hk,ek⟩:=ZdK (Zan ns i) h0
 have hk:k < 24:=by omega
 obtain ⟨T,nm,e,hT,hp,hI⟩:=Zcz (Zdv hk).2 (Zan ns j)
 obtain ⟨s',_,G'⟩:=(ZgR hk).ren hT hp hI
 refine ⟨T,_,s',G',fun env h=>?_⟩
 have c1:Yc Ji [(eVar 0),(eC (.int i))] env=some (.int (Zan ns i)):=(Jx h rfl).trans (JF ns i)
 have c2:Yc Ji [(eVar 0),(eC (.int j))] env=some (.int (Zan ns j)):=(Jx h rfl).trans (JF ns j)
 refine (Jx ((Jp ((J9 (P:=(·=(k:Int))) (Zd c1 (Zd rfl ⟨by omega,ek⟩))).eq)).trans (Zdv hk).1) c2).trans e
theorem Znl (ns:List Int):ZeC [rowD ns]=some (.bl true):=by
 obtain ⟨n1,s1,T1,e1,G1⟩:=Zgo ns 0
 obtain ⟨T2,n2,s2,G2,e2⟩:=Zgi ns 2 3 24 (by decide) (by decide)
 obtain ⟨T3,n3,s3,G3,e3⟩:=Zgi ns 0 1 5 (by decide) (by decide)
 obtain ⟨T4,n4,s4,G4,e4⟩:=Zgi ns 2 3 8 (by decide) (by decide)
 refine Zbq rfl (wp_seq (Zq (Yg ((Jx rfl rfl).trans e1) ?_)))
 refine wp_seq (Zq (Yg (e2 _ rfl) ?_))
 refine wp_seq (wp.mono (Q:=fun o e=>o=.nx∧∃ A B n m s s',Grp A n s∧Grp B m s'∧e=[.sh (rowD ns),.sh (tabD A),.sh (tabD B),.un,.un,.un,.un,.un,.un]) (ZbC (ZcL (J9 (Zd ((Jx rfl rfl).trans (JF ns 4)) (Zd rfl ⟨by decide,Zd rfl ⟨fun _=>?_,fun _=>Zcr ⟨rfl,T1,T2,n1,n2,s1,s2,G1,G2,rfl⟩⟩⟩))))) fun o e h=>?_)
 ·exact wp_seq (Zq (Yg (e3 _ rfl) (Zq (Yg (e4 _ rfl) ⟨rfl,T3,T4,n3,n4,s3,s4,G3,G4,rfl⟩))))
 obtain ⟨rfl,A,B,n,m,s,s',GA,GB,rfl⟩:=h
 have hA:=GA.tab
 have hB:=GB.tab
 have hAl:=hA.len
 have hBl:=hB.len
 have hAt:=hA.top
 have hBt:=hB.top
 refine wp_seq (Zq (ZlD (Yg ((Jp rfl).trans (Zd1 (by omega))) (Yg ((Jp rfl).trans (Zd1 (by omega))) ?_))))
 have tl:∀ (d:D),YM [tabD A,tabD B]=some d→∀ env:Env,eVar 3 env=some (.lst [tabD A,tabD B])→Yc YM [(eIx (eVar 3) (eC (.int 0))),(eIx (eVar 3) (eC (.int 1)))] env=some d:=fun d h env e3=>by
  refine (Jx (x:=tabD A) (y:=tabD B) ?_ ?_).trans h
  ·simp only [eIx,eF2,e3];rfl
  ·simp only [eIx,eF2,e3];rfl
 have dd:(D.lst [tabD A,tabD B]).dep≤8:=by have:=ZbI A;have:=ZbI B;simp only [D.dep,D.deps];omega
 have el:∀ env:Env,eVar 1 env=some (tabD A)→eVar 2 env=some (tabD B)→eLst [(eVar 1),(eVar 2)] env=some (.lst [tabD A,tabD B]):=fun env e1 e2=>by simp only [eLst,evs,e1,e2]
 have eqH:∀ env:Env,eVar 3 env=some (.lst [tabD A,tabD B])→eVar 1 env=some (tabD A)→eVar 2 env=some (tabD B)→tNe (eVar 3) (eLst [(eVar 1),(eVar 2)]) env=some false:=fun env e3 e1 e2=>by
  simp only [tNe,e3,el env e1 e2]
  rw [if_pos ⟨dd,dd⟩,ZbR];rfl
 have eqH2:∀ env:Env,eVar 3 env=some (.lst [tabD A,tabD B])→eVar 1 env=some (tabD A)→eVar 2 env=some (tabD B)→tEq (eVar 3) (eLst [(eVar 1),(eVar 2)]) env=some true:=fun env e3 e1 e2=>by
  simp only [tEq,e3,el env e1 e2]
  rw [if_pos ⟨dd,dd⟩,ZbR]
 have sz:∀ env:Env,eVar 1 env=some (tabD A)→eVar 2 env=some (tabD B)→e2I iMul (eF1 fLen (eVar 1)) (eF1 fLen (eVar 2)) env=some (.int ((n * m:Nat):Int)):=fun env h1 h2=>by
  refine (ZbL (P:=(·=((n * m:Nat):Int))) (Zd (Yn hA h1) (Zd (Yn hB h2) ⟨.inl ⟨by omega,by omega⟩,?_⟩))).eq
  push_cast;rfl
 rcases Nat.lt_or_ge 12 (n * m) with hbig | hnm
 ·refine wp_seq (ZkE (Yg (tl _ (Zj4 GA GB hbig) _ rfl) ?_))
  refine wp_seq (Zaz (Zf2 (eqH _ rfl rfl rfl) rfl) ?_)
  refine wp_seq (ZbC (ZcL (Zd (sz _ rfl rfl) (Zd rfl ⟨fun _=>Yz (Yg rfl rfl),fun h=>absurd h (by simp;omega)⟩))))
 ·have GT:=ZhI GA GB hnm
  have hT:=GT.tab
  have hTl:=hT.len
  have hTt:=hT.top
  have hTp:=hT.pos
  refine wp_seq (ZkE (Yg (tl _ (ZhJ GA GB hnm) _ rfl) ?_))
  refine wp_seq (Zaz (Zf2 (eqH _ rfl rfl rfl) rfl) ?_)
  refine wp_seq (Zaz (ZcL (Zd (sz _ rfl rfl) (Zd rfl (by simp;omega)))) ?_)
  refine wp_seq (Zq (Yg ((Jx rfl rfl).trans (Zlu GA GB hnm)) ?_))
  refine wp_seq (Zaz (ZlX rfl (Zf0 (ZeH (tv_B (Yg ((Jp rfl).trans (ZfW (by omega) fun r hr=>by have:=hT.row r hr;omega)) ⟨_,rfl,fun h=>(by cases h),fun _ =>
   Zf0 (Zmc (ZeY rfl (ZeY rfl ⟨fun h=>(by simp at h),fun _=>ZbZ (Yg ((Jp rfl).trans ((ZlO hT).trans (by rw [GT.flaw]))) rfl)⟩)))⟩))))) ?_)
  obtain ⟨a,ha,ea⟩:=ZdK (Zan ns 5) (show 0 < n by have:=hA.pos;omega)
  obtain ⟨b,hb,eb⟩:=ZdK (Zan ns 6) (show 0 < m by have:=hB.pos;omega)
  refine wp_seq (Zq (evI.ev (J9 (Zd ((Jx rfl rfl).trans (JF ns 5)) (Zd (Yn hA rfl) ⟨by omega,?_⟩)))))
  rw [ea]
  refine wp_seq (Zq (evI.ev (J9 (Zd ((Jx rfl rfl).trans (JF ns 6)) (Zd (Yn hB rfl) ⟨by omega,?_⟩)))))
  rw [eb]
  refine wp_seq (Zq (Yg rfl ?_))
  obtain ⟨p,hpn,hp⟩:=GA.od (El.of ha)
  obtain ⟨q,hqm,hq⟩:=GB.od (El.of hb)
  have hE:=ZcH (n:=n) (El.of ha) (El.of hb)
  obtain ⟨M,hM,hO⟩:=GT.od hE
  have is:=Zna GA GB (El.of ha) (El.of hb) hp hq
  have pp:=hp.pos
  have qp:=hq.pos
  have eN:(a:Int) + b * n=((a + b * n:Nat):Int):=by push_cast;rfl
  have hN:a + b * n < n * m:=by have:=hE.2;rw [eN] at this;omega
  refine wp_seq (ZcK (N:=M) (fun k e=>k < M∧e=[.sh (rowD ns),.sh (tabD A),.sh (tabD B),.sh (.lst [tabD A,tabD B]),.jk (tabD (bes A B n m)),.sh (tabD (bes A B n m)),.sh (.int a),.sh (.int b),.sh (.int ((k + 1:Nat):Int))]) (by omega) ⟨hO.pos,rfl⟩ fun k e he=>?_)
  obtain ⟨hk,rfl⟩:=he
  have md:∀ x y:Nat,((x:Int) % y≠0)↔x % y≠0:=fun x y=>by
   have:((x % y:Nat):Int)=(x:Int) % y:=by simp
   omega
  have more:¬ ((k + 1) % p=0∧(k + 1) % q=0)→k + 1 < M:=fun h=>by
   rcases Nat.lt_or_ge (k + 1) M with h1 | h1
   ·exact h1
   ·exact absurd ((is (k + 1)).mp (by rw [show k + 1=M by omega];exact hO.is)) h
  have body:∀ Q:Out→Env→Prop,k + 1 < M→k < M∧wp (sSet 8 (eAdd (eVar 8) (eC (.int 1)))) [.sh (rowD ns),.sh (tabD A),.sh (tabD B),.sh (.lst [tabD A,tabD B]),.jk (tabD (bes A B n m)),.sh (tabD (bes A B n m)),.sh (.int a),.sh (.int b),.sh (.int ((k + 1:Nat):Int))] (lps (fun e=>k + 1 < M∧e=[.sh (rowD ns),.sh (tabD A),.sh (tabD B),.sh (.lst [tabD A,tabD B]),.jk (tabD (bes A B n m)),.sh (tabD (bes A B n m)),.sh (.int a),.sh (.int b),.sh (.int ((k + 1 + 1:Nat):Int))]) Q):=fun Q h =>
   ⟨hk,Zq (evI.ev (ZbO (Zd rfl (Zd rfl ⟨h,rfl⟩))))⟩
  refine Zf0 (Zbs (J9 (Zd rfl (Zd ((Jx rfl rfl).trans (order_eq GA ha hpn hp)) ⟨by omega,Zd rfl ⟨fun h1=>⟨fun _=>body _ (more ?_),fun h=>(by cases h)⟩,fun h1=>Zbs (J9 (Zd rfl (Zd ((Jx rfl rfl).trans (order_eq GB hb hqm hq)) ⟨by omega,Zd rfl ⟨fun h2=>body _ (more ?_),fun h2=>?_⟩⟩)))⟩⟩))))
  ·intro h;have:=(md (k + 1) p).mp (of_decide_eq_true h1);omega
  ·intro h;have:=(md (k + 1) q).mp (of_decide_eq_true h2);omega
  have z1:(k + 1) % p=0:=by
   have:=mt (md (k + 1) p).mpr (of_decide_eq_false h1)
   omega
  have z2:(k + 1) % q=0:=by
   have:=mt (md (k + 1) q).mpr (of_decide_eq_false h2)
   omega
  have kM:k + 1=M:=by
   rcases Nat.lt_or_ge (k + 1) M with h | h
   ·exact absurd ((is (k + 1)).mpr ⟨z1,z2⟩) (hO.low _ (by omega) h)
   ·omega
  rw [eN] at hO
  refine wp_seq (Zaz (Zbs (Zd (d:=(M:Int)) ?_ (Zd rfl (by simp;omega)))) ?_)
  ·refine (Jx (y:=.int ((a + b * n:Nat):Int)) rfl ?_).trans (order_eq GT hN hM hO)
   refine (ZbO (P:=(·=((a + b * n:Nat):Int))) (Zd rfl (ZbL (Zd (Yn hA rfl) (Zd rfl ⟨.inl ⟨by omega,by omega⟩,?_⟩))))).eq
   rw [← eN,Int.mul_comm]
  have hmn:m * n≤12:=by rw [Nat.mul_comm];exact hnm
  have GT2:=ZhI GB GA hmn
  obtain ⟨d,ed,hd⟩:=Zhh GT GT2
  refine wp_seq (Zaz (ZlY (Yg ((Jx rfl ((Jx rfl rfl).trans (ZiI GB GA hmn))).trans ed) ?_)) ?_)
  ·rcases hd with ⟨h,_⟩ | ⟨_,⟨_,h⟩ | ⟨r,rfl,_⟩⟩
   ·exact absurd (Nat.mul_comm n m) h
   ·exact absurd (ZlC GA GB) (h _)
   ·rfl
  cases hbs:bes A B n m with
  | nil=>rw [hbs] at hTl;simp at hTl;omega
  | cons r R =>
   have hr:=hT.row r (by rw [hbs];simp)
   have hRl:(r::R).length=n * m:=by rw [← hbs];exact hTl
   refine wp_seq (Zke (r:=r) (T:=R) rfl (by omega) (by simp at hRl;omega) ?_)
   refine Yz (ev_B (Zgg (Zmk (ZeY (tl _ (ZhJ GA GB hnm) _ rfl) (ZeY (d:=bes A B n m) (by rw [hbs];rfl) ⟨fun _=>Zf2 (eqH2 _ rfl rfl rfl) rfl,fun h=>(by simp at h)⟩)))))
end PV
set_option linter.all false
set_option Elab.async false
set_option maxRecDepth 100000
set_option maxHeartbeats 4000000
namespace PV
open PySem PySem.Spec PyProof.Rows
open L2 (V Hp HO Same Cx)
theorem Zby {a b:St}{env env':Env}(h:sSeq a b env=some (.nx,env')):∃ e1,a env=some (.nx,e1)∧b e1=some (.nx,env'):=by
 unfold sSeq at h
 split at h
 ·rename_i e1 h1;exact ⟨e1,h1,h⟩
 ·rename_i r hne
  cases hr:a env with
  | none=>rw [hr] at h;cases h
  | some p =>
   obtain ⟨o,e1⟩:=p
   rw [hr] at h
   cases h
   exact absurd hr (hne _)
noncomputable def top (i:Nat):Stmt:=PySem.Challenge.pw_tablefolk_k12_whole_side_by_side.main.body.getD i (.Pass ⟨0,0,0,0⟩)
noncomputable abbrev JL:Stmt:=top 16
theorem ZcO:L2.Zi ["table","number"] ["table","number"] (L2.Yb JL):=⟨rfl,rfl,rfl,by decide +kernel,rfl,by decide +kernel,by decide +kernel⟩
theorem ZfZ {P:Program} {w:World} {K:PySem.W.Frag} {mg:Str→Option Value} {base:Heap} {f:Addr} {fd:FuncData} (F:L2.Fun K "is_element" "is_element" JL f fd) (T:Bt mg) :
  L2.FnOk P w K mg base L2.CX0 1 f fd ["table","number"] (spR K (rk K .k) Yr) :=
 Yq (N:=["table","number"]) (ps:=["table","number"]) (k:=0) (m:=(rk K .k)) (g:=Zc6) F ZcO (.inl (Zr _)) fun cdv A outer s H E hr=>by
  have hu:=hr.units
  have nd:=ZcO.nd
  have nox:∀ (e:Value) (s:Shared),False→False:=fun _ _ h=>h
  exact (Jb (Zg (((ZeB (m:=.k) (Zm1 (m:=.k) (Za 1) (Zc (m:=.k))) (Zb4 (ZmZ (m:=.k) (Za 1) (Zm (m:=.k) T (Za 0)))))))))
noncomputable abbrev ZS:Stmt:=top 13
theorem Zc8:L2.Zi ["table","size","row","number"] ["table"] (L2.Yb ZS):=⟨rfl,rfl,rfl,by decide +kernel,rfl,by decide +kernel,by decide +kernel⟩
theorem Zg4 {P:Program} {w:World} {K:PySem.W.Frag} {mg:Str→Option Value} {base:Heap} {f:Addr} {fd:FuncData} (F:L2.Fun K "ask_table" "ask_table" ZS f fd) (T:Bt mg) (C_MOST_ROWS:∃ t,mg "MOST_ROWS"=some (.int 12 t)) (G_is_element:Cal P w K mg base 1 "is_element" (rk K .k) Yr) :
  L2.FnOk P w K mg base L2.CX0 2 f fd ["table"] (spR K (rk K .k) JH) :=
 Yq (N:=["table","size","row","number"]) (ps:=["table"]) (k:=1) (m:=(rk K .k)) (g:=ZdZ) F Zc8 (.inl (Zr _)) fun cdv A outer s H E hr=>by
  have hu:=hr.units
  have nd:=Zc8.nd
  have nox:∀ (e:Value) (s:Shared),False→False:=fun _ _ h=>h
  exact (Zb (Je nd 1 (Zm (m:=.k) T (Za 0))) (Zb (Yl (pw_t (ZdB (Zez (Za 1) (Zc (m:=.k))) (ZbY (ZcG (Za 1) (ZgQ (m:=.k) (hm:=C_MOST_ROWS)))))) (Jb (Zcs)) Zk) (Jb (Yj (Zao (Za 0)) (pg_n nd 2) (Zb (Yl (Za5 hu (Zm (m:=.k) T (Za 2)) (Za 1)) (Jb (Zcs)) Zk) (Jb (Yl (ZaT (Zcd (ZgO (m:=.k) T (Zbc nox nd 3 (Zao (Za 2)) (fun _ _ _ _ _ _=>(Zf G_is_element (hr.mono (by decide)) (Ja (Za 0) (Ja (Za 3) Jc)))))))) (Jb (Zcs)) Zk)))))))
noncomputable abbrev ZL:Stmt:=top 18
theorem ZcR:L2.Zi ["table","size","a","b","c"] ["table"] (L2.Yb ZL):=⟨rfl,rfl,rfl,by decide +kernel,rfl,by decide +kernel,by decide +kernel⟩
theorem ZfU {P:Program} {w:World} {K:PySem.W.Frag} {mg:Str→Option Value} {base:Heap} {f:Addr} {fd:FuncData} (F:L2.Fun K "find_three" "find_three" ZL f fd) (T:Bt mg) :
  L2.FnOk P w K mg base L2.CX0 1 f fd ["table"] (spR K (rk K .k) Y5) :=
 Yq (N:=["table","size","a","b","c"]) (ps:=["table"]) (k:=0) (m:=(rk K .k)) (g:=ZcX) F ZcR (.inl (Zr _)) fun cdv A outer s H E hr=>by
  have hu:=hr.units
  have nd:=ZcR.nd
  have nox:∀ (e:Value) (s:Shared),False→False:=fun _ _ h=>h
  exact (Zb (Je nd 1 (Zm (m:=.k) T (Za 0))) (Zb (Yj (Jo T (Za 1)) (pg_n nd 2) (Jb (Yj (Jo T (Za 1)) (pg_n nd 3) (Jb (Yj (Jo T (Za 1)) (pg_n nd 4) (Jb (Yl (Za5 hu (Zj (Zj (Za 0) (Zj (Zj (Za 0) (Za 2)) (Za 3))) (Za 4)) (Zj (Zj (Za 0) (Za 2)) (Zj (Zj (Za 0) (Za 3)) (Za 4)))) (Jb (Zg (ZaV (Ja (J8 (m:=.k)) (Ja (Za 2) (Ja (Za 3) (Ja (Za 4) Jc))))))) Zk))))))) (Jb (Zg (Zbv (m:=.k))))))
noncomputable abbrev YS:Stmt:=top 19
theorem Zc0:L2.Zi ["table","size","still","a"] ["table"] (L2.Yb YS):=⟨rfl,rfl,rfl,by decide +kernel,rfl,by decide +kernel,by decide +kernel⟩
theorem ZgH {P:Program} {w:World} {K:PySem.W.Frag} {mg:Str→Option Value} {base:Heap} {f:Addr} {fd:FuncData} (F:L2.Fun K "find_rest" "find_rest" YS f fd) (T:Bt mg) :
  L2.FnOk P w K mg base L2.CX0 1 f fd ["table"] (spR K (rk K .k) Zn) :=
 Yq (N:=["table","size","still","a"]) (ps:=["table"]) (k:=0) (m:=(rk K .k)) (g:=Zd6) F Zc0 (.inl (Zr _)) fun cdv A outer s H E hr=>by
  have hu:=hr.units
  have nd:=Zc0.nd
  have nox:∀ (e:Value) (s:Shared),False→False:=fun _ _ h=>h
  exact (Zb (Je nd 1 (Zm (m:=.k) T (Za 0))) (Zb (Yj (Jo T (Za 1)) (pg_n nd 2) (Jb (Yl (Zcd (ZgO (m:=.k) T (Zbc nox nd 3 (Jo T (Za 1)) (fun _ _ _ _ _ _=>(((ZeB (m:=.k) (ZeS (m:=.k) hu (Zj (Zj (Za 0) (Za 2)) (Za 3)) (Za 3)) (Zb4 (ZeS (m:=.k) hu (Zj (Zj (Za 0) (Za 3)) (Za 2)) (Za 3)))))))))) (Jb (Zg (Za 2))) Zk))) (Jb (Zg (Zbv (m:=.k))))))
noncomputable abbrev JQ:Stmt:=top 20
theorem Zc7:L2.Zi ["table","still","element","other"] ["table","still","element"] (L2.Yb JQ):=⟨rfl,rfl,rfl,by decide +kernel,rfl,by decide +kernel,by decide +kernel⟩
theorem ZgP {P:Program} {w:World} {K:PySem.W.Frag} {mg:Str→Option Value} {base:Heap} {f:Addr} {fd:FuncData} (F:L2.Fun K "find_back" "find_back" JQ f fd) (T:Bt mg) :
  L2.FnOk P w K mg base L2.CX0 1 f fd ["table","still","element"] (spR K (rk K .k) Y9) :=
 Yq (N:=["table","still","element","other"]) (ps:=["table","still","element"]) (k:=0) (m:=(rk K .k)) (g:=Zd9) F Zc7 (.inl (Zr _)) fun cdv A outer s H E hr=>by
  have hu:=hr.units
  have nd:=Zc7.nd
  have nox:∀ (e:Value) (s:Shared),False→False:=fun _ _ h=>h
  exact (Zb (Yj (Jo T (Zm (m:=.k) T (Za 0))) (pg_n nd 3) (Jb (Yl (pw_t (ZiM (ZeV hu (Zj (Zj (Za 0) (Za 2)) (Za 3)) (Za 1)) (ZfL (ZeV hu (Zj (Zj (Za 0) (Za 3)) (Za 2)) (Za 1))))) (Jb (Zg (Za 3))) Zk))) (Jb (Zg (Zbv (m:=.k)))))
noncomputable abbrev JT:Stmt:=top 17
theorem ZcZ:L2.Zi ["table","three","still","element"] ["table"] (L2.Yb JT):=⟨rfl,rfl,rfl,by decide +kernel,rfl,by decide +kernel,by decide +kernel⟩
theorem Zge {P:Program} {w:World} {K:PySem.W.Frag} {mg:Str→Option Value} {base:Heap} {f:Addr} {fd:FuncData} (F:L2.Fun K "find_flaw" "find_flaw" JT f fd) (T:Bt mg) (G_find_three:Cal P w K mg base 1 "find_three" (rk K .k) Y5) (G_find_rest:Cal P w K mg base 1 "find_rest" (rk K .k) Zn) (G_find_back:Cal P w K mg base 1 "find_back" (rk K .k) Y9) :
  L2.FnOk P w K mg base L2.CX0 2 f fd ["table"] (spR K (rk K .k) JN) :=
 Yq (N:=["table","three","still","element"]) (ps:=["table"]) (k:=1) (m:=(rk K .k)) (g:=Zd2) F ZcZ (.inl (Zr _)) fun cdv A outer s H E hr=>by
  have hu:=hr.units
  have nd:=ZcZ.nd
  have nox:∀ (e:Value) (s:Shared),False→False:=fun _ _ h=>h
  exact (Zb (Je nd 1 (Zf G_find_three (hr.mono (by decide)) (Ja (Za 0) Jc))) (Zb (Yl (ZcA (Za 1)) (Jb (Zg (Za 1))) Zk) (Zb (Je nd 2 (Zf G_find_rest (hr.mono (by decide)) (Ja (Za 0) Jc))) (Zb (Yl (Zg1 (Za 2)) (Jb (Zg (ZaV (Ja (J8 (m:=.k)) Jc)))) Zk) (Zb (Yj (Jo T (Zm (m:=.k) T (Za 0))) (pg_n nd 3) (Jb (Yl (Zg1 (Zf G_find_back (hr.mono (by decide)) (Ja (Za 0) (Ja (Za 2) (Ja (Za 3) Jc))))) (Jb (Zg (ZaV (Ja (J8 (m:=.k)) (Ja (Za 3) Jc))))) Zk))) (Jb (Zg (Zbv (m:=.k)))))))))
noncomputable abbrev Zba:Stmt:=top 11
theorem Zhy:L2.Zi ["table"] ["table"] (L2.Yb Zba):=⟨rfl,rfl,rfl,by decide +kernel,rfl,by decide +kernel,by decide +kernel⟩
theorem ZlG {P:Program} {w:World} {K:PySem.W.Frag} {mg:Str→Option Value} {base:Heap} {f:Addr} {fd:FuncData} (F:L2.Fun K "flaw" "flaw" Zba f fd) (T:Bt mg) (G_ask_table:Cal P w K mg base 2 "ask_table" (rk K .k) JH) (G_find_flaw:Cal P w K mg base 2 "find_flaw" (rk K .k) JN) :
  L2.FnOk P w K mg base L2.CX0 3 f fd ["table"] (spR K (rk K .k) Zdf) :=
 Yq (N:=["table"]) (ps:=["table"]) (k:=2) (m:=(rk K .k)) (g:=Zjm) F Zhy (.inl (Zr _)) fun cdv A outer s H E hr=>by
  have hu:=hr.units
  have nd:=Zhy.nd
  have nox:∀ (e:Value) (s:Shared),False→False:=fun _ _ h=>h
  exact (Zb (Zbl (Zf G_ask_table (hr.mono (by decide)) (Ja (Za 0) Jc))) (Jb (Zg (Zf G_find_flaw (hr.mono (by decide)) (Ja (Za 0) Jc)))))
noncomputable abbrev YZ:Stmt:=top 14
theorem ZdU:L2.Zi ["table"] ["table"] (L2.Yb YZ):=⟨rfl,rfl,rfl,by decide +kernel,rfl,by decide +kernel,by decide +kernel⟩
theorem Zhg {P:Program} {w:World} {K:PySem.W.Frag} {mg:Str→Option Value} {base:Heap} {f:Addr} {fd:FuncData} (F:L2.Fun K "ask_folk" "ask_folk" YZ f fd) (T:Bt mg) (G_ask_table:Cal P w K mg base 2 "ask_table" (rk K .k) JH) (G_find_flaw:Cal P w K mg base 2 "find_flaw" (rk K .k) JN) :
  L2.FnOk P w K mg base L2.CX0 3 f fd ["table"] (spR K (rk K .k) Yt) :=
 Yq (N:=["table"]) (ps:=["table"]) (k:=2) (m:=(rk K .k)) (g:=ZeP) F ZdU (.inl (Zr _)) fun cdv A outer s H E hr=>by
  have hu:=hr.units
  have nd:=ZdU.nd
  have nox:∀ (e:Value) (s:Shared),False→False:=fun _ _ h=>h
  exact (Zb (Zbl (Zf G_ask_table (hr.mono (by decide)) (Ja (Za 0) Jc))) (Jb (Yl (ZcA (Zf G_find_flaw (hr.mono (by decide)) (Ja (Za 0) Jc))) (Jb (Zcs)) Zk)))
noncomputable abbrev ZF:Stmt:=top 15
theorem Zcy:L2.Zi ["table","element"] ["table","element"] (L2.Yb ZF):=⟨rfl,rfl,rfl,by decide +kernel,rfl,by decide +kernel,by decide +kernel⟩
theorem Zfc {P:Program} {w:World} {K:PySem.W.Frag} {mg:Str→Option Value} {base:Heap} {f:Addr} {fd:FuncData} (F:L2.Fun K "ask_element" "ask_element" ZF f fd) (T:Bt mg) (G_is_element:Cal P w K mg base 1 "is_element" (rk K .k) Yr) :
  L2.FnOk P w K mg base L2.CX0 2 f fd ["table","element"] (spR K (rk K .k) Z8) :=
 Yq (N:=["table","element"]) (ps:=["table","element"]) (k:=1) (m:=(rk K .k)) (g:=ZcS) F Zcy (.inl (Zr _)) fun cdv A outer s H E hr=>by
  have hu:=hr.units
  have nd:=Zcy.nd
  have nox:∀ (e:Value) (s:Shared),False→False:=fun _ _ h=>h
  exact (Jb (Yl (ZaT (Zcd (Zf G_is_element (hr.mono (by decide)) (Ja (Za 0) (Ja (Za 1) Jc))))) (Jb (Zcs)) Zk))
noncomputable abbrev ZV:Stmt:=top 21
theorem Zc5:L2.Zi ["table","element","still","made","latest"] ["table","element"] (L2.Yb ZV):=⟨rfl,rfl,rfl,by decide +kernel,rfl,by decide +kernel,by decide +kernel⟩
theorem ZgS {P:Program} {w:World} {K:PySem.W.Frag} {mg:Str→Option Value} {base:Heap} {f:Addr} {fd:FuncData} (F:L2.Fun K "one_round" "one_round" ZV f fd) (T:Bt mg) (G_find_rest:Cal P w K mg base 1 "find_rest" (rk K .k) Zn) :
  L2.FnOk P w K mg base L2.CX0 2 f fd ["table","element"] (spR K (rk K .k) Zas) :=
 Yq (N:=["table","element","still","made","latest"]) (ps:=["table","element"]) (k:=1) (m:=(rk K .k)) (g:=Zd8) F Zc5 (.inl (Zr _)) fun cdv A outer s H E hr=>by
  have hu:=hr.units
  have nd:=Zc5.nd
  have nox:∀ (e:Value) (s:Shared),False→False:=fun _ _ h=>h
  exact (Zb (Je nd 2 (Zf G_find_rest (hr.mono (by decide)) (Ja (Za 0) Jc))) (Zb (Zat nd 3 (Y7 (Ja (Za 2) Jc))) (Zb (Je nd 4 (Za 1)) (Zb (ZeQ 1000 (Za5 hu (Za 4) (Za 2)) (Zb (Za1 3 (Za 4)) (Jb (Je nd 4 (Zj (Zj (Za 0) (Za 4)) (Za 1)))))) (Jt 3 (Jb (Zg (Za 3))))))))
noncomputable abbrev ZaD:Stmt:=top 12
theorem Zga:L2.Zi ["table","element"] ["table","element"] (L2.Yb ZaD):=⟨rfl,rfl,rfl,by decide +kernel,rfl,by decide +kernel,by decide +kernel⟩
theorem ZjE {P:Program} {w:World} {K:PySem.W.Frag} {mg:Str→Option Value} {base:Heap} {f:Addr} {fd:FuncData} (F:L2.Fun K "order" "order" ZaD f fd) (T:Bt mg) (G_ask_folk:Cal P w K mg base 3 "ask_folk" (rk K .k) Yt) (G_ask_element:Cal P w K mg base 2 "ask_element" (rk K .k) Z8) (G_one_round:Cal P w K mg base 2 "one_round" (rk K .k) Zas) :
  L2.FnOk P w K mg base L2.CX0 4 f fd ["table","element"] (spR K (rk K .k) Za8) :=
 Yq (N:=["table","element"]) (ps:=["table","element"]) (k:=3) (m:=(rk K .k)) (g:=ZhL) F Zga (.inl (Zr _)) fun cdv A outer s H E hr=>by
  have hu:=hr.units
  have nd:=Zga.nd
  have nox:∀ (e:Value) (s:Shared),False→False:=fun _ _ h=>h
  exact (Zb (Zbl (Zf G_ask_folk (hr.mono (by decide)) (Ja (Za 0) Jc))) (Zb (Zbl (Zf G_ask_element (hr.mono (by decide)) (Ja (Za 0) (Ja (Za 1) Jc)))) (Jb (Zg (Zm (m:=.k) T (Zf G_one_round (hr.mono (by decide)) (Ja (Za 0) (Ja (Za 1) Jc))))))))
noncomputable abbrev Yp:Stmt:=top 26
theorem ZaG:L2.Zi ["names","element"] ["names"] (L2.Yb Yp):=⟨rfl,rfl,rfl,by decide +kernel,rfl,by decide +kernel,by decide +kernel⟩
theorem ZcD {P:Program} {w:World} {K:PySem.W.Frag} {mg:Str→Option Value} {base:Heap} {f:Addr} {fd:FuncData} (F:L2.Fun K "least_without_name" "least_without_name" Yp f fd) (T:Bt mg) :
  L2.FnOk P w K mg base L2.CX0 1 f fd ["names"] (spR K (rk K .k) ZC) :=
 Yq (N:=["names","element"]) (ps:=["names"]) (k:=0) (m:=(rk K .k)) (g:=Z7) F ZaG (.inl (Zr _)) fun cdv A outer s H E hr=>by
  have hu:=hr.units
  have nd:=ZaG.nd
  have nox:∀ (e:Value) (s:Shared),False→False:=fun _ _ h=>h
  exact (Zb (Je nd 1 (Zc (m:=.k))) (Zb (ZeQ 1000 (Zmq hu (Za 1) (Za 0)) (Jb (Je nd 1 (Zu (Za 1) (Zc (m:=.k)))))) (Jb (Zg (Za 1)))))
noncomputable abbrev Yv:Stmt:=top 28
theorem Zbx:L2.Zi ["one","other","names","wider","a","b","made","name","element"] ["one","other","names"] (L2.Yb Yv):=⟨rfl,rfl,rfl,by decide +kernel,rfl,by decide +kernel,by decide +kernel⟩
theorem ZdR {P:Program} {w:World} {K:PySem.W.Frag} {mg:Str→Option Value} {base:Heap} {f:Addr} {fd:FuncData} (F:L2.Fun K "with_all_named" "with_all_named" Yv f fd) (T:Bt mg) :
  L2.FnOk P w K mg base L2.CX0 1 f fd ["one","other","names"] (spR K (rk K .k) JD) :=
 Yq (N:=["one","other","names","wider","a","b","made","name","element"]) (ps:=["one","other","names"]) (k:=0) (m:=(rk K .k)) (g:=ZaE) F Zbx (.inl (Zr _)) fun cdv A outer s H E hr=>by
  have hu:=hr.units
  have nd:=Zbx.nd
  have nox:∀ (e:Value) (s:Shared),False→False:=fun _ _ h=>h
  exact (Zb (ZhU nd 3 T (Za 2)) (Zb (Yj (Zfi (Za 2)) (pg_n nd 4) (Jb (Yj (Zfi (Za 2)) (pg_n nd 5) (Zb (Je nd 6 (Zj (Zj (Za 0) (Za 4)) (Za 5))) (Zb (Je nd 7 (Zj (Zj (Za 1) (ZdQ (m:=.k) hu (Za 2) (Za 4))) (ZdQ (m:=.k) hu (Za 2) (Za 5)))) (Zb (Yl (Za5 hu (ZkK (m:=.k) hu 3 (Za 6) (Za 7)) (Za 7)) (Jb (Zg (Zbv (m:=.k)))) Zk) (Jb (Zdw hu 3 (Za 6) (Za 7))))))))) (Jt 3 (Zb (Yl (Zez (ZiL (m:=.k) T (Zbc nox nd 8 (Zfi (Za 3)) (fun _ _ _ _ _ _=>(ZdQ (m:=.k) hu (Za 3) (Za 8))))) (Zdp (m:=.k) T (Za 3))) (Jb (Zg (Zbv (m:=.k)))) Zk) (Jt 3 (Jb (Zg (Za 3))))))))
noncomputable abbrev YT:Stmt:=top 27
theorem Zdk:L2.Zi ["one","other","names","element","name","wider","made"] ["one","other","names","element","name"] (L2.Yb YT):=⟨rfl,rfl,rfl,by decide +kernel,rfl,by decide +kernel,by decide +kernel⟩
theorem Zg5 {P:Program} {w:World} {K:PySem.W.Frag} {mg:Str→Option Value} {base:Heap} {f:Addr} {fd:FuncData} (F:L2.Fun K "with_name" "with_name" YT f fd) (T:Bt mg) (G_with_all_named:Cal P w K mg base 1 "with_all_named" (rk K .k) JD) :
  L2.FnOk P w K mg base L2.CX0 2 f fd ["one","other","names","element","name"] (spR K (rk K .k) Zaa) :=
 Yq (N:=["one","other","names","element","name","wider","made"]) (ps:=["one","other","names","element","name"]) (k:=1) (m:=(rk K .k)) (g:=Zce) F Zdk (.inl (Zr _)) fun cdv A outer s H E hr=>by
  have hu:=hr.units
  have nd:=Zdk.nd
  have nox:∀ (e:Value) (s:Shared),False→False:=fun _ _ h=>h
  exact (Zb (ZhU nd 5 T (Za 2)) (Zb (Zdw hu 5 (Za 3) (Za 4)) (Jt 5 (Zb (Je nd 6 (Zf G_with_all_named (hr.mono (by decide)) (Ja (Za 0) (Ja (Za 1) (Ja (Za 5) Jc))))) (Zb (ZeQ 1000 (pw_t (ZiM (ZcA (Za 6)) (ZfL (ZcG (Zdp (m:=.k) T (Za 6)) (Zdp (m:=.k) T (Za 5)))))) (Zb (Je nd 5 (Za 6)) (Jt 5 (Jb (Je nd 6 (Zf G_with_all_named (hr.mono (by decide)) (Ja (Za 0) (Ja (Za 1) (Ja (Za 5) Jc))))))))) (Jb (Zg (Za 6))))))))
noncomputable abbrev Ju:Stmt:=top 25
theorem ZbQ:L2.Zi ["one","other","names","element","name","wider","found"] ["one","other","names"] (L2.Yb Ju):=⟨rfl,rfl,rfl,by decide +kernel,rfl,by decide +kernel,by decide +kernel⟩
theorem Zek {P:Program} {w:World} {K:PySem.W.Frag} {mg:Str→Option Value} {base:Heap} {f:Addr} {fd:FuncData} (F:L2.Fun K "find_renaming" "find_renaming" Ju f fd) (T:Bt mg) (G_least_without_name:Cal P w K mg base 1 "least_without_name" (rk K .k) ZC) (G_with_name:Cal P w K mg base 2 "with_name" (rk K .k) Zaa) (n:Nat) (G_find_renaming:Cal P w K mg base (2 + n) "find_renaming" rN (Yu n)) :
  L2.FnOk P w K mg base L2.CX0 (2 + n + 1) f fd ["one","other","names"] (spR K rN (Yu (n + 1))) :=
 Yq (N:=["one","other","names","element","name","wider","found"]) (ps:=["one","other","names"]) (k:=2 + n) (m:=rN) (g:=Za6 (Yu n)) F ZbQ (.inl Zc4) fun cdv A outer s H E hr=>by
  have hu:=hr.units
  have nd:=ZbQ.nd
  have nox:∀ (e:Value) (s:Shared),False→False:=fun _ _ h=>h
  exact (Zb (Yl (ZeV hu (Zdp (m:=.k) T (Za 2)) (Zm (m:=.k) T (Za 0))) (Jb (Zbg (PDw.n (PDo.fl (ZdL nox nd 3 (Jo T (Zm (m:=.k) T (Za 0))) (fun _ _ _ _ _ _=>(ZdQ (m:=.k) hu (Za 2) (Za 3)))))))) Zk) (Zb (Je nd 3 (Zf G_least_without_name (hr.mono (by omega)) (Ja (Za 2) Jc))) (Zb (Yj (Jo T (Zm (m:=.k) T (Za 1))) (pg_n nd 4) (Zb (Je nd 5 (Zf G_with_name (hr.mono (by omega)) (Ja (Za 0) (Ja (Za 1) (Ja (Za 2) (Ja (Za 3) (Ja (Za 4) Jc))))))) (Jb (Yl (ZcA (Za 5)) (Zb (Zlq nd 6 (PDw.n (ZbG G_find_renaming (hr.mono (by omega)) (Ja (Za 0) (Ja (Za 1) (Ja (Za 5) Jc)))))) (Jb (Yl (ZcA (Za 6)) (Jb (Zbg (Zgq 6))) Zk))) Zk)))) (Jb (Zbg Zjd)))))
noncomputable abbrev Z0:Stmt:=top 23
theorem ZdX:L2.Zi ["one","other"] ["one","other"] (L2.Yb Z0):=⟨rfl,rfl,rfl,by decide +kernel,rfl,by decide +kernel,by decide +kernel⟩
theorem Zg8 {P:Program} {w:World} {K:PySem.W.Frag} {mg:Str→Option Value} {base:Heap} {f:Addr} {fd:FuncData} (F:L2.Fun K "renaming" "renaming" Z0 f fd) (T:Bt mg) (G_ask_folk:Cal P w K mg base 3 "ask_folk" (rk K .k) Yt) (G_find_renaming:Cal P w K mg base 15 "find_renaming" rN ZaW) (G_find_rest:Cal P w K mg base 1 "find_rest" (rk K .k) Zn) :
  L2.FnOk P w K mg base L2.CX0 16 f fd ["one","other"] (spR K rN ZaM) :=
 Yq (N:=["one","other"]) (ps:=["one","other"]) (k:=15) (m:=rN) (g:=Zey) F ZdX (.inl Zc4) fun cdv A outer s H E hr=>by
  have hu:=hr.units
  have nd:=ZdX.nd
  have nox:∀ (e:Value) (s:Shared),False→False:=fun _ _ h=>h
  exact (Zb (Zbl (Zf G_ask_folk (hr.mono (by decide)) (Ja (Za 0) Jc))) (Zb (Zbl (Zf G_ask_folk (hr.mono (by decide)) (Ja (Za 1) Jc))) (Zb (Yl (Za5 hu (Zm (m:=.k) T (Za 0)) (Zm (m:=.k) T (Za 1))) (Jb (Zbg Zjd)) Zk) (Jb (Zbg (PDw.n (ZbG G_find_renaming (hr.mono (by decide)) (Ja (Za 0) (Ja (Za 1) (Ja (ZkN (Zf G_find_rest (hr.mono (by decide)) (Ja (Za 0) Jc)) (Zf G_find_rest (hr.mono (by decide)) (Ja (Za 1) Jc))) Jc))))))))))
noncomputable abbrev Yx:Stmt:=top 29
theorem ZbS:L2.Zi ["one","other","ahead","behind","size","a","b"] ["one","other","ahead","behind"] (L2.Yb Yx):=⟨rfl,rfl,rfl,by decide +kernel,rfl,by decide +kernel,by decide +kernel⟩
theorem Zei {P:Program} {w:World} {K:PySem.W.Frag} {mg:Str→Option Value} {base:Heap} {f:Addr} {fd:FuncData} (F:L2.Fun K "made_by_pairs" "made_by_pairs" Yx f fd) (T:Bt mg) :
  L2.FnOk P w K mg base L2.CX0 1 f fd ["one","other","ahead","behind"] (spR K (rk K .k) Yw) :=
 Yq (N:=["one","other","ahead","behind","size","a","b"]) (ps:=["one","other","ahead","behind"]) (k:=0) (m:=(rk K .k)) (g:=Zcc) F ZbS (.inl (Zr _)) fun cdv A outer s H E hr=>by
  have hu:=hr.units
  have nd:=ZbS.nd
  have nox:∀ (e:Value) (s:Shared),False→False:=fun _ _ h=>h
  exact (Zb (Je nd 4 (Zm (m:=.k) T (Za 0))) (Zb (Je nd 5 (Zj (Zj (Za 0) (Jk (m:=.k) (Za 2) (Za 4))) (Jk (m:=.k) (Za 3) (Za 4)))) (Zb (Je nd 6 (Zj (Zj (Za 1) (ZK (m:=.k) (Za 2) (Za 4))) (ZK (m:=.k) (Za 3) (Za 4)))) (Jb (Zg (Zu (Za 5) (Ys (m:=.k) (Za 6) (Za 4))))))))
noncomputable abbrev ZQ:Stmt:=top 24
theorem Zb5:L2.Zi ["one","other","size","rows","ahead","behind"] ["one","other"] (L2.Yb ZQ):=⟨rfl,rfl,rfl,by decide +kernel,rfl,by decide +kernel,by decide +kernel⟩
theorem Zig {P:Program} {w:World} {K:PySem.W.Frag} {mg:Str→Option Value} {base:Heap} {f:Addr} {fd:FuncData} (F:L2.Fun K "beside" "beside" ZQ f fd) (T:Bt mg) (C_MOST_ROWS:∃ t,mg "MOST_ROWS"=some (.int 12 t)) (XC_5:XCl K 5) (G_ask_folk:Cal P w K mg base 3 "ask_folk" (rk K .k) Yt) (G_made_by_pairs:Cal P w K mg base 1 "made_by_pairs" (rk K .k) Yw) :
  L2.FnOk P w K mg base (CXe P w) 4 f fd ["one","other"] (spX K rN ZP) :=
 Zl6 (N:=["one","other","size","rows","ahead","behind"]) (ps:=["one","other"]) (k:=3) (m:=rN) (g:=ZfS) F Zb5 (.inl Zc4) fun cdv A outer s H E hr=>by
  have hu:=hr.units
  have nd:=Zb5.nd
  have nox:∀ (e:Value) (s:Shared),False→False:=fun _ _ h=>h
  exact (ZdO (Zgl (Zbl (Zf G_ask_folk (hr.mono (by decide)) (Ja (Za 0) Jc)))) (ZdO (Zgl (Zbl (Zf G_ask_folk (hr.mono (by decide)) (Ja (Za 1) Jc)))) (ZdO (Zgl (Je nd 2 (Ys (m:=.k) (Zm (m:=.k) T (Za 0)) (Zm (m:=.k) T (Za 1))))) (ZdO (ZmH (ZcG (Za 2) (ZgQ (m:=.k) (hm:=C_MOST_ROWS))) (Zhw (Zjx 5 XC_5 rfl (by kernel_rfl))) Zmr) (Zkx (Zb (ZiO nd 3 ZiJ) (Zb (Yj (Jo T (Za 2)) (pg_n nd 4) (Jb (ZhQ 3 (PDw.n (PDo.fl (ZdL nox nd 5 (Jo T (Za 2)) (fun _ _ _ _ _ _=>(Zf G_made_by_pairs (hr.mono (by decide)) (Ja (Za 0) (Ja (Za 1) (Ja (Za 4) (Ja (Za 5) Jc)))))))))))) (Jt 3 (Jb (Zbg (Zgq 3)))))))))))
theorem ZiR {P:Program} {w:World} {K:PySem.W.Frag} {mg:Str→Option Value} {base:Heap} {f:Addr} {fd:FuncData} (F:L2.Fun K "beside" "beside" ZQ f fd) (T:Bt mg) (C_MOST_ROWS:∃ t,mg "MOST_ROWS"=some (.int 12 t)) (G_ask_folk:Cal P w K mg base 3 "ask_folk" (rk K .k) Yt) (G_made_by_pairs:Cal P w K mg base 1 "made_by_pairs" (rk K .k) Yw) :
  L2.FnOk P w K mg base L2.CX0 4 f fd ["one","other"] (spR K rN ZbV) :=
 Yq (N:=["one","other","size","rows","ahead","behind"]) (ps:=["one","other"]) (k:=3) (m:=rN) (g:=Zgy) F Zb5 (.inl Zc4) fun cdv A outer s H E hr=>by
  have hu:=hr.units
  have nd:=Zb5.nd
  have nox:∀ (e:Value) (s:Shared),False→False:=fun _ _ h=>h
  exact (Zb (Zbl (Zf G_ask_folk (hr.mono (by decide)) (Ja (Za 0) Jc))) (Zb (Zbl (Zf G_ask_folk (hr.mono (by decide)) (Ja (Za 1) Jc))) (Zb (Je nd 2 (Ys (m:=.k) (Zm (m:=.k) T (Za 0)) (Zm (m:=.k) T (Za 1)))) (Zb (Yl (ZcG (Za 2) (ZgQ (m:=.k) (hm:=C_MOST_ROWS))) (Jb (Zcs)) Zk) (Zb (ZiO nd 3 ZiJ) (Zb (Yj (Jo T (Za 2)) (pg_n nd 4) (Jb (ZhQ 3 (PDw.n (PDo.fl (ZdL nox nd 5 (Jo T (Za 2)) (fun _ _ _ _ _ _=>(Zf G_made_by_pairs (hr.mono (by decide)) (Ja (Za 0) (Ja (Za 1) (Ja (Za 4) (Ja (Za 5) Jc)))))))))))) (Jt 3 (Jb (Zbg (Zgq 3))))))))))
noncomputable abbrev ZG:Stmt:=top 31
theorem ZcE:L2.Zi ["script","k"] ["script","k"] (L2.Yb ZG):=⟨rfl,rfl,rfl,by decide +kernel,rfl,by decide +kernel,by decide +kernel⟩
theorem Ze8 {P:Program} {w:World} {K:PySem.W.Frag} {mg:Str→Option Value} {base:Heap} {f:Addr} {fd:FuncData} (F:L2.Fun K "_law_cell_at" "_law_cell_at" ZG f fd) (T:Bt mg) :
  L2.FnOk P w K mg base L2.CX0 1 f fd ["script","k"] (spR K (rk K .k) Ji) :=
 Yq (N:=["script","k"]) (ps:=["script","k"]) (k:=0) (m:=(rk K .k)) (g:=ZcU) F ZcE (.inl (Zr _)) fun cdv A outer s H E hr=>by
  have hu:=hr.units
  have nd:=ZcE.nd
  have nox:∀ (e:Value) (s:Shared),False→False:=fun _ _ h=>h
  exact (Zb (Yl (Zez (Za 1) (Zm (m:=.k) T (Za 0))) (Jb (Zg (Zj (Za 0) (Za 1)))) Zk) (Jb (Zg (Zc (m:=.k)))))
noncomputable abbrev YX:Stmt:=top 32
theorem Zd4:L2.Zi ["cell","k","bound","left","j","stir"] ["cell","k","bound"] (L2.Yb YX):=⟨rfl,rfl,rfl,by decide +kernel,rfl,by decide +kernel,by decide +kernel⟩
theorem Zhr {P:Program} {w:World} {K:PySem.W.Frag} {mg:Str→Option Value} {base:Heap} {f:Addr} {fd:FuncData} (F:L2.Fun K "_law_draw" "_law_draw" YX f fd) (T:Bt mg) :
  L2.FnOk P w K mg base L2.CX0 1 f fd ["cell","k","bound"] (spR K (rk K .k) ZX) :=
 Yq (N:=["cell","k","bound","left","j","stir"]) (ps:=["cell","k","bound"]) (k:=0) (m:=(rk K .k)) (g:=ZeU) F Zd4 (.inl (Zr _)) fun cdv A outer s H E hr=>by
  have hu:=hr.units
  have nd:=Zd4.nd
  have nox:∀ (e:Value) (s:Shared),False→False:=fun _ _ h=>h
  exact (Zb (Yl (ZeV hu (Jk (m:=.k) (Za 0) (Zc (m:=.k))) (Zc (m:=.k))) (Zb (Je nd 3 (ZK (m:=.k) (Za 0) (Zc (m:=.k)))) (Zb (Yj (Jo T (Za 1)) (pg_n nd 4) (Jb (Je nd 3 (ZK (m:=.k) (Za 3) (Za 2))))) (Jb (Zg (Jk (m:=.k) (Za 3) (Za 2)))))) Zk) (Zb (Je nd 5 (Jk (m:=.k) (Ys (m:=.k) (Zu (Zu (Jk (m:=.k) (Za 0) (Zc (m:=.k))) (Ys (m:=.k) (Zc (m:=.k)) (Za 1))) (Zc (m:=.k))) (Zc (m:=.k))) (Zc (m:=.k)))) (Zb (Je nd 5 (Jk (m:=.k) (Ys (m:=.k) (Za 5) (Za 5)) (Zc (m:=.k)))) (Zb (Je nd 5 (Jk (m:=.k) (Ys (m:=.k) (Zu (Za 5) (Ys (m:=.k) (Zc (m:=.k)) (Zu (Za 1) (Zc (m:=.k))))) (Zc (m:=.k))) (Zc (m:=.k)))) (Jb (Zg (Jk (m:=.k) (ZK (m:=.k) (Za 5) (Zc (m:=.k))) (Za 2))))))))
noncomputable abbrev YQ:Stmt:=top 33
theorem Zdm:L2.Zi ["found"] ["found"] (L2.Yb YQ):=⟨rfl,rfl,rfl,by decide +kernel,rfl,by decide +kernel,by decide +kernel⟩
theorem Zgb {P:Program} {w:World} {K:PySem.W.Frag} {mg:Str→Option Value} {base:Heap} {f:Addr} {fd:FuncData} (F:L2.Fun K "_law_whole" "_law_whole" YQ f fd) (T:Bt mg) :
  L2.FnOk P w K mg base L2.CX0 1 f fd ["found"] (spR K (rk K .k) Zav) :=
 Yq (N:=["found"]) (ps:=["found"]) (k:=0) (m:=(rk K .k)) (g:=Zd5) F Zdm (.inl (Zr _)) fun cdv A outer s H E hr=>by
  have hu:=hr.units
  have nd:=Zdm.nd
  have nox:∀ (e:Value) (s:Shared),False→False:=fun _ _ h=>h
  exact (Jb (Zg (((ZeB (m:=.k) (Zkw (Zjw (m:=.k) T (Za 0))) (Zb4 (Zl7 (m:=.k) (Zkw (Zim (m:=.k) T (Za 0))))))))))
noncomputable abbrev YL:Stmt:=top 34
theorem ZcQ:L2.Zi ["dims","size","dim","table","a","row","b","made","worth"] ["dims"] (L2.Yb YL):=⟨rfl,rfl,rfl,by decide +kernel,rfl,by decide +kernel,by decide +kernel⟩
theorem ZfY {P:Program} {w:World} {K:PySem.W.Frag} {mg:Str→Option Value} {base:Heap} {f:Addr} {fd:FuncData} (F:L2.Fun K "_law_cycles" "_law_cycles" YL f fd) (T:Bt mg) :
  L2.FnOk P w K mg base L2.CX0 1 f fd ["dims"] (spR K (rk K .k) ZaQ) :=
 Yq (N:=["dims","size","dim","table","a","row","b","made","worth"]) (ps:=["dims"]) (k:=0) (m:=(rk K .k)) (g:=Zc3) F ZcQ (.inl (Zr _)) fun cdv A outer s H E hr=>by
  have hu:=hr.units
  have nd:=ZcQ.nd
  have nox:∀ (e:Value) (s:Shared),False→False:=fun _ _ h=>h
  exact (Zb (Je nd 1 (Zc (m:=.k))) (Zb (Yj (Zao (Za 0)) (pg_n nd 2) (Jb (Je nd 1 (Ys (m:=.k) (Za 1) (Za 2))))) (Zb (Zat nd 3 (Y7 (m:=.k) Jc)) (Zb (Yj (Jo T (Za 1)) (pg_n nd 4) (Zb (Zat nd 5 (Y7 (m:=.k) Jc)) (Zb (Yj (Jo T (Za 1)) (pg_n nd 6) (Zb (Je nd 7 (Zc (m:=.k))) (Zb (Je nd 8 (Zc (m:=.k))) (Zb (Yj (Zao (Za 0)) (pg_n nd 2) (Zb (Je nd 7 (Zu (Za 7) (Ys (m:=.k) (Jk (m:=.k) (Zu (ZK (m:=.k) (Za 4) (Za 8)) (ZK (m:=.k) (Za 6) (Za 8))) (Za 2)) (Za 8)))) (Jb (Je nd 8 (Ys (m:=.k) (Za 8) (Za 2)))))) (Jb (Za1 5 (Za 7))))))) (Jt 5 (Jb (Za1 3 (Za 5))))))) (Jt 3 (Jb (Zg (Za 3))))))))
noncomputable abbrev YF:Stmt:=top 35
theorem Zct:L2.Zi ["many","extra","table","a","row","b","turn","both","made"] ["many","extra"] (L2.Yb YF):=⟨rfl,rfl,rfl,by decide +kernel,rfl,by decide +kernel,by decide +kernel⟩
theorem Ze9 {P:Program} {w:World} {K:PySem.W.Frag} {mg:Str→Option Value} {base:Heap} {f:Addr} {fd:FuncData} (F:L2.Fun K "_law_twisted" "_law_twisted" YF f fd) (T:Bt mg) :
  L2.FnOk P w K mg base L2.CX0 1 f fd ["many","extra"] (spR K (rk K .k) Zay) :=
 Yq (N:=["many","extra","table","a","row","b","turn","both","made"]) (ps:=["many","extra"]) (k:=0) (m:=(rk K .k)) (g:=ZcT) F Zct (.inl (Zr _)) fun cdv A outer s H E hr=>by
  have hu:=hr.units
  have nd:=Zct.nd
  have nox:∀ (e:Value) (s:Shared),False→False:=fun _ _ h=>h
  exact (Zb (Zat nd 2 (Y7 (m:=.k) Jc)) (Zb (Yj (Jo T (Ys (m:=.k) (Zc (m:=.k)) (Za 0))) (pg_n nd 3) (Zb (Zat nd 4 (Y7 (m:=.k) Jc)) (Zb (Yj (Jo T (Ys (m:=.k) (Zc (m:=.k)) (Za 0))) (pg_n nd 5) (Zb (Je nd 6 (Zj (Jl (Ja (Jk (m:=.k) (Za 5) (Za 0)) (Ja (Zh4 (m:=.k) (Zc (m:=.k)) (Jk (m:=.k) (Za 5) (Za 0))) Jc))) (ZK (m:=.k) (Za 3) (Za 0)))) (Zb (Je nd 7 (Ys (m:=.k) (ZK (m:=.k) (Za 3) (Za 0)) (ZK (m:=.k) (Za 5) (Za 0)))) (Zb (Je nd 8 (Jk (m:=.k) (Zu (Zu (Jk (m:=.k) (Za 3) (Za 0)) (Za 6)) (Ys (m:=.k) (Za 1) (Za 7))) (Za 0))) (Jb (Za1 4 (Zu (Za 8) (Ys (m:=.k) (Za 0) (Jk (m:=.k) (Zu (ZK (m:=.k) (Za 3) (Za 0)) (ZK (m:=.k) (Za 5) (Za 0))) (Zc (m:=.k))))))))))) (Jt 4 (Jb (Za1 2 (Za 4))))))) (Jt 2 (Jb (Zg (Za 2))))))
noncomputable abbrev Z1:Stmt:=top 36
theorem ZdS:L2.Zi ["lines","k","longer","line","x","some","wrong","j","table","one","two"] [] (L2.Yb Z1):=⟨rfl,rfl,rfl,by decide +kernel,rfl,by decide +kernel,by decide +kernel⟩
theorem Zhn {P:Program} {w:World} {K:PySem.W.Frag} {mg:Str→Option Value} {base:Heap} {f:Addr} {fd:FuncData} (F:L2.Fun K "_law_even" "_law_even" Z1 f fd) (T:Bt mg) :
  L2.FnOk P w K mg base L2.CX0 1 f fd [] (spR K (rk K .k) ZbB) :=
 Yq (N:=["lines","k","longer","line","x","some","wrong","j","table","one","two"]) (ps:=[]) (k:=0) (m:=(rk K .k)) (g:=Ze2) F ZdS (.inl (Zr _)) fun cdv A outer s H E hr=>by
  have hu:=hr.units
  have nd:=ZdS.nd
  have nox:∀ (e:Value) (s:Shared),False→False:=fun _ _ h=>h
  exact (Zb (Je nd 0 (Jl (Ja (Jl (m:=.k) Jc) Jc))) (Zb (Yj (Jo T (Zc (m:=.k))) (pg_n nd 1) (Zb (Je nd 2 (Jl (m:=.k) Jc)) (Zb (Yj (Zao (Za 0)) (pg_n nd 3) (Jb (Je nd 2 (Zu (Za 2) (Zgv nox nd 4 (Jo T (Zc (m:=.k))) (fun _ _ _ _ _ _=>(Znm hu (Za 4) (Za 3))) (fun _ _ _ _ _ _=>(Zu (Za 3) (Jl (Ja (Za 4) Jc))))))))) (Jb (Je nd 0 (Za 2)))))) (Zb (Zat nd 5 (Y7 (m:=.k) Jc)) (Zb (Yj (Zao (Za 0)) (pg_n nd 3) (Zb (Je nd 6 (Zc (m:=.k))) (Zb (Yj (Jo T (Zc (m:=.k))) (pg_n nd 7) (Jb (Je nd 6 (Zu (Za 6) (Zm (m:=.k) T (Zgv nox nd 1 (Jo T (Za 7)) (fun _ _ _ _ _ _=>(ZcG (Zj (Za 3) (Za 1)) (Zj (Za 3) (Za 7)))) (fun _ _ _ _ _ _=>(Za 1)))))))) (Jb (Yl (ZeV hu (Jk (m:=.k) (Za 6) (Zc (m:=.k))) (Zc (m:=.k))) (Jb (Za1 5 (Za 3))) Zk))))) (Zb (Zat nd 8 (Y7 (m:=.k) Jc)) (Jt 5 (Zb (Yj (Zao (Za 5)) (pg_n nd 9) (Jt 5 (Jb (Za1 8 (Zbc nox nd 10 (Zao (Za 5)) (fun _ _ _ _ _ _=>(ZgK (m:=.k) hu (ZdF 5) (Zbc nox nd 4 (Zao (Za 9)) (fun _ _ _ _ _ _=>(Zj (Za 10) (Za 4))))))))))) (Jt 8 (Jb (Zg (Za 8)))))))))))
noncomputable abbrev JX:Stmt:=top 37
theorem Zd0:L2.Zi ["kind","dims","pair"] ["kind"] (L2.Yb JX):=⟨rfl,rfl,rfl,by decide +kernel,rfl,by decide +kernel,by decide +kernel⟩
theorem Zhk {P:Program} {w:World} {K:PySem.W.Frag} {mg:Str→Option Value} {base:Heap} {f:Addr} {fd:FuncData} (F:L2.Fun K "_law_base" "_law_base" JX f fd) (T:Bt mg) (G_law_even:Cal P w K mg base 1 "_law_even" (rk K .k) ZbB) (G_law_cycles:Cal P w K mg base 1 "_law_cycles" (rk K .k) ZaQ) (G_law_twisted:Cal P w K mg base 1 "_law_twisted" (rk K .k) Zay) :
  L2.FnOk P w K mg base L2.CX0 2 f fd ["kind"] (spR K (rk K .k) Jr) :=
 Yq (N:=["kind","dims","pair"]) (ps:=["kind"]) (k:=1) (m:=(rk K .k)) (g:=ZeO) F Zd0 (.inl (Zr _)) fun cdv A outer s H E hr=>by
  have hu:=hr.units
  have nd:=Zd0.nd
  have nox:∀ (e:Value) (s:Shared),False→False:=fun _ _ h=>h
  exact (Zb (Je nd 1 (Jl (Ja (Jl (Ja (Zc (m:=.k)) Jc)) (Ja (Jl (Ja (Zc (m:=.k)) Jc)) (Ja (Jl (Ja (Zc (m:=.k)) Jc)) (Ja (Jl (Ja (Zc (m:=.k)) Jc)) (Ja (Jl (Ja (Zc (m:=.k)) (Ja (Zc (m:=.k)) Jc))) (Ja (Jl (Ja (Zc (m:=.k)) Jc)) (Ja (Jl (Ja (Zc (m:=.k)) Jc)) (Ja (Jl (Ja (Zc (m:=.k)) Jc)) (Ja (Jl (Ja (Zc (m:=.k)) Jc)) Jc))))))))))) (Zb (Je nd 1 (Zu (Za 1) (Jl (Ja (Jl (Ja (Zc (m:=.k)) (Ja (Zc (m:=.k)) Jc))) (Ja (Jl (Ja (Zc (m:=.k)) (Ja (Zc (m:=.k)) (Ja (Zc (m:=.k)) Jc)))) (Ja (Jl (Ja (Zc (m:=.k)) Jc)) (Ja (Jl (Ja (Zc (m:=.k)) (Ja (Zc (m:=.k)) Jc))) (Ja (Jl (Ja (Zc (m:=.k)) Jc)) (Ja (Jl (Ja (Zc (m:=.k)) Jc)) (Ja (Jl (Ja (Zc (m:=.k)) Jc)) (Ja (Jl (Ja (Zc (m:=.k)) (Ja (Zc (m:=.k)) Jc))) Jc))))))))))) (Zb (Yl (Zez (Za 0) (Zc (m:=.k))) (Jb (Zg (Zf G_law_cycles (hr.mono (by decide)) (Ja (Zj (Za 1) (Za 0)) Jc)))) Zk) (Zb (Yl (Zez (Za 0) (Zc (m:=.k))) (Zb (Je nd 2 (Zj (Jl (Ja (ZaV (Ja (Zc (m:=.k)) (Ja (Zc (m:=.k)) Jc))) (Ja (ZaV (Ja (Zc (m:=.k)) (Ja (Zc (m:=.k)) Jc))) (Ja (ZaV (Ja (Zc (m:=.k)) (Ja (Zc (m:=.k)) Jc))) (Ja (ZaV (Ja (Zc (m:=.k)) (Ja (Zc (m:=.k)) Jc))) (Ja (ZaV (Ja (Zc (m:=.k)) (Ja (Zc (m:=.k)) Jc))) (Ja (ZaV (Ja (Zc (m:=.k)) (Ja (Zc (m:=.k)) Jc))) Jc))))))) (Zh4 (m:=.k) (Za 0) (Zc (m:=.k))))) (Jb (Zg (Zf G_law_twisted (hr.mono (by decide)) (Ja (Zj (Za 2) (Zc (m:=.k))) (Ja (Zj (Za 2) (Zc (m:=.k))) Jc)))))) Zk) (Jb (Zg (Zkr G_law_even (hr.mono (by decide)))))))))
noncomputable abbrev YD:Stmt:=top 38
theorem Zcj:L2.Zi ["base","cell","names","k","table","row","a","b"] ["base","cell"] (L2.Yb YD):=⟨rfl,rfl,rfl,by decide +kernel,rfl,by decide +kernel,by decide +kernel⟩
theorem Zee:∀ env env',Zaw env≠some (.nx,env'):=fun env env' h=>by
 unfold Zaw at h
 obtain ⟨e1,_,h⟩:=Zby h
 obtain ⟨e2,_,h⟩:=Zby h
 obtain ⟨e3,_,h⟩:=Zby h
 obtain ⟨e4,_,h⟩:=Zby h
 unfold ZdA at h
 split at h <;> cases h
theorem Zfu {P:Program} {w:World} {K:PySem.W.Frag} {mg:Str→Option Value} {base:Heap} {f:Addr} {fd:FuncData} (F:L2.Fun K "_law_renamed" "_law_renamed" YD f fd) (T:Bt mg) (G_law_draw:Cal P w K mg base 1 "_law_draw" (rk K .k) ZX) :
  L2.FnOk P w K mg base L2.CX0 2 f fd ["base","cell"] (spR K (rT K) Zv) :=
 Yq (N:=["base","cell","names","k","table","row","a","b"]) (ps:=["base","cell"]) (k:=1) (m:=(rT K)) (g:=Zaw) F Zcj (.inr Zee) fun cdv A outer s H E hr=>by
  have hu:=hr.units
  have nd:=Zcj.nd
  have nox:∀ (e:Value) (s:Shared),False→False:=fun _ _ h=>h
  exact (Zb (Zat nd 2 (Y7 (m:=.k) Jc)) (Zb (Yj (Jo T (Zm (m:=.k) T (Za 0))) (pg_n nd 3) (Jb (Zmm 2 (Jk (m:=.k) (Zf G_law_draw (hr.mono (by decide)) (Ja (Za 1) (Ja (Za 3) (Ja (Zc (m:=.k)) Jc)))) (Zu (Za 3) (Zc (m:=.k)))) (Za 3)))) (Zb (ZlH nox nd 4 5 (Zao (Za 0)) (fun _ _ _ _ _ _=>(Zht T (Za 5))) (fun _ _ h=>ZfE h)) (Zb (Yj (Jo T (Zm (m:=.k) T (Za 0))) (pg_n nd 6) (Jb (Yj (Jo T (Zm (m:=.k) T (Za 0))) (pg_n nd 7) (Jb (ZlI 4 (Zj (ZdF 2) (Za 6)) (Zj (ZdF 2) (Za 7)) (Zm8 (m:=.k) (Zj (ZdF 2) (Zj (Zj (Za 0) (Za 6)) (Za 7))))))))) (Jb (ZkX 4))))))
noncomputable abbrev JG:Stmt:=top 39
theorem Zcm:L2.Zi ["script","first"] ["script","first"] (L2.Yb JG):=⟨rfl,rfl,rfl,by decide +kernel,rfl,by decide +kernel,by decide +kernel⟩
theorem Zer:∀ env env',ZaA env≠some (.nx,env'):=fun env env' h=>by
 unfold ZaA sRet at h
 split at h <;> cases h
theorem Zfo {P:Program} {w:World} {K:PySem.W.Frag} {mg:Str→Option Value} {base:Heap} {f:Addr} {fd:FuncData} (F:L2.Fun K "_law_folk_by" "_law_folk_by" JG f fd) (T:Bt mg) (G_law_renamed:Cal P w K mg base 2 "_law_renamed" (rT K) Zv) (G_law_base:Cal P w K mg base 2 "_law_base" (rk K .k) Jr) (G_law_cell_at:Cal P w K mg base 1 "_law_cell_at" (rk K .k) Ji) :
  L2.FnOk P w K mg base L2.CX0 3 f fd ["script","first"] (spR K (rT K) ZW) :=
 Yq (N:=["script","first"]) (ps:=["script","first"]) (k:=2) (m:=(rT K)) (g:=ZaA) F Zcm (.inr Zer) fun cdv A outer s H E hr=>by
  have hu:=hr.units
  have nd:=Zcm.nd
  have nox:∀ (e:Value) (s:Shared),False→False:=fun _ _ h=>h
  exact (Jb (ZjB (ZbM G_law_renamed (hr.mono (by decide)) (Ja (Zf G_law_base (hr.mono (by decide)) (Ja (Jk (m:=.k) (Zf G_law_cell_at (hr.mono (by decide)) (Ja (Za 0) (Ja (Za 1) Jc))) (Zc (m:=.k))) Jc)) (Ja (Zf G_law_cell_at (hr.mono (by decide)) (Ja (Za 0) (Ja (Zu (Za 1) (Zc (m:=.k))) Jc))) Jc)))))
noncomputable abbrev ZR:Stmt:=top 40
theorem Zdg:L2.Zi ["found","row","number"] ["found"] (L2.Yb ZR):=⟨rfl,rfl,rfl,by decide +kernel,rfl,by decide +kernel,by decide +kernel⟩
theorem Zgp {P:Program} {w:World} {K:PySem.W.Frag} {mg:Str→Option Value} {base:Heap} {f:Addr} {fd:FuncData} (F:L2.Fun K "_law_lists" "_law_lists" ZR f fd) (T:Bt mg) (G_law_whole:Cal P w K mg base 1 "_law_whole" (rk K .k) Zav) :
  L2.FnOk P w K mg base L2.CX0 2 f fd ["found"] (spR K (rk K .k) Zar) :=
 Yq (N:=["found","row","number"]) (ps:=["found"]) (k:=1) (m:=(rk K .k)) (g:=ZdT) F Zdg (.inl (Zr _)) fun cdv A outer s H E hr=>by
  have hu:=hr.units
  have nd:=Zdg.nd
  have nox:∀ (e:Value) (s:Shared),False→False:=fun _ _ h=>h
  exact (Zb (Yl (ZaT (Zcd (ZeE (m:=.k) T (Za 0)))) (Jb (Zg (Zbz (m:=.k)))) Zk) (Zb (Yj (Zao (Za 0)) (pg_n nd 1) (Jb (Yl (pw_t (ZdB (ZaT (Zcd (ZeE (m:=.k) T (Za 1)))) (ZbY (ZaT (Zcd (ZgO (m:=.k) T (Zbc nox nd 2 (Zao (Za 1)) (fun _ _ _ _ _ _=>(Zf G_law_whole (hr.mono (by decide)) (Ja (Za 2) Jc)))))))))) (Jb (Zg (Zbz (m:=.k)))) Zk))) (Jb (Zg (Zbz (m:=.k))))))
noncomputable abbrev JZ:Stmt:=top 41
theorem Zd7:L2.Zi ["table","row"] ["table"] (L2.Yb JZ):=⟨rfl,rfl,rfl,by decide +kernel,rfl,by decide +kernel,by decide +kernel⟩
theorem Zhl {P:Program} {w:World} {K:PySem.W.Frag} {mg:Str→Option Value} {base:Heap} {f:Addr} {fd:FuncData} (F:L2.Fun K "_law_copy" "_law_copy" JZ f fd) (T:Bt mg) :
  L2.FnOk P w K mg base L2.CX0 1 f fd ["table"] (spR K (rk K .k) Zaj) :=
 Yq (N:=["table","row"]) (ps:=["table"]) (k:=0) (m:=(rk K .k)) (g:=Zex) F Zd7 (.inl (Zr _)) fun cdv A outer s H E hr=>by
  have hu:=hr.units
  have nd:=Zd7.nd
  have nox:∀ (e:Value) (s:Shared),False→False:=fun _ _ h=>h
  exact (Jb (Zg (Zbc nox nd 1 (Zao (Za 0)) (fun _ _ _ _ _ _=>(ZkY T (Za 1))))))
noncomputable abbrev YG:Stmt:=top 42
theorem Zcv:L2.Zi ["e","some"] ["e"] (L2.Yb YG):=⟨rfl,rfl,rfl,by decide +kernel,rfl,by decide +kernel,by decide +kernel⟩
theorem Zfq {P:Program} {w:World} {K:PySem.W.Frag} {mg:Str→Option Value} {base:Heap} {f:Addr} {fd:FuncData} (F:L2.Fun K "_law_word_of" "_law_word_of" YG f fd) (T:Bt mg) (hxv:mg "ValueError"=none) (XF:Zb1 K [5]) :
  FnW P w K mg base 1 f fd "e" YK :=
 ZmA (N:=["e","some"]) (k:=0) (g:=Zbw) F Zcv fun cdv A outer s H hr=>by
  have hu:=hr.units
  have nd:=Zcv.nd
  exact (Zb (Je nd 1 (Jl (Ja (Zb0 (m:=.k) 0 0 T XF (by decide) (by kernel_rfl)) (Ja (Zb0 (m:=.k) 0 1 T XF (by decide) (by kernel_rfl)) (Ja (Zb0 (m:=.k) 0 2 T XF (by decide) (by kernel_rfl)) Jc))))) (Zb (Je nd 1 (Zu (Za 1) (Jl (Ja (Zb0 (m:=.k) 0 3 T XF (by decide) (by kernel_rfl)) (Ja (Zb0 (m:=.k) 0 4 T XF (by decide) (by kernel_rfl)) (Ja (Zb0 (m:=.k) 0 5 T XF (by decide) (by kernel_rfl)) Jc)))))) (Zb (Je nd 1 (Zu (Za 1) (Jl (Ja (Zb0 (m:=.k) 0 6 T XF (by decide) (by kernel_rfl)) Jc)))) (Zb (Yl (pw_t (ZdB (Za5 hu (Zj6 (m:=.k) hu (Za 1) (Zbz (m:=.k))) (Zc (m:=.k))) (ZbY (ZaT (Zcd (ZmE (m:=.k) 0 T hxv XF)))))) (Jb (Zg (J8 (m:=.k)))) Zk) (Jb (Zg (Zj (Jl (Ja (J8 (m:=.k)) (Ja (J8 (m:=.k)) (Ja (J8 (m:=.k)) (Ja (J8 (m:=.k)) (Ja (J8 (m:=.k)) (Ja (J8 (m:=.k)) (Ja (J8 (m:=.k)) Jc)))))))) (ZgK (m:=.k) hu (Za 1) (Zbz (m:=.k))))))))))
theorem Zkg:∀ c d,YK c=some d→c ∈ ([5]:List Nat):=fun c d h=>by
 cases hc:decide (c ∈ ([5]:List Nat)) with
 | true=>exact of_decide_eq_true hc
 | false =>
  have hc:=of_decide_eq_false hc
  simp only [YK,runW,Zbw,sSeq,sSet,eLst,evs,eIsX,List.getElem?_cons_zero,if_neg hc] at h
  cases h
noncomputable abbrev Y0:Stmt:=top 43
theorem ZdV:L2.Zi ["one","other","e"] ["one","other"] (L2.Yb Y0):=⟨rfl,rfl,rfl,by decide +kernel,rfl,by decide +kernel,by decide +kernel⟩
theorem Zhe {P:Program} {w:World} {K:PySem.W.Frag} {mg:Str→Option Value} {base:Heap} {f:Addr} {fd:FuncData} (F:L2.Fun K "_law_told" "_law_told" Y0 f fd) (T:Bt mg) (XF:Zb1 K [5]) (Gx_beside:CalX P w K mg base 4 "beside" rN ZP) (G_law_word_of:CalW P w K mg base 1 "_law_word_of" YK) :
  L2.FnOk P w K mg base L2.CX0 5 f fd ["one","other"] (spR K rN YM) :=
 Yq (N:=["one","other","e"]) (ps:=["one","other"]) (k:=4) (m:=rN) (g:=ZbD) F ZdV (.inl Zc4) fun cdv A outer s H E hr=>by
  have hu:=hr.units
  have nd:=ZdV.nd
  have nox:∀ (e:Value) (s:Shared),False→False:=fun _ _ h=>h
  exact (Jb (ZmP 2 rfl rfl nd XF Zkg Zmf G_law_word_of (hr.mono (by decide)) (fun E=>(Zhw (ZkI Zlm Gx_beside (hr.mono (by decide)) (Ja (Za 0) (Ja (Za 1) Jc)))))))
noncomputable abbrev J0:Stmt:=top 44
theorem ZdW:L2.Zi ["one","other","size","table","a","row","b","made"] ["one","other"] (L2.Yb J0):=⟨rfl,rfl,rfl,by decide +kernel,rfl,by decide +kernel,by decide +kernel⟩
theorem Zhq {P:Program} {w:World} {K:PySem.W.Frag} {mg:Str→Option Value} {base:Heap} {f:Addr} {fd:FuncData} (F:L2.Fun K "_law_both" "_law_both" J0 f fd) (T:Bt mg) :
  L2.FnOk P w K mg base L2.CX0 1 f fd ["one","other"] (spR K (rk K .k) Za3) :=
 Yq (N:=["one","other","size","table","a","row","b","made"]) (ps:=["one","other"]) (k:=0) (m:=(rk K .k)) (g:=Ze0) F ZdW (.inl (Zr _)) fun cdv A outer s H E hr=>by
  have hu:=hr.units
  have nd:=ZdW.nd
  have nox:∀ (e:Value) (s:Shared),False→False:=fun _ _ h=>h
  exact (Zb (Je nd 2 (Zm (m:=.k) T (Za 0))) (Zb (Zat nd 3 (Y7 (m:=.k) Jc)) (Zb (Yj (Jo T (Ys (m:=.k) (Za 2) (Zm (m:=.k) T (Za 1)))) (pg_n nd 4) (Zb (Zat nd 5 (Y7 (m:=.k) Jc)) (Zb (Yj (Jo T (Ys (m:=.k) (Za 2) (Zm (m:=.k) T (Za 1)))) (pg_n nd 6) (Zb (Je nd 7 (Zj (Zj (Za 0) (Jk (m:=.k) (Za 4) (Za 2))) (Jk (m:=.k) (Za 6) (Za 2)))) (Jb (Za1 5 (Zu (Za 7) (Ys (m:=.k) (Za 2) (Zj (Zj (Za 1) (ZK (m:=.k) (Za 4) (Za 2))) (ZK (m:=.k) (Za 6) (Za 2))))))))) (Jt 5 (Jb (Za1 3 (Za 5))))))) (Jt 3 (Jb (Zg (Za 3)))))))
noncomputable abbrev Za4:Stmt:=top 45
theorem Zi9:L2.Zi ["script","one","other","handed","found","due","a","b","times"] ["script"] (L2.Yb Za4):=⟨rfl,rfl,rfl,by decide +kernel,rfl,by decide +kernel,by decide +kernel⟩
theorem Zmh {P:Program} {w:World} {K:PySem.W.Frag} {mg:Str→Option Value} {base:Heap} {f:Addr} {fd:FuncData} (F:L2.Fun K "law" "law" Za4 f fd) (T:Bt mg) (G_law_folk_by:Cal P w K mg base 3 "_law_folk_by" (rT K) ZW) (G_law_renamed:Cal P w K mg base 2 "_law_renamed" (rT K) Zv) (G_law_told:Cal P w K mg base 5 "_law_told" rN YM) (G_law_both:Cal P w K mg base 1 "_law_both" (rk K .k) Za3) (G_law_base:Cal P w K mg base 2 "_law_base" (rk K .k) Jr) (G_law_cell_at:Cal P w K mg base 1 "_law_cell_at" (rk K .k) Ji) (G_law_copy:Cal P w K mg base 1 "_law_copy" (rk K .k) Zaj) (G_order:Cal P w K mg base 4 "order" (rk K .k) Za8) (G_renaming:Cal P w K mg base 16 "renaming" rN ZaM) (G_law_lists:Cal P w K mg base 2 "_law_lists" (rk K .k) Zar) (G_flaw:Cal P w K mg base 3 "flaw" (rk K .k) Zdf) (G_beside:Cal P w K mg base 4 "beside" rN ZbV) :
  L2.FnOk P w K mg base L2.CX0 17 f fd ["script"] (spR K (rk K .k) ZeC) :=
 Yq (N:=["script","one","other","handed","found","due","a","b","times"]) (ps:=["script"]) (k:=16) (m:=(rk K .k)) (g:=Zkz) F Zi9 (.inl (Zr _)) fun cdv A outer s H E hr=>by
  have hu:=hr.units
  have nd:=Zi9.nd
  have nox:∀ (e:Value) (s:Shared),False→False:=fun _ _ h=>h
  exact (Zb (Je nd 1 ((PDt.k (ZbM G_law_folk_by (hr.mono (by decide)) (Ja (Za 0) (Ja (Zc (m:=.k)) Jc)))))) (Zb (Je nd 2 ((PDt.k (ZbM G_law_renamed (hr.mono (by decide)) (Ja (Zf G_law_base (hr.mono (by decide)) (Ja (Jk (m:=.k) (Zf G_law_cell_at (hr.mono (by decide)) (Ja (Za 0) (Ja (Zc (m:=.k)) Jc))) (Zc (m:=.k))) Jc)) (Ja (Zf G_law_cell_at (hr.mono (by decide)) (Ja (Za 0) (Ja (Zc (m:=.k)) Jc))) Jc)))))) (Zb (Yl (ZcG (Jk (m:=.k) (Zf G_law_cell_at (hr.mono (by decide)) (Ja (Za 0) (Ja (Zc (m:=.k)) Jc))) (Zc (m:=.k))) (Zc (m:=.k))) (Zb (Je nd 1 ((PDt.k (ZbM G_law_renamed (hr.mono (by decide)) (Ja (Zf G_law_base (hr.mono (by decide)) (Ja (Jk (m:=.k) (Zf G_law_cell_at (hr.mono (by decide)) (Ja (Za 0) (Ja (Zc (m:=.k)) Jc))) (Zc (m:=.k))) Jc)) (Ja (Zf G_law_cell_at (hr.mono (by decide)) (Ja (Za 0) (Ja (Zc (m:=.k)) Jc))) Jc)))))) (Jb (Je nd 2 ((PDt.k (ZbM G_law_renamed (hr.mono (by decide)) (Ja (Zf G_law_base (hr.mono (by decide)) (Ja (Jk (m:=.k) (Zf G_law_cell_at (hr.mono (by decide)) (Ja (Za 0) (Ja (Zc (m:=.k)) Jc))) (Zc (m:=.k))) Jc)) (Ja (Zf G_law_cell_at (hr.mono (by decide)) (Ja (Za 0) (Ja (Zc (m:=.k)) Jc))) Jc)))))))) Zk) (Zb (Je nd 3 (Jl (Ja (Zf G_law_copy (hr.mono (by decide)) (Ja (Za 1) Jc)) (Ja (Zf G_law_copy (hr.mono (by decide)) (Ja (Za 2) Jc)) Jc)))) (Zb (Zm9 nd 4 (ZbG G_law_told (hr.mono (by decide)) (Ja (Zj (Za 3) (Zc (m:=.k))) (Ja (Zj (Za 3) (Zc (m:=.k))) Jc)))) (Zb (Yl (Za5 hu (Za 3) (Jl (Ja (Za 1) (Ja (Za 2) Jc)))) (Jb (Zg (Zbz (m:=.k)))) Zk) (Zb (Yl (ZcG (Ys (m:=.k) (Zm (m:=.k) T (Za 1)) (Zm (m:=.k) T (Za 2))) (Zc (m:=.k))) (Jb (Zg (ZlQ (m:=.k) 4 ((ZeS (m:=.k) hu (Za 4) (J8 (m:=.k))))))) Zk) (Zb (Je nd 5 (Zf G_law_both (hr.mono (by decide)) (Ja (Za 1) (Ja (Za 2) Jc)))) (Zb (Yl (ZmD 4 (pw_t (ZdB (ZaT (Zcd (Zf G_law_lists (hr.mono (by decide)) (Ja (Za 4) Jc)))) (ZdB (Za5 hu (Za 4) (Za 5)) (ZbY (ZcA (Zf G_flaw (hr.mono (by decide)) (Ja (Za 4) Jc)))))))) (Jb (Zg (Zbz (m:=.k)))) Zk) (Zb (Je nd 6 (Jk (m:=.k) (Zf G_law_cell_at (hr.mono (by decide)) (Ja (Za 0) (Ja (Zc (m:=.k)) Jc))) (Zm (m:=.k) T (Za 1)))) (Zb (Je nd 7 (Jk (m:=.k) (Zf G_law_cell_at (hr.mono (by decide)) (Ja (Za 0) (Ja (Zc (m:=.k)) Jc))) (Zm (m:=.k) T (Za 2)))) (Zb (Je nd 8 (Zc (m:=.k))) (Zb (ZeQ 1000 (pw_t (ZdB (Za5 hu (Jk (m:=.k) (Za 8) (Zf G_order (hr.mono (by decide)) (Ja (Za 1) (Ja (Za 6) Jc)))) (Zc (m:=.k))) (ZbY (Za5 hu (Jk (m:=.k) (Za 8) (Zf G_order (hr.mono (by decide)) (Ja (Za 2) (Ja (Za 7) Jc)))) (Zc (m:=.k)))))) (Jb (Je nd 8 (Zu (Za 8) (Zc (m:=.k)))))) (Zb (Yl (Za5 hu (Zf G_order (hr.mono (by decide)) (Ja (Za 5) (Ja (Zu (Za 6) (Ys (m:=.k) (Zm (m:=.k) T (Za 1)) (Za 7))) Jc))) (Za 8)) (Jb (Zg (Zbz (m:=.k)))) Zk) (Zb (Yl (Zg1 (PDn.d (PDw.n (ZbG G_renaming (hr.mono (by decide)) (Ja (Za 5) (Ja (PDn.d (PDw.n (ZbG G_beside (hr.mono (by decide)) (Ja (Za 2) (Ja (Za 1) Jc))))) Jc)))))) (Jb (Zg (Zbz (m:=.k)))) Zk) (Zb (ZjV 4) (Jb (Zg (((ZeB (m:=.k) (ZeS (m:=.k) hu (PDn.d (PDw.n (ZbG G_law_told (hr.mono (by decide)) (Ja (Zj (Za 3) (Zc (m:=.k))) (Ja (Zj (Za 3) (Zc (m:=.k))) Jc))))) (Za 5)) (Zb4 (ZeS (m:=.k) hu (Za 3) (Jl (Ja (Za 1) (Ja (Za 2) Jc))))))))))))))))))))))))))
end PV
set_option linter.all false
set_option Elab.async false
set_option maxRecDepth 100000
set_option maxHeartbeats 4000000
namespace PV
open PySem PySem.Spec PyProof.Rows
open L2 (V Hp HO Same Cx)
theorem bnd1 {K:PySem.W.Frag}{x qual:Str}{st:Stmt}{f:Addr}{fd:FuncData}{p0:Str}(F:L2.Fun K x qual st f fd)
  (h:∀ (kV doc pm:Value) (an:Option Addr) (cdv ct:Value) (a0:Value),bindArgs (PySem.W.fnOf x qual (L2.Jg st) (L2.Jf st) (L2.Yb st) .none kV doc pm an cdv ct) ⟨[a0],[]⟩=pure ([p0].zip [a0])):L2.Binds K fd [p0] [] :=
 F.binds fun _ _ _ _ _ _ us hl=>match us,hl with | [a0],_=>h _ _ _ _ _ _ a0
theorem bnd2 {K:PySem.W.Frag}{x qual:Str}{st:Stmt}{f:Addr}{fd:FuncData}{p0 p1:Str}(F:L2.Fun K x qual st f fd)
  (h:∀ (kV doc pm:Value) (an:Option Addr) (cdv ct:Value) (a0 a1:Value),bindArgs (PySem.W.fnOf x qual (L2.Jg st) (L2.Jf st) (L2.Yb st) .none kV doc pm an cdv ct) ⟨[a0,a1],[]⟩=pure ([p0,p1].zip [a0,a1])):L2.Binds K fd [p0,p1] [] :=
 F.binds fun _ _ _ _ _ _ us hl=>match us,hl with | [a0,a1],_=>h _ _ _ _ _ _ a0 a1
theorem bnd3 {K:PySem.W.Frag}{x qual:Str}{st:Stmt}{f:Addr}{fd:FuncData}{p0 p1 p2:Str}(F:L2.Fun K x qual st f fd)
  (h:∀ (kV doc pm:Value) (an:Option Addr) (cdv ct:Value) (a0 a1 a2:Value),bindArgs (PySem.W.fnOf x qual (L2.Jg st) (L2.Jf st) (L2.Yb st) .none kV doc pm an cdv ct) ⟨[a0,a1,a2],[]⟩=pure ([p0,p1,p2].zip [a0,a1,a2])):L2.Binds K fd [p0,p1,p2] [] :=
 F.binds fun _ _ _ _ _ _ us hl=>match us,hl with | [a0,a1,a2],_=>h _ _ _ _ _ _ a0 a1 a2
theorem bnd4 {K:PySem.W.Frag}{x qual:Str}{st:Stmt}{f:Addr}{fd:FuncData}{p0 p1 p2 p3:Str}(F:L2.Fun K x qual st f fd)
  (h:∀ (kV doc pm:Value) (an:Option Addr) (cdv ct:Value) (a0 a1 a2 a3:Value),bindArgs (PySem.W.fnOf x qual (L2.Jg st) (L2.Jf st) (L2.Yb st) .none kV doc pm an cdv ct) ⟨[a0,a1,a2,a3],[]⟩=pure ([p0,p1,p2,p3].zip [a0,a1,a2,a3])):L2.Binds K fd [p0,p1,p2,p3] [] :=
 F.binds fun _ _ _ _ _ _ us hl=>match us,hl with | [a0,a1,a2,a3],_=>h _ _ _ _ _ _ a0 a1 a2 a3
theorem bnd5 {K:PySem.W.Frag}{x qual:Str}{st:Stmt}{f:Addr}{fd:FuncData}{p0 p1 p2 p3 p4:Str}(F:L2.Fun K x qual st f fd)
  (h:∀ (kV doc pm:Value) (an:Option Addr) (cdv ct:Value) (a0 a1 a2 a3 a4:Value),bindArgs (PySem.W.fnOf x qual (L2.Jg st) (L2.Jf st) (L2.Yb st) .none kV doc pm an cdv ct) ⟨[a0,a1,a2,a3,a4],[]⟩=pure ([p0,p1,p2,p3,p4].zip [a0,a1,a2,a3,a4])):L2.Binds K fd [p0,p1,p2,p3,p4] [] :=
 F.binds fun _ _ _ _ _ _ us hl=>match us,hl with | [a0,a1,a2,a3,a4],_=>h _ _ _ _ _ _ a0 a1 a2 a3 a4
theorem all_mk {l:PySem.W.OpenLaw} {w:World} {K:PySem.W.Frag} {h:Heap} {mg:Str→Option Value} {fa:Addr} (X:K.In h) (G:h.Ns mainGlobals mg) (hfa:mg "law"=some (.ref fa))
  {f_is_element:Addr} {od_is_element an_is_element:Option Addr} {sl_is_element:Array (Option Value)} {oc_is_element kV_is_element dc_is_element pm_is_element cd_is_element ct_is_element:Value}
  (a_is_element:PySem.W.nsIn K mainGlobals "is_element"=some (some (.ref f_is_element))) (l_is_element:K.lookup f_is_element=some ⟨oc_is_element,od_is_element,.func (PySem.W.fnOf "is_element" "is_element" (L2.Jg JL) (L2.Jf JL) (L2.Yb JL) .none kV_is_element dc_is_element pm_is_element an_is_element cd_is_element ct_is_element),sl_is_element⟩) (c_is_element:PySem.W.codeIn K cd_is_element "is_element"=true) (k_is_element:PySem.W.keepIn K (.ref f_is_element)=true)
  {f_ask_table:Addr} {od_ask_table an_ask_table:Option Addr} {sl_ask_table:Array (Option Value)} {oc_ask_table kV_ask_table dc_ask_table pm_ask_table cd_ask_table ct_ask_table:Value}
  (a_ask_table:PySem.W.nsIn K mainGlobals "ask_table"=some (some (.ref f_ask_table))) (l_ask_table:K.lookup f_ask_table=some ⟨oc_ask_table,od_ask_table,.func (PySem.W.fnOf "ask_table" "ask_table" (L2.Jg ZS) (L2.Jf ZS) (L2.Yb ZS) .none kV_ask_table dc_ask_table pm_ask_table an_ask_table cd_ask_table ct_ask_table),sl_ask_table⟩) (c_ask_table:PySem.W.codeIn K cd_ask_table "ask_table"=true) (k_ask_table:PySem.W.keepIn K (.ref f_ask_table)=true)
  {f_find_three:Addr} {od_find_three an_find_three:Option Addr} {sl_find_three:Array (Option Value)} {oc_find_three kV_find_three dc_find_three pm_find_three cd_find_three ct_find_three:Value}
  (a_find_three:PySem.W.nsIn K mainGlobals "find_three"=some (some (.ref f_find_three))) (l_find_three:K.lookup f_find_three=some ⟨oc_find_three,od_find_three,.func (PySem.W.fnOf "find_three" "find_three" (L2.Jg ZL) (L2.Jf ZL) (L2.Yb ZL) .none kV_find_three dc_find_three pm_find_three an_find_three cd_find_three ct_find_three),sl_find_three⟩) (c_find_three:PySem.W.codeIn K cd_find_three "find_three"=true) (k_find_three:PySem.W.keepIn K (.ref f_find_three)=true)
  {f_find_rest:Addr} {od_find_rest an_find_rest:Option Addr} {sl_find_rest:Array (Option Value)} {oc_find_rest kV_find_rest dc_find_rest pm_find_rest cd_find_rest ct_find_rest:Value}
  (a_find_rest:PySem.W.nsIn K mainGlobals "find_rest"=some (some (.ref f_find_rest))) (l_find_rest:K.lookup f_find_rest=some ⟨oc_find_rest,od_find_rest,.func (PySem.W.fnOf "find_rest" "find_rest" (L2.Jg YS) (L2.Jf YS) (L2.Yb YS) .none kV_find_rest dc_find_rest pm_find_rest an_find_rest cd_find_rest ct_find_rest),sl_find_rest⟩) (c_find_rest:PySem.W.codeIn K cd_find_rest "find_rest"=true) (k_find_rest:PySem.W.keepIn K (.ref f_find_rest)=true)
  {f_find_back:Addr} {od_find_back an_find_back:Option Addr} {sl_find_back:Array (Option Value)} {oc_find_back kV_find_back dc_find_back pm_find_back cd_find_back ct_find_back:Value}
  (a_find_back:PySem.W.nsIn K mainGlobals "find_back"=some (some (.ref f_find_back))) (l_find_back:K.lookup f_find_back=some ⟨oc_find_back,od_find_back,.func (PySem.W.fnOf "find_back" "find_back" (L2.Jg JQ) (L2.Jf JQ) (L2.Yb JQ) .none kV_find_back dc_find_back pm_find_back an_find_back cd_find_back ct_find_back),sl_find_back⟩) (c_find_back:PySem.W.codeIn K cd_find_back "find_back"=true) (k_find_back:PySem.W.keepIn K (.ref f_find_back)=true)
  {f_find_flaw:Addr} {od_find_flaw an_find_flaw:Option Addr} {sl_find_flaw:Array (Option Value)} {oc_find_flaw kV_find_flaw dc_find_flaw pm_find_flaw cd_find_flaw ct_find_flaw:Value}
  (a_find_flaw:PySem.W.nsIn K mainGlobals "find_flaw"=some (some (.ref f_find_flaw))) (l_find_flaw:K.lookup f_find_flaw=some ⟨oc_find_flaw,od_find_flaw,.func (PySem.W.fnOf "find_flaw" "find_flaw" (L2.Jg JT) (L2.Jf JT) (L2.Yb JT) .none kV_find_flaw dc_find_flaw pm_find_flaw an_find_flaw cd_find_flaw ct_find_flaw),sl_find_flaw⟩) (c_find_flaw:PySem.W.codeIn K cd_find_flaw "find_flaw"=true) (k_find_flaw:PySem.W.keepIn K (.ref f_find_flaw)=true)
  {f_flaw:Addr} {od_flaw an_flaw:Option Addr} {sl_flaw:Array (Option Value)} {oc_flaw kV_flaw dc_flaw pm_flaw cd_flaw ct_flaw:Value}
  (a_flaw:PySem.W.nsIn K mainGlobals "flaw"=some (some (.ref f_flaw))) (l_flaw:K.lookup f_flaw=some ⟨oc_flaw,od_flaw,.func (PySem.W.fnOf "flaw" "flaw" (L2.Jg Zba) (L2.Jf Zba) (L2.Yb Zba) .none kV_flaw dc_flaw pm_flaw an_flaw cd_flaw ct_flaw),sl_flaw⟩) (c_flaw:PySem.W.codeIn K cd_flaw "flaw"=true) (k_flaw:PySem.W.keepIn K (.ref f_flaw)=true)
  {f_ask_folk:Addr} {od_ask_folk an_ask_folk:Option Addr} {sl_ask_folk:Array (Option Value)} {oc_ask_folk kV_ask_folk dc_ask_folk pm_ask_folk cd_ask_folk ct_ask_folk:Value}
  (a_ask_folk:PySem.W.nsIn K mainGlobals "ask_folk"=some (some (.ref f_ask_folk))) (l_ask_folk:K.lookup f_ask_folk=some ⟨oc_ask_folk,od_ask_folk,.func (PySem.W.fnOf "ask_folk" "ask_folk" (L2.Jg YZ) (L2.Jf YZ) (L2.Yb YZ) .none kV_ask_folk dc_ask_folk pm_ask_folk an_ask_folk cd_ask_folk ct_ask_folk),sl_ask_folk⟩) (c_ask_folk:PySem.W.codeIn K cd_ask_folk "ask_folk"=true) (k_ask_folk:PySem.W.keepIn K (.ref f_ask_folk)=true)
  {f_ask_element:Addr} {od_ask_element an_ask_element:Option Addr} {sl_ask_element:Array (Option Value)} {oc_ask_element kV_ask_element dc_ask_element pm_ask_element cd_ask_element ct_ask_element:Value}
  (a_ask_element:PySem.W.nsIn K mainGlobals "ask_element"=some (some (.ref f_ask_element))) (l_ask_element:K.lookup f_ask_element=some ⟨oc_ask_element,od_ask_element,.func (PySem.W.fnOf "ask_element" "ask_element" (L2.Jg ZF) (L2.Jf ZF) (L2.Yb ZF) .none kV_ask_element dc_ask_element pm_ask_element an_ask_element cd_ask_element ct_ask_element),sl_ask_element⟩) (c_ask_element:PySem.W.codeIn K cd_ask_element "ask_element"=true) (k_ask_element:PySem.W.keepIn K (.ref f_ask_element)=true)
  {f_one_round:Addr} {od_one_round an_one_round:Option Addr} {sl_one_round:Array (Option Value)} {oc_one_round kV_one_round dc_one_round pm_one_round cd_one_round ct_one_round:Value}
  (a_one_round:PySem.W.nsIn K mainGlobals "one_round"=some (some (.ref f_one_round))) (l_one_round:K.lookup f_one_round=some ⟨oc_one_round,od_one_round,.func (PySem.W.fnOf "one_round" "one_round" (L2.Jg ZV) (L2.Jf ZV) (L2.Yb ZV) .none kV_one_round dc_one_round pm_one_round an_one_round cd_one_round ct_one_round),sl_one_round⟩) (c_one_round:PySem.W.codeIn K cd_one_round "one_round"=true) (k_one_round:PySem.W.keepIn K (.ref f_one_round)=true)
  {f_order:Addr} {od_order an_order:Option Addr} {sl_order:Array (Option Value)} {oc_order kV_order dc_order pm_order cd_order ct_order:Value}
  (a_order:PySem.W.nsIn K mainGlobals "order"=some (some (.ref f_order))) (l_order:K.lookup f_order=some ⟨oc_order,od_order,.func (PySem.W.fnOf "order" "order" (L2.Jg ZaD) (L2.Jf ZaD) (L2.Yb ZaD) .none kV_order dc_order pm_order an_order cd_order ct_order),sl_order⟩) (c_order:PySem.W.codeIn K cd_order "order"=true) (k_order:PySem.W.keepIn K (.ref f_order)=true)
  {f_least_without_name:Addr} {od_least_without_name an_least_without_name:Option Addr} {sl_least_without_name:Array (Option Value)} {oc_least_without_name kV_least_without_name dc_least_without_name pm_least_without_name cd_least_without_name ct_least_without_name:Value}
  (a_least_without_name:PySem.W.nsIn K mainGlobals "least_without_name"=some (some (.ref f_least_without_name))) (l_least_without_name:K.lookup f_least_without_name=some ⟨oc_least_without_name,od_least_without_name,.func (PySem.W.fnOf "least_without_name" "least_without_name" (L2.Jg Yp) (L2.Jf Yp) (L2.Yb Yp) .none kV_least_without_name dc_least_without_name pm_least_without_name an_least_without_name cd_least_without_name ct_least_without_name),sl_least_without_name⟩) (c_least_without_name:PySem.W.codeIn K cd_least_without_name "least_without_name"=true) (k_least_without_name:PySem.W.keepIn K (.ref f_least_without_name)=true)
  {f_with_all_named:Addr} {od_with_all_named an_with_all_named:Option Addr} {sl_with_all_named:Array (Option Value)} {oc_with_all_named kV_with_all_named dc_with_all_named pm_with_all_named cd_with_all_named ct_with_all_named:Value}
  (a_with_all_named:PySem.W.nsIn K mainGlobals "with_all_named"=some (some (.ref f_with_all_named))) (l_with_all_named:K.lookup f_with_all_named=some ⟨oc_with_all_named,od_with_all_named,.func (PySem.W.fnOf "with_all_named" "with_all_named" (L2.Jg Yv) (L2.Jf Yv) (L2.Yb Yv) .none kV_with_all_named dc_with_all_named pm_with_all_named an_with_all_named cd_with_all_named ct_with_all_named),sl_with_all_named⟩) (c_with_all_named:PySem.W.codeIn K cd_with_all_named "with_all_named"=true) (k_with_all_named:PySem.W.keepIn K (.ref f_with_all_named)=true)
  {f_with_name:Addr} {od_with_name an_with_name:Option Addr} {sl_with_name:Array (Option Value)} {oc_with_name kV_with_name dc_with_name pm_with_name cd_with_name ct_with_name:Value}
  (a_with_name:PySem.W.nsIn K mainGlobals "with_name"=some (some (.ref f_with_name))) (l_with_name:K.lookup f_with_name=some ⟨oc_with_name,od_with_name,.func (PySem.W.fnOf "with_name" "with_name" (L2.Jg YT) (L2.Jf YT) (L2.Yb YT) .none kV_with_name dc_with_name pm_with_name an_with_name cd_with_name ct_with_name),sl_with_name⟩) (c_with_name:PySem.W.codeIn K cd_with_name "with_name"=true) (k_with_name:PySem.W.keepIn K (.ref f_with_name)=true)
  {f_find_renaming:Addr} {od_find_renaming an_find_renaming:Option Addr} {sl_find_renaming:Array (Option Value)} {oc_find_renaming kV_find_renaming dc_find_renaming pm_find_renaming cd_find_renaming ct_find_renaming:Value}
  (a_find_renaming:PySem.W.nsIn K mainGlobals "find_renaming"=some (some (.ref f_find_renaming))) (l_find_renaming:K.lookup f_find_renaming=some ⟨oc_find_renaming,od_find_renaming,.func (PySem.W.fnOf "find_renaming" "find_renaming" (L2.Jg Ju) (L2.Jf Ju) (L2.Yb Ju) .none kV_find_renaming dc_find_renaming pm_find_renaming an_find_renaming cd_find_renaming ct_find_renaming),sl_find_renaming⟩) (c_find_renaming:PySem.W.codeIn K cd_find_renaming "find_renaming"=true) (k_find_renaming:PySem.W.keepIn K (.ref f_find_renaming)=true)
  {f_renaming:Addr} {od_renaming an_renaming:Option Addr} {sl_renaming:Array (Option Value)} {oc_renaming kV_renaming dc_renaming pm_renaming cd_renaming ct_renaming:Value}
  (a_renaming:PySem.W.nsIn K mainGlobals "renaming"=some (some (.ref f_renaming))) (l_renaming:K.lookup f_renaming=some ⟨oc_renaming,od_renaming,.func (PySem.W.fnOf "renaming" "renaming" (L2.Jg Z0) (L2.Jf Z0) (L2.Yb Z0) .none kV_renaming dc_renaming pm_renaming an_renaming cd_renaming ct_renaming),sl_renaming⟩) (c_renaming:PySem.W.codeIn K cd_renaming "renaming"=true) (k_renaming:PySem.W.keepIn K (.ref f_renaming)=true)
  {f_made_by_pairs:Addr} {od_made_by_pairs an_made_by_pairs:Option Addr} {sl_made_by_pairs:Array (Option Value)} {oc_made_by_pairs kV_made_by_pairs dc_made_by_pairs pm_made_by_pairs cd_made_by_pairs ct_made_by_pairs:Value}
  (a_made_by_pairs:PySem.W.nsIn K mainGlobals "made_by_pairs"=some (some (.ref f_made_by_pairs))) (l_made_by_pairs:K.lookup f_made_by_pairs=some ⟨oc_made_by_pairs,od_made_by_pairs,.func (PySem.W.fnOf "made_by_pairs" "made_by_pairs" (L2.Jg Yx) (L2.Jf Yx) (L2.Yb Yx) .none kV_made_by_pairs dc_made_by_pairs pm_made_by_pairs an_made_by_pairs cd_made_by_pairs ct_made_by_pairs),sl_made_by_pairs⟩) (c_made_by_pairs:PySem.W.codeIn K cd_made_by_pairs "made_by_pairs"=true) (k_made_by_pairs:PySem.W.keepIn K (.ref f_made_by_pairs)=true)
  {f_beside:Addr} {od_beside an_beside:Option Addr} {sl_beside:Array (Option Value)} {oc_beside kV_beside dc_beside pm_beside cd_beside ct_beside:Value}
  (a_beside:PySem.W.nsIn K mainGlobals "beside"=some (some (.ref f_beside))) (l_beside:K.lookup f_beside=some ⟨oc_beside,od_beside,.func (PySem.W.fnOf "beside" "beside" (L2.Jg ZQ) (L2.Jf ZQ) (L2.Yb ZQ) .none kV_beside dc_beside pm_beside an_beside cd_beside ct_beside),sl_beside⟩) (c_beside:PySem.W.codeIn K cd_beside "beside"=true) (k_beside:PySem.W.keepIn K (.ref f_beside)=true)
  {f_law_cell_at:Addr} {od_law_cell_at an_law_cell_at:Option Addr} {sl_law_cell_at:Array (Option Value)} {oc_law_cell_at kV_law_cell_at dc_law_cell_at pm_law_cell_at cd_law_cell_at ct_law_cell_at:Value}
  (a_law_cell_at:PySem.W.nsIn K mainGlobals "_law_cell_at"=some (some (.ref f_law_cell_at))) (l_law_cell_at:K.lookup f_law_cell_at=some ⟨oc_law_cell_at,od_law_cell_at,.func (PySem.W.fnOf "_law_cell_at" "_law_cell_at" (L2.Jg ZG) (L2.Jf ZG) (L2.Yb ZG) .none kV_law_cell_at dc_law_cell_at pm_law_cell_at an_law_cell_at cd_law_cell_at ct_law_cell_at),sl_law_cell_at⟩) (c_law_cell_at:PySem.W.codeIn K cd_law_cell_at "_law_cell_at"=true) (k_law_cell_at:PySem.W.keepIn K (.ref f_law_cell_at)=true)
  {f_law_draw:Addr} {od_law_draw an_law_draw:Option Addr} {sl_law_draw:Array (Option Value)} {oc_law_draw kV_law_draw dc_law_draw pm_law_draw cd_law_draw ct_law_draw:Value}
  (a_law_draw:PySem.W.nsIn K mainGlobals "_law_draw"=some (some (.ref f_law_draw))) (l_law_draw:K.lookup f_law_draw=some ⟨oc_law_draw,od_law_draw,.func (PySem.W.fnOf "_law_draw" "_law_draw" (L2.Jg YX) (L2.Jf YX) (L2.Yb YX) .none kV_law_draw dc_law_draw pm_law_draw an_law_draw cd_law_draw ct_law_draw),sl_law_draw⟩) (c_law_draw:PySem.W.codeIn K cd_law_draw "_law_draw"=true) (k_law_draw:PySem.W.keepIn K (.ref f_law_draw)=true)
  {f_law_whole:Addr} {od_law_whole an_law_whole:Option Addr} {sl_law_whole:Array (Option Value)} {oc_law_whole kV_law_whole dc_law_whole pm_law_whole cd_law_whole ct_law_whole:Value}
  (a_law_whole:PySem.W.nsIn K mainGlobals "_law_whole"=some (some (.ref f_law_whole))) (l_law_whole:K.lookup f_law_whole=some ⟨oc_law_whole,od_law_whole,.func (PySem.W.fnOf "_law_whole" "_law_whole" (L2.Jg YQ) (L2.Jf YQ) (L2.Yb YQ) .none kV_law_whole dc_law_whole pm_law_whole an_law_whole cd_law_whole ct_law_whole),sl_law_whole⟩) (c_law_whole:PySem.W.codeIn K cd_law_whole "_law_whole"=true) (k_law_whole:PySem.W.keepIn K (.ref f_law_whole)=true)
  {f_law_cycles:Addr} {od_law_cycles an_law_cycles:Option Addr} {sl_law_cycles:Array (Option Value)} {oc_law_cycles kV_law_cycles dc_law_cycles pm_law_cycles cd_law_cycles ct_law_cycles:Value}
  (a_law_cycles:PySem.W.nsIn K mainGlobals "_law_cycles"=some (some (.ref f_law_cycles))) (l_law_cycles:K.lookup f_law_cycles=some ⟨oc_law_cycles,od_law_cycles,.func (PySem.W.fnOf "_law_cycles" "_law_cycles" (L2.Jg YL) (L2.Jf YL) (L2.Yb YL) .none kV_law_cycles dc_law_cycles pm_law_cycles an_law_cycles cd_law_cycles ct_law_cycles),sl_law_cycles⟩) (c_law_cycles:PySem.W.codeIn K cd_law_cycles "_law_cycles"=true) (k_law_cycles:PySem.W.keepIn K (.ref f_law_cycles)=true)
  {f_law_twisted:Addr} {od_law_twisted an_law_twisted:Option Addr} {sl_law_twisted:Array (Option Value)} {oc_law_twisted kV_law_twisted dc_law_twisted pm_law_twisted cd_law_twisted ct_law_twisted:Value}
  (a_law_twisted:PySem.W.nsIn K mainGlobals "_law_twisted"=some (some (.ref f_law_twisted))) (l_law_twisted:K.lookup f_law_twisted=some ⟨oc_law_twisted,od_law_twisted,.func (PySem.W.fnOf "_law_twisted" "_law_twisted" (L2.Jg YF) (L2.Jf YF) (L2.Yb YF) .none kV_law_twisted dc_law_twisted pm_law_twisted an_law_twisted cd_law_twisted ct_law_twisted),sl_law_twisted⟩) (c_law_twisted:PySem.W.codeIn K cd_law_twisted "_law_twisted"=true) (k_law_twisted:PySem.W.keepIn K (.ref f_law_twisted)=true)
  {f_law_even:Addr} {od_law_even an_law_even:Option Addr} {sl_law_even:Array (Option Value)} {oc_law_even kV_law_even dc_law_even pm_law_even cd_law_even ct_law_even:Value}
  (a_law_even:PySem.W.nsIn K mainGlobals "_law_even"=some (some (.ref f_law_even))) (l_law_even:K.lookup f_law_even=some ⟨oc_law_even,od_law_even,.func (PySem.W.fnOf "_law_even" "_law_even" (L2.Jg Z1) (L2.Jf Z1) (L2.Yb Z1) .none kV_law_even dc_law_even pm_law_even an_law_even cd_law_even ct_law_even),sl_law_even⟩) (c_law_even:PySem.W.codeIn K cd_law_even "_law_even"=true) (k_law_even:PySem.W.keepIn K (.ref f_law_even)=true)
  {f_law_base:Addr} {od_law_base an_law_base:Option Addr} {sl_law_base:Array (Option Value)} {oc_law_base kV_law_base dc_law_base pm_law_base cd_law_base ct_law_base:Value}
  (a_law_base:PySem.W.nsIn K mainGlobals "_law_base"=some (some (.ref f_law_base))) (l_law_base:K.lookup f_law_base=some ⟨oc_law_base,od_law_base,.func (PySem.W.fnOf "_law_base" "_law_base" (L2.Jg JX) (L2.Jf JX) (L2.Yb JX) .none kV_law_base dc_law_base pm_law_base an_law_base cd_law_base ct_law_base),sl_law_base⟩) (c_law_base:PySem.W.codeIn K cd_law_base "_law_base"=true) (k_law_base:PySem.W.keepIn K (.ref f_law_base)=true)
  {f_law_renamed:Addr} {od_law_renamed an_law_renamed:Option Addr} {sl_law_renamed:Array (Option Value)} {oc_law_renamed kV_law_renamed dc_law_renamed pm_law_renamed cd_law_renamed ct_law_renamed:Value}
  (a_law_renamed:PySem.W.nsIn K mainGlobals "_law_renamed"=some (some (.ref f_law_renamed))) (l_law_renamed:K.lookup f_law_renamed=some ⟨oc_law_renamed,od_law_renamed,.func (PySem.W.fnOf "_law_renamed" "_law_renamed" (L2.Jg YD) (L2.Jf YD) (L2.Yb YD) .none kV_law_renamed dc_law_renamed pm_law_renamed an_law_renamed cd_law_renamed ct_law_renamed),sl_law_renamed⟩) (c_law_renamed:PySem.W.codeIn K cd_law_renamed "_law_renamed"=true) (k_law_renamed:PySem.W.keepIn K (.ref f_law_renamed)=true)
  {f_law_folk_by:Addr} {od_law_folk_by an_law_folk_by:Option Addr} {sl_law_folk_by:Array (Option Value)} {oc_law_folk_by kV_law_folk_by dc_law_folk_by pm_law_folk_by cd_law_folk_by ct_law_folk_by:Value}
  (a_law_folk_by:PySem.W.nsIn K mainGlobals "_law_folk_by"=some (some (.ref f_law_folk_by))) (l_law_folk_by:K.lookup f_law_folk_by=some ⟨oc_law_folk_by,od_law_folk_by,.func (PySem.W.fnOf "_law_folk_by" "_law_folk_by" (L2.Jg JG) (L2.Jf JG) (L2.Yb JG) .none kV_law_folk_by dc_law_folk_by pm_law_folk_by an_law_folk_by cd_law_folk_by ct_law_folk_by),sl_law_folk_by⟩) (c_law_folk_by:PySem.W.codeIn K cd_law_folk_by "_law_folk_by"=true) (k_law_folk_by:PySem.W.keepIn K (.ref f_law_folk_by)=true)
  {f_law_lists:Addr} {od_law_lists an_law_lists:Option Addr} {sl_law_lists:Array (Option Value)} {oc_law_lists kV_law_lists dc_law_lists pm_law_lists cd_law_lists ct_law_lists:Value}
  (a_law_lists:PySem.W.nsIn K mainGlobals "_law_lists"=some (some (.ref f_law_lists))) (l_law_lists:K.lookup f_law_lists=some ⟨oc_law_lists,od_law_lists,.func (PySem.W.fnOf "_law_lists" "_law_lists" (L2.Jg ZR) (L2.Jf ZR) (L2.Yb ZR) .none kV_law_lists dc_law_lists pm_law_lists an_law_lists cd_law_lists ct_law_lists),sl_law_lists⟩) (c_law_lists:PySem.W.codeIn K cd_law_lists "_law_lists"=true) (k_law_lists:PySem.W.keepIn K (.ref f_law_lists)=true)
  {f_law_copy:Addr} {od_law_copy an_law_copy:Option Addr} {sl_law_copy:Array (Option Value)} {oc_law_copy kV_law_copy dc_law_copy pm_law_copy cd_law_copy ct_law_copy:Value}
  (a_law_copy:PySem.W.nsIn K mainGlobals "_law_copy"=some (some (.ref f_law_copy))) (l_law_copy:K.lookup f_law_copy=some ⟨oc_law_copy,od_law_copy,.func (PySem.W.fnOf "_law_copy" "_law_copy" (L2.Jg JZ) (L2.Jf JZ) (L2.Yb JZ) .none kV_law_copy dc_law_copy pm_law_copy an_law_copy cd_law_copy ct_law_copy),sl_law_copy⟩) (c_law_copy:PySem.W.codeIn K cd_law_copy "_law_copy"=true) (k_law_copy:PySem.W.keepIn K (.ref f_law_copy)=true)
  {f_law_word_of:Addr} {od_law_word_of an_law_word_of:Option Addr} {sl_law_word_of:Array (Option Value)} {oc_law_word_of kV_law_word_of dc_law_word_of pm_law_word_of cd_law_word_of ct_law_word_of:Value}
  (a_law_word_of:PySem.W.nsIn K mainGlobals "_law_word_of"=some (some (.ref f_law_word_of))) (l_law_word_of:K.lookup f_law_word_of=some ⟨oc_law_word_of,od_law_word_of,.func (PySem.W.fnOf "_law_word_of" "_law_word_of" (L2.Jg YG) (L2.Jf YG) (L2.Yb YG) .none kV_law_word_of dc_law_word_of pm_law_word_of an_law_word_of cd_law_word_of ct_law_word_of),sl_law_word_of⟩) (c_law_word_of:PySem.W.codeIn K cd_law_word_of "_law_word_of"=true) (k_law_word_of:PySem.W.keepIn K (.ref f_law_word_of)=true)
  {f_law_told:Addr} {od_law_told an_law_told:Option Addr} {sl_law_told:Array (Option Value)} {oc_law_told kV_law_told dc_law_told pm_law_told cd_law_told ct_law_told:Value}
  (a_law_told:PySem.W.nsIn K mainGlobals "_law_told"=some (some (.ref f_law_told))) (l_law_told:K.lookup f_law_told=some ⟨oc_law_told,od_law_told,.func (PySem.W.fnOf "_law_told" "_law_told" (L2.Jg Y0) (L2.Jf Y0) (L2.Yb Y0) .none kV_law_told dc_law_told pm_law_told an_law_told cd_law_told ct_law_told),sl_law_told⟩) (c_law_told:PySem.W.codeIn K cd_law_told "_law_told"=true) (k_law_told:PySem.W.keepIn K (.ref f_law_told)=true)
  {f_law_both:Addr} {od_law_both an_law_both:Option Addr} {sl_law_both:Array (Option Value)} {oc_law_both kV_law_both dc_law_both pm_law_both cd_law_both ct_law_both:Value}
  (a_law_both:PySem.W.nsIn K mainGlobals "_law_both"=some (some (.ref f_law_both))) (l_law_both:K.lookup f_law_both=some ⟨oc_law_both,od_law_both,.func (PySem.W.fnOf "_law_both" "_law_both" (L2.Jg J0) (L2.Jf J0) (L2.Yb J0) .none kV_law_both dc_law_both pm_law_both an_law_both cd_law_both ct_law_both),sl_law_both⟩) (c_law_both:PySem.W.codeIn K cd_law_both "_law_both"=true) (k_law_both:PySem.W.keepIn K (.ref f_law_both)=true)
  {f_law:Addr} {od_law an_law:Option Addr} {sl_law:Array (Option Value)} {oc_law kV_law dc_law pm_law cd_law ct_law:Value}
  (a_law:PySem.W.nsIn K mainGlobals "law"=some (some (.ref f_law))) (l_law:K.lookup f_law=some ⟨oc_law,od_law,.func (PySem.W.fnOf "law" "law" (L2.Jg Za4) (L2.Jf Za4) (L2.Yb Za4) .none kV_law dc_law pm_law an_law cd_law ct_law),sl_law⟩) (c_law:PySem.W.codeIn K cd_law "law"=true) (k_law:PySem.W.keepIn K (.ref f_law)=true)
  (z_len:PySem.W.nsIn K mainGlobals "len"=some none)
  (z_range:PySem.W.nsIn K mainGlobals "range"=some none)
  (z_list:PySem.W.nsIn K mainGlobals "list"=some none)
  (z_all:PySem.W.nsIn K mainGlobals "all"=some none)
  (z_isinstance:PySem.W.nsIn K mainGlobals "isinstance"=some none)
  (z_max:PySem.W.nsIn K mainGlobals "max"=some none)
  (z_int:PySem.W.nsIn K mainGlobals "int"=some none)
  (z_bool:PySem.W.nsIn K mainGlobals "bool"=some none)
  (z_str:PySem.W.nsIn K mainGlobals "str"=some none)
  (z_tuple:PySem.W.nsIn K mainGlobals "tuple"=some none)
  (z_sorted:PySem.W.nsIn K mainGlobals "sorted"=some none)
  (z_set:PySem.W.nsIn K mainGlobals "set"=some none)
  (z_any:PySem.W.nsIn K mainGlobals "any"=some none)
  (z_enumerate:PySem.W.nsIn K mainGlobals "enumerate"=some none)
  (z_dict:PySem.W.nsIn K mainGlobals "dict"=some none)
  {t_MOST_ROWS:Tok} (v_MOST_ROWS:PySem.W.nsIn K mainGlobals "MOST_ROWS"=some (some (.int 12 t_MOST_ROWS)))
  {C0 C1 C2 C3 C4 C5 C6 CF:Addr}
  (n_0:PySem.W.nsIn K mainGlobals "NoTable"=some (some (.ref C0)))
  (n_1:PySem.W.nsIn K mainGlobals "NoFolk"=some (some (.ref C1)))
  (n_2:PySem.W.nsIn K mainGlobals "NoElement"=some (some (.ref C2)))
  (n_3:PySem.W.nsIn K mainGlobals "NoPart"=some (some (.ref C3)))
  (n_4:PySem.W.nsIn K mainGlobals "NotLoose"=some (some (.ref C4)))
  (n_5:PySem.W.nsIn K mainGlobals "TooLarge"=some (some (.ref C5)))
  (n_6:PySem.W.nsIn K mainGlobals "NoNote"=some (some (.ref C6)))
  (n_F:PySem.W.nsIn K mainGlobals "FolkError"=some (some (.ref CF)))
  (z_ValueError:PySem.W.nsIn K mainGlobals "ValueError"=some none)
  (i_sp:PySem.W.specialIn K (.builtin "object.__class__") "__get__"=some (some (.builtin "getset_descriptor.__get__")))
  (i_tk:PySem.W.takesIn K (.builtin "object.__class__")=some true)
  (x_5:PySem.W.excIn K C5 [.type "ValueError",.type "Exception",.type "BaseException",.type "object"] "ValueError.__new__"=true)
  (i_ga5:PySem.W.findIn K (.ref C5) "__getattribute__"=some (some (.builtin "BaseException.__getattribute__")))
  (i_gx5:PySem.W.findIn K (.ref C5) "__getattr__"=some none)
  (i_mb5:PySem.W.mroIn K C5 (.type "BaseException")=some true)
  (i_cl5:(PySem.W.clsIn K C5).isSome=true)
  (i_fi5:PySem.W.findIn K (.ref C5) "__class__"=some (some (.builtin "object.__class__")))
  (i_mo5:PySem.W.mroIn K C5 (.type "object")=some true)
  (o_50:PySem.W.kitOne K (.ref C5) (.ref C0)=some false)
  (o_51:PySem.W.kitOne K (.ref C5) (.ref C1)=some false)
  (o_52:PySem.W.kitOne K (.ref C5) (.ref C2)=some false)
  (o_53:PySem.W.kitOne K (.ref C5) (.ref C3)=some false)
  (o_54:PySem.W.kitOne K (.ref C5) (.ref C4)=some false)
  (o_55:PySem.W.kitOne K (.ref C5) (.ref C5)=some true)
  (o_56:PySem.W.kitOne K (.ref C5) (.ref C6)=some false)
  (v_V5:PySem.W.kitOne K (.ref C5) (.type "ValueError")=some true)
  (e_5:PySem.W.exmOne K (.ref C5) (.ref CF)=some true) :
  ∃ fd:FuncData,(∀ (s:Shared) (v:Value),BindsTo s fd ⟨[v],[]⟩ [("script",v)])∧∀ base:Heap,K.In base→base.Ns mainGlobals mg→L2.FnOk l.prog w K mg base L2.CX0 17 fa fd ["script"] (spR K (rk K .k) ZeC):=by
 have e:=hfa.symm.trans (PySem.W.mg_of X G a_law)
 cases e
 have T:Bt mg:=⟨PySem.W.mg_none_of X G z_len,PySem.W.mg_none_of X G z_range,PySem.W.mg_none_of X G z_list,PySem.W.mg_none_of X G z_all,PySem.W.mg_none_of X G z_isinstance,PySem.W.mg_none_of X G z_max,PySem.W.mg_none_of X G z_int,PySem.W.mg_none_of X G z_bool,PySem.W.mg_none_of X G z_str,PySem.W.mg_none_of X G z_tuple,PySem.W.mg_none_of X G z_sorted,PySem.W.mg_none_of X G z_set,PySem.W.mg_none_of X G z_any,PySem.W.mg_none_of X G z_enumerate,PySem.W.mg_none_of X G z_dict⟩
 have C_MOST_ROWS:∃ t,mg "MOST_ROWS"=some (.int 12 t):=⟨_,PySem.W.mg_of X G v_MOST_ROWS⟩
 refine ⟨PySem.W.fnOf "law" "law" (L2.Jg Za4) (L2.Jf Za4) (L2.Yb Za4) .none kV_law dc_law pm_law an_law cd_law ct_law,fun s v=>.of_eq rfl,fun base _ _=>?_⟩
 have hxv:mg "ValueError"=none:=PySem.W.mg_none_of X G z_ValueError
 have XF:Zb1 K [5]:=Zne (Cs:=fun c=>[C0,C1,C2,C3,C4,C5,C6].getD c 0) (fun c hc=>match c,hc with | 0,_=>n_0 | 1,_=>n_1 | 2,_=>n_2 | 3,_=>n_3 | 4,_=>n_4 | 5,_=>n_5 | 6,_=>n_6 | k + 7,h=>absurd h (by omega)) n_F (by decide) (fun c hc=>by
  simp only [List.mem_cons,List.not_mem_nil,or_false] at hc
  rcases hc with rfl
  ·exact ⟨i_ga5,i_gx5,i_mb5,i_cl5,i_fi5,i_sp,i_tk,i_mo5⟩) (fun c hc=>by
  simp only [List.mem_cons,List.not_mem_nil,or_false] at hc
  rcases hc with rfl
  ·exact fun c hc=>match c,hc with | 0,_=>o_50 | 1,_=>o_51 | 2,_=>o_52 | 3,_=>o_53 | 4,_=>o_54 | 5,_=>o_55 | 6,_=>o_56 | k + 7,h=>absurd h (by omega)) (fun c hc=>by
  simp only [List.mem_cons,List.not_mem_nil,or_false] at hc
  rcases hc with rfl
  ·exact v_V5) (fun c hc=>by
  simp only [List.mem_cons,List.not_mem_nil,or_false] at hc
  rcases hc with rfl
  ·exact e_5)
 have XC_5:XCl K 5:=⟨⟨C5,n_5,x_5⟩⟩
 have G_is_element:Cal l.prog w K mg base 1 "is_element" (rk K .k) Yr:=⟨⟨f_is_element,_,["table","number"],PySem.W.mg_of X G a_is_element,k_is_element,ZfZ (P:=l.prog) (w:=w) (base:=base) (L2.Ye (st:=JL) l_is_element c_is_element k_is_element) T,bnd2 (L2.Ye (st:=JL) l_is_element c_is_element k_is_element) fun _ _ _ _ _ _ _ _=>rfl⟩⟩
 have G_ask_table:Cal l.prog w K mg base 2 "ask_table" (rk K .k) JH:=⟨⟨f_ask_table,_,["table"],PySem.W.mg_of X G a_ask_table,k_ask_table,Zg4 (P:=l.prog) (w:=w) (base:=base) (L2.Ye (st:=ZS) l_ask_table c_ask_table k_ask_table) T C_MOST_ROWS G_is_element,bnd1 (L2.Ye (st:=ZS) l_ask_table c_ask_table k_ask_table) fun _ _ _ _ _ _ _=>rfl⟩⟩
 have G_find_three:Cal l.prog w K mg base 1 "find_three" (rk K .k) Y5:=⟨⟨f_find_three,_,["table"],PySem.W.mg_of X G a_find_three,k_find_three,ZfU (P:=l.prog) (w:=w) (base:=base) (L2.Ye (st:=ZL) l_find_three c_find_three k_find_three) T,bnd1 (L2.Ye (st:=ZL) l_find_three c_find_three k_find_three) fun _ _ _ _ _ _ _=>rfl⟩⟩
 have G_find_rest:Cal l.prog w K mg base 1 "find_rest" (rk K .k) Zn:=⟨⟨f_find_rest,_,["table"],PySem.W.mg_of X G a_find_rest,k_find_rest,ZgH (P:=l.prog) (w:=w) (base:=base) (L2.Ye (st:=YS) l_find_rest c_find_rest k_find_rest) T,bnd1 (L2.Ye (st:=YS) l_find_rest c_find_rest k_find_rest) fun _ _ _ _ _ _ _=>rfl⟩⟩
 have G_find_back:Cal l.prog w K mg base 1 "find_back" (rk K .k) Y9:=⟨⟨f_find_back,_,["table","still","element"],PySem.W.mg_of X G a_find_back,k_find_back,ZgP (P:=l.prog) (w:=w) (base:=base) (L2.Ye (st:=JQ) l_find_back c_find_back k_find_back) T,bnd3 (L2.Ye (st:=JQ) l_find_back c_find_back k_find_back) fun _ _ _ _ _ _ _ _ _=>rfl⟩⟩
 have G_find_flaw:Cal l.prog w K mg base 2 "find_flaw" (rk K .k) JN:=⟨⟨f_find_flaw,_,["table"],PySem.W.mg_of X G a_find_flaw,k_find_flaw,Zge (P:=l.prog) (w:=w) (base:=base) (L2.Ye (st:=JT) l_find_flaw c_find_flaw k_find_flaw) T G_find_three G_find_rest G_find_back,bnd1 (L2.Ye (st:=JT) l_find_flaw c_find_flaw k_find_flaw) fun _ _ _ _ _ _ _=>rfl⟩⟩
 have G_flaw:Cal l.prog w K mg base 3 "flaw" (rk K .k) Zdf:=⟨⟨f_flaw,_,["table"],PySem.W.mg_of X G a_flaw,k_flaw,ZlG (P:=l.prog) (w:=w) (base:=base) (L2.Ye (st:=Zba) l_flaw c_flaw k_flaw) T G_ask_table G_find_flaw,bnd1 (L2.Ye (st:=Zba) l_flaw c_flaw k_flaw) fun _ _ _ _ _ _ _=>rfl⟩⟩
 have G_ask_folk:Cal l.prog w K mg base 3 "ask_folk" (rk K .k) Yt:=⟨⟨f_ask_folk,_,["table"],PySem.W.mg_of X G a_ask_folk,k_ask_folk,Zhg (P:=l.prog) (w:=w) (base:=base) (L2.Ye (st:=YZ) l_ask_folk c_ask_folk k_ask_folk) T G_ask_table G_find_flaw,bnd1 (L2.Ye (st:=YZ) l_ask_folk c_ask_folk k_ask_folk) fun _ _ _ _ _ _ _=>rfl⟩⟩
 have G_ask_element:Cal l.prog w K mg base 2 "ask_element" (rk K .k) Z8:=⟨⟨f_ask_element,_,["table","element"],PySem.W.mg_of X G a_ask_element,k_ask_element,Zfc (P:=l.prog) (w:=w) (base:=base) (L2.Ye (st:=ZF) l_ask_element c_ask_element k_ask_element) T G_is_element,bnd2 (L2.Ye (st:=ZF) l_ask_element c_ask_element k_ask_element) fun _ _ _ _ _ _ _ _=>rfl⟩⟩
 have G_one_round:Cal l.prog w K mg base 2 "one_round" (rk K .k) Zas:=⟨⟨f_one_round,_,["table","element"],PySem.W.mg_of X G a_one_round,k_one_round,ZgS (P:=l.prog) (w:=w) (base:=base) (L2.Ye (st:=ZV) l_one_round c_one_round k_one_round) T G_find_rest,bnd2 (L2.Ye (st:=ZV) l_one_round c_one_round k_one_round) fun _ _ _ _ _ _ _ _=>rfl⟩⟩
 have G_order:Cal l.prog w K mg base 4 "order" (rk K .k) Za8:=⟨⟨f_order,_,["table","element"],PySem.W.mg_of X G a_order,k_order,ZjE (P:=l.prog) (w:=w) (base:=base) (L2.Ye (st:=ZaD) l_order c_order k_order) T G_ask_folk G_ask_element G_one_round,bnd2 (L2.Ye (st:=ZaD) l_order c_order k_order) fun _ _ _ _ _ _ _ _=>rfl⟩⟩
 have G_least_without_name:Cal l.prog w K mg base 1 "least_without_name" (rk K .k) ZC:=⟨⟨f_least_without_name,_,["names"],PySem.W.mg_of X G a_least_without_name,k_least_without_name,ZcD (P:=l.prog) (w:=w) (base:=base) (L2.Ye (st:=Yp) l_least_without_name c_least_without_name k_least_without_name) T,bnd1 (L2.Ye (st:=Yp) l_least_without_name c_least_without_name k_least_without_name) fun _ _ _ _ _ _ _=>rfl⟩⟩
 have G_with_all_named:Cal l.prog w K mg base 1 "with_all_named" (rk K .k) JD:=⟨⟨f_with_all_named,_,["one","other","names"],PySem.W.mg_of X G a_with_all_named,k_with_all_named,ZdR (P:=l.prog) (w:=w) (base:=base) (L2.Ye (st:=Yv) l_with_all_named c_with_all_named k_with_all_named) T,bnd3 (L2.Ye (st:=Yv) l_with_all_named c_with_all_named k_with_all_named) fun _ _ _ _ _ _ _ _ _=>rfl⟩⟩
 have G_with_name:Cal l.prog w K mg base 2 "with_name" (rk K .k) Zaa:=⟨⟨f_with_name,_,["one","other","names","element","name"],PySem.W.mg_of X G a_with_name,k_with_name,Zg5 (P:=l.prog) (w:=w) (base:=base) (L2.Ye (st:=YT) l_with_name c_with_name k_with_name) T G_with_all_named,bnd5 (L2.Ye (st:=YT) l_with_name c_with_name k_with_name) fun _ _ _ _ _ _ _ _ _ _ _=>rfl⟩⟩
 have G_find_renaming:Cal l.prog w K mg base 15 "find_renaming" rN ZaW:=by
  have all:∀ n:Nat,Cal l.prog w K mg base (2 + n) "find_renaming" rN (Yu n):=by
   intro n
   induction n with
   | zero=>exact ⟨⟨f_find_renaming,_,["one","other","names"],PySem.W.mg_of X G a_find_renaming,k_find_renaming,⟨fun _ _ _ _ h=>(by obtain ⟨_,_,_,_,_,e,_⟩:=h;cases e),fun _ _ _ _ _ _ _ _ _ _ _ _ _ h=>(by obtain ⟨_,_,_,_,_,e,_⟩:=h;cases e)⟩,bnd3 (L2.Ye (st:=Ju) l_find_renaming c_find_renaming k_find_renaming) fun _ _ _ _ _ _ _ _ _=>rfl⟩⟩
   | succ n ih=>exact ⟨⟨f_find_renaming,_,["one","other","names"],PySem.W.mg_of X G a_find_renaming,k_find_renaming,Zek (P:=l.prog) (w:=w) (base:=base) (L2.Ye (st:=Ju) l_find_renaming c_find_renaming k_find_renaming) T G_least_without_name G_with_name n ih,bnd3 (L2.Ye (st:=Ju) l_find_renaming c_find_renaming k_find_renaming) fun _ _ _ _ _ _ _ _ _=>rfl⟩⟩
  exact all 13
 have G_renaming:Cal l.prog w K mg base 16 "renaming" rN ZaM:=⟨⟨f_renaming,_,["one","other"],PySem.W.mg_of X G a_renaming,k_renaming,Zg8 (P:=l.prog) (w:=w) (base:=base) (L2.Ye (st:=Z0) l_renaming c_renaming k_renaming) T G_ask_folk G_find_renaming G_find_rest,bnd2 (L2.Ye (st:=Z0) l_renaming c_renaming k_renaming) fun _ _ _ _ _ _ _ _=>rfl⟩⟩
 have G_made_by_pairs:Cal l.prog w K mg base 1 "made_by_pairs" (rk K .k) Yw:=⟨⟨f_made_by_pairs,_,["one","other","ahead","behind"],PySem.W.mg_of X G a_made_by_pairs,k_made_by_pairs,Zei (P:=l.prog) (w:=w) (base:=base) (L2.Ye (st:=Yx) l_made_by_pairs c_made_by_pairs k_made_by_pairs) T,bnd4 (L2.Ye (st:=Yx) l_made_by_pairs c_made_by_pairs k_made_by_pairs) fun _ _ _ _ _ _ _ _ _ _=>rfl⟩⟩
 have Gx_beside:CalX l.prog w K mg base 4 "beside" rN ZP:=⟨⟨f_beside,_,["one","other"],PySem.W.mg_of X G a_beside,k_beside,Zig (P:=l.prog) (w:=w) (base:=base) (L2.Ye (st:=ZQ) l_beside c_beside k_beside) T C_MOST_ROWS XC_5 G_ask_folk G_made_by_pairs,bnd2 (L2.Ye (st:=ZQ) l_beside c_beside k_beside) fun _ _ _ _ _ _ _ _=>rfl⟩⟩
 have G_beside:Cal l.prog w K mg base 4 "beside" rN ZbV:=⟨⟨f_beside,_,["one","other"],PySem.W.mg_of X G a_beside,k_beside,ZiR (P:=l.prog) (w:=w) (base:=base) (L2.Ye (st:=ZQ) l_beside c_beside k_beside) T C_MOST_ROWS G_ask_folk G_made_by_pairs,bnd2 (L2.Ye (st:=ZQ) l_beside c_beside k_beside) fun _ _ _ _ _ _ _ _=>rfl⟩⟩
 have G_law_cell_at:Cal l.prog w K mg base 1 "_law_cell_at" (rk K .k) Ji:=⟨⟨f_law_cell_at,_,["script","k"],PySem.W.mg_of X G a_law_cell_at,k_law_cell_at,Ze8 (P:=l.prog) (w:=w) (base:=base) (L2.Ye (st:=ZG) l_law_cell_at c_law_cell_at k_law_cell_at) T,bnd2 (L2.Ye (st:=ZG) l_law_cell_at c_law_cell_at k_law_cell_at) fun _ _ _ _ _ _ _ _=>rfl⟩⟩
 have G_law_draw:Cal l.prog w K mg base 1 "_law_draw" (rk K .k) ZX:=⟨⟨f_law_draw,_,["cell","k","bound"],PySem.W.mg_of X G a_law_draw,k_law_draw,Zhr (P:=l.prog) (w:=w) (base:=base) (L2.Ye (st:=YX) l_law_draw c_law_draw k_law_draw) T,bnd3 (L2.Ye (st:=YX) l_law_draw c_law_draw k_law_draw) fun _ _ _ _ _ _ _ _ _=>rfl⟩⟩
 have G_law_whole:Cal l.prog w K mg base 1 "_law_whole" (rk K .k) Zav:=⟨⟨f_law_whole,_,["found"],PySem.W.mg_of X G a_law_whole,k_law_whole,Zgb (P:=l.prog) (w:=w) (base:=base) (L2.Ye (st:=YQ) l_law_whole c_law_whole k_law_whole) T,bnd1 (L2.Ye (st:=YQ) l_law_whole c_law_whole k_law_whole) fun _ _ _ _ _ _ _=>rfl⟩⟩
 have G_law_cycles:Cal l.prog w K mg base 1 "_law_cycles" (rk K .k) ZaQ:=⟨⟨f_law_cycles,_,["dims"],PySem.W.mg_of X G a_law_cycles,k_law_cycles,ZfY (P:=l.prog) (w:=w) (base:=base) (L2.Ye (st:=YL) l_law_cycles c_law_cycles k_law_cycles) T,bnd1 (L2.Ye (st:=YL) l_law_cycles c_law_cycles k_law_cycles) fun _ _ _ _ _ _ _=>rfl⟩⟩
 have G_law_twisted:Cal l.prog w K mg base 1 "_law_twisted" (rk K .k) Zay:=⟨⟨f_law_twisted,_,["many","extra"],PySem.W.mg_of X G a_law_twisted,k_law_twisted,Ze9 (P:=l.prog) (w:=w) (base:=base) (L2.Ye (st:=YF) l_law_twisted c_law_twisted k_law_twisted) T,bnd2 (L2.Ye (st:=YF) l_law_twisted c_law_twisted k_law_twisted) fun _ _ _ _ _ _ _ _=>rfl⟩⟩
 have G_law_even:Cal l.prog w K mg base 1 "_law_even" (rk K .k) ZbB:=⟨⟨f_law_even,_,[],PySem.W.mg_of X G a_law_even,k_law_even,Zhn (P:=l.prog) (w:=w) (base:=base) (L2.Ye (st:=Z1) l_law_even c_law_even k_law_even) T,(L2.Ye (st:=Z1) l_law_even c_law_even k_law_even).binds fun _ _ _ _ _ _ us hl=>match us,hl with | [],_=>rfl⟩⟩
 have G_law_base:Cal l.prog w K mg base 2 "_law_base" (rk K .k) Jr:=⟨⟨f_law_base,_,["kind"],PySem.W.mg_of X G a_law_base,k_law_base,Zhk (P:=l.prog) (w:=w) (base:=base) (L2.Ye (st:=JX) l_law_base c_law_base k_law_base) T G_law_even G_law_cycles G_law_twisted,bnd1 (L2.Ye (st:=JX) l_law_base c_law_base k_law_base) fun _ _ _ _ _ _ _=>rfl⟩⟩
 have G_law_renamed:Cal l.prog w K mg base 2 "_law_renamed" (rT K) Zv:=⟨⟨f_law_renamed,_,["base","cell"],PySem.W.mg_of X G a_law_renamed,k_law_renamed,Zfu (P:=l.prog) (w:=w) (base:=base) (L2.Ye (st:=YD) l_law_renamed c_law_renamed k_law_renamed) T G_law_draw,bnd2 (L2.Ye (st:=YD) l_law_renamed c_law_renamed k_law_renamed) fun _ _ _ _ _ _ _ _=>rfl⟩⟩
 have G_law_folk_by:Cal l.prog w K mg base 3 "_law_folk_by" (rT K) ZW:=⟨⟨f_law_folk_by,_,["script","first"],PySem.W.mg_of X G a_law_folk_by,k_law_folk_by,Zfo (P:=l.prog) (w:=w) (base:=base) (L2.Ye (st:=JG) l_law_folk_by c_law_folk_by k_law_folk_by) T G_law_renamed G_law_base G_law_cell_at,bnd2 (L2.Ye (st:=JG) l_law_folk_by c_law_folk_by k_law_folk_by) fun _ _ _ _ _ _ _ _=>rfl⟩⟩
 have G_law_lists:Cal l.prog w K mg base 2 "_law_lists" (rk K .k) Zar:=⟨⟨f_law_lists,_,["found"],PySem.W.mg_of X G a_law_lists,k_law_lists,Zgp (P:=l.prog) (w:=w) (base:=base) (L2.Ye (st:=ZR) l_law_lists c_law_lists k_law_lists) T G_law_whole,bnd1 (L2.Ye (st:=ZR) l_law_lists c_law_lists k_law_lists) fun _ _ _ _ _ _ _=>rfl⟩⟩
 have G_law_copy:Cal l.prog w K mg base 1 "_law_copy" (rk K .k) Zaj:=⟨⟨f_law_copy,_,["table"],PySem.W.mg_of X G a_law_copy,k_law_copy,Zhl (P:=l.prog) (w:=w) (base:=base) (L2.Ye (st:=JZ) l_law_copy c_law_copy k_law_copy) T,bnd1 (L2.Ye (st:=JZ) l_law_copy c_law_copy k_law_copy) fun _ _ _ _ _ _ _=>rfl⟩⟩
 have G_law_word_of:CalW l.prog w K mg base 1 "_law_word_of" YK:=⟨⟨f_law_word_of,_,"e",PySem.W.mg_of X G a_law_word_of,k_law_word_of,Zfq (P:=l.prog) (w:=w) (base:=base) (L2.Ye (st:=YG) l_law_word_of c_law_word_of k_law_word_of) T hxv XF,bnd1 (L2.Ye (st:=YG) l_law_word_of c_law_word_of k_law_word_of) fun _ _ _ _ _ _ _=>rfl⟩⟩
 have G_law_told:Cal l.prog w K mg base 5 "_law_told" rN YM:=⟨⟨f_law_told,_,["one","other"],PySem.W.mg_of X G a_law_told,k_law_told,Zhe (P:=l.prog) (w:=w) (base:=base) (L2.Ye (st:=Y0) l_law_told c_law_told k_law_told) T XF Gx_beside G_law_word_of,bnd2 (L2.Ye (st:=Y0) l_law_told c_law_told k_law_told) fun _ _ _ _ _ _ _ _=>rfl⟩⟩
 have G_law_both:Cal l.prog w K mg base 1 "_law_both" (rk K .k) Za3:=⟨⟨f_law_both,_,["one","other"],PySem.W.mg_of X G a_law_both,k_law_both,Zhq (P:=l.prog) (w:=w) (base:=base) (L2.Ye (st:=J0) l_law_both c_law_both k_law_both) T,bnd2 (L2.Ye (st:=J0) l_law_both c_law_both k_law_both) fun _ _ _ _ _ _ _ _=>rfl⟩⟩
 exact Zmh (P:=l.prog) (w:=w) (base:=base) (L2.Ye (st:=Za4) l_law c_law k_law) T G_law_folk_by G_law_renamed G_law_told G_law_both G_law_base G_law_cell_at G_law_copy G_order G_renaming G_law_lists G_flaw G_beside
theorem walk {l:PySem.W.OpenLaw}{q:Program}{loose:List Str}{XP:(Str→Option Value)→Heap→Prop}{YP:World→Heap→Prop}{d:DefRec}{K:Params→PySem.W.Frag}(hn:l.most=some 63)(hdf:d.params.defaults=[])
  (hY:∀ (w:World) (h:Heap),YP w h→(K w.params).In h)
  (F:∀ (w:World) (mg:Str→Option Value) (fa:Addr) (h:Heap),(K w.params).In h→h.Ns mainGlobals mg→mg d.name=some (.ref fa) →
   ∃ fd:FuncData,(∀ (s:Shared) (u:Value),BindsTo s fd ⟨[u],[]⟩ [("script",u)])∧∀ base:Heap,(K w.params).In base→base.Ns mainGlobals mg→L2.FnOk l.prog w (K w.params) mg base L2.CX0 17 fa fd ["script"] (spR (K w.params) (rk (K w.params) .k) ZeC)) :
  PySem.W.WalkO q loose XP YP l.row.toRowW d [] (fun f vs=>PySem.call f vs) :=
 L2.Zk8 (n:=63) (k:=17) (x:="script") (CX:=fun _=>L2.CX0) (sp:=fun w=>spR (K w.params) (rk (K w.params) .k) ZeC) hn (by decide) hdf ⟨rfl,by decide,by decide⟩ hY F (fun _ _ a ns hl _ hS=>Zi5 (Znl ns) hS) fun _ _ _ _ _ z=>z
end PV
set_option maxHeartbeats 0 in
theorem PySem.Challenge.cw_tablefolk_k12_whole_side_by_side_holds : PySem.Challenge.rw_tablefolk_k12_whole_side_by_side.Holds := by
  w_on; o_law; k_head; (case hw => w_witness2)
  k_fill
  refine PV.walk (l := PySem.Challenge.rw_tablefolk_k12_whole_side_by_side) rfl rfl (fun w h Y => PySem.W.kIn_of Y) ?F
  case F =>
    intro w mg fa h KX G hmg
    refine' PV.all_mk KX G hmg ?a_is_element ?l_is_element ?c_is_element ?k_is_element ?a_ask_table ?l_ask_table ?c_ask_table ?k_ask_table ?a_find_three ?l_find_three ?c_find_three ?k_find_three ?a_find_rest ?l_find_rest ?c_find_rest ?k_find_rest ?a_find_back ?l_find_back ?c_find_back ?k_find_back ?a_find_flaw ?l_find_flaw ?c_find_flaw ?k_find_flaw ?a_flaw ?l_flaw ?c_flaw ?k_flaw ?a_ask_folk ?l_ask_folk ?c_ask_folk ?k_ask_folk ?a_ask_element ?l_ask_element ?c_ask_element ?k_ask_element ?a_one_round ?l_one_round ?c_one_round ?k_one_round ?a_order ?l_order ?c_order ?k_order ?a_least_without_name ?l_least_without_name ?c_least_without_name ?k_least_without_name ?a_with_all_named ?l_with_all_named ?c_with_all_named ?k_with_all_named ?a_with_name ?l_with_name ?c_with_name ?k_with_name ?a_find_renaming ?l_find_renaming ?c_find_renaming ?k_find_renaming ?a_renaming ?l_renaming ?c_renaming ?k_renaming ?a_made_by_pairs ?l_made_by_pairs ?c_made_by_pairs ?k_made_by_pairs ?a_beside ?l_beside ?c_beside ?k_beside ?a_law_cell_at ?l_law_cell_at ?c_law_cell_at ?k_law_cell_at ?a_law_draw ?l_law_draw ?c_law_draw ?k_law_draw ?a_law_whole ?l_law_whole ?c_law_whole ?k_law_whole ?a_law_cycles ?l_law_cycles ?c_law_cycles ?k_law_cycles ?a_law_twisted ?l_law_twisted ?c_law_twisted ?k_law_twisted ?a_law_even ?l_law_even ?c_law_even ?k_law_even ?a_law_base ?l_law_base ?c_law_base ?k_law_base ?a_law_renamed ?l_law_renamed ?c_law_renamed ?k_law_renamed ?a_law_folk_by ?l_law_folk_by ?c_law_folk_by ?k_law_folk_by ?a_law_lists ?l_law_lists ?c_law_lists ?k_law_lists ?a_law_copy ?l_law_copy ?c_law_copy ?k_law_copy ?a_law_word_of ?l_law_word_of ?c_law_word_of ?k_law_word_of ?a_law_told ?l_law_told ?c_law_told ?k_law_told ?a_law_both ?l_law_both ?c_law_both ?k_law_both ?a_law ?l_law ?c_law ?k_law ?z_len ?z_range ?z_list ?z_all ?z_isinstance ?z_max ?z_int ?z_bool ?z_str ?z_tuple ?z_sorted ?z_set ?z_any ?z_enumerate ?z_dict ?v_MOST_ROWS ?n_0 ?n_1 ?n_2 ?n_3 ?n_4 ?n_5 ?n_6 ?n_F ?z_ValueError ?i_sp ?i_tk ?x_5 ?i_ga5 ?i_gx5 ?i_mb5 ?i_cl5 ?i_fi5 ?i_mo5 ?o_50 ?o_51 ?o_52 ?o_53 ?o_54 ?o_55 ?o_56 ?v_V5 ?e_5
    (case a_is_element => k_is)
    (case l_is_element => k_is)
    (case c_is_element => k_is)
    (case k_is_element => k_is)
    (case a_ask_table => k_is)
    (case l_ask_table => k_is)
    (case c_ask_table => k_is)
    (case k_ask_table => k_is)
    (case a_find_three => k_is)
    (case l_find_three => k_is)
    (case c_find_three => k_is)
    (case k_find_three => k_is)
    (case a_find_rest => k_is)
    (case l_find_rest => k_is)
    (case c_find_rest => k_is)
    (case k_find_rest => k_is)
    (case a_find_back => k_is)
    (case l_find_back => k_is)
    (case c_find_back => k_is)
    (case k_find_back => k_is)
    (case a_find_flaw => k_is)
    (case l_find_flaw => k_is)
    (case c_find_flaw => k_is)
    (case k_find_flaw => k_is)
    (case a_flaw => k_is)
    (case l_flaw => k_is)
    (case c_flaw => k_is)
    (case k_flaw => k_is)
    (case a_ask_folk => k_is)
    (case l_ask_folk => k_is)
    (case c_ask_folk => k_is)
    (case k_ask_folk => k_is)
    (case a_ask_element => k_is)
    (case l_ask_element => k_is)
    (case c_ask_element => k_is)
    (case k_ask_element => k_is)
    (case a_one_round => k_is)
    (case l_one_round => k_is)
    (case c_one_round => k_is)
    (case k_one_round => k_is)
    (case a_order => k_is)
    (case l_order => k_is)
    (case c_order => k_is)
    (case k_order => k_is)
    (case a_least_without_name => k_is)
    (case l_least_without_name => k_is)
    (case c_least_without_name => k_is)
    (case k_least_without_name => k_is)
    (case a_with_all_named => k_is)
    (case l_with_all_named => k_is)
    (case c_with_all_named => k_is)
    (case k_with_all_named => k_is)
    (case a_with_name => k_is)
    (case l_with_name => k_is)
    (case c_with_name => k_is)
    (case k_with_name => k_is)
    (case a_find_renaming => k_is)
    (case l_find_renaming => k_is)
    (case c_find_renaming => k_is)
    (case k_find_renaming => k_is)
    (case a_renaming => k_is)
    (case l_renaming => k_is)
    (case c_renaming => k_is)
    (case k_renaming => k_is)
    (case a_made_by_pairs => k_is)
    (case l_made_by_pairs => k_is)
    (case c_made_by_pairs => k_is)
    (case k_made_by_pairs => k_is)
    (case a_beside => k_is)
    (case l_beside => k_is)
    (case c_beside => k_is)
    (case k_beside => k_is)
    (case a_law_cell_at => k_is)
    (case l_law_cell_at => k_is)
    (case c_law_cell_at => k_is)
    (case k_law_cell_at => k_is)
    (case a_law_draw => k_is)
    (case l_law_draw => k_is)
    (case c_law_draw => k_is)
    (case k_law_draw => k_is)
    (case a_law_whole => k_is)
    (case l_law_whole => k_is)
    (case c_law_whole => k_is)
    (case k_law_whole => k_is)
    (case a_law_cycles => k_is)
    (case l_law_cycles => k_is)
    (case c_law_cycles => k_is)
    (case k_law_cycles => k_is)
    (case a_law_twisted => k_is)
    (case l_law_twisted => k_is)
    (case c_law_twisted => k_is)
    (case k_law_twisted => k_is)
    (case a_law_even => k_is)
    (case l_law_even => k_is)
    (case c_law_even => k_is)
    (case k_law_even => k_is)
    (case a_law_base => k_is)
    (case l_law_base => k_is)
    (case c_law_base => k_is)
    (case k_law_base => k_is)
    (case a_law_renamed => k_is)
    (case l_law_renamed => k_is)
    (case c_law_renamed => k_is)
    (case k_law_renamed => k_is)
    (case a_law_folk_by => k_is)
    (case l_law_folk_by => k_is)
    (case c_law_folk_by => k_is)
    (case k_law_folk_by => k_is)
    (case a_law_lists => k_is)
    (case l_law_lists => k_is)
    (case c_law_lists => k_is)
    (case k_law_lists => k_is)
    (case a_law_copy => k_is)
    (case l_law_copy => k_is)
    (case c_law_copy => k_is)
    (case k_law_copy => k_is)
    (case a_law_word_of => k_is)
    (case l_law_word_of => k_is)
    (case c_law_word_of => k_is)
    (case k_law_word_of => k_is)
    (case a_law_told => k_is)
    (case l_law_told => k_is)
    (case c_law_told => k_is)
    (case k_law_told => k_is)
    (case a_law_both => k_is)
    (case l_law_both => k_is)
    (case c_law_both => k_is)
    (case k_law_both => k_is)
    (case a_law => k_is)
    (case l_law => k_is)
    (case c_law => k_is)
    (case k_law => k_is)
    (case z_len => k_is)
    (case z_range => k_is)
    (case z_list => k_is)
    (case z_all => k_is)
    (case z_isinstance => k_is)
    (case z_max => k_is)
    (case z_int => k_is)
    (case z_bool => k_is)
    (case z_str => k_is)
    (case z_tuple => k_is)
    (case z_sorted => k_is)
    (case z_set => k_is)
    (case z_any => k_is)
    (case z_enumerate => k_is)
    (case z_dict => k_is)
    (case v_MOST_ROWS => k_is)
    (case n_0 => k_is)
    (case n_1 => k_is)
    (case n_2 => k_is)
    (case n_3 => k_is)
    (case n_4 => k_is)
    (case n_5 => k_is)
    (case n_6 => k_is)
    (case n_F => k_is)
    (case z_ValueError => k_is)
    (case i_sp => first | k_is | kernel_rfl)
    (case i_tk => first | k_is | kernel_rfl)
    (case x_5 => first | k_is | kernel_rfl)
    (case i_ga5 => first | k_is | kernel_rfl)
    (case i_gx5 => first | k_is | kernel_rfl)
    (case i_mb5 => first | k_is | kernel_rfl)
    (case i_cl5 => first | k_is | kernel_rfl)
    (case i_fi5 => first | k_is | kernel_rfl)
    (case i_mo5 => first | k_is | kernel_rfl)
    (case o_50 => first | k_is | kernel_rfl)
    (case o_51 => first | k_is | kernel_rfl)
    (case o_52 => first | k_is | kernel_rfl)
    (case o_53 => first | k_is | kernel_rfl)
    (case o_54 => first | k_is | kernel_rfl)
    (case o_55 => first | k_is | kernel_rfl)
    (case o_56 => first | k_is | kernel_rfl)
    (case v_V5 => first | k_is | kernel_rfl)
    (case e_5 => first | k_is | kernel_rfl)
