import PyProof.Rows.All
import Wide.All
import OpenK.AllK
import Wide.FinOn
import Lean
import PyProof.EqAt
import PyProof.EqKinds
import PyProof.TupleCall
import PySem.Str
import PyProof.NeKinds
import PyProof.SetKind
import PyProof.DictStraight
import PyProof.Rows.TupIn
import PyProof.CollectIter
import PyProof.FactsAll.set
import PyProof.SetNew
import PyProof.Rows.SortShell
import PyProof.Rows.SetFrom
import KE.KSortAsk
import PyProof.EnumMake
import PyProof.EnumFor
import PySem.Challenge.RW_tablefolk_k08_shares_and_loose_parts
theorem PySem.W.Fast.tw9293135715063726183 : True := trivial
theorem PySem.W.Fast.tw7879975161330326331 : True := trivial
theorem PySem.W.Fast.tw12905997759962757416 : True := trivial
theorem PySem.W.Fast.tw9547172934084175506 : True := trivial
theorem PySem.W.Fast.tw8803017803279455948 : True := trivial
set_option Elab.async false
set_option linter.all false
set_option maxRecDepth 100000
namespace L2
open PySem PySem.Spec PyProof.Rows
noncomputable abbrev Key:=Sum Int Str
noncomputable def ZeK:Key→Value→Bool
 | .inl k,v=>Value.isInt k v
 | .inr x,v=>Value.isStrOf x v
noncomputable def keyH (w:World):Key→Int
 | .inl k=>hashInt k
 | .inr x=>hashStr w x
theorem ZF:∀ {k:Key} {v:Value},ZeK k v=true→(∃ i t,k=Sum.inl i∧v=Value.int i t)∨(∃ x t,k=Sum.inr x∧v=Value.str x t)
 | .inl i,v,h=>by
  obtain ⟨t,e⟩:=Value.isInt_shape (k:=i) (v:=v) h
  exact .inl ⟨i,t,rfl,e⟩
 | .inr x,v,h=>by
  obtain ⟨t,e⟩:=Value.isStrOf_shape (x:=x) (v:=v) h
  exact .inr ⟨x,t,rfl,e⟩
theorem ZkN (i:Int)(t:Tok):ZeK (.inl i) (.int i t)=true:=by simp [ZeK,Value.isInt]
theorem ZkY (x:Str)(t:Tok):ZeK (.inr x) (.str x t)=true:=by simp [ZeK,Value.isStrOf]
theorem ZoX (a b:Int):decide ((Sum.inl a:Key)=Sum.inl b)=(a == b):=by
 by_cases e:a=b
 ·subst e;simp
 ·have h:¬ (Sum.inl a:Key)=Sum.inl b:=fun q=>e (Sum.inl.inj q)
  rw [decide_eq_false h]
  exact (beq_eq_false_iff_ne.mpr e).symm
theorem Zpq (a b:Str):decide ((Sum.inr a:Key)=Sum.inr b)=decide (a=b):=by
 by_cases e:a=b
 ·subst e;simp
 ·have h:¬ (Sum.inr a:Key)=Sum.inr b:=fun q=>e (Sum.inr.inj q)
  rw [decide_eq_false h,decide_eq_false e]
theorem Zpb (a:Int)(b:Str):decide ((Sum.inl a:Key)=Sum.inr b)=false:=decide_eq_false (fun q=>nomatch q)
theorem Zpv (a:Str)(b:Int):decide ((Sum.inr a:Key)=Sum.inl b)=false:=decide_eq_false (fun q=>nomatch q)
noncomputable def ZS (prog:Program) (w:World):PySem.KeyKind prog w Key where
 is:=ZeK
 hash:=keyH w
 inj:=fun v a b ha hb=>by
  rcases ZF ha with ⟨i,t,rfl,rfl⟩ | ⟨x,t,rfl,rfl⟩
  ·rcases ZF hb with ⟨j,u,rfl,e⟩ | ⟨y,u,rfl,e⟩
   ·injection e with e1 _;rw [e1]
   ·exact nomatch e
  ·rcases ZF hb with ⟨j,u,rfl,e⟩ | ⟨y,u,rfl,e⟩
   ·exact nomatch e
   ·injection e with e1 _;rw [e1]
 byValue:=fun k v h=>by
  rcases ZF h with ⟨i,t,rfl,rfl⟩ | ⟨x,t,rfl,rfl⟩ <;> rfl
 pyHash:=fun hv h=>by
  rcases ZF hv with ⟨i,t,rfl,rfl⟩ | ⟨x,t,rfl,rfl⟩
  ·exact wpAny_pyHash_int h
  ·exact wpAny_pyHash_str h
 eqBool:=fun hu hv h=>by
  rcases ZF hu with ⟨i,t,rfl,rfl⟩ | ⟨x,t,rfl,rfl⟩
  ·rcases ZF hv with ⟨j,u,rfl,rfl⟩ | ⟨y,u,rfl,rfl⟩
   ·rw [ZoX] at h;exact wpAny_eqBool_int h
   ·rw [Zpb] at h;exact SeqAt.EqAt.int_str i t y u _ _ _ _ h
  ·rcases ZF hv with ⟨j,u,rfl,rfl⟩ | ⟨y,u,rfl,rfl⟩
   ·rw [Zpv] at h;exact SeqAt.EqAt.str_int x t j u _ _ _ _ h
   ·rw [Zpq] at h;exact wpAny_eqBool_str h
 «strs»:=fun k x t v h=>by
  rcases ZF h with ⟨i,u,rfl,e⟩ | ⟨y,u,rfl,e⟩
  ·exact nomatch e
  ·injection e with e1 _
   subst e1
   cases v <;> rfl
theorem ZiJ (prog:Program)(w:World)(i:Int)(t:Tok):(ZS prog w).is (.inl i) (.int i t)=true:=ZkN i t
theorem ZiY (prog:Program)(w:World)(x:Str)(t:Tok):(ZS prog w).is (.inr x) (.str x t)=true:=ZkY x t
end L2
namespace L2
open PySem PySem.Spec PyProof.Rows
inductive V where
 | non | bl (b:Bool) | int (i:Int) | str (x:Str) | byt (b:Array UInt8) | flt (b:UInt64) | ref (a:Addr) | ty (n:String)
 deriving DecidableEq
noncomputable def RelV:V→Value→Prop
 | .non,u=>u=Value.none
 | .bl b,u=>u=Value.bool b
 | .int i,u=>∃ t,u=Value.int i t
 | .str x,u=>∃ t,u=Value.str x t
 | .byt b,u=>∃ t,u=Value.bytes b t
 | .flt b,u=>∃ t,u=Value.float b t
 | .ref a,u=>u=Value.ref a
 | .ty n,u=>u=Value.type n
noncomputable abbrev Vals:List V→List Value→Prop:=Paired RelV
theorem Vals.length {xs:List V}{us:List Value}(r:Vals xs us):xs.length=us.length:=Paired.length r
theorem Vals.get:∀ {xs:List V} {us:List Value} {i:Nat} {x:V},Vals xs us→xs[i]?=some x→∃ u,us[i]?=some u∧RelV x u
 | _,_,_,_,.nil,e=>by simp at e
 | _,_,0,_,.cons r _,e=>by simp at e;subst e;exact ⟨_,rfl,r⟩
 | _,_,i + 1,x,.cons _ t,e=>by
  obtain ⟨u,h1,h2⟩:=Vals.get (i:=i) (x:=x) t (by simpa using e)
  exact ⟨u,by simpa using h1,h2⟩
theorem Vals.set {x:V}{u:Value}(r:RelV x u):∀ {xs:List V} {us:List Value} (i:Nat),Vals xs us→Vals (xs.set i x) (us.set i u)
 | _,_,_,.nil=>.nil
 | _,_,0,.cons _ t=>.cons r t
 | _,_,i + 1,.cons q t=>.cons q (Vals.set r i t)
theorem Vals.append:∀ {xs ys:List V} {us ws:List Value},Vals xs us→Vals ys ws→Vals (xs++ys) (us++ws)
 | _,_,_,_,.nil,s=>s
 | _,_,_,_,.cons r t,s=>.cons r (Vals.append t s)
theorem Vals.take:∀ {xs:List V} {us:List Value} (n:Nat),Vals xs us→Vals (xs.take n) (us.take n)
 | _,_,0,_=>.nil
 | _,_,_ + 1,.nil=>.nil
 | _,_,n + 1,.cons r t=>.cons r (Vals.take n t)
theorem Vals.drop:∀ {xs:List V} {us:List Value} (n:Nat),Vals xs us→Vals (xs.drop n) (us.drop n)
 | _,_,0,r=>r
 | _,_,_ + 1,.nil=>.nil
 | _,_,n + 1,.cons _ t=>Vals.drop n t
noncomputable def RelO:Option V→Option Value→Prop
 | some v,some u=>RelV v u
 | none,none=>True
 | _,_=>False
noncomputable def KV {κ:Type}:List (κ × V)→List (κ × Value)→Prop:=Paired fun (p:κ × V) (q:κ × Value)=>p.1=q.1∧RelV p.2 q.2
noncomputable def kV:Key→V
 | .inl i=>.int i
 | .inr x=>.str x
inductive HO where
 | lst (xs:List V)
 | tup (xs:List V)
 | dK (kvs:List (Key × V)) | dT (kvs:List (List Key × V))
 | set (S:Int→Bool) (n:Nat)
 | ins (C dx:Addr) (fs:List (Str × V))
 | own (x:Addr)
 | xd (fs:List (Str × V))
 | met (f x:Addr)
 | rng (lo hi:Int)
 | frz (o:Obj) (u:HO)
 | tbl (ps:Array Value)
 | ext (φ:Heap→Prop)
noncomputable abbrev Hp:=Addr→Option HO
noncomputable def upd (H:Hp) (a:Addr) (o:HO):Hp:=fun b=>if b=a then some o else H b
theorem Yc {H:Hp}{a:Addr}{o:HO}:upd H a o a=some o:=by unfold upd;rw [if_pos rfl]
theorem Jd {H:Hp}{a b:Addr}{o:HO}(h:b≠a):upd H a o b=H b:=by unfold upd;rw [if_neg h]
theorem ZpY {H:Hp}{a b:Addr}{o u:HO}(h:H a=some o)(h':H b=some u)(d:o≠u):a≠b:=by
 intro e;subst e;rw [h] at h';exact d (Option.some.inj h')
theorem Zd {H:Hp}{a b:Addr}{o:HO}(h:H a=some o)(h':H b=none):a≠b:=by
 intro e;subst e;rw [h] at h';cases h'
section
variable (P:Program) (w:World)
noncomputable def Zw (H : Hp) (h : Heap) (a : Addr) : HO → Prop
  | .lst xs => xs.length ≤ sizeLine ∧ ∃ (its : List Value) (n : Nat), Vals xs its ∧ h.get? a = some { cls := .type "list", data := .seq its.toArray n }
  | .tup xs => xs.length ≤ sizeLine ∧ ∃ its : List Value, Vals xs its ∧ IsTup h a its.toArray
  | .dK kvs => kvs.length ≤ sizeLine ∧ (a == sysModules) = false ∧ ∃ vs, KV kvs vs ∧ h.DictOf (ZS P w) a vs
  | .dT kvs => kvs.length ≤ sizeLine ∧ (a == sysModules) = false ∧ ∃ xs : List (List Key × Addr × Value),
      Paired (fun (p : List Key × V) (q : List Key × Addr × Value) => p.1 = q.1 ∧ H q.2.1 = some (.tup (p.1.map kV)) ∧ RelV p.2 q.2.2) kvs xs ∧
      ∃ o es ep, h.get? a = some o ∧ o.ExactDict ∧ o.data = .dict es ep ∧ es.toList = xs.map (entryOfKey (tupleKind (ZS P w))) ∧ (xs.map (·.1)).Nodup
  | .set S n => h.SetOf (intKind P w) a S n
  | .ins C dx fs => H dx = some (.own a) ∧ fs.length ≤ 1000 ∧ dx ≠ a ∧ h.get? a = some (PySem.W.instObj C dx) ∧
      ∃ mA, h.Ns1 dx mA ∧ (∀ f, RelO (fs.lookup f) (mA f)) ∧ PySem.Within mA (fs.map (·.1))
  | .own _ => ∃ o, h.get? a = some o
  | .xd fs => ∃ mA, h.Ns1 a mA ∧ ∀ f, RelO (fs.lookup f) (mA f)
  | .rng lo hi => ∃ t u v, h.get? a = some { cls := .type "range", data := .fields #[.int lo t, .int hi u, .int 1 v] }
  | .frz o u => h.get? a = some o ∧ Zw H h a u
  | .tbl ps => h.get? a = some { cls := .none, data := .fields ps }
  | .met f x => h.get? a = some (PySem.W.methodObj (.ref f) (.ref x))
  | .ext φ => φ h ∧ (∃ o, h.get? a = some o) ∧ ∀ h1 h2 : Heap, φ h1 → (∀ o, h1.get? a = some o → h2.get? a = some o) → φ h2
noncomputable def HOk (H:Hp) (h:Heap):Prop:=∀ a o,H a=some o→Zw P w H h a o
end
section
variable {P:Program} {w:World} {H H':Hp} {h h':Heap} {a:Addr} {o:HO}
theorem Zw.lt (x:Zw P w H h a o):a < h.objs.size:=by
 cases o with
 | lst xs=>obtain ⟨_,_,_,_,e⟩:=x;exact Heap.lt_size e
 | tup xs=>obtain ⟨_,_,_,p⟩:=x;exact p.lt
 | dK kvs=>obtain ⟨_,_,_,_,o,_,_,e,_⟩:=x;exact Heap.lt_size e
 | dT kvs=>obtain ⟨_,_,_,_,o,_,_,e,_⟩:=x;exact Heap.lt_size e
 | set S n=>obtain ⟨o,_,_,_,e,_⟩:=x;exact Heap.lt_size e
 | ins C dx fs=>obtain ⟨_,_,_,e,_⟩:=x;exact Heap.lt_size e
 | own y=>obtain ⟨_,e⟩:=x;exact Heap.lt_size e
 | xd fs=>obtain ⟨_,⟨_,_,_,e,_⟩,_⟩:=x;exact Heap.lt_size e
 | rng lo hi=>obtain ⟨_,_,_,e⟩:=x;exact Heap.lt_size e
 | frz ob u=>obtain ⟨e,_⟩:=x;exact Heap.lt_size e
 | tbl ps=>exact Heap.lt_size (show h.get? a=some _ from x)
 | met f y=>exact Heap.lt_size (show h.get? a=some _ from x)
 | ext φ=>obtain ⟨_,⟨_,e⟩,_⟩:=x;exact Heap.lt_size e
theorem Paired.mapP {α β:Type}{F G:α→β→Prop}:∀ {l₁:List α} {l₂:List β},Paired F l₁ l₂→(∀ a b,F a b→G a b)→Paired G l₁ l₂
 | _,_,.nil,_=>.nil
 | _,_,.cons r t,f=>.cons (f _ _ r) (Paired.mapP t f)
theorem Zw.stay (x:Zw P w H h a o)(k:∀ b u,(b=a∨H b=some (.own a))→h.get? b=some u→h'.get? b=some u)
  (ho:∀ b,H b=some (.own a)→H' b=some (.own a)) (ht:∀ b xs,H b=some (.tup xs)→H' b=some (.tup xs)):Zw P w H' h' a o:=by
 induction o with
 | lst xs=>obtain ⟨z,its,n,r,e⟩:=x;exact ⟨z,its,n,r,k _ _ (.inl rfl) e⟩
 | tup xs=>obtain ⟨z,its,r,ob,e,c⟩:=x;exact ⟨z,its,r,ob,k _ _ (.inl rfl) e,c⟩
 | dK kvs=>obtain ⟨z,y,vs,r,ob,es,ep,e,c⟩:=x;exact ⟨z,y,vs,r,ob,es,ep,k _ _ (.inl rfl) e,c⟩
 | dT kvs =>
  obtain ⟨z,y,xs,r,ob,es,ep,e,c⟩:=x
  exact ⟨z,y,xs,Paired.mapP r fun p q z=>⟨z.1,ht _ _ z.2.1,z.2.2⟩,ob,es,ep,k _ _ (.inl rfl) e,c⟩
 | set S n=>obtain ⟨ob,es,ep,t,e,c⟩:=x;exact ⟨ob,es,ep,t,k _ _ (.inl rfl) e,c⟩
 | ins C dx fs =>
  obtain ⟨d,z,ne,e,mA,⟨od,es,ep,e2,c⟩,r⟩:=x
  exact ⟨ho _ d,z,ne,k _ _ (.inl rfl) e,mA,⟨od,es,ep,k _ _ (.inr d) e2,c⟩,r⟩
 | own y=>obtain ⟨ob,e⟩:=x;exact ⟨ob,k _ _ (.inl rfl) e⟩
 | xd fs=>obtain ⟨mA,⟨od,es,ep,e,c⟩,r⟩:=x;exact ⟨mA,⟨od,es,ep,k _ _ (.inl rfl) e,c⟩,r⟩
 | rng lo hi=>obtain ⟨t,u,v,e⟩:=x;exact ⟨t,u,v,k _ _ (.inl rfl) e⟩
 | frz ob u ih=>obtain ⟨e,q⟩:=x;exact ⟨k _ _ (.inl rfl) e,ih q⟩
 | tbl ps =>
  have e:h.get? a=some { cls:=.none,data:=.fields ps }:=x
  show h'.get? a=some { cls:=.none,data:=.fields ps }
  exact k a _ (.inl rfl) e
 | met f y =>
  have e:h.get? a=some (PySem.W.methodObj (.ref f) (.ref y)):=x
  show h'.get? a=some (PySem.W.methodObj (.ref f) (.ref y))
  exact k a _ (.inl rfl) e
 | ext φ=>obtain ⟨p,⟨o,e⟩,st⟩:=x;exact ⟨st _ _ p fun o q=>k _ _ (.inl rfl) q,⟨o,k _ _ (.inl rfl) e⟩,st⟩
theorem HOk.lt (x:HOk P w H h)(e:H a=some o):a < h.objs.size:=(x a o e).lt
theorem HOk.fresh (x:HOk P w H h)(e:h.objs.size≤a):H a=none:=by
 cases q:H a with
 | none=>rfl
 | some u=>exact absurd (Nat.lt_of_lt_of_le (x.lt q) e) (Nat.lt_irrefl _)
theorem HOk.kept (x:HOk P w H h)(k:∀ b u,h.get? b=some u→h'.get? b=some u):HOk P w H h':=fun a o e =>
 (x a o e).stay (fun b u _ q=>k b u q) (fun _ q=>q) fun _ _ q=>q
theorem HOk.laid (x:HOk P w H h)(k:∀ b u,h.get? b=some u→h'.get? b=some u)(hp:h.objs.size≤a)(new:Zw P w (upd H a o) h' a o):HOk P w (upd H a o) h':=fun b u e=>by
 have hn:=x.fresh hp
 by_cases hb:b=a
 ·subst hb;rw [Yc] at e;cases e;exact new
 ·rw [Jd hb] at e
  exact (x b u e).stay (fun c v _ q=>k c v q) (fun c q=>by rw [Jd (Zd q hn)];exact q) fun c xs q=>by rw [Jd (Zd q hn)];exact q
end
noncomputable def Rd (H:Hp) (a:Addr) (u:HO):Prop:=H a=some u∨∃ o,H a=some (.frz o u)
theorem Rd.of {H:Hp}{a:Addr}{u:HO}(h:H a=some u):Rd H a u:=.inl h
theorem Rd.ok {P:Program}{w:World}{H:Hp}{h:Heap}{a:Addr}{u:HO}(r:Rd H a u)(x:HOk P w H h):Zw P w H h a u:=by
 rcases r with r | ⟨o,r⟩
 ·exact x a u r
 ·obtain ⟨_,q⟩:=x a _ r
  exact q
noncomputable def Mut:Option HO→Prop
 | some (.lst _)=>True
 | some (.dK _)=>True
 | some (.dT _)=>True
 | some (.set _ _)=>True
 | some (.ins _ _ _)=>True
 | some (.ext _)=>True
 | _=>False
section
variable {P:Program} {w:World} {H:Hp} {h h':Heap} {x e:Addr} {o':HO}
theorem HOk.write (ok : HOk P w H h)(mu : Mut (H x))(he : e = x ∨ H e = some (.own x))(k : ∀ b u, b ≠ e → h.get? b = some u → h'.get? b = some u)(heo : ∃ u, h'.get? e = some u)
    (new : Zw P w (upd H x o') h' x o') : HOk P w (upd H x o') h' := fun b u q => by
  have nown : ∀ c y, H c = some (.own y) → c ≠ x := fun c y r z => by subst z; rw [r] at mu; exact mu
  have ntup : ∀ c xs, H c = some (.tup xs) → c ≠ x := fun c xs r z => by subst z; rw [r] at mu; exact mu
  by_cases hb : b = x
  · subst hb; rw [Yc] at q; cases q; exact new
  · rw [Jd hb] at q
    by_cases hbe : b = e
    · have q' : H b = some (.own x) := by
        rcases he with z | z
        · exact absurd (hbe.trans z) hb
        · rw [hbe]; exact z
      rw [q] at q'; cases q'
      obtain ⟨v, hv⟩ := heo
      exact ⟨v, by rw [hbe]; exact hv⟩
    · refine (ok b u q).stay (fun c v hc r => k c v ?_ r) (fun c r => by rw [Jd (nown c b r)]; exact r) fun c xs r => by rw [Jd (ntup c xs r)]; exact r
      rcases hc with rfl | hc
      · exact hbe
      · rintro rfl
        rcases he with z | z
        · exact nown c b hc z
        · rw [hc] at z; cases z; exact hb rfl
end
structure Un (fs ex:List Addr)(H H':Hp)(h h':Heap):Prop where
 keep:∀ b o,h.get? b=some o→H b=none→b ∉ fs→b ∉ ex→h'.get? b=some o
 slot:∀ b o,h.get? b=some o→H b=none→b ∈ fs→b ∉ ex→∃ sl,h'.get? b=some { o with slots:=sl }
 free:∀ b o,h.get? b=some o→H b=none→b ∉ ex→H' b=none
 there:∀ b o,h.get? b=some o→b ∉ ex→∃ o',h'.get? b=some o'
 tups:∀ b xs,H b=some (.tup xs)→H' b=some (.tup xs)
 frzs:∀ b o u,H b=some (.frz o u)→H' b=some (.frz o u)
 tbls:∀ b ps,H b=some (.tbl ps)→∃ more,H' b=some (.tbl (ps++more))
section
variable {fs fs' ex ex':List Addr} {H H1 H2:Hp} {h h1 h2 h':Heap} {a x e:Addr} {o:HO}
theorem Un.any (u:Un fs ex H H1 h h1){b:Addr}{ob:Obj}(q:h.get? b=some ob)(n:H b=none)(hx:b ∉ ex):∃ sl,h1.get? b=some { ob with slots:=sl }:=by
 by_cases hb:b ∈ fs
 ·exact u.slot b ob q n hb hx
 ·exact ⟨ob.slots,u.keep b ob q n hb hx⟩
theorem Un.trans (a:Un fs ex H H1 h h1)(b:Un fs ex H1 H2 h1 h2):Un fs ex H H2 h h2 where
 keep:=fun c ob q n hc hx=>b.keep c ob (a.keep c ob q n hc hx) (a.free c ob q n hx) hc hx
 slot:=fun c ob q n hc hx=>by
  obtain ⟨sl,e1⟩:=a.slot c ob q n hc hx
  obtain ⟨sl',e2⟩:=b.slot c _ e1 (a.free c ob q n hx) hc hx
  exact ⟨sl',e2⟩
 free:=fun c ob q n hx=>by
  obtain ⟨o',e1⟩:=a.there c ob q hx
  exact b.free c o' e1 (a.free c ob q n hx) hx
 there:=fun c ob q hx=>by
  obtain ⟨o',e1⟩:=a.there c ob q hx
  exact b.there c o' e1 hx
 tups:=fun c xs q=>b.tups c xs (a.tups c xs q)
 frzs:=fun c ob xs q=>b.frzs c ob xs (a.frzs c ob xs q)
 tbls:=fun c ps q=>by
  obtain ⟨m1,e1⟩:=a.tbls c ps q
  obtain ⟨m2,e2⟩:=b.tbls c _ e1
  exact ⟨m1++m2,by rw [e2,Array.append_assoc]⟩
theorem Un.kept (k:∀ b u,h.get? b=some u→h'.get? b=some u):Un fs ex H H h h' :=
 ⟨fun b ob q _ _ _=>k b ob q,fun b ob q _ _ _=>⟨ob.slots,k b ob q⟩,fun _ _ _ n _=>n,fun b ob q _=>⟨ob,k b ob q⟩,fun _ _ q=>q,fun _ _ _ q=>q,fun _ ps q=>⟨#[],by rw [q];simp⟩⟩
theorem Un.refl:Un fs ex H H h h:=Un.kept fun _ _ q=>q
theorem Un.laid (k:∀ b u,h.get? b=some u→h'.get? b=some u)(hp:h.objs.size≤a)(hn:H a=none):Un fs ex H (upd H a o) h h' where
 keep:=fun b u q _ _ _=>k b u q
 slot:=fun b u q _ _ _=>⟨u.slots,k b u q⟩
 free:=fun b u q n _=>by rw [Jd (Nat.ne_of_lt (Nat.lt_of_lt_of_le (Heap.lt_size q) hp))];exact n
 there:=fun b u q _=>⟨u,k b u q⟩
 tups:=fun b xs q=>by rw [Jd (Zd q hn)];exact q
 frzs:=fun b u xs q=>by rw [Jd (Zd q hn)];exact q
 tbls:=fun b ps q=>⟨#[],by rw [Jd (Zd q hn),q];simp⟩
theorem Un.write (mu:Mut (H x))(he:e=x∨H e=some (.own x))(k:∀ b u,b≠e→h.get? b=some u→h'.get? b=some u)(heo:∃ u,h'.get? e=some u):Un fs ex H (upd H x o) h h':=by
 have hx:∀ b,H b=none→b≠x:=fun b n z=>by subst z;rw [n] at mu;exact mu
 have hb:∀ b,H b=none→b≠e:=fun b n z=>by
  subst z
  rcases he with r | r
  ·exact hx b n r
  ·rw [n] at r;cases r
 have hm:∀ b u,H b=some u→¬ Mut (some u)→b≠x:=fun b u q nm z=>by subst z;rw [q] at mu;exact nm mu
 refine ⟨fun b u q n _ _=>k b u (hb b n) q,fun b u q n _ _=>⟨u.slots,k b u (hb b n) q⟩,fun b u q n _=>by rw [Jd (hx b n)];exact n,fun b u q _=>?_,
  fun b xs q=>by rw [Jd (hm b _ q fun z=>z)];exact q,fun b u xs q=>by rw [Jd (hm b _ q fun z=>z)];exact q,fun b ps q=>⟨#[],by rw [Jd (hm b _ q fun z=>z),q];simp⟩⟩
 by_cases hbe:b=e
 ·subst hbe;exact heo
 ·exact ⟨u,k b u hbe q⟩
theorem Un.mono (u:Un fs ex H H1 h h1)(hs:∀ b ∈ fs,b ∈ fs')(hx:∀ b ∈ ex,b ∈ ex'):Un fs' ex' H H1 h h1 :=
 ⟨fun b ob q n hb he=>u.keep b ob q n (fun z=>hb (hs b z)) fun z=>he (hx b z),fun _ _ q n _ he=>u.any q n fun z=>he (hx _ z),fun b ob q n he=>u.free b ob q n fun z=>he (hx b z),fun b ob q he=>u.there b ob q fun z=>he (hx b z),u.tups,u.frzs,u.tbls⟩
end
noncomputable def trk (h:Heap) (H:Hp):List Addr:=(List.range h.objs.size).filter fun a=>(H a).isSome
noncomputable def hidT (h:Heap) (H:Hp):Heap:=PySem.W.hideAll h (trk h H)
theorem ZlA (h:Heap)(H:Hp):(hidT h H).objs.size=h.objs.size:=PySem.W.hideAll_size _ _
theorem Zmn {h:Heap}{H:Hp}{b:Addr}{o:Obj}(e:h.get? b=some o)(n:H b=none):(hidT h H).get? b=some o :=
 PySem.W.hideAll_get _ e fun hm=>by
  have q:(H b).isSome=true:=(List.mem_filter.mp hm).2
  rw [n] at q;simp at q
theorem ZnI {h:Heap}{H:Hp}{b:Addr}{o:Obj}(e:(hidT h H).get? b=some o):h.get? b=some o∧H b=none:=by
 have e':h.get? b=some o:=PySem.W.of_hideAll (trk h H) e
 refine ⟨e',?_⟩
 cases q:H b with
 | none=>rfl
 | some x =>
  have hm:b ∈ trk h H:=List.mem_filter.mpr ⟨List.mem_range.mpr (Heap.lt_size e'),by simp [q]⟩
  have z:(hidT h H).get? b=none:=PySem.W.hideAll_none (trk h H) hm
  rw [z] at e;cases e
noncomputable def Zn8 (g h:Heap) (L:Addr):List (Addr × Obj):=(List.range h.objs.size).filterMap fun a=>if a=L∨(g.get? a).isSome=true then none else (h.get? a).map fun o=>(a,o)
noncomputable def rest (g h:Heap) (L d:Addr):List (Addr × Obj):=(Zn8 g h L).filter fun p=>decide (p.1≠d)
end L2
namespace L2
open PySem PySem.Spec PyProof.Rows
structure Mod (K:PySem.W.Frag)(mg:Str→Option Value)(base:Heap):Prop where
 kin:K.In base
 glob:base.Ns mainGlobals mg
 blt:∃ mb,base.Ns builtinsNs mb∧∀ x:Str,x≠"__name__"→mb x=bootBuiltins x
 nolimit:base.NoLimit
structure Cx where
 prog:Program
 w:World
 K:PySem.W.Frag
 mg:Str→Option Value
 base:Heap
 A:Around
 N:List Str
 s₀:Shared
 H₀:Hp
 env:Env
 outer:List Env
 stack:List Env
 ex:List Addr
 fn:Str→Bool
 calm:Bool
 pn:List (Addr × Obj)
 xe:Value→Shared→Prop
noncomputable def frs (l:List Env):List Addr:=l.filterMap (·.frame)
noncomputable abbrev Cx.fs (X:Cx):List Addr:=frs X.outer
noncomputable def Vis (sc:Scope) (x:Str):Prop:=sc.names.lookup x=some .local∨sc.names.lookup x=some .cell∨sc.names.lookup x=some .free
noncomputable def Loc (sc:Scope) (x:Str):Prop:=sc.names.lookup x=some .local∨sc.names.lookup x=some .cell
noncomputable def Look (env:Env) (h:Heap) (m:Str→Option Value) (x:Str) (u:Value):Prop :=
 (env.kindOf x=some .local∧m x=some u)∨((env.kindOf x=some .cell∨env.kindOf x=some .free)∧∃ c,env.cells.lookup x=some c∧h.IsCell c (some u))
structure Cx.Ok (X:Cx):Prop where
 mod:Mod X.K X.mg X.base
 kind:X.env.scope.kind=.function
 glob:X.env.globals=mainGlobals
 blt:X.env.builtins=builtinsNs
 above:X.s₀.heap.objs.size≤X.env.locals
 inj:∀ x y c,X.env.cells.lookup x=some c→X.env.cells.lookup y=some c→x=y
 has:∀ x,(X.env.kindOf x=some .cell∨X.env.kindOf x=some .free)→∃ c,X.env.cells.lookup x=some c
 cab:∀ x c,X.fn x=true→X.env.cells.lookup x=some c→X.s₀.heap.objs.size≤c
 hd:X.calm=true→X.A.handled=none
 frames:X.A.frames=some X.stack
 stk:X.stack=X.outer∨(X.stack=X.env::X.outer∧X.env.frame=some X.env.locals)
 exf:∀ b ∈ X.ex,b≠X.env.locals∧∀ x c,X.env.cells.lookup x=some c→c≠b
 bs:∀ b o,X.base.get? b=some o→X.s₀.heap.get? b=some o∧X.H₀ b=none
 bsz:X.base.objs.size≤X.s₀.heap.objs.size
 noex:∀ b o,X.base.get? b=some o→b ∉ X.ex
 exfs:∀ b ∈ X.ex,b ∉ X.fs
 funs:X.s₀.heap.FunFrames X.base X.outer
 frf:∀ b ∈ X.fs,X.H₀ b=none
structure Inv (X:Cx)(pins:List (Addr × Obj))(σ:List (Option V))(H:Hp)(s:Shared):Prop where
 ok:X.Ok
 os:s.os=X.s₀.os
 bare:AllBare s.gens
 base:Un X.fs X.ex X.H₀ H X.s₀.heap s.heap
 loc:∃ m,s.heap.Ns X.env.locals m∧∀ (i:Nat) (x:Str) (v:V),X.N[i]?=some x→σ[i]?=some (some v)→Vis X.env.scope x→∃ u,RelV v u∧Look X.env s.heap m x u
 cell:∀ x c,X.env.cells.lookup x=some c→∃ v,s.heap.IsCell c v
 free:H X.env.locals=none
 freeC:∀ x c,X.env.cells.lookup x=some c→H c=none
 pin:∀ p ∈ X.pn++pins,s.heap.get? p.1=some p.2∧H p.1=none∧p.1≠X.env.locals∧p.1 ∉ X.fs∧∀ v,p.2.data≠.cell v
 hok:HOk X.prog X.w H s.heap
 len:σ.length=X.N.length
section
variable {X:Cx} {pins:List (Addr × Obj)} {σ:List (Option V)} {H H':Hp} {s:Shared} {h':Heap}
theorem Cx.Ok.nofr (ok:X.Ok){b:Addr}{o:Obj}(e:X.base.get? b=some o):b ∉ X.fs:=fun hb=>by
 have:=(ok.funs.mem hb).1
 rw [e] at this;cases this
theorem Inv.bs (I:Inv X pins σ H s):∀ b o,X.base.get? b=some o→s.heap.get? b=some o∧H b=none:=fun b o e =>
 ⟨I.base.keep b o (I.ok.bs b o e).1 (I.ok.bs b o e).2 (I.ok.nofr e) (I.ok.noex b o e),I.base.free b o (I.ok.bs b o e).1 (I.ok.bs b o e).2 (I.ok.noex b o e)⟩
theorem Inv.bk (I:Inv X pins σ H s):∀ b o,X.base.get? b=some o→s.heap.get? b=some o:=fun b o e=>(I.bs b o e).1
theorem Inv.mod (I:Inv X pins σ H s):Mod X.K X.mg X.base:=I.ok.mod
theorem Inv.kIn (I:Inv X pins σ H s):X.K.In s.heap:=I.ok.mod.kin.keeps I.bk
theorem Inv.nolimit (I:Inv X pins σ H s):s.heap.NoLimit:=I.ok.mod.nolimit.keeps I.bk
theorem Inv.fr (I:Inv X pins σ H s):∃ m,Fr X.base X.env.locals s.heap m :=
 let ⟨m,hn,_⟩:=I.loc
 ⟨m,hn,I.bk,Nat.le_trans I.ok.bsz I.ok.above⟩
theorem Inv.lt (I:Inv X pins σ H s):X.env.locals < s.heap.objs.size:=let ⟨_,hn,_⟩:=I.loc;hn.lt
theorem Inv.sz (I:Inv X pins σ H s):X.s₀.heap.objs.size≤s.heap.objs.size:=Nat.le_trans I.ok.above (Nat.le_of_lt I.lt)
theorem Inv.nofs (I:Inv X pins σ H s){a:Addr}(h:s.heap.objs.size≤a):a ∉ X.fs:=fun hb=>by
 obtain ⟨_,o,ho,_⟩:=I.ok.funs.mem hb
 exact absurd (Nat.lt_of_lt_of_le (Heap.lt_size ho) (Nat.le_trans I.sz h)) (Nat.lt_irrefl _)
theorem Inv.cne (I:Inv X pins σ H s):∀ x c,X.env.cells.lookup x=some c→c≠X.env.locals:=fun x c e z=>by
 obtain ⟨v,o,ho,hd⟩:=I.cell x c e
 obtain ⟨m,⟨o',es,ep,ho',hd',_⟩,_⟩:=I.loc
 rw [z,ho'] at ho;cases ho;rw [hd'] at hd;cases hd
theorem Inv.funs (I:Inv X pins σ H s):s.heap.FunFrames X.base X.outer:=by
 have all:∀ (l:List Env),(∀ b ∈ frs l,b ∈ X.fs)→X.s₀.heap.FunFrames X.base l→s.heap.FunFrames X.base l:=by
  intro l
  induction l with
  | nil=>intro _ _;trivial
  | cons env r ih =>
   intro hs hl
   obtain ⟨hk,⟨L,o,hf,hn,ho,hd⟩,hr⟩:=hl
   have hL:L ∈ X.fs:=hs L (by unfold frs;rw [List.filterMap_cons,hf];exact List.mem_cons_self)
   obtain ⟨sl,e⟩:=I.base.slot L o ho (I.ok.frf L hL) hL fun z=>I.ok.exfs L z hL
   exact ⟨hk,⟨L,_,hf,hn,e,hd⟩,ih (fun b hb=>hs b (by unfold frs;rw [List.filterMap_cons,hf];exact List.mem_cons_of_mem _ hb)) hr⟩
 exact all X.outer (fun _ hb=>hb) I.ok.funs
theorem Inv.stack (I:Inv X pins σ H s):s.heap.FunFrames X.base X.stack:=by
 rcases I.ok.stk with e | ⟨e,hf⟩
 ·rw [e];exact I.funs
 ·rw [e]
  obtain ⟨m,hn,_⟩:=I.loc
  refine .cons (by rw [I.ok.kind];decide) hf hn ?_ I.funs
  exact Heap.get?_none_of_le (Nat.le_trans I.ok.bsz I.ok.above)
theorem Inv.Zdb (I:Inv X pins σ H s):∀ b ∈ frs X.stack,b ∈ X.env.locals::X.fs:=fun b hb=>by
 rcases I.ok.stk with e | ⟨e,hf⟩
 ·rw [e] at hb;exact List.mem_cons_of_mem _ hb
 ·rw [e] at hb
  unfold frs at hb
  rw [List.filterMap_cons,hf] at hb
  exact hb
theorem Inv.Zgv (I:Inv X pins σ H s):∀ b ∈ frs X.stack,H b=none:=fun b hb=>by
 rcases List.mem_cons.mp (I.Zdb b hb) with e | hb
 ·rw [e];exact I.free
 ·obtain ⟨_,o,ho,_⟩:=I.ok.funs.mem hb
  exact I.base.free b o ho (I.ok.frf b hb) fun z=>I.ok.exfs b z hb
theorem Inv.step {g':Array GenState}{t':Nat}{d':Drawn}{ch:List Addr}(I:Inv X pins σ H s)
  (hch:∀ b ∈ ch,(b ∈ X.ex∨X.s₀.heap.objs.size≤b)∧b≠X.env.locals∧(∀ x c,X.env.cells.lookup x=some c→c≠b)∧∀ p ∈ X.pn++pins,p.1≠b)
  (keep:∀ b o,b≠X.env.locals→b ∉ X.fs→b ∉ ch→s.heap.get? b=some o→H b=none→h'.get? b=some o)
  (slot:∀ b o,b≠X.env.locals→b ∈ X.fs→b ∉ ch→s.heap.get? b=some o→H b=none→∃ sl,h'.get? b=some { o with slots:=sl }) (free:∀ b o,b ∉ ch→s.heap.get? b=some o→H b=none→H' b=none)
  (there:∀ b o,b ∉ ch→s.heap.get? b=some o→∃ o',h'.get? b=some o')
  (tups:∀ b xs,H b=some (.tup xs)→H' b=some (.tup xs)) (frzs:∀ b o u,H b=some (.frz o u)→H' b=some (.frz o u)) (tbls:∀ b ps,H b=some (.tbl ps)→∃ more,H' b=some (.tbl (ps++more)))
  (ns:∀ m,s.heap.Ns X.env.locals m→h'.Ns X.env.locals m) (hok:HOk X.prog X.w H' h') (hg:AllBare g') :
  Inv X pins σ H' { s with heap:=h',gens:=g',drawn:=d',toks:=t' }:=by
 have neL:∀ b o,X.s₀.heap.get? b=some o→b≠X.env.locals:=fun b o e=>Nat.ne_of_lt (Nat.lt_of_lt_of_le (Heap.lt_size e) I.ok.above)
 have neC:∀ b o,X.s₀.heap.get? b=some o→b ∉ X.ex→b ∉ ch:=fun b o e hx hb=>by
  rcases (hch b hb).1 with z | z
  ·exact hx z
  ·exact absurd (Nat.lt_of_lt_of_le (Heap.lt_size e) z) (Nat.lt_irrefl _)
 have cellK:∀ x c,X.env.cells.lookup x=some c→∀ v,s.heap.IsCell c v→h'.IsCell c v:=fun x c e v ⟨o,ho,hd⟩=>by
  have nch:c ∉ ch:=fun z=>(hch c z).2.2.1 x c e rfl
  by_cases hc:c ∈ X.fs
  ·obtain ⟨sl,q⟩:=slot c o (I.cne x c e) hc nch ho (I.freeC x c e)
   exact ⟨_,q,hd⟩
  ·exact ⟨o,keep c o (I.cne x c e) hc nch ho (I.freeC x c e),hd⟩
 refine ⟨I.ok,I.os,hg,⟨fun b o e n hb hx=>?_,fun b o e n hb hx=>?_,fun b o e n hx=>?_,fun b o e hx=>?_,fun b xs e=>tups b xs (I.base.tups b xs e),fun b o xs e=>frzs b o xs (I.base.frzs b o xs e),fun b ps e=>?_⟩,?_,fun x c e=>?_,?_,fun x c e=>?_,fun p hp=>?_,hok,I.len⟩
 ·exact keep b o (neL b o e) hb (neC b o e hx) (I.base.keep b o e n hb hx) (I.base.free b o e n hx)
 ·obtain ⟨sl,e1⟩:=I.base.slot b o e n hb hx
  obtain ⟨sl',e2⟩:=slot b _ (neL b o e) hb (neC b o e hx) e1 (I.base.free b o e n hx)
  exact ⟨sl',e2⟩
 ·obtain ⟨o',e1⟩:=I.base.there b o e hx
  exact free b o' (neC b o e hx) e1 (I.base.free b o e n hx)
 ·obtain ⟨o',e1⟩:=I.base.there b o e hx
  exact there b o' (neC b o e hx) e1
 ·obtain ⟨m1,e1⟩:=I.base.tbls b ps e
  obtain ⟨m2,e2⟩:=tbls b _ e1
  exact ⟨m1++m2,by rw [e2,Array.append_assoc]⟩
 ·obtain ⟨m,hn,hl⟩:=I.loc
  refine ⟨m,ns m hn,fun i x v e1 e2 e3=>?_⟩
  obtain ⟨u,r,l⟩:=hl i x v e1 e2 e3
  refine ⟨u,r,?_⟩
  rcases l with l | ⟨k,c,e,z⟩
  ·exact .inl l
  ·exact .inr ⟨k,c,e,cellK x c e _ z⟩
 ·obtain ⟨v,z⟩:=I.cell x c e
  exact ⟨v,cellK x c e v z⟩
 ·obtain ⟨m,⟨o,_,_,ho,_⟩,_⟩:=I.loc
  exact free _ o (fun z=>(hch _ z).2.1 rfl) ho I.free
 ·obtain ⟨v,o,ho,hd⟩:=I.cell x c e
  exact free c o (fun z=>(hch c z).2.2.1 x c e rfl) ho (I.freeC x c e)
 ·obtain ⟨e,n,ne,nf,d⟩:=I.pin p hp
  have nch:p.1 ∉ ch:=fun z=>(hch p.1 z).2.2.2 p hp rfl
  exact ⟨keep p.1 p.2 ne nf nch e n,free p.1 p.2 nch e n,ne,nf,d⟩
theorem Inv.un {t':Nat}(I:Inv X pins σ H s)(u:Un X.fs [] H H' s.heap h')(hok:HOk X.prog X.w H' h'):Inv X pins σ H' { s with heap:=h',toks:=t' }:=by
 obtain ⟨m,⟨o,es,ep,ho,r⟩,_⟩:=id I.loc
 obtain ⟨sl,hL⟩:=u.any ho I.free (by simp)
 exact I.step (g':=s.gens) (d':=s.drawn) (ch:=[]) (fun _ z=>nomatch z) (fun b o _ hb _ e n=>u.keep b o e n hb (by simp)) (fun b o _ hb _ e n=>u.slot b o e n hb (by simp)) (fun b o _ e n=>u.free b o e n (by simp)) (fun b o _ e=>u.there b o e (by simp)) u.tups u.frzs u.tbls (fun m' hm=>by
  obtain ⟨o',es',ep',ho',r'⟩:=hm
  rw [ho] at ho';cases ho'
  exact ⟨_,es',ep',hL,r'⟩) hok I.bare
theorem Inv.call {g':Array GenState}{t':Nat}{d':Drawn}{ch:List Addr}(I:Inv X pins σ H s)(u:Un (frs X.stack) ch H H' s.heap h')(hok:HOk X.prog X.w H' h')(hg:AllBare g')
  (hch:∀ b ∈ ch,(b ∈ X.ex∨X.s₀.heap.objs.size≤b)∧b≠X.env.locals∧(∀ x c,X.env.cells.lookup x=some c→c≠b)∧∀ p ∈ X.pn++pins,p.1≠b) :
  Inv X pins σ H' { s with heap:=h',gens:=g',drawn:=d',toks:=t' }:=by
 obtain ⟨m,⟨o,es,ep,ho,r⟩,_⟩:=id I.loc
 obtain ⟨sl,hL⟩:=u.any ho I.free fun z=>(hch _ z).2.1 rfl
 exact I.step (ch:=ch) hch (fun b o hL hb hc e n=>u.keep b o e n (fun z=>(List.mem_cons.mp (I.Zdb b z)).elim hL hb) hc) (fun b o _ _ hc e n=>u.any e n hc) (fun b o hc e n=>u.free b o e n hc) (fun b o hc e=>u.there b o e hc) u.tups u.frzs u.tbls (fun m' hm=>by
  obtain ⟨o',es',ep',ho',r'⟩:=hm
  rw [ho] at ho';cases ho'
  exact ⟨_,es',ep',hL,r'⟩) hok hg
theorem Inv.turned {t':Nat}{it:Addr}(I:Inv X pins σ H s)(k:∀ b o,b≠it→s.heap.get? b=some o→h'.get? b=some o)(hn:H it=none)(hL:it≠X.env.locals)
  (h1:it ∈ X.ex∨X.s₀.heap.objs.size≤it) (h2:∀ x c,X.env.cells.lookup x=some c→c≠it) (h3:∀ p ∈ X.pn++pins,p.1≠it):Inv X pins σ H { s with heap:=h',toks:=t' }:=by
 have nit:∀ b u,H b=some u→b≠it:=fun b u e z=>by rw [z,hn] at e;cases e
 refine I.step (g':=s.gens) (d':=s.drawn) (ch:=[it]) (fun b hb=>?_) (fun b o _ _ hc e _=>k b o (fun z=>hc (by simp [z])) e) (fun b o _ _ hc e _=>⟨o.slots,k b o (fun z=>hc (by simp [z])) e⟩) (fun _ _ _ _ n=>n)
  (fun b o hc e=>⟨o,k b o (fun z=>hc (by simp [z])) e⟩) (fun _ _ e=>e) (fun _ _ _ e=>e) (fun b ps e=>⟨#[],by rw [e];simp⟩) (fun m hm=>?_) (fun b u e=>?_) I.bare
 ·have e:b=it:=by simpa using hb
  subst e
  exact ⟨h1,hL,h2,h3⟩
 ·obtain ⟨o,es,ep,ho,r⟩:=hm
  exact ⟨o,es,ep,k _ o (Ne.symm hL) ho,r⟩
 ·refine (I.hok b u e).stay (fun c v hc q=>k c v ?_ q) (fun _ q=>q) fun _ _ q=>q
  rcases hc with z | z
  ·rw [z];exact nit b u e
  ·exact nit c _ z
theorem Inv.tok (I:Inv X pins σ H s)(t:Nat):Inv X pins σ H { s with toks:=t }:=I.un (h':=s.heap) (t':=t) Un.refl I.hok
theorem Inv.kept {t':Nat}(I:Inv X pins σ H s)(k:∀ b u,s.heap.get? b=some u→h'.get? b=some u):Inv X pins σ H { s with heap:=h',toks:=t' }:=I.un (Un.kept k) (I.hok.kept k)
theorem Inv.laid {a:Addr}{o:HO}{t':Nat}(I:Inv X pins σ H s)(k:∀ b u,s.heap.get? b=some u→h'.get? b=some u)(hp:s.heap.objs.size≤a)(new:Zw X.prog X.w (upd H a o) h' a o) :
  Inv X pins σ (upd H a o) { s with heap:=h',toks:=t' }:=I.un (Un.laid k hp (I.hok.fresh hp)) (I.hok.laid k hp new)
theorem Inv.write {x e:Addr}{o:HO}{t':Nat}(I:Inv X pins σ H s)(mu:Mut (H x))(he:e=x∨H e=some (.own x))(k:∀ b u,b≠e→s.heap.get? b=some u→h'.get? b=some u)(heo:∃ u,h'.get? e=some u)
  (new:Zw X.prog X.w (upd H x o) h' x o):Inv X pins σ (upd H x o) { s with heap:=h',toks:=t' }:=I.un (Un.write mu he k heo) (I.hok.write mu he k heo new)
theorem Inv.Zgx {pins':List (Addr × Obj)}(I:Inv X pins σ H s)(h:∀ p ∈ pins',s.heap.get? p.1=some p.2∧H p.1=none∧p.1≠X.env.locals∧p.1 ∉ X.fs∧∀ v,p.2.data≠.cell v):Inv X pins' σ H s :=
 ⟨I.ok,I.os,I.bare,I.base,I.loc,I.cell,I.free,I.freeC,fun p hp=>(List.mem_append.mp hp).elim (fun z=>I.pin p (List.mem_append_left _ z)) (h p),I.hok,I.len⟩
theorem Zfp {N:List Str}(hN:N.Nodup){i j:Nat}{x:Str}(a:N[i]?=some x)(b:N[j]?=some x):i=j:=by
 obtain ⟨h1,e1⟩:=List.getElem?_eq_some_iff.mp a
 obtain ⟨h2,e2⟩:=List.getElem?_eq_some_iff.mp b
 exact (List.getElem_inj hN).mp (e1.trans e2.symm)
theorem Zlk {M : Model}{A : Around}{E : Value → Shared → Prop}{i : Nat}{x : Str}{v : V}{u : Value}{Q : Unit → Shared → Prop}(I : Inv X pins σ H s)(hN : X.N.Nodup)(hi : X.N[i]? = some x)(hx : Loc X.env.scope x)(r : RelV v u)
    (h : ∀ s', Inv X pins (σ.set i (some v)) H s' → (∃ a, Heap.SameBut a s.heap s'.heap ∧ (a = X.env.locals ∨ X.env.cells.lookup x = some a)) → Q () s') (hf : X.fn x = true ∨ X.env.scope.names.lookup x = some .local := by first | exact .inl rfl | exact .inr rfl | assumption) : wpAny M A (storeName X.env x u) Q E s := by
  obtain ⟨m, hn, hl⟩ := id I.loc
  have hcls : (X.env.scope.kind == .class || (X.env.scope.kind == .module && X.env.locals != X.env.globals)) = false := by rw [I.ok.kind]; rfl
  have hiσ : i < σ.length := by rw [I.len]; exact (List.getElem?_eq_some_iff.mp hi).1
  have cne := I.cne
  have tracked : ∀ {a : Addr} {h' : Heap}, (∃ o, s.heap.get? a = some o ∧ H a = none) → Heap.SameBut a s.heap h' → HOk X.prog X.w H h' := fun {a h'} ha hs b ob e => by
    obtain ⟨_, _, hfree⟩ := ha
    refine (I.hok b ob e).stay (fun c w' hc q => (hs.2 c ?_).trans q) (fun _ q => q) fun _ _ q => q
    rintro rfl
    rcases hc with rfl | hc
    · rw [hfree] at e; cases e
    · rw [hfree] at hc; cases hc
  rcases hx with hk | hk
  · refine wpAny_storeName_local hk hn (fun h' hn' hs => ?_) hcls
    obtain ⟨oL, _, _, hoL, _⟩ := id hn
    refine h _ ⟨I.ok, I.os, I.bare, ⟨fun b o e n hb hx => ?_, fun b o e n hb hx => ?_, I.base.free, fun b o e hx => ?_, I.base.tups, I.base.frzs, I.base.tbls⟩, ⟨_, hn', fun j y v' e1 e2 e3 => ?_⟩, fun y c e => ?_, I.free, I.freeC, fun p hp => ?_, tracked ⟨oL, hoL, I.free⟩ hs, by simpa using I.len⟩ ⟨_, hs, .inl rfl⟩
    · exact (hs.2 b (Nat.ne_of_lt (Nat.lt_of_lt_of_le (Heap.lt_size e) I.ok.above))).trans (I.base.keep b o e n hb hx)
    · obtain ⟨sl, e1⟩ := I.base.slot b o e n hb hx
      exact ⟨sl, (hs.2 b (Nat.ne_of_lt (Nat.lt_of_lt_of_le (Heap.lt_size e) I.ok.above))).trans e1⟩
    · obtain ⟨o', e1⟩ := I.base.there b o e hx
      exact ⟨o', (hs.2 b (Nat.ne_of_lt (Nat.lt_of_lt_of_le (Heap.lt_size e) I.ok.above))).trans e1⟩
    · by_cases hj : j = i
      · subst hj
        rw [hi] at e1; cases e1
        rw [List.getElem?_set_self hiσ] at e2
        cases e2
        exact ⟨u, r, .inl ⟨hk, by simp⟩⟩
      · rw [List.getElem?_set_ne (Ne.symm hj)] at e2
        obtain ⟨u', r', q⟩ := hl j y v' e1 e2 e3
        refine ⟨u', r', ?_⟩
        rcases q with ⟨k, e⟩ | ⟨k, c, e, z⟩
        · refine .inl ⟨k, ?_⟩
          have : y ≠ x := fun e => hj (Zfp hN e1 (e ▸ hi))
          simp [this, e]
        · exact .inr ⟨k, c, e, z.sameBut hs (cne y c e)⟩
    · obtain ⟨w', z⟩ := I.cell y c e
      exact ⟨w', z.sameBut hs (cne y c e)⟩
    · obtain ⟨e, n, ne, nf, d⟩ := I.pin p hp
      exact ⟨(hs.2 p.1 ne).trans e, n, ne, nf, d⟩
  · have hfn : X.fn x = true := by
      rcases hf with z | z
      · exact z
      · rw [z] at hk; cases hk
    obtain ⟨c, hc⟩ := I.ok.has x (.inl hk)
    obtain ⟨w', z⟩ := I.cell x c hc
    refine wpAny_storeName_cell I.ok.kind hk hc z (fun h' hc' hs => ?_)
    obtain ⟨oc, hoc, hocd⟩ := id z
    refine h { s with heap := h' } ⟨I.ok, I.os, I.bare, ⟨fun b o e n hb hx => ?_, fun b o e n hb hx => ?_, I.base.free, fun b o e hx => ?_, I.base.tups, I.base.frzs, I.base.tbls⟩, ⟨m, hn.sameBut hs (Ne.symm (cne x c hc)), fun j y v' e1 e2 e3 => ?_⟩, fun y c' e => ?_, I.free, I.freeC, fun p hp => ?_, tracked ⟨oc, hoc, I.freeC x c hc⟩ hs, by simpa using I.len⟩ ⟨c, hs, .inr hc⟩
    · exact (hs.2 b (Nat.ne_of_lt (Nat.lt_of_lt_of_le (Heap.lt_size e) (I.ok.cab x c hfn hc)))).trans (I.base.keep b o e n hb hx)
    · obtain ⟨sl, e1⟩ := I.base.slot b o e n hb hx
      exact ⟨sl, (hs.2 b (Nat.ne_of_lt (Nat.lt_of_lt_of_le (Heap.lt_size e) (I.ok.cab x c hfn hc)))).trans e1⟩
    · obtain ⟨o', e1⟩ := I.base.there b o e hx
      exact ⟨o', (hs.2 b (Nat.ne_of_lt (Nat.lt_of_lt_of_le (Heap.lt_size e) (I.ok.cab x c hfn hc)))).trans e1⟩
    · by_cases hj : j = i
      · subst hj
        rw [hi] at e1; cases e1
        rw [List.getElem?_set_self hiσ] at e2
        cases e2
        exact ⟨u, r, .inr ⟨.inl hk, c, hc, hc'⟩⟩
      · rw [List.getElem?_set_ne (Ne.symm hj)] at e2
        obtain ⟨u', r', q⟩ := hl j y v' e1 e2 e3
        refine ⟨u', r', ?_⟩
        rcases q with q | ⟨k, c', e, z'⟩
        · exact .inl q
        · refine .inr ⟨k, c', e, z'.sameBut hs ?_⟩
          rintro rfl
          exact hj (Zfp hN e1 (I.ok.inj _ _ _ e hc ▸ hi))
    · by_cases hcc : c' = c
      · subst hcc; exact ⟨_, hc'⟩
      · obtain ⟨w2, z2⟩ := I.cell y c' e
        exact ⟨w2, z2.sameBut hs hcc⟩
    · obtain ⟨e, n, ne, nf, d⟩ := I.pin p hp
      refine ⟨(hs.2 p.1 ?_).trans e, n, ne, nf, d⟩
      intro q
      rw [q, hoc] at e
      have q' : oc = p.2 := Option.some.inj e
      exact d w' (by rw [← q']; exact hocd)
theorem ZdD {M:Model}{A:Around}{E:Value→Shared→Prop}{i:Nat}{x:Str}{v:V}{u:Value}{Q:Unit→Shared→Prop}(I:Inv X pins σ H s)(hN:X.N.Nodup)(hi:X.N[i]?=some x)(hx:Loc X.env.scope x)(r:RelV v u)
  (h:∀ s',Inv X pins (σ.set i (some v)) H s'→Q () s') (hf:X.fn x=true∨X.env.scope.names.lookup x=some .local:=by first | exact .inl rfl | exact .inr rfl | assumption):wpAny M A (storeName X.env x u) Q E s :=
 Zlk I hN hi hx r (fun s' I' _=>h s' I') hf
theorem Inv.call' {s':Shared}{ch:List Addr}(I:Inv X pins σ H s)(ho:s'.os=s.os)(u:Un (frs X.stack) ch H H' s.heap s'.heap)(hok:HOk X.prog X.w H' s'.heap)(hg:AllBare s'.gens)
  (hch:∀ b ∈ ch,(b ∈ X.ex∨X.s₀.heap.objs.size≤b)∧b≠X.env.locals∧(∀ x c,X.env.cells.lookup x=some c→c≠b)∧∀ p ∈ X.pn++pins,p.1≠b):Inv X pins σ H' s':=by
 obtain ⟨h',g',d',t',o'⟩:=s'
 have e:o'=s.os:=ho
 subst e
 exact I.call (g':=g') (t':=t') (d':=d') u hok hg hch
end
noncomputable abbrev XK:=Value→Option Addr→Hp→Prop
noncomputable abbrev St:=List (Option V)
noncomputable abbrev VK:=V→Hp→Prop
noncomputable abbrev TE:=St→Hp→VK→Prop
noncomputable abbrev TT:=St→Hp→(Bool→Hp→Prop)→Prop
noncomputable abbrev TA:=St→Hp→(List V→Hp→Prop)→Prop
structure Ends where
 nx:St→Hp→Prop
 rt:VK
 bk:St→Hp→Prop:=fun _ _=>False
 ct:St→Hp→Prop:=fun _ _=>False
noncomputable abbrev TS:=Ends→St→Hp→Prop
noncomputable def EP (X:Cx) (pins:List (Addr × Obj)) (σ:St) (Q:VK) (u:Value) (s':Shared):Prop:=∃ v H',Inv X pins σ H' s'∧RelV v u∧Q v H'
noncomputable def TP (X:Cx) (pins:List (Addr × Obj)) (σ:St) (Q:Bool→Hp→Prop) (b:Bool) (s':Shared):Prop:=∃ H',Inv X pins σ H' s'∧Q b H'
noncomputable def AP (X:Cx) (pins:List (Addr × Obj)) (σ:St) (Q:List V→Hp→Prop) (us:List Value) (s':Shared):Prop:=∃ vs H',Inv X pins σ H' s'∧Vals vs us∧Q vs H'
noncomputable def SP (X:Cx) (pins:List (Addr × Obj)) (D:Ends) (f:Flow) (s':Shared):Prop :=
 match f with
 | .next=>∃ σ' H',Inv X pins σ' H' s'∧D.nx σ' H'
 | .brk=>∃ σ' H',Inv X pins σ' H' s'∧D.bk σ' H'
 | .cont=>∃ σ' H',Inv X pins σ' H' s'∧D.ct σ' H'
 | .ret u=>∃ v σ' H',Inv X pins σ' H' s'∧RelV v u∧D.rt v H'
noncomputable def PE (X:Cx) (e:Expr) (t:TE):Prop :=
 ∀ (pins:List (Addr × Obj)) (s:Shared) (σ:St) (H:Hp) (Q:VK),Inv X pins σ H s→t σ H Q→wpAny (model X.prog X.w) X.A (eval e X.env) (EP X pins σ Q) X.xe s
noncomputable def PT (X:Cx) (e:Expr) (t:TT):Prop :=
 ∀ (pins:List (Addr × Obj)) (s:Shared) (σ:St) (H:Hp) (Q:Bool→Hp→Prop),Inv X pins σ H s→t σ H Q→wpAny (model X.prog X.w) X.A (isTrue e X.env (eval e X.env)) (TP X pins σ Q) X.xe s
noncomputable def PW (X:Cx) (e:Expr) (t:TT):Prop :=
 ∀ (whole:Sem Value) (pins:List (Addr × Obj)) (s:Shared) (σ:St) (H:Hp) (Q:Bool→Hp→Prop),Inv X pins σ H s→t σ H Q→wpAny (model X.prog X.w) X.A (isTrue e X.env whole) (TP X pins σ Q) X.xe s
noncomputable def PA (X:Cx) (es:List Expr) (t:TA):Prop :=
 ∀ (pos:Pos) (pins:List (Addr × Obj)) (s:Shared) (σ:St) (H:Hp) (Q:List V→Hp→Prop),Inv X pins σ H s→t σ H Q→wpAny (model X.prog X.w) X.A (spliced (backTo pos (starEach es X.env))) (AP X pins σ Q) X.xe s
noncomputable def PS (X:Cx) (st:Stmt) (t:TS):Prop :=
 ∀ (pins:List (Addr × Obj)) (s:Shared) (σ:St) (H:Hp) (D:Ends),Inv X pins σ H s→t D σ H→wpAny (model X.prog X.w) X.A (exec st X.env) (SP X pins D) X.xe s
noncomputable def PSs (X:Cx) (st:List Stmt) (t:TS):Prop :=
 ∀ (pins:List (Addr × Obj)) (s:Shared) (σ:St) (H:Hp) (D:Ends),Inv X pins σ H s→t D σ H→wpAny (model X.prog X.w) X.A (execs st X.env) (SP X pins D) X.xe s
theorem thn {α:Type}{t:Sem α}{Q Q':α→Shared→Prop}{M:Model}{A:Around}{E:Value→Shared→Prop}{s:Shared}(h:wpAny M A t Q E s)(hQ:∀ a s,Q a s→Q' a s):wpAny M A t Q' E s:=wpAny_mono h hQ fun _ _ x=>x
end L2
namespace L2
open PySem PySem.Spec PyProof.Rows
section
variable {X:Cx}
noncomputable def tVar (i:Nat):TE:=fun σ H Q=>∃ v,σ[i]?=some (some v)∧Q v H
noncomputable def tC (v:V):TE:=fun _ H Q=>Q v H
theorem JN {i:Nat} {x:Str} {pos:Pos} (hN:X.N[i]?=some x) (hv:Vis X.env.scope x) (hd:(x == ("__debug__":Str))=false:=by decide) (hcd:(x == ("__classdict__":Str))=false:=by decide):PE X (.Name x pos) (tVar i):=by
 intro pins s σ H Q I h
 obtain ⟨v,e,h⟩:=h
 obtain ⟨m,hn,hl⟩:=I.loc
 obtain ⟨u,r,l⟩:=hl i x v hN e hv
 have fin:EP X pins σ Q u s:=⟨v,H,I,r,h⟩
 rcases l with ⟨hk,hm⟩ | ⟨hk,c,hc,hcell⟩
 ·exact wpAny_Name (wpAny_loadName_local I.ok.kind hk hn hm fin) hd
 ·rcases hk with hk | hk
  ·exact wpAny_Name (wpAny_loadName_cell I.ok.kind hk hc hcell fin) hd
  ·exact wpAny_Name (wpAny_loadName_free I.ok.kind hk hc hcell fin hcd) hd
theorem ZfZ {i j pos}:PE X (.Constant (.int i) j pos) (tC (.int i)):=fun _ _ _ H _ I h=>wpAny_Constant_int ⟨.int i,H,I.tok _,⟨_,rfl⟩,h⟩
theorem Zqf {b j pos}:PE X (.Constant (.bool b) j pos) (tC (.bl b)):=fun _ _ _ H _ I h=>Constant_bool ⟨.bl b,H,I,rfl,h⟩
theorem Zoz {j pos}:PE X (.Constant .none j pos) (tC .non):=fun _ _ _ H _ I h=>Constant_none ⟨.non,H,I,rfl,h⟩
theorem Zkw {x j pos}:PE X (.Constant (.str x) j pos) (tC (.str x)):=fun _ _ _ H _ I h=>Calls.Constant_str ⟨.str x,H,I.tok _,⟨_,rfl⟩,h⟩
noncomputable def Gl (X:Cx) (x:Str):Prop:=X.env.kindOf x=some .globalImplicit
theorem Zbp {E:Value→Shared→Prop}{pins:List (Addr × Obj)}{s:Shared}{σ:St}{H:Hp}{x:Str}{u:Value}{pos:Pos}{Q:Value→Shared→Prop}(I:Inv X pins σ H s)(hg:Gl X x)(hm:X.mg x=some u)(h:Q u s)
  (hd:(x == ("__debug__":Str))=false:=by decide):wpAny (model X.prog X.w) X.A (eval (.Name x pos) X.env) Q E s :=
 Calls.Name_function_global I.ok.kind hg (Calls.loadGlobal_global (by rw [I.ok.glob];exact I.mod.glob.keeps I.bk) hm h) hd
theorem Zb5 {E:Value→Shared→Prop}{pins:List (Addr × Obj)}{s:Shared}{σ:St}{H:Hp}{x:Str}{u:Value}{pos:Pos}{Q:Value→Shared→Prop}(I:Inv X pins σ H s)(hg:Gl X x)(hm:X.mg x=none)(hv:bootBuiltins x=some u)(h:Q u s)
  (hn:x≠"__name__":=by decide) (hd:(x == ("__debug__":Str))=false:=by decide):wpAny (model X.prog X.w) X.A (eval (.Name x pos) X.env) Q E s:=by
 obtain ⟨mb,h1,h2⟩:=I.mod.blt
 exact Calls.Name_function_global I.ok.kind hg (Calls.loadGlobal_builtin (by rw [I.ok.glob];exact I.mod.glob.keeps I.bk) hm (by rw [I.ok.blt];exact h1.keeps I.bk) ((h2 x hn).trans hv) h) hd
theorem ZnL {x:Str} {v:V} {u:Value} {pos:Pos} (hg:Gl X x) (hm:X.mg x=some u) (r:RelV v u) (hd:(x == ("__debug__":Str))=false:=by decide):PE X (.Name x pos) (tC v) :=
 fun _ _ _ H _ I h=>Zbp I hg hm ⟨v,H,I,r,h⟩ hd
theorem ZjL {x:Str} {v:V} {u:Value} {pos:Pos} (hg:Gl X x) (hm:X.mg x=none) (hv:bootBuiltins x=some u) (r:RelV v u) (hn:x≠"__name__":=by decide) (hd:(x == ("__debug__":Str))=false:=by decide):PE X (.Name x pos) (tC v) :=
 fun _ _ _ H _ I h=>Zb5 I hg hm hv ⟨v,H,I,r,h⟩ hn hd
noncomputable def t2I (ta tb:TE) (k:Int→Int→Hp→Prop):St→Hp→Prop:=fun σ H=>ta σ H fun x H1=>tb σ H1 fun y H2=>∃ i j,x=.int i∧y=.int j∧k i j H2
variable {a b:Expr} {ta tb:TE} {pos:Pos}
noncomputable def PC (X:Cx) (op:CmpOp) (a b:Expr) (t:TE):Prop :=
 ∀ (pins:List (Addr × Obj)) (s:Shared) (σ:St) (H:Hp) (Q:VK),Inv X pins σ H s→t σ H Q →
  wpAny (model X.prog X.w) X.A (eval a X.env) (fun v s₁=>wpAny (model X.prog X.w) X.A (eval b X.env) (fun u s₂=>wpAny (model X.prog X.w) X.A (compareOp op v u) (EP X pins σ Q) X.xe s₂) X.xe s₁) X.xe s
theorem Zmh (b:Expr){op:CmpOp}(h:op≠.In)(h2:op≠.NotIn):behindInMarks op b=false:=by
 have e1:(op == CmpOp.In)=false:=by cases op <;> first | rfl | exact absurd rfl h
 have e2:(op == CmpOp.NotIn)=false:=by cases op <;> first | rfl | exact absurd rfl h2
 cases b <;> simp [behindInMarks,e1,e2]
noncomputable def tIsN (ta:TE):TE:=fun σ H Q=>ta σ H fun x H1=>Q (.bl (decide (x=.non))) H1
noncomputable def tB (t:TE):TT:=fun σ H Q=>t σ H fun x H1=>∃ c,x=.bl c∧Q c H1
theorem Zb4 {op:CmpOp}{t:TE}(h:PC X op a b t)(h1:behindInMarks op b=false:=by first | exact Zmh _ (by decide) (by decide) | rfl):PT X (.Compare a [op] [b] pos) (tB t):=by
 intro pins s σ H Q I hw
 refine wpAny_isTrue_Compare1 (thn (h pins s σ H _ I hw) fun v s1 h1=>thn h1 fun u s2 h2=>thn h2 fun c s3 ⟨x,H1,I1,r1,q1⟩=>?_) h1
 obtain ⟨d,rfl,q⟩:=q1
 cases r1
 exact wpAny_truthy_bool ⟨H1,I1,q⟩
theorem ZoK {e:Expr}{t:TE}(h:PE X e t)(he:∀ whole,isTrue e X.env whole=(do let v ← whole;standAt e.pos;holding [v] (truthy v)):=by intro _;rfl):PT X e (tB t):=by
 intro pins s σ H Q I hw
 refine isTrue_plain (thn (h pins s σ H _ I hw) fun v s1 ⟨x,H1,I1,r1,q1⟩=>?_) (he _)
 obtain ⟨d,rfl,q⟩:=q1
 cases r1
 exact wpAny_truthy_bool ⟨H1,I1,q⟩
variable {tA tB':TT} {rest:List Expr}
noncomputable def tAnd (t u:TT):TT:=fun σ H Q=>t σ H fun c H1=>if c=true then u σ H1 Q else Q false H1
noncomputable def tOr (t u:TT):TT:=fun σ H Q=>t σ H fun c H1=>if c=true then Q true H1 else u σ H1 Q
noncomputable def tNot (t:TT):TT:=fun σ H Q=>t σ H fun c H1=>Q (!c) H1
theorem Zov (ha:PT X a tA):PW X (.BoolOp .And [a] pos) tA:=by
 intro wh pins s σ H Q I h
 refine isTrue_and (thn (ha pins s σ H Q I h) fun c s1 e=>?_)
 cases c with
 | true=>exact isTrue_and_nil e
 | false=>exact e
theorem ZpC (ha:PT X a tA):PW X (.BoolOp .Or [a] pos) tA:=by
 intro wh pins s σ H Q I h
 refine isTrue_or (thn (ha pins s σ H Q I h) fun c s1 e=>?_)
 cases c with
 | false=>exact isTrue_or_nil e
 | true=>exact e
theorem Zo0 (ha:PT X a tA)(hb:PW X (.BoolOp .And (b::rest) pos) tB'):PW X (.BoolOp .And (a::b::rest) pos) (tAnd tA tB'):=by
 intro wh pins s σ H Q I h
 refine isTrue_and (thn (ha pins s σ H _ I h) fun c s1 ⟨H1,I1,q1⟩=>?_)
 cases c with
 | true=>exact hb wh pins s1 σ H1 Q I1 q1
 | false=>exact ⟨H1,I1,q1⟩
theorem Zp1 (ha:PT X a tA)(hb:PW X (.BoolOp .Or (b::rest) pos) tB'):PW X (.BoolOp .Or (a::b::rest) pos) (tOr tA tB'):=by
 intro wh pins s σ H Q I h
 refine isTrue_or (thn (ha pins s σ H _ I h) fun c s1 ⟨H1,I1,q1⟩=>?_)
 cases c with
 | true=>exact ⟨H1,I1,q1⟩
 | false=>exact hb wh pins s1 σ H1 Q I1 q1
theorem Zan (ha:PT X a tA):PT X (.UnaryOp .Not a pos) (tNot tA):=by
 intro pins s σ H Q I h
 exact isTrue_not (ha pins s σ H (fun c H1=>Q (!c) H1) I h)
noncomputable def Zp3 (ta tb:TE):TE:=fun σ H Q=>ta σ H fun x H1=>∃ c,x=.bl c∧if c=true then tb σ H1 Q else Q (.bl false) H1
noncomputable def Zp6 (ta:TE):TE:=fun σ H Q=>ta σ H fun x H1=>∃ c,x=.bl c∧Q (.bl (!c)) H1
theorem ZoV {op}{t:TE}(h:PE X a t):PE X (.BoolOp op [a] pos) t:=fun pins s σ H Q I hw=>BoolOp_one (h pins s σ H Q I hw)
theorem ZoC (ha:PE X a ta)(hb:PE X (.BoolOp .And (b::rest) pos) tb):PE X (.BoolOp .And (a::b::rest) pos) (Zp3 ta tb):=by
 intro pins s σ H Q I h
 refine BoolOp_and (thn (ha pins s σ H _ I h) fun v s1 ⟨x,H1,I1,r1,q1⟩=>?_)
 obtain ⟨c,rfl,q1⟩:=q1
 cases r1
 refine wpAny_truthy_bool ?_
 cases c with
 | true=>exact hb pins s1 σ H1 Q I1 q1
 | false=>exact ⟨.bl false,H1,I1,rfl,q1⟩
theorem ZoY (ha:PE X a ta):PE X (.UnaryOp .Not a pos) (Zp6 ta):=by
 intro pins s σ H Q I h
 refine UnaryOp_ (thn (ha pins s σ H _ I h) fun v s1 ⟨x,H1,I1,r1,q1⟩=>?_)
 obtain ⟨c,rfl,q1⟩:=q1
 cases r1
 exact not_of (wpAny_truthy_bool ⟨.bl (!c),H1,I1,rfl,q1⟩)
end
end L2
namespace L2
open PySem PySem.Spec PyProof.Rows
noncomputable def SqL (K:PySem.W.Frag) (H:Hp) (a:Addr) (xs:List V):Prop :=
 Rd H a (.lst xs) ∨
  ∃ (o:Obj) (its:Array Value) (n:Nat),K.lookup a=some o∧o.cls=.type "list"∧o.dict=none∧o.data=.seq its n∧its.size≤sizeLine∧Vals xs its.toList
noncomputable def SqT (K:PySem.W.Frag) (H:Hp) (a:Addr) (xs:List V):Prop :=
 Rd H a (.tup xs) ∨
  ∃ (o:Obj) (its:Array Value) (n:Nat),K.lookup a=some o∧o.cls=.type "tuple"∧o.data=.seq its n∧its.size≤sizeLine∧Vals xs its.toList
noncomputable def absV:Value→Option V
 | .none=>some .non
 | .bool b=>some (.bl b)
 | .int i _=>some (.int i)
 | .str x _=>some (.str x)
 | .bytes b _=>some (.byt b)
 | .float b _=>some (.flt b)
 | .ref a=>some (.ref a)
 | .type n=>some (.ty n)
 | _=>none
theorem RelV.abs {x:V}{u:Value}(r:RelV x u):absV u=some x:=by
 cases x with
 | non=>cases r;rfl
 | bl _=>cases r;rfl
 | int _=>obtain ⟨t,rfl⟩:=r;rfl
 | str _=>obtain ⟨t,rfl⟩:=r;rfl
 | byt _=>obtain ⟨t,rfl⟩:=r;rfl
 | flt _=>obtain ⟨t,rfl⟩:=r;rfl
 | ref _=>cases r;rfl
 | ty _=>cases r;rfl
theorem RelV.inj {x y:V}{u:Value}(r:RelV x u)(q:RelV y u):x=y:=Option.some.inj (r.abs.symm.trans q.abs)
theorem Vals.inj:∀ {xs ys:List V} {us:List Value},Vals xs us→Vals ys us→xs=ys
 | _,_,_,.nil,.nil=>rfl
 | _,_,_,.cons r t,.cons r' t'=>by rw [r.inj r',Vals.inj t t']
section
variable {X:Cx} {pins:List (Addr × Obj)} {σ:St} {H:Hp} {s:Shared} {a:Addr} {xs ys:List V}
theorem SqL.of {K:PySem.W.Frag}(h:H a=some (.lst xs)):SqL K H a xs:=.inl (.inl h)
theorem SqT.of {K:PySem.W.Frag}(h:H a=some (.tup xs)):SqT K H a xs:=.inl (.inl h)
theorem Inv.list (I:Inv X pins σ H s)(h:SqL X.K H a xs):∃ its:List Value,Vals xs its∧PlainL s.heap a its.toArray∧xs.length≤sizeLine:=by
 rcases h with h | ⟨o,its,n,hk,hc,hd,hs,hz,r⟩
 ·obtain ⟨z,its,n,r,e⟩:=h.ok I.hok
  exact ⟨its,r,⟨_,n,e,rfl,rfl,rfl⟩,z⟩
 ·refine ⟨its.toList,r,⟨o,n,I.kIn a o hk,hc,hd,by simpa using hs⟩,?_⟩
  have e:=r.length
  simp only [Array.length_toList] at e
  omega
theorem Inv.tuple (I:Inv X pins σ H s)(h:SqT X.K H a xs):∃ its:List Value,Vals xs its∧IsTup s.heap a its.toArray∧xs.length≤sizeLine:=by
 rcases h with h | ⟨o,its,n,hk,hc,hs,hz,r⟩
 ·obtain ⟨z,its,r,p⟩:=h.ok I.hok
  exact ⟨its,r,p,z⟩
 ·refine ⟨its.toList,r,⟨o,I.kIn a o hk,hc,n,by simpa using hs⟩,?_⟩
  have e:=r.length
  simp only [Array.length_toList] at e
  omega
theorem Inv.ZhC (I:Inv X pins σ H s)(h:SqL X.K H a xs)(h':SqL X.K H a ys):xs=ys:=by
 obtain ⟨its,r,⟨o,n,e,_,_,d⟩,_⟩:=I.list h
 obtain ⟨its',r',⟨o',n',e',_,_,d'⟩,_⟩:=I.list h'
 rw [e] at e';cases e'
 rw [d] at d'
 injection d' with d1 _
 have:its=its':=by simpa using congrArg Array.toList d1
 subst this
 exact r.inj r'
theorem Inv.Zkv (I:Inv X pins σ H s)(h:SqT X.K H a xs)(h':SqT X.K H a ys):xs=ys:=by
 obtain ⟨its,r,⟨o,e,_,n,d⟩,_⟩:=I.tuple h
 obtain ⟨its',r',⟨o',e',_,n',d'⟩,_⟩:=I.tuple h'
 rw [e] at e';cases e'
 rw [d] at d'
 injection d' with d1 _
 have:its=its':=by simpa using congrArg Array.toList d1
 subst this
 exact r.inj r'
end
noncomputable abbrev Cx.wish (X:Cx) (E:Value→Shared→Prop):Cx:={ X with xe:=E }
noncomputable abbrev Cx.nox (X:Cx):Cx:=X.wish fun _ _=>False
theorem Cx.Ok.wish {X:Cx}(ok:X.Ok)(E:Value→Shared→Prop):(X.wish E).Ok :=
 ⟨ok.mod,ok.kind,ok.glob,ok.blt,ok.above,ok.inj,ok.has,ok.cab,ok.hd,ok.frames,ok.stk,ok.exf,ok.bs,ok.bsz,ok.noex,ok.exfs,ok.funs,ok.frf⟩
theorem Cx.Ok.Y6 {X:Cx}{E:Value→Shared→Prop}(ok:(X.wish E).Ok):X.Ok :=
 ⟨ok.mod,ok.kind,ok.glob,ok.blt,ok.above,ok.inj,ok.has,ok.cab,ok.hd,ok.frames,ok.stk,ok.exf,ok.bs,ok.bsz,ok.noex,ok.exfs,ok.funs,ok.frf⟩
section
variable {X:Cx} {pins:List (Addr × Obj)} {σ:St} {H:Hp} {s:Shared} {E:Value→Shared→Prop}
theorem Inv.wish (I:Inv X pins σ H s)(E:Value→Shared→Prop):Inv (X.wish E) pins σ H s:=⟨I.ok.wish E,I.os,I.bare,I.base,I.loc,I.cell,I.free,I.freeC,I.pin,I.hok,I.len⟩
theorem Inv.Y6 (I:Inv (X.wish E) pins σ H s):Inv X pins σ H s:=⟨I.ok.Y6,I.os,I.bare,I.base,I.loc,I.cell,I.free,I.freeC,I.pin,I.hok,I.len⟩
theorem SP.Y6 {D:Ends}{f:Flow}{s':Shared}(h:SP (X.wish E) pins D f s'):SP X pins D f s':=by
 cases f with
 | next=>obtain ⟨σ',H',I,q⟩:=h;exact ⟨σ',H',I.Y6,q⟩
 | brk=>obtain ⟨σ',H',I,q⟩:=h;exact ⟨σ',H',I.Y6,q⟩
 | cont=>obtain ⟨σ',H',I,q⟩:=h;exact ⟨σ',H',I.Y6,q⟩
 | ret u=>obtain ⟨v,σ',H',I,r,q⟩:=h;exact ⟨v,σ',H',I.Y6,r,q⟩
theorem PE.nox {e:Expr}{t:TE}(h:PE X.nox e t):PE X e t:=fun pins s σ H Q I hw =>
 wpAny_mono (h pins s σ H Q (I.wish _) hw) (fun _ _ ⟨v,H',I',r,q⟩=>⟨v,H',I'.Y6,r,q⟩) fun _ _ z=>False.elim z
theorem PT.nox {e:Expr}{t:TT}(h:PT X.nox e t):PT X e t:=fun pins s σ H Q I hw =>
 wpAny_mono (h pins s σ H Q (I.wish _) hw) (fun _ _ ⟨H',I',q⟩=>⟨H',I'.Y6,q⟩) fun _ _ z=>False.elim z
theorem PSs.nox {st:List Stmt}{t:TS}(h:PSs X.nox st t):PSs X st t:=fun pins s σ H D I hw =>
 wpAny_mono (h pins s σ H D (I.wish _) hw) (fun _ _ q=>q.Y6) fun _ _ z=>False.elim z
end
section
variable {X:Cx} {st:Stmt} {rest:List Stmt} {t u:TS} {e:Expr} {te:TE} {pos:Pos}
noncomputable def Zp2:TS:=fun D σ H=>D.nx σ H
noncomputable def tSeq (t u:TS):TS:=fun D σ H=>t { D with nx:=u D } σ H
theorem Znx:PSs X [] Zp2:=fun _ _ σ H _ I h=>wpAny_execs_nil ⟨σ,H,I,h⟩
theorem Zmk (h1:PS X st t)(h2:PSs X rest u):PSs X (st::rest) (tSeq t u):=by
 intro pins s σ H D I h
 refine wpAny_execs_cons (thn (h1 pins s σ H { D with nx:=u D } I h) fun f s1 q=>?_)
 cases f with
 | next =>
  obtain ⟨σ',H',I',q⟩:=q
  exact h2 pins s1 σ' H' D I' q
 | ret v=>exact q
 | brk=>exact q
 | cont=>exact q
theorem Zn2 (h1:PS X st t):PSs X [st] t:=by
 intro pins s σ H D I h
 refine wpAny_execs_cons (thn (h1 pins s σ H D I h) fun f s1 q=>?_)
 cases f with
 | next=>exact wpAny_execs_nil q
 | ret v=>exact q
 | brk=>exact q
 | cont=>exact q
theorem Inv.quiet {pins:List (Addr × Obj)}{σ:St}{H:Hp}{s:Shared}(I:Inv X pins σ H s):interactive X.env=false:=by simp [interactive,I.ok.kind]
noncomputable def Zp4 (te:TE):TS:=fun D σ H=>te σ H fun _ H1=>D.nx σ H1
theorem Zcp (he:PE X e te)(hs:swapsWith e none pos.line X.env=pure false:=by rfl):PS X (.Expr e pos) (Zp4 te):=by
 intro pins s σ H D I h
 exact wpAny_Expr_any (thn (he pins s σ H _ I h) fun v s1 ⟨x,H1,I1,r1,q1⟩=>⟨σ,H1,I1,q1⟩) I.quiet hs
noncomputable def tRet (te:TE):TS:=fun D σ H=>te σ H D.rt
theorem ZfR (he:PE X e te):PS X (.Return (some e) pos) (tRet te):=by
 intro pins s σ H D I h
 exact wpAny_Return_some (thn (he pins s σ H _ I h) fun v s1 ⟨x,H1,I1,r1,q1⟩=>⟨x,σ,H1,I1,r1,q1⟩)
noncomputable def tIfS (c:TT) (t u:TS):TS:=fun D σ H=>c σ H fun b H1=>if b=true then t D σ H1 else u D σ H1
theorem Zqd {c:Expr}{a b:List Stmt}{tc:TT}(hc:PT X c tc)(ha:PSs X a t)(hb:PSs X b u):PS X (.If c a b pos) (tIfS tc t u):=by
 intro pins s σ H D I h
 refine wpAny_If (thn (hc pins s σ H _ I h) fun d s1 ⟨H1,I1,q1⟩=>?_)
 cases d with
 | true=>exact ha pins s1 σ H1 D I1 q1
 | false=>exact hb pins s1 σ H1 D I1 q1
noncomputable def Zo7:TS:=fun _ _ _=>False
theorem Zmu:PS X st Zo7:=fun _ _ _ _ _ _ h=>h.elim
end
noncomputable abbrev TG:=V→St→Hp→(St→Hp→Prop)→Prop
noncomputable abbrev TGs:=List V→St→Hp→(St→Hp→Prop)→Prop
noncomputable def PG (X:Cx) (target:Expr) (t:TG):Prop :=
 ∀ (pins:List (Addr × Obj)) (s:Shared) (σ:St) (H:Hp) (v:V) (u:Value) (Q:St→Hp→Prop),Inv X pins σ H s→RelV v u→t v σ H Q →
  wpAny (model X.prog X.w) X.A (assign target X.env u) (fun _ s'=>∃ σ' H',Inv X pins σ' H' s'∧Q σ' H') X.xe s
noncomputable def PGs (X:Cx) (ts:List Expr) (t:TGs):Prop :=
 ∀ (pins:List (Addr × Obj)) (s:Shared) (σ:St) (H:Hp) (vs:List V) (us:List Value) (Q:St→Hp→Prop),Inv X pins σ H s→Vals vs us→t vs σ H Q →
  wpAny (model X.prog X.w) X.A (assignInOrder ((assignEach ts X.env).map (·.2)) us) (fun _ s'=>∃ σ' H',Inv X pins σ' H' s'∧Q σ' H') X.xe s
noncomputable abbrev TSet:=V→V→V→Hp→(Hp→Prop)→Prop
noncomputable def PSet (X:Cx) (t:TSet):Prop :=
 ∀ (pins:List (Addr × Obj)) (s:Shared) (σ:St) (H:Hp) (o i v:V) (ov iv u:Value) (Q:Hp→Prop),Inv X pins σ H s→RelV o ov→RelV i iv→RelV v u→t o i v H Q →
  wpAny (model X.prog X.w) X.A (setItem ov iv u) (fun _ s'=>∃ H',Inv X pins σ H' s'∧Q H') X.xe s
section
variable {X:Cx} {pos:Pos}
noncomputable def Zgl (i:Nat):TG:=fun v σ H Q=>Q (σ.set i (some v)) H
theorem ZeN {i:Nat}{x:Str}(hN:X.N.Nodup)(hi:X.N[i]?=some x)(hx:Loc X.env.scope x)(hf:X.fn x=true∨X.env.scope.names.lookup x=some .local:=by first | exact .inl rfl | exact .inr rfl | assumption):PG X (.Name x pos) (Zgl i):=by
 intro pins s σ H v u Q I r h
 exact wpAny_assign_Name (ZdD I hN hi hx r (fun s' I'=>⟨_,H,I',h⟩) hf)
noncomputable def gNil:TGs:=fun vs σ H Q=>vs=[]∧Q σ H
noncomputable def ZpR (t:TG) (u:TGs):TGs:=fun vs σ H Q=>∃ v r,vs=v::r∧t v σ H fun σ' H'=>u r σ' H' Q
theorem Zn1:PGs X [] gNil:=by
 intro pins s σ H vs us Q I r h
 obtain ⟨e,h⟩:=h
 subst e
 cases r
 exact assignInOrder_nil ⟨σ,H,I,h⟩
theorem ZhE {e:Expr}{es:List Expr}{t:TG}{u:TGs}(h1:PG X e t)(h2:PGs X es u)
  (hs:(assignEach (e::es) X.env).map (·.2)=assign e X.env::(assignEach es X.env).map (·.2):=by rfl):PGs X (e::es) (ZpR t u):=by
 intro pins s σ H vs us Q I r h
 obtain ⟨v,vr,e1,h⟩:=h
 subst e1
 cases r with
 | cons r rr =>
  rw [hs]
  refine assignInOrder_cons (thn (h1 pins s σ H _ _ _ I r h) fun _ s1 ⟨σ1,H1,I1,q1⟩=>?_)
  exact h2 pins s1 σ1 H1 _ _ Q I1 rr q1
noncomputable def gTup (K:PySem.W.Frag) (n:Nat) (t:TGs):TG:=fun v σ H Q=>∃ a xs,v=.ref a∧SqT K H a xs∧xs.length=n∧t xs σ H Q
theorem ZoT {es:List Expr}{k:Nat}{t:TGs}{n:Nat}(hc:X.calm=true)(h:PGs X es t)
  (hn:(assignEach es X.env).length=n:=by rfl) (hst:(assignEach es X.env).findIdx? (·.1)=none:=by rfl):PG X (.Tuple es k pos) (gTup X.K n t):=by
 intro pins s σ H v u Q I r hw
 obtain ⟨a,xs,e1,hq,hl,hw⟩:=hw
 subst e1
 cases r
 obtain ⟨its,rv,ht,hz⟩:=I.tuple hq
 refine assign_Tuple_tuple (I.ok.hd hc) ht (by simp [hn,← hl,rv.length]) hst fun h' hx=>?_
 have I1:Inv X pins σ H { s with heap:=h' }:=I.kept (t':=s.toks) fun b o e=>hx b o (Nat.ne_of_lt (Heap.lt_size e)) e
 exact h pins _ σ H xs _ Q I1 (by simpa using rv) hw
noncomputable def gSub (to ti:TE) (t:TSet):TG:=fun v σ H Q=>to σ H fun o H1=>ti σ H1 fun i H2=>t o i v H2 fun H3=>Q σ H3
theorem Zk2 {o i:Expr}{to ti:TE}{t:TSet}(ho:PE X o to)(hi:PE X i ti)(hs:PSet X t)
  (ha:∀ v,assign (.Subscript o i pos) X.env v=(do
   let ov ← holding [v] (eval o X.env)
   let iv ← holding [v,ov] (eval i X.env)
   standAt pos
   holding [v,ov,iv] (setItem ov iv v)
   release [v,ov,iv] []):=by intro _;rfl):PG X (.Subscript o i pos) (gSub to ti t):=by
 intro pins s σ H v u Q I r h
 rw [ha]
 refine wpAny_bind (wpAny_holding (thn (ho pins s σ H _ I h) fun ov s1 ⟨x,H1,I1,r1,q1⟩=>?_))
 refine wpAny_bind (wpAny_holding (thn (hi pins s1 σ H1 _ I1 q1) fun iv s2 ⟨y,H2,I2,r2,q2⟩=>?_))
 refine wpAny_bind (wpAny_standAt (wpAny_bind (wpAny_holding (thn (hs pins s2 σ H2 x y v ov iv u _ I2 r1 r2 r q2) fun _ s3 ⟨H3,I3,q3⟩=>?_))))
 exact wpAny_release ⟨σ,H3,I3,q3⟩
noncomputable def tAsg (te:TE) (g:TG):TS:=fun D σ H=>te σ H fun x H1=>g x σ H1 D.nx
theorem Zk7 {tg e:Expr}{te:TE}{g:TG}(he:PE X e te)(hg:PG X tg g)(hs:swapsWithSole [tg] e pos.line X.env=pure false:=by rfl)(hw:swappedStores [tg] e X.env=pure none:=by rfl)
  (h1:(assignEach [tg] X.env).map (·.2)=[assign tg X.env]:=by rfl):PS X (.Assign [tg] e pos) (tAsg te g):=by
 intro pins s σ H D I h
 refine wpAny_Assign_stores (thn (he pins s σ H _ I h) fun v s1 ⟨x,H1,I1,r1,q1⟩=>?_) hs hw
 rw [h1]
 exact thn (hg pins s1 σ H1 x v _ I1 r1 q1) fun _ s2 q=>q
theorem Zdo {i:Nat}{x:Str}{e:Expr}{te:TE}{pos':Pos}(hN:X.N.Nodup)(hi:X.N[i]?=some x)(hx:Loc X.env.scope x)(he:PE X e te)(hs:swapsWith e (some (.Name x pos')) pos.line X.env=pure false:=by rfl)(hf:X.fn x=true∨X.env.scope.names.lookup x=some .local:=by first | exact .inl rfl | exact .inr rfl | assumption) :
  PS X (.Assign [.Name x pos'] e pos) (tAsg te (Zgl i)):=by
 intro pins s σ H D I h
 refine wpAny_Assign_Name (thn (he pins s σ H _ I h) fun v s1 ⟨y,H1,I1,r1,q1⟩=>?_) hs
 exact ZdD I1 hN hi hx r1 (fun s2 I2=>⟨_,H1,I2,q1⟩) hf
end
section
variable {X:Cx} {pos:Pos}
noncomputable def ZpG (c:TT) (tb:TS):TS:=fun D σ H=>∃ W:Nat→St→Hp→Prop,(∃ m,W m σ H)∧∀ m σ H,W m σ H →
 c σ H fun b H1=>if b=true then ∃ N:St→Hp→Prop,(∀ σ' H',N σ' H'→∃ m',m' < m∧W m' σ' H')∧tb { D with nx:=N,ct:=N,bk:=D.nx } σ H1 else D.nx σ H1
theorem ZmH {c:Expr}{body:List Stmt}{tc:TT}{tb:TS}(hp:PassesOwn (model X.prog X.w) X.A X.env X.xe)(hc:PT X c tc)(hb:PSs X body tb):PS X (.While c body [] pos) (ZpG tc tb):=by
 intro pins s σ H D I h
 obtain ⟨W,⟨m0,w0⟩,turn⟩:=h
 refine wpAny_While (codeAny_whileLoop (fun n s'=>∃ σ' H',Inv X pins σ' H' s'∧W n σ' H') ?_ m0 ⟨σ,H,I,w0⟩)
 rintro n s1 ⟨σ1,H1,I1,w1⟩
 refine wpAny_passesOwn hp (thn (hc pins s1 σ1 H1 _ I1 (turn n σ1 H1 w1)) fun b s2 ⟨H2,I2,q2⟩=>?_)
 cases b with
 | true =>
  obtain ⟨N,hN,q2⟩:=q2
  rw [if_pos rfl]
  refine wpAny_passesOwn hp (thn (hb pins s2 σ1 H2 _ I2 q2) fun f s3 q3=>?_)
  cases f with
  | next =>
   obtain ⟨σ3,H3,I3,n3⟩:=q3
   obtain ⟨m',hm,w3⟩:=hN σ3 H3 n3
   exact ⟨m',hm,σ3,H3,I3,w3⟩
  | cont =>
   obtain ⟨σ3,H3,I3,n3⟩:=q3
   obtain ⟨m',hm,w3⟩:=hN σ3 H3 n3
   exact ⟨m',hm,σ3,H3,I3,w3⟩
  | brk=>exact q3
  | ret v=>exact q3
 | false =>
  rw [if_neg Bool.false_ne_true]
  exact wpAny_execs_nil ⟨σ1,H2,I2,q2⟩
end
structure It where
 go:Nat→Hp→Prop
 yld:Nat→Hp→V→Hp→Prop
 stop:Nat→Hp→Prop
noncomputable def FpOk (X:Cx) (pins:List (Addr × Obj)) (H:Hp) (b:Addr):Prop :=
 H b=none∧b≠X.env.locals∧b ∉ X.fs∧(b ∈ X.ex∨X.s₀.heap.objs.size≤b)∧(∀ x c,X.env.cells.lookup x=some c→c≠b)∧∀ p ∈ X.pn++pins,p.1≠b
theorem Inv.fpOk {X:Cx}{pins:List (Addr × Obj)}{σ:St}{H H':Hp}{s:Shared}{b:Addr}(I:Inv X pins σ H s)(hb:s.heap.objs.size≤b)(hn:H' b=none):FpOk X pins H' b:=by
 refine ⟨hn,Nat.ne_of_gt (Nat.lt_of_lt_of_le I.lt hb),I.nofs hb,.inr (Nat.le_trans I.sz hb),fun x c e z=>?_,fun p hp z=>?_⟩
 ·obtain ⟨v,q⟩:=I.cell x c e
  exact absurd (Nat.lt_of_lt_of_le q.lt (by rw [z];exact hb)) (Nat.lt_irrefl _)
 ·exact absurd (Nat.lt_of_lt_of_le (Heap.lt_size (I.pin p hp).1) (by rw [z];exact hb)) (Nat.lt_irrefl _)
structure Turn (P:Program)(w:World)(K:PySem.W.Frag)(tg:Expr)(J:It)(fp:List Addr)(it:Addr)(tn:Nat→Heap→Prop):Prop where
 mem:it ∈ fp
 obj:∀ i h,tn i h→∀ b ∈ fp,∃ o,h.get? b=some o∧∀ v,o.data≠.cell v
 keep:∀ i h h',tn i h→(∀ b ∈ fp,∀ o,h.get? b=some o→h'.get? b=some o)→tn i h'
 item:∀ (X:Cx),X.prog=P→X.w=w→X.K=K→X.calm=true→∀ (i:Nat) (pins:List (Addr × Obj)) (s:Shared) (σ:St) (H:Hp) (E:Value→Shared→Prop),Inv X pins σ H s→(∀ b ∈ fp,FpOk X pins H b)→tn i s.heap→J.go i H →
  wpAny (model P w) X.A (pyNext (.ref it)) (fun r s1=>∃ u,r=some u ∧
   wpAny (model P w) X.A (letOwnedTupleGo tg (.ref it) u) (fun _ s2=>∃ x H',Inv X pins σ H' s2∧RelV x u∧J.yld i H x H'∧tn (i + 1) s2.heap∧∀ b ∈ fp,H' b=none) E s1) E s
 done:∀ (X:Cx),X.prog=P→X.w=w→X.K=K→X.calm=true→∀ (i:Nat) (pins:List (Addr × Obj)) (s:Shared) (σ:St) (H:Hp) (E:Value→Shared→Prop),Inv X pins σ H s→(∀ b ∈ fp,FpOk X pins H b)→tn i s.heap→J.stop i H →
  wpAny (model P w) X.A (pyNext (.ref it)) (fun r s1=>r=none∧Inv X pins σ H s1) E s
 self:∀ (A:Around) (i:Nat) (s:Shared) (Q:Value→Shared→Prop) (E:Value→Shared→Prop),tn i s.heap→Q (.ref it) s→wpAny (model P w) A (pyIter (.ref it)) Q E s
noncomputable abbrev TI:=St→Hp→(It→Hp→Prop)→Prop
noncomputable def PIE (X:Cx) (pins:List (Addr × Obj)) (σ:St) (tg:Expr) (R:It→Hp→Prop) (itv:Value) (s2:Shared):Prop :=
 ∃ (it:Addr) (fp:List Addr) (tn:Nat→Heap→Prop) (J:It) (H':Hp),itv=.ref it∧Inv X pins σ H' s2∧Turn X.prog X.w X.K tg J fp it tn∧tn 0 s2.heap∧(∀ b ∈ fp,FpOk X pins H' b)∧R J H'
noncomputable def PI (X:Cx) (tg iter:Expr) (wi:TI):Prop :=
 ∀ (pins:List (Addr × Obj)) (s:Shared) (σ:St) (H:Hp) (R:It→Hp→Prop),Inv X pins σ H s→wi σ H R →
  wpAny (model X.prog X.w) X.A (eval iter X.env) (fun v s1=>wpAny (model X.prog X.w) X.A (pyIter v) (PIE X pins σ tg R) X.xe s1) X.xe s
theorem ZjY {M : Model}{A : Around}{E : Value → Shared → Prop}{s : Shared}{tg : Expr}{it : Addr}{u : Value}{o : Obj}{n : String}{vs : Array Value}{Q : Unit → Shared → Prop}(ho : s.heap.get? it = some o)(hc : o.cls = .type n)(hd : o.data = .fields vs)
    (hn : ["enumerate", "zip", "dict_itemiterator", "dict_reverseitemiterator", "odict_iterator", "itertools.zip_longest", "itertools.pairwise"].contains n = false) (hQ : Q () s) : wpAny M A (letOwnedTupleGo tg (.ref it) u) Q E s := by
  unfold letOwnedTupleGo
  cases tg <;> first
    | exact wpAny_pure hQ
    | (cases u <;> first
        | exact wpAny_pure hQ
        | (refine wpAny_bind (wpAny_load ho ?_)
           rw [hc, hd]
           show wpAny M A (if (["enumerate", "zip", "dict_itemiterator", "dict_reverseitemiterator", "odict_iterator", "itertools.zip_longest", "itertools.pairwise"].contains n && vs[0]? == some (rawInt _)) = true then _ else _) Q E s
           rw [if_neg (by intro h; rw [hn, Bool.false_and] at h; cases h)]
           exact wpAny_pure hQ))
noncomputable def Itl (K:PySem.W.Frag) (a:Addr):It :=
 ⟨fun i H=>∃ xs x,SqL K H a xs∧xs[i]?=some x,fun i H x H'=>H'=H∧∀ xs,SqL K H a xs→xs[i]?=some x,fun i H=>∃ xs,SqL K H a xs∧xs.length≤i⟩
noncomputable def Itt (K:PySem.W.Frag) (a:Addr):It :=
 ⟨fun i H=>∃ xs x,SqT K H a xs∧xs[i]?=some x,fun i H x H'=>H'=H∧∀ xs,SqT K H a xs→xs[i]?=some x,fun i H=>∃ xs,SqT K H a xs∧xs.length≤i⟩
noncomputable def Itr (lo:Int) (n:Nat):It:=⟨fun i _=>i < n,fun i H x H'=>H'=H∧x=.int (lo + i),fun i _=>n≤i⟩
theorem ZlH {P:Program}{w:World}{K:PySem.W.Frag}{tg:Expr}(a it:Addr):Turn P w K tg (Itl K a) [it] it (fun i h=>h.IsListIter it a i) where
 mem:=by simp
 obj:=fun i h st b hb=>by
  have e:b=it:=by simpa using hb
  subst e
  obtain ⟨o,e,c,d⟩:=st
  exact ⟨o,e,fun v z=>by rw [d] at z;cases z⟩
 keep:=fun i h h' st k=>st.at fun o e=>k it (by simp) o e
 item:=by
  intro X hP hw hK hc i pins s σ H E I hf st hg
  subst hP hw hK
  obtain ⟨xs,x,hq,hx⟩:=hg
  obtain ⟨its,rv,p,hz⟩:=I.list hq
  obtain ⟨u,hu,ru⟩:=rv.get hx
  obtain ⟨f0,f1,f2,f3,f4,f5⟩:=hf it (by simp)
  refine wpAny_pyNext_list_item st p.isList (x:=u) (by simpa using hu) fun h' st' sb=>?_
  have I1:Inv X pins σ H { s with heap:=h' }:=I.turned (t':=s.toks) (fun b o hb e=>(sb.2 b hb).trans e) f0 f1 f3 f4 f5
  obtain ⟨o,e,c,d⟩:=id st'
  exact ⟨u,rfl,ZjY (s:={ s with heap:=h' }) e c d (by decide) ⟨x,H,I1,ru,⟨rfl,fun ys hy=>by rw [I.ZhC hy hq];exact hx⟩,st',fun b hb=>(hf b hb).1⟩⟩
 done:=by
  intro X hP hw hK hc i pins s σ H E I hf st hg
  subst hP hw hK
  obtain ⟨xs,hq,hx⟩:=hg
  obtain ⟨its,rv,p,hz⟩:=I.list hq
  obtain ⟨f0,f1,f2,f3,f4,f5⟩:=hf it (by simp)
  have hl:=rv.length
  exact wpAny_pyNext_list_end (I.ok.hd hc) st p.isList (by simp;omega) fun h' eb=>⟨rfl,I.turned (t':=s.toks) (fun b o hb e=>eb b o hb e) f0 f1 f3 f4 f5⟩
 self:=fun _ _ _ _ _ st h=>wpAny_pyIter_listiter st h
theorem Zke {P:Program}{w:World}{K:PySem.W.Frag}{tg:Expr}(a it:Addr):Turn P w K tg (Itt K a) [it] it (fun i h=>h.IsTupleIter it a i) where
 mem:=by simp
 obj:=fun i h st b hb=>by
  have e:b=it:=by simpa using hb
  subst e
  obtain ⟨o,e,c,d⟩:=st
  exact ⟨o,e,fun v z=>by rw [d] at z;cases z⟩
 keep:=fun i h h' st k=>st.at fun o e=>k it (by simp) o e
 item:=by
  intro X hP hw hK hc i pins s σ H E I hf st hg
  subst hP hw hK
  obtain ⟨xs,x,hq,hx⟩:=hg
  obtain ⟨its,rv,p,hz⟩:=I.tuple hq
  obtain ⟨u,hu,ru⟩:=rv.get hx
  obtain ⟨f0,f1,f2,f3,f4,f5⟩:=hf it (by simp)
  refine wpAny_pyNext_tuple_item st (show s.heap.IsTuple a its.toArray from p) (x:=u) (by simpa using hu) fun h' st' sb=>?_
  have I1:Inv X pins σ H { s with heap:=h' }:=I.turned (t':=s.toks) (fun b o hb e=>(sb.2 b hb).trans e) f0 f1 f3 f4 f5
  obtain ⟨o,e,c,d⟩:=id st'
  exact ⟨u,rfl,ZjY (s:={ s with heap:=h' }) e c d (by decide) ⟨x,H,I1,ru,⟨rfl,fun ys hy=>by rw [I.Zkv hy hq];exact hx⟩,st',fun b hb=>(hf b hb).1⟩⟩
 done:=by
  intro X hP hw hK hc i pins s σ H E I hf st hg
  subst hP hw hK
  obtain ⟨xs,hq,hx⟩:=hg
  obtain ⟨its,rv,p,hz⟩:=I.tuple hq
  obtain ⟨f0,f1,f2,f3,f4,f5⟩:=hf it (by simp)
  have hl:=rv.length
  exact wpAny_pyNext_tuple_end (I.ok.hd hc) st (show s.heap.IsTuple a its.toArray from p) (by simp;omega) fun h' eb=>⟨rfl,I.turned (t':=s.toks) (fun b o hb e=>eb b o hb e) f0 f1 f3 f4 f5⟩
 self:=fun _ _ _ _ _ st h=>wpAny_pyIter_tupleiter st h
theorem Zj4 {P:Program}{w:World}{K:PySem.W.Frag}{tg:Expr}(it:Addr)(lo:Int)(n:Nat):Turn P w K tg (Itr lo n) [it] it (fun i h=>IsRangeIter h it (lo + (i:Nat) * 1) ((n:Int) - (i:Nat)) 1) where
 mem:=by simp
 obj:=fun i h st b hb=>by
  have e:b=it:=by simpa using hb
  subst e
  exact ⟨_,st,fun v z=>by
   have z':Data.fields _=Data.cell v:=z
   cases z'⟩
 keep:=fun i h h' st k=>k it (by simp) _ st
 item:=by
  intro X hP hw hK hc i pins s σ H E I hf st hg
  subst hP hw hK
  obtain ⟨f0,f1,f2,f3,f4,f5⟩:=hf it (by simp)
  have W:=Walks.range (prog:=X.prog) (w:=X.w) (I.ok.hd hc) it lo 1 n
  refine W.item i s _ _ hg st fun v h' tk hv st' kk=>?_
  obtain ⟨t,rfl⟩:=hv
  have I1:Inv X pins σ H { s with heap:=h',toks:=tk }:=I.turned (fun b o hb e=>kk b o (by simpa using hb) e) f0 f1 f3 f4 f5
  refine ⟨_,rfl,ZjY (s:={ s with heap:=h',toks:=tk }) (n:="range_iterator") st' rfl rfl (by decide) ⟨.int (lo + i),H,I1,⟨t,?_⟩,⟨rfl,rfl⟩,st',fun b hb=>(hf b hb).1⟩⟩
  rw [Int.mul_one]
 done:=by
  intro X hP hw hK hc i pins s σ H E I hf st hg
  subst hP hw hK
  obtain ⟨f0,f1,f2,f3,f4,f5⟩:=hf it (by simp)
  exact wpAny_pyNext_range_end (I.ok.hd hc) st (by have:n≤i:=hg;omega) fun h' eb=>⟨rfl,I.turned (t':=s.toks) (fun b o hb e=>eb b o hb e) f0 f1 f3 f4 f5⟩
 self:=fun _ _ _ _ _ st h=>wpAny_pyIter_rangeiter st h
end L2
namespace L2
open PySem PySem.Spec PyProof.Rows
section
variable {X:Cx} {tg:Expr}
theorem Zh6 {pins:List (Addr × Obj)}{σ:St}{H:Hp}{s:Shared}{R:It→Hp→Prop}{E:Value→Shared→Prop}{lo hi:Int}{t u v:Tok}{tk:Nat}(I:Inv X pins σ H s)(h1:-(2 ^ 62)≤lo)(h2:lo < 2 ^ 62)(h3:-(2 ^ 62)≤hi)(h4:hi < 2 ^ 62)
  (q:R (Itr lo (hi - lo).toNat) H):wpAny (model X.prog X.w) X.A (pyIter (.ref s.heap.objs.size)) (PIE X pins σ tg R) E { s with heap:=s.heap.push { cls:=.type "range",data:=.fields #[.int lo t,.int hi u,.int 1 v] },toks:=tk }:=by
 refine wpAny_pyIter_range (IsRange.new ..) (small_one h1 h2 h3 h4) ?_
 have I1:Inv X pins σ H { s with heap:=s.heap.push { cls:=.type "range",data:=.fields #[.int lo t,.int hi u,.int 1 v] },toks:=tk }:=I.kept fun b o e=>Heap.get?_push_of_some _ e
 refine ⟨(s.heap.push { cls:=.type "range",data:=.fields #[.int lo t,.int hi u,.int 1 v] }).objs.size,[(s.heap.push { cls:=.type "range",data:=.fields #[.int lo t,.int hi u,.int 1 v] }).objs.size],_,_,H,rfl,
  I1.kept (t':=tk) fun b o e=>Heap.get?_push_of_some _ e,Zj4 _ lo (hi - lo).toNat,?_,fun b hb=>?_,q⟩
 ·have e1:lo + ((0:Nat):Int) * 1=lo:=by simp
  have e2:(((hi - lo).toNat:Nat):Int) - ((0:Nat):Int)=Builtin.Range.rangeSize lo hi 1:=by rw [rangeSize_one];split <;> omega
  show IsRangeIter _ _ (lo + ((0:Nat):Int) * 1) ((((hi - lo).toNat:Nat):Int) - ((0:Nat):Int)) 1
  rw [e1,e2]
  exact Heap.get?_push_size _ rfl
 ·have e:b=(s.heap.push { cls:=.type "range",data:=.fields #[.int lo t,.int hi u,.int 1 v] }).objs.size:=by simpa using hb
  subst e
  exact I1.fpOk (Nat.le_refl _) (I1.hok.fresh (Nat.le_refl _))
noncomputable def ZpM (ta:TA):TI:=fun σ H R=>ta σ H fun vs H1=>∃ j:Int,vs=[.int j]∧-(2 ^ 62)≤j∧j < 2 ^ 62∧R (Itr 0 j.toNat) H1
noncomputable def Zdx (ta:TA):TI:=fun σ H R=>ta σ H fun vs H1=>∃ i j:Int,vs=[.int i,.int j]∧(-(2 ^ 62)≤i∧i < 2 ^ 62∧-(2 ^ 62)≤j∧j < 2 ^ 62)∧R (Itr i (j - i).toNat) H1
theorem ZlN {a:Expr} {ta:TA} {p pos:Pos} (hg:Gl X "range") (hm:X.mg "range"=none) (ha:PA X [a] ta) (hs:starEach [a] X.env=[(false,eval a X.env)]:=by rfl):PI X tg (.Call (.Name "range" p) [a] [] pos) (ZpM ta):=by
 intro pins s σ H R I h
 refine Call_ (Zb5 I hg hm boot_range (PyProof.Rows.callWith_type1 (thn (ha pos pins s σ H _ I h) fun us s1 ⟨vs,H1,I1,r1,q1⟩=>?_) hs rfl))
 obtain ⟨j,e,q1,q2,q⟩:=q1
 subst e
 cases r1 with
 | cons r rr =>
  cases rr
  obtain ⟨t,rfl⟩:=r
  exact call_range_1 (Zh6 I1 (by omega) (by omega) q1 q2 (by simpa using q))
theorem ZlG {a b:Expr} {ta:TA} {p pos:Pos} (hg:Gl X "range") (hm:X.mg "range"=none) (ha:PA X [a,b] ta) (hs:starEach [a,b] X.env=[(false,eval a X.env),(false,eval b X.env)]:=by rfl) (hs2:starEach [b] X.env=[(false,eval b X.env)]:=by rfl) :
  PI X tg (.Call (.Name "range" p) [a,b] [] pos) (Zdx ta):=by
 intro pins s σ H R I h
 refine Call_ (Zb5 I hg hm boot_range (PyProof.Rows.callWith_type1 (thn (ha pos pins s σ H _ I h) fun us s1 ⟨vs,H1,I1,r1,q1⟩=>?_) (by rw [hs,hs2]) (by rw [hs2];rfl)))
 obtain ⟨i,j,e,⟨q1,q2,q3,q4⟩,q⟩:=q1
 subst e
 cases r1 with
 | cons r rr =>
  cases rr with
  | cons r' rr =>
   cases rr
   obtain ⟨t,rfl⟩:=r
   obtain ⟨t',rfl⟩:=r'
   exact call_range_2 (Zh6 I1 q1 q2 q3 q4 q)
noncomputable def tFor (wi:TI) (g:TG) (tb:TS):TS:=fun D σ H=>wi σ H fun J H1=>∃ W:Nat→Nat→St→Hp→Prop,(∃ m,W 0 m σ H1)∧∀ i m σ H,W i m σ H →
 (J.stop i H∧D.nx σ H)∨(J.go i H∧∃ N:St→Hp→Prop,(∀ σ' H',N σ' H'→∃ m',m' < m∧W (i + 1) m' σ' H')∧∀ x H',J.yld i H x H'→g x σ H' fun σ2 H2=>tb { D with nx:=N,ct:=N,bk:=D.nx } σ2 H2)
noncomputable def ZdW (fp:List Addr) (h:Heap):List (Addr × Obj):=fp.filterMap fun b=>(h.get? b).map fun o=>(b,o)
theorem Zch {fp:List Addr}{h:Heap}{b:Addr}{o:Obj}(hb:b ∈ fp)(e:h.get? b=some o):(b,o) ∈ ZdW fp h:=List.mem_filterMap.mpr ⟨b,hb,by rw [e];rfl⟩
theorem Zls {fp:List Addr}{h:Heap}{p:Addr × Obj}(hp:p ∈ ZdW fp h):p.1 ∈ fp∧h.get? p.1=some p.2:=by
 obtain ⟨b,hb,e⟩:=List.mem_filterMap.mp hp
 cases q:h.get? b with
 | none=>rw [q] at e;cases e
 | some o =>
  rw [q] at e
  have e':(b,o)=p:=Option.some.inj e
  subst e'
  exact ⟨hb,q⟩
theorem Inv.pinned {pins:List (Addr × Obj)}{σ:St}{H:Hp}{s:Shared}{fp:List Addr}(I:Inv X pins σ H s)(hf:∀ b ∈ fp,FpOk X pins H b)(ho:∀ b ∈ fp,∃ o,s.heap.get? b=some o∧∀ v,o.data≠.cell v):Inv X (pins++ZdW fp s.heap) σ H s :=
 I.Zgx fun p hp=>(List.mem_append.mp hp).elim (fun z=>I.pin p (List.mem_append_right _ z)) fun z=>by
  obtain ⟨hb,e⟩:=Zls z
  obtain ⟨f0,f1,f2,_⟩:=hf p.1 hb
  obtain ⟨o,e',d⟩:=ho p.1 hb
  rw [e] at e';cases e'
  exact ⟨e,f0,f1,f2,d⟩
theorem Inv.Zcs {pins pl:List (Addr × Obj)}{σ:St}{H:Hp}{s:Shared}(I:Inv X (pins++pl) σ H s):Inv X pins σ H s:=I.Zgx fun p hp=>I.pin p (List.mem_append_right _ (List.mem_append_left _ hp))
theorem Zpk {iter:Expr}{body:List Stmt}{wi:TI}{g:TG}{tb:TS}{pos:Pos}(hp:PassesOwn (model X.prog X.w) X.A X.env X.xe)(hc:X.calm=true)(hi:PI X tg iter wi)(hg:PG X tg g)(hb:PSs X body tb)
  (hs:∀ x,foldedSetIterable iter X.env x=pure x:=by intro _;rfl):PS X (.For tg iter body [] pos) (tFor wi g tb):=by
 intro pins s σ H D I h
 refine wpAny_For (thn (hi pins s σ H _ I h) fun v s1 h1=>thn h1 fun itv s2 h2=>?_) hs
 obtain ⟨it,fp,tn,J,H2,e,I2,T,st2,f2,W,⟨m0,w0⟩,turn⟩:=h2
 subst e
 have stat:∀ {H':Hp},(∀ b ∈ fp,H' b=none)→∀ b ∈ fp,FpOk X pins H' b:=fun hn b hb=>⟨hn b hb,(f2 b hb).2⟩
 refine codeAny_forLoop_any (fun n s'=>∃ i σ' H',Inv X pins σ' H' s'∧tn i s'.heap∧(∀ b ∈ fp,H' b=none)∧W i n σ' H') ?_ m0 ⟨0,σ,H2,I2,st2,fun b hb=>(f2 b hb).1,w0⟩
 rintro n s3 ⟨i,σ3,H3,I3,st3,fr3,w3⟩
 rcases turn i n σ3 H3 w3 with ⟨stop,qn⟩ | ⟨go,N,hN,step⟩
 ·refine wpAny_passesOwn hp (thn (T.done X rfl rfl rfl hc i pins s3 σ3 H3 X.xe I3 (stat fr3) st3 stop) fun r s4 ⟨hr,I4⟩=>?_)
  subst hr
  exact wpAny_execs_nil ⟨σ3,H3,I4,qn⟩
 ·refine wpAny_passesOwn hp (thn (T.item X rfl rfl rfl hc i pins s3 σ3 H3 X.xe I3 (stat fr3) st3 go) fun r s4 ⟨u,hr,h4⟩=>?_)
  subst hr
  refine wpAny_passesOwn hp (thn h4 fun _ s5 ⟨x,H5,I5,r5,y5,st5,fr5⟩=>?_)
  have I5':=I5.pinned (stat fr5) (T.obj _ _ st5)
  refine wpAny_passesOwn hp (thn (hg _ s5 σ3 H5 x u _ I5' r5 (step x H5 y5)) fun _ s6 ⟨σ6,H6,I6,q6⟩=>?_)
  refine wpAny_passesOwn hp (thn (hb _ s6 σ6 H6 _ I6 q6) fun f s7 q7=>?_)
  have again:∀ {σ7:St} {H7:Hp},Inv X (pins++ZdW fp s5.heap) σ7 H7 s7→N σ7 H7→∃ m,m < n∧∃ i σ' H',Inv X pins σ' H' s7∧tn i s7.heap∧(∀ b ∈ fp,H' b=none)∧W i m σ' H':=fun {σ7 H7} I7 n7=>by
   obtain ⟨m',hm,w7⟩:=hN σ7 H7 n7
   refine ⟨m',hm,i + 1,σ7,H7,I7.Zcs,T.keep _ _ _ st5 fun b hb o e=>(I7.pin (b,o) (List.mem_append_right _ (List.mem_append_right _ (Zch hb e)))).1,fun b hb=>?_,w7⟩
   obtain ⟨o,e,d⟩:=T.obj _ _ st5 b hb
   exact (I7.pin (b,o) (List.mem_append_right _ (List.mem_append_right _ (Zch hb e)))).2.1
  cases f with
  | next=>obtain ⟨σ7,H7,I7,n7⟩:=q7;exact again I7 n7
  | cont=>obtain ⟨σ7,H7,I7,n7⟩:=q7;exact again I7 n7
  | brk=>obtain ⟨σ7,H7,I7,q7⟩:=q7;exact ⟨σ7,H7,I7.Zcs,q7⟩
  | ret v=>obtain ⟨x7,σ7,H7,I7,r7,q7⟩:=q7;exact ⟨x7,σ7,H7,I7.Zcs,r7,q7⟩
end
end L2
namespace L2
open PySem PySem.Spec PyProof.Rows
noncomputable abbrev R2:=V→V→Hp→VK→Prop
noncomputable def OpR (X:Cx) (f:Value→Value→Sem Value) (r:R2):Prop :=
 ∀ (pins:List (Addr × Obj)) (s:Shared) (σ:St) (H:Hp) (x y:V) (v u:Value) (Q:VK),Inv X pins σ H s→RelV x v→RelV y u→r x y H Q →
  wpAny (model X.prog X.w) X.A (f v u) (EP X pins σ Q) X.xe s
noncomputable def UnR (X:Cx) (f:Value→Sem Value) (r:V→Hp→VK→Prop):Prop :=
 ∀ (pins:List (Addr × Obj)) (s:Shared) (σ:St) (H:Hp) (x:V) (v:Value) (Q:VK),Inv X pins σ H s→RelV x v→r x H Q →
  wpAny (model X.prog X.w) X.A (f v) (EP X pins σ Q) X.xe s
noncomputable def Zaq (X:Cx) (f:Value) (r:List V→Hp→VK→Prop):Prop :=
 ∀ (pins:List (Addr × Obj)) (s:Shared) (σ:St) (H:Hp) (xs:List V) (us:List Value) (Q:VK),Inv X pins σ H s→Vals xs us→r xs H Q →
  wpAny (model X.prog X.w) X.A (call f us) (EP X pins σ Q) X.xe s
noncomputable def tOp (r:R2) (ta tb:TE):TE:=fun σ H Q=>ta σ H fun x H1=>tb σ H1 fun y H2=>r x y H2 Q
noncomputable def tUn (r:V→Hp→VK→Prop) (ta:TE):TE:=fun σ H Q=>ta σ H fun x H1=>r x H1 Q
noncomputable def rI (C:Int→Int→Prop) (g:Int→Int→V):R2:=fun x y H Q=>∃ i j,x=.int i∧y=.int j∧C i j∧Q (g i j) H
noncomputable def rI0 (g:Int→Int→V):R2:=fun x y H Q=>∃ i j,x=.int i∧y=.int j∧Q (g i j) H
noncomputable def rU (g:Int→V):V→Hp→VK→Prop:=fun x H Q=>∃ i,x=.int i∧Q (g i) H
section
variable {X:Cx} {a b c:Expr} {ta tb tc:TE} {pos:Pos}
theorem binT (ha:PE X a ta)(hb:PE X b tb){pins:List (Addr × Obj)}{s:Shared}{σ:St}{H:Hp}{R:V→V→Hp→Prop}(I:Inv X pins σ H s)
  (h:ta σ H fun x H1=>tb σ H1 fun y H2=>R x y H2) {Q:Value→Shared→Prop} {f:Value→Value→Sem Value}
  (hf:∀ v u s2 x y H2,Inv X pins σ H2 s2→RelV x v→RelV y u→R x y H2→wpAny (model X.prog X.w) X.A (f v u) Q X.xe s2) :
  wpAny (model X.prog X.w) X.A (eval a X.env) (fun v s₁=>wpAny (model X.prog X.w) X.A (eval b X.env) (fun u s₂=>wpAny (model X.prog X.w) X.A (f v u) Q X.xe s₂) X.xe s₁) X.xe s:=by
 refine thn (ha pins s σ H _ I h) fun v s1 ⟨x,H1,I1,r1,q1⟩=>?_
 refine thn (hb pins s1 σ H1 _ I1 q1) fun u s2 ⟨y,H2,I2,r2,q2⟩=>?_
 exact hf v u s2 x y H2 I2 r1 r2 q2
theorem Zkg {op:Operator}{r:R2}(ho:OpR X (binaryOp op) r)(ha:PE X a ta)(hb:PE X b tb):PE X (.BinOp a op b pos) (tOp r ta tb):=by
 intro pins s σ H Q I h
 exact wpAny_BinOp (binT ha hb I h fun v u s2 x y H2 I2 rx ry q=>ho pins s2 σ H2 x y v u Q I2 rx ry q)
theorem ZpQ {op:UnaryOp}{r:V→Hp→VK→Prop}(ho:UnR X (unaryOp op) r)(ha:PE X a ta):PE X (.UnaryOp op a pos) (tUn r ta):=by
 intro pins s σ H Q I h
 exact UnaryOp_ (thn (ha pins s σ H _ I h) fun v s1 ⟨x,H1,I1,r1,q1⟩=>ho pins s1 σ H1 x v Q I1 r1 q1)
theorem opI {f:Value→Value→Sem Value}{C:Int→Int→Prop}{g:Int→Int→Int}
  (rule:∀ (i j:Int) (t u:Tok) (s:Shared) (Q:Value→Shared→Prop) (E:Value→Shared→Prop),C i j→Q (.int (g i j) s.toks) { s with toks:=s.toks + 1 }→wpAny (model X.prog X.w) X.A (f (.int i t) (.int j u)) Q E s) :
  OpR X f (rI C fun i j=>.int (g i j)):=by
 intro pins s σ H x y v u Q I rx ry h
 obtain ⟨i,j,rfl,rfl,hc,q⟩:=h
 obtain ⟨t,rfl⟩:=rx
 obtain ⟨t',rfl⟩:=ry
 exact rule i j t t' s _ _ hc ⟨.int (g i j),H,I.tok _,⟨_,rfl⟩,q⟩
theorem opI0 {f:Value→Value→Sem Value}{g:Int→Int→Int}
  (rule:∀ (i j:Int) (t u:Tok) (s:Shared) (Q:Value→Shared→Prop) (E:Value→Shared→Prop),Q (.int (g i j) s.toks) { s with toks:=s.toks + 1 }→wpAny (model X.prog X.w) X.A (f (.int i t) (.int j u)) Q E s) :
  OpR X f (rI0 fun i j=>.int (g i j)):=by
 intro pins s σ H x y v u Q I rx ry h
 obtain ⟨i,j,rfl,rfl,q⟩:=h
 obtain ⟨t,rfl⟩:=rx
 obtain ⟨t',rfl⟩:=ry
 exact rule i j t t' s _ _ ⟨.int (g i j),H,I.tok _,⟨_,rfl⟩,q⟩
theorem opB0 {f:Value→Value→Sem Value}{g:Int→Int→Bool}
  (rule:∀ (i j:Int) (t u:Tok) (s:Shared) (Q:Value→Shared→Prop) (E:Value→Shared→Prop),Q (.bool (g i j)) s→wpAny (model X.prog X.w) X.A (f (.int i t) (.int j u)) Q E s) :
  OpR X f (rI0 fun i j=>.bl (g i j)):=by
 intro pins s σ H x y v u Q I rx ry h
 obtain ⟨i,j,rfl,rfl,q⟩:=h
 obtain ⟨t,rfl⟩:=rx
 obtain ⟨t',rfl⟩:=ry
 exact rule i j t t' s _ _ ⟨.bl (g i j),H,I,rfl,q⟩
noncomputable def CDiv (i j:Int):Prop:=0 < j∧j < 1073741824
noncomputable def CMul (i j:Int):Prop:=(-(2 ^ 64) < i∧i < 2 ^ 64)∨(-(2 ^ 64) < j∧j < 2 ^ 64)
theorem CMul.ok {i j:Int}(h:CMul i j):IntMulOk i j:=by
 rcases h with ⟨h1,h2⟩ | ⟨h1,h2⟩
 ·exact .of_left (intBits_le_64 h1 h2)
 ·exact .of_right (intBits_le_64 h1 h2)
theorem Zo2:OpR X (binaryOp .Add) (rI0 fun i j=>.int (i + j)):=opI0 fun _ _ _ _ _ _ _ q=>add_int q
theorem Zpw:OpR X (binaryOp .Sub) (rI0 fun i j=>.int (i - j)):=opI0 fun _ _ _ _ _ _ _ q=>sub_int q
theorem ZoR:OpR X (binaryOp .Mult) (rI CMul fun i j=>.int (i * j)):=opI fun _ _ _ _ _ _ _ hc q=>mul_int q hc.ok
theorem Zop:OpR X (binaryOp .FloorDiv) (rI CDiv fun i j=>.int (i / j)):=opI fun i j _ _ _ _ _ hc q=>by
 have h1:(0:Int) < j:=hc.1
 have h2:j < 1073741824:=hc.2
 exact floordiv_int (by omega) (by rw [Int.fdiv_eq_ediv_of_nonneg i (by omega)];exact q) (.inl (PyProof.noPylong_small (by omega)))
theorem Zpy:OpR X (binaryOp .Mod) (rI (fun _ j=>0 < j) fun i j=>.int (i % j)):=opI fun i j _ _ _ _ _ hc q=>by
 have h1:(0:Int) < j:=hc
 exact mod_int' (by omega) (by rw [Int.fmod_eq_emod_of_nonneg i (by omega)];exact q)
theorem unI {f:Value→Sem Value}{g:Int→Int}
  (rule:∀ (i:Int) (t:Tok) (s:Shared) (Q:Value→Shared→Prop) (E:Value→Shared→Prop),Q (.int (g i) s.toks) { s with toks:=s.toks + 1 }→wpAny (model X.prog X.w) X.A (f (.int i t)) Q E s) :
  UnR X f (rU fun i=>.int (g i)):=by
 intro pins s σ H x v Q I rx h
 obtain ⟨i,rfl,q⟩:=h
 obtain ⟨t,rfl⟩:=rx
 exact rule i t s _ _ ⟨.int (g i),H,I.tok _,⟨_,rfl⟩,q⟩
theorem ZpI:UnR X (unaryOp .USub) (rU fun i=>.int (-i)):=unI fun _ _ _ _ _ q=>neg_int q
end
section
variable {X:Cx} {a b c:Expr} {ta tb tc:TE} {pos:Pos}
theorem Zlp {pins:List (Addr × Obj)}{σ:St}{H:Hp}{s:Shared}{Q:VK}{k k':Bool}(I:Inv X pins σ H s)(q:Q (.bl k) H)(e:k=k'):EP X pins σ Q (.bool k') s:=by
 subst e
 exact ⟨.bl k,H,I,rfl,q⟩
theorem Zm6:OpR X (compareOp .Lt) (rI0 fun i j=>.bl (decide (i < j))):=opB0 fun _ _ _ _ _ _ _ q=>lt_int q
theorem Zqg:OpR X (compareOp .Gt) (rI0 fun i j=>.bl (decide (j < i))):=opB0 fun _ _ _ _ _ _ _ q=>gt_int q
theorem ZpP:OpR X (compareOp .GtE) (rI0 fun i j=>.bl (decide (j≤i))):=opB0 fun _ _ _ _ _ _ _ q=>ge_int q
theorem ZoW:OpR X (compareOp .Is) (fun x y H Q=>y=.non∧Q (.bl (decide (x=.non))) H):=by
 intro pins s σ H x y v u Q I rx ry h
 obtain ⟨rfl,q⟩:=h
 cases ry
 refine is_none_gen (Zlp I q ?_)
 cases x <;> first
  | (cases rx;rfl)
  | (obtain ⟨t,rfl⟩:=rx;rfl)
theorem Zno:OpR X (compareOp .IsNot) (fun x y H Q=>y=.non∧Q (.bl (!decide (x=.non))) H):=by
 intro pins s σ H x y v u Q I rx ry h
 obtain ⟨rfl,q⟩:=h
 cases ry
 refine isnot_none_gen (Zlp I q ?_)
 cases x <;> first
  | (cases rx;rfl)
  | (obtain ⟨t,rfl⟩:=rx;rfl)
theorem OpR.or {f:Value→Value→Sem Value}{r r':R2}(h:OpR X f r)(h':OpR X f r'):OpR X f (fun x y H Q=>r x y H Q∨r' x y H Q):=by
 intro pins s σ H x y v u Q I rx ry q
 rcases q with q | q
 ·exact h pins s σ H x y v u Q I rx ry q
 ·exact h' pins s σ H x y v u Q I rx ry q
theorem Zbr (b:Expr){op:CmpOp}(h:op≠.In:=by decide)(h2:op≠.NotIn:=by decide):behindInMarks op b=false:=by
 have e1:(op == CmpOp.In)=false:=by cases op <;> first | rfl | exact absurd rfl h
 have e2:(op == CmpOp.NotIn)=false:=by cases op <;> first | rfl | exact absurd rfl h2
 cases b <;> simp [behindInMarks,e1,e2]
theorem Zog {op:CmpOp}{r:R2}(ho:OpR X (compareOp op) r)(ha:PE X a ta)(hb:PE X b tb)(hm:behindInMarks op b=false):PE X (.Compare a [op] [b] pos) (tOp r ta tb):=by
 intro pins s σ H Q I h
 exact wpAny_Compare1 (binT ha hb I h fun v u s2 x y H2 I2 rx ry q=>ho pins s2 σ H2 x y v u Q I2 rx ry q) hm
noncomputable def ZpX (t:TE):TT:=fun σ H Q=>t σ H fun x H'=>∃ k,x=.bl k∧Q k H'
theorem Zne {op:CmpOp}{r:R2}(ho:OpR X (compareOp op) r)(ha:PE X a ta)(hb:PE X b tb)(hm:behindInMarks op b=false):PT X (.Compare a [op] [b] pos) (ZpX (tOp r ta tb)):=by
 intro pins s σ H Q I h
 refine wpAny_isTrue_Compare1 (thn (ha pins s σ H _ I h) fun v s1 ⟨x,H1,I1,r1,q1⟩=>thn (hb pins s1 σ H1 _ I1 q1) fun u s2 ⟨y,H2,I2,r2,q2⟩ =>
  thn (ho pins s2 σ H2 x y v u _ I2 r1 r2 q2) fun c s3 ⟨z,H3,I3,r3,k,e,q3⟩=>?_) hm
 subst e
 cases r3
 exact wpAny_truthy_bool ⟨H3,I3,q3⟩
theorem Zet:(sizeLine:Nat) < 2 ^ 63:=by rw [sizeLine_eq];decide
theorem vals1 {x:V}{us:List Value}(r:Vals [x] us):∃ u,us=[u]∧RelV x u:=by
 cases r with
 | cons r1 r2=>cases r2;exact ⟨_,rfl,r1⟩
end
end L2
namespace L2
open PySem PySem.Spec PyProof.Rows
section
variable {prog:Program} {w:World} {A:Around} {E:Value→Shared→Prop} {s:Shared} {K:PySem.W.Frag} {x dx C f:Addr} {mA:Str→Option Value} {name:Str} {v:Value}
end
theorem RelO.some_of {v:V}{o:Option Value}(r:RelO (some v) o):∃ u,o=some u∧RelV v u:=by
 cases o with
 | none=>exact (show False from r).elim
 | some u=>exact ⟨u,rfl,r⟩
section
variable {P:Program} {w:World} {H H':Hp} {h h':Heap} {a C dx:Addr} {fs fs':List (Str × V)}
end
structure Cls (K:PySem.W.Frag)(C:Addr):Prop where
 pg:PySem.W.plainGet K C Str.empty=true
 hd:PySem.W.hasDictIn K C=true
 po:PySem.W.plainOver K C=true
 sa:PySem.W.findIn K (.ref C) "__setattr__"=some (some (.builtin "object.__setattr__"))
theorem Cls.get {K:PySem.W.Frag}{C:Addr}(c:Cls K C)(f:Str):PySem.W.plainGet K C f=true:=c.pg
section
variable {X:Cx} {pins:List (Addr × Obj)} {σ:St} {H:Hp} {s:Shared} {a C dx:Addr} {fs:List (Str × V)} {f:Str} {v:V} {A:Around} {E:Value→Shared→Prop}
theorem Inv.made (I:Inv X pins σ H s):Inv X pins σ (upd (upd H s.heap.objs.size (.own (s.heap.objs.size + 1))) (s.heap.objs.size + 1) (.ins C s.heap.objs.size []))
  { s with heap:=(s.heap.push PySem.W.emptyDict).push (PySem.W.instObj C s.heap.objs.size) }:=by
 have e1:(s.heap.push PySem.W.emptyDict).get? s.heap.objs.size=some PySem.W.emptyDict:=Heap.get?_push_size s.heap rfl
 have e2:((s.heap.push PySem.W.emptyDict).push (PySem.W.instObj C s.heap.objs.size)).get? (s.heap.objs.size + 1)=some (PySem.W.instObj C s.heap.objs.size):=by
  have:=Heap.get?_push_size (s.heap.push PySem.W.emptyDict) (o:=PySem.W.instObj C s.heap.objs.size) rfl
  rwa [Heap.size_push] at this
 have e3:(s.heap.push PySem.W.emptyDict).Ns s.heap.objs.size (fun _=>none):=⟨PySem.W.emptyDict,#[],_,e1,rfl,(fun e he=>absurd he (by simp)),fun _=>rfl⟩
 have I1:=I.laid (a:=s.heap.objs.size) (o:=.own (s.heap.objs.size + 1)) (h':=s.heap.push PySem.W.emptyDict) (t':=s.toks) (fun b u q=>Heap.get?_push_of_some _ q) (Nat.le_refl _) ⟨_,e1⟩
 refine I1.laid (a:=s.heap.objs.size + 1) (o:=.ins C s.heap.objs.size []) (t':=s.toks) (fun b u q=>Heap.get?_push_of_some _ q) (Nat.le_of_eq (Heap.size_push _ _)) ?_
 have ne:s.heap.objs.size≠s.heap.objs.size + 1:=Nat.ne_of_lt (Nat.lt_succ_self _)
 refine ⟨by rw [Jd ne,Yc],Nat.zero_le _,ne,e2,fun _=>none,(Heap.Ns1.of_empty e3).at fun o q=>Heap.get?_push_of_some _ q,fun _=>True.intro,fun y hy=>absurd rfl hy⟩
end
section
variable {X:Cx} {o e value:Expr} {f:Str} {pos pos' tpos:Pos} {ta tv:TE}
end
section
variable {X:Cx} {pins:List (Addr × Obj)} {σ:St} {H:Hp} {s:Shared} {A:Around} {E:Value→Shared→Prop} {Q:Value→Shared→Prop} {c:Value} {b:Bool}
end
end L2
namespace L2
open PySem PySem.Spec PyProof.Rows
structure Room (k:Nat)(A:Around):Prop where
 hd:A.handled=none
 dp:A.depth + 3 * k + 5 < recursionLimit
 un:A.units + 16 * k + 200 < cLine
theorem Room.mono {j k:Nat}{A:Around}(r:Room k A)(h:j≤k):Room j A:=⟨r.hd,by have:=r.dp;omega,by have:=r.un;omega⟩
theorem Room.deeper {k:Nat}{A:Around}(r:Room (k + 1) A)(env:Env):Room k (A.deeper env) :=
 ⟨r.hd,by have:=r.dp;show A.depth + 1 + 3 * k + 5 < _;omega,by have:=r.un;show A.units + 3 + 16 * k + 200 < _;omega⟩
theorem Room.in1 {k:Nat}{A:Around}(r:Room (k + 1) A):Room k A.in1 :=
 ⟨r.hd,by have:=r.dp;show A.depth + 3 * k + 5 < _;omega,by have:=r.un;show A.units + 1 + 16 * k + 200 < _;omega⟩
theorem Room.depth {k:Nat}{A:Around}(r:Room k A):A.depth < recursionLimit:=by have:=r.dp;omega
theorem Room.units {k:Nat}{A:Around}(r:Room k A):A.units + 64 < cLine:=by have:=r.un;omega
noncomputable def tNil:TA:=fun _ H Q=>Q [] H
noncomputable def Zp0 (ta:TE) (tr:TA):TA:=fun σ H Q=>ta σ H fun x H1=>tr σ H1 fun xs H2=>Q (x::xs) H2
section
variable {X:Cx} {e:Expr} {es:List Expr} {te:TE} {t:TA} {pos:Pos}
theorem Yv:PA X [] tNil:=fun _ _ _ _ H Q I h=>Calls.spliced_nil ⟨[],H,I,.nil,h⟩
theorem Ym (ha:PE X e te)(hr:PA X es t)(hs:starEach (e::es) X.env=(false,eval e X.env)::starEach es X.env:=by rfl):PA X (e::es) (Zp0 te t):=by
 intro pos pins s σ H Q I h
 rw [hs]
 show wpAny _ _ (spliced ((false,eval e X.env)::backTo pos (starEach es X.env))) _ _ s
 refine Calls.spliced_cons (thn (ha pins s σ H _ I h) fun u s1 ⟨x,H1,I1,r1,q1⟩=>?_)
 exact thn (hr pos pins s1 σ H1 _ I1 q1) fun us s2 ⟨xs,H2,I2,r2,q2⟩=>⟨x::xs,H2,I2,.cons r1 r2,q2⟩
noncomputable def tTup (t:TA):TE:=fun σ H Q=>t σ H fun xs H1=>xs.length≤sizeLine∧∀ p,H1 p=none→Q (.ref p) (upd H1 p (.tup xs))
noncomputable def tLst (t:TA):TE:=fun σ H Q=>t σ H fun xs H1=>xs.length≤sizeLine∧∀ p,H1 p=none→Q (.ref p) (upd H1 p (.lst xs))
theorem Zpa {x1}(h:PA X es t):PE X (.Tuple es x1 pos) (tTup t):=by
 intro pins s σ H Q I hq
 refine wpAny_Tuple_spliced (thn (h pos pins s σ H _ I hq) fun us s1 ⟨xs,H1,I1,r,z,q⟩=>⟨by rw [← r.length];exact z,?_⟩)
 have hf:H1 s1.heap.objs.size=none:=I1.hok.fresh (Nat.le_refl _)
 refine ⟨.ref s1.heap.objs.size,upd H1 s1.heap.objs.size (.tup xs),I1.laid (t':=s1.toks) (fun b u e=>Heap.get?_push_of_some _ e) (Nat.le_refl _) ?_,rfl,q _ hf⟩
 exact ⟨z,us,r,⟨_,Heap.get?_push_size _ rfl,rfl,_,rfl⟩⟩
theorem Zpj (h:PA X es t):PE X (.List es pos) (tLst t):=by
 intro pins s σ H Q I hq
 refine wpAny_List_spliced (thn (h pos pins s σ H _ I hq) fun us s1 ⟨xs,H1,I1,r,z,q⟩=>⟨by rw [← r.length];exact z,?_⟩)
 have hf:H1 s1.heap.objs.size=none:=I1.hok.fresh (Nat.le_refl _)
 refine ⟨.ref s1.heap.objs.size,upd H1 s1.heap.objs.size (.lst xs),I1.laid (t':=s1.toks) (fun b u e=>Heap.get?_push_of_some _ e) (Nat.le_refl _) ?_,rfl,q _ hf⟩
 exact ⟨z,us,0,r,Heap.get?_push_size _ rfl⟩
end
noncomputable abbrev Sp:=List V→Hp→VK→XK→Prop
noncomputable abbrev CXT:=List Env→Hp→Shared→XK→Value→Shared→Prop
structure Env0 (P:Program)(w:World)(K:PySem.W.Frag)(mg:Str→Option Value)(base:Heap)(A:Around)(outer:List Env)(s:Shared)(H:Hp):Prop where
 frames:A.frames=some outer
 mod:Mod K mg base
 bs:∀ b o,base.get? b=some o→s.heap.get? b=some o∧H b=none
 bsz:base.objs.size≤s.heap.objs.size
 funs:s.heap.FunFrames base outer
 frf:∀ b ∈ frs outer,H b=none
 hok:HOk P w H s.heap
 bare:AllBare s.gens
noncomputable def CE (outer:List Env) (P:Program) (w:World) (H:Hp) (s:Shared) (Q:VK) (u:Value) (s':Shared):Prop :=
 ∃ v H',s'.os=s.os∧AllBare s'.gens∧Un (frs outer) [] H H' s.heap s'.heap∧HOk P w H' s'.heap∧RelV v u∧Q v H'
noncomputable def CR (CX:CXT) (outer:List Env) (P:Program) (w:World) (H:Hp) (s:Shared) (Q:VK) (E:XK) (r:Result) (s':Shared):Prop :=
 match r with
 | .ok (.ret u)=>CE outer P w H s Q u s'
 | .ok _=>False
 | .error e=>CX outer H s E e s'
structure FnOk (P:Program)(w:World)(K:PySem.W.Frag)(mg:Str→Option Value)(base:Heap)(CX:CXT)(k:Nat)(f:Addr)(fd:FuncData)(ps:List Str)(sp:Sp):Prop where
 len:∀ vs H Q E,sp vs H Q E→vs.length=ps.length
 run:∀ (A:Around) (outer:List Env) (s:Shared) (H:Hp) (args:Args) (us:List Value) (vs:List V) (Q:VK) (E:XK),Room k A→Env0 P w K mg base A outer s H→BindsTo s fd args (ps.zip us)→Vals vs us→sp vs H Q E →
  codeAny (model P w) A (.call (.ref f) args) (CR CX outer P w H s Q E) s
theorem FnOk.mono {P:Program}{w:World}{K:PySem.W.Frag}{mg:Str→Option Value}{base:Heap}{CX:CXT}{j k:Nat}{f:Addr}{fd:FuncData}{ps:List Str}{sp:Sp}(F:FnOk P w K mg base CX j f fd ps sp)(h:j≤k) :
  FnOk P w K mg base CX k f fd ps sp:=⟨F.len,fun A outer s H args us vs Q E hr=>F.run A outer s H args us vs Q E (hr.mono h)⟩
theorem FnOk.imp {P:Program}{w:World}{K:PySem.W.Frag}{mg:Str→Option Value}{base:Heap}{CX:CXT}{k:Nat}{f:Addr}{fd:FuncData}{ps:List Str}{sp sp':Sp}(F:FnOk P w K mg base CX k f fd ps sp)
  (h:∀ vs H Q E,sp' vs H Q E→sp vs H Q E):FnOk P w K mg base CX k f fd ps sp' :=
 ⟨fun vs H Q E q=>F.len vs H Q E (h _ _ _ _ q),fun A outer s H args us vs Q E hr he hb hv hs=>F.run A outer s H args us vs Q E hr he hb hv (h _ _ _ _ hs)⟩
theorem Env0.in1 {P:Program}{w:World}{K:PySem.W.Frag}{mg:Str→Option Value}{base:Heap}{A:Around}{outer:List Env}{s:Shared}{H:Hp}(e:Env0 P w K mg base A outer s H) :
  Env0 P w K mg base A.in1 outer s H:=⟨e.frames,e.mod,e.bs,e.bsz,e.funs,e.frf,e.hok,e.bare⟩
section
variable {X:Cx} {pins:List (Addr × Obj)} {σ:St} {H:Hp} {s s':Shared}
theorem Inv.env0 (I:Inv X pins σ H s):Env0 X.prog X.w X.K X.mg X.base X.A X.stack s H :=
 ⟨I.ok.frames,I.ok.mod,I.bs,Nat.le_trans I.ok.bsz I.sz,I.stack,I.Zgv,I.hok,I.bare⟩
theorem Inv.after {Q:VK}{u:Value}(I:Inv X pins σ H s)(h:CE X.stack X.prog X.w H s Q u s'):EP X pins σ Q u s':=by
 obtain ⟨v,H',os,bare,un,hok,r,q⟩:=h
 obtain ⟨hh,g,d,t,os'⟩:=s'
 obtain rfl:os'=s.os:=os
 exact ⟨v,H',I.call (h':=hh) (g':=g) (d':=d) (t':=t) (ch:=[]) un hok bare (fun b z=>absurd z (by simp)),r,q⟩
end
noncomputable def Znb (sp:Sp) (dvs:List V) (E:XK) (t:TA):TE:=fun σ H Q=>t σ H fun vs H1=>sp (vs++dvs) H1 Q E
noncomputable def Binds (K:PySem.W.Frag) (fd:FuncData) (ps:List Str) (ds:List Value):Prop :=
 ∀ (s:Shared) (us:List Value),K.In s.heap→(us++ds).length=ps.length→BindsTo s fd ⟨us,[]⟩ (ps.zip (us++ds))
theorem Binds.all {K:PySem.W.Frag}{fd:FuncData}{ps:List Str}(h:∀ us:List Value,us.length=ps.length→bindArgs fd ⟨us,[]⟩=pure (ps.zip us)):Binds K fd ps []:=fun s us _ hl=>by
 rw [List.append_nil] at hl ⊢
 exact .of_eq (h us hl)
noncomputable def Passes (CX:CXT) (X:Cx) (E:XK):Prop:=∀ (pins:List (Addr × Obj)) (σ:St) (H:Hp) (s:Shared) (e:Value) (s':Shared),Inv X pins σ H s→CX X.stack H s E e s'→X.xe e s'
section
variable {X:Cx} {CX:CXT} {k:Nat} {f C:Addr} {fd:FuncData} {ps:List Str} {sp:Sp} {dvs:List V} {ds:List Value} {E:XK} {x m:Str} {p pos apos:Pos} {e o:Expr} {es:List Expr} {ta:TE} {t:TA}
theorem Zk5 {pins:List (Addr × Obj)}{σ:St}{H:Hp}{s:Shared}{Q:VK}{us:List Value}{vs:List V}(F:FnOk X.prog X.w X.K X.mg X.base CX k f fd ps sp)(hr:Room k X.A)(hb:Binds X.K fd ps ds)(hd:Vals dvs ds)(hx:Passes CX X E)
  (I:Inv X pins σ H s) (r:Vals vs us) (h:sp (vs++dvs) H Q E):wpAny (model X.prog X.w) X.A (call (.ref f) us) (EP X pins σ Q) X.xe s:=by
 have r2:Vals (vs++dvs) (us++ds):=r.append hd
 have hl:(us++ds).length=ps.length:=by rw [← r2.length];exact F.len _ _ _ _ h
 refine wpAny_call (codeAny_mono (F.run X.A X.stack s H ⟨us,[]⟩ (us++ds) (vs++dvs) Q E hr I.env0 (hb s us I.kIn hl) r2 h) fun r s' hq=>?_)
 cases r with
 | error e=>exact hx pins σ H s e s' I hq
 | ok fl =>
  cases fl with
  | ret u=>exact I.after hq
  | next=>exact False.elim hq
  | brk=>exact False.elim hq
  | cont=>exact False.elim hq
theorem Znh (F:FnOk X.prog X.w X.K X.mg X.base CX k f fd ps sp)(hr:Room k X.A)(hg:Gl X x)(hm:X.mg x=some (.ref f))(hk:PySem.W.keepIn X.K (.ref f)=true)(hb:Binds X.K fd ps ds)(hd:Vals dvs ds)(hx:Passes CX X E)
  (ha:PA X (e::es) t) (hdb:(x == ("__debug__":Str))=false:=by decide) (he:starEach (e::es) X.env=(false,eval e X.env)::starEach es X.env:=by rfl) (hpl:(backTo pos (starEach es X.env)).any (·.1)=false:=by rfl) :
  PE X (.Call (.Name x p) (e::es) [] pos) (Znb sp dvs E t):=by
 intro pins s σ H Q I h
 refine wpAny_Call_Name_kw (Zbp I hg hm ?_ hdb)
 refine PySem.W.callWith_K (h₀:=X.base) I.ok.mod.kin hk (thn (ha pos pins s σ H _ I h) fun us s1 ⟨vs,H1,I1,r,q⟩=>⟨I1.kIn,?_⟩) he hpl
 exact Zk5 F hr hb hd hx I1 r q
theorem ZmL (F:FnOk X.prog X.w X.K X.mg X.base CX k f fd ps sp)(hr:Room k X.A)(hg:Gl X x)(hm:X.mg x=some (.ref f))(hk:PySem.W.keepIn X.K (.ref f)=true)(hb:Binds X.K fd ps ds)(hd:Vals dvs ds)(hx:Passes CX X E)
  (hdb:(x == ("__debug__":Str))=false:=by decide):PE X (.Call (.Name x p) [] [] pos) (Znb sp dvs E tNil):=by
 intro pins s σ H Q I h
 refine wpAny_Call_Name_kw (Zbp I hg hm ?_ hdb)
 exact PySem.W.callWith_K0 I.kIn hk (Zk5 (us:=[]) F hr hb hd hx I .nil h)
end
section
variable {X:Cx} {CX:CXT} {k:Nat} {f C:Addr} {fd:FuncData} {ps ks:List Str} {sp:Sp} {E:XK} {x m:Str} {p pos apos kpos:Pos} {e o:Expr} {es:List Expr} {kws:List Keyword} {te ta:TE} {t tk:TA} {nm:Option Str}
variable {g:List Value→List Value→List Value} {gV:List V→List V→List V}
end
structure Zh (N P:List Str)(sc:Scope):Prop where
 kind:sc.kind=.function
 co:sc.isCoroutine=false
 gen:sc.isGenerator=false
 nd:N.Nodup
 pre:N.take P.length=P
 par:∀ x ∈ P,sc.names.lookup x=some .local∨sc.names.lookup x=some .cell
 nofree:∀ y ∈ sc.names,y.2≠.free
theorem Zg0 {kindOf:Str→Option NameKind}{x:Str}:∀ {binds:List (Str × Value)} {m:Str→Option Value},(∀ v,(x,v) ∉ binds)→bindL kindOf binds m x=m x
 | [],_,_=>rfl
 | (n,v)::r,m,h=>by
  unfold bindL
  rw [Zg0 fun w hw=>h w (List.mem_cons_of_mem _ hw)]
  split
  ·have:x≠n:=by rintro rfl;exact h v List.mem_cons_self
   simp [this]
  ·rfl
theorem ZgY {kindOf:Str→Option NameKind}{x:Str}:∀ {binds:List (Str × Value)} {m:Str→Option Value},(∀ v,(x,v) ∉ binds)→bindC kindOf binds m x=m x
 | [],_,_=>rfl
 | (n,v)::r,m,h=>by
  unfold bindC
  rw [ZgY fun w hw=>h w (List.mem_cons_of_mem _ hw)]
  split
  ·rfl
  ·have:x≠n:=by rintro rfl;exact h v List.mem_cons_self
   simp [this]
theorem Zg6 {kindOf:Str→Option NameKind}{x:Str}{v:Value}:∀ {P:List Str} {vs:List Value} {i:Nat} {m:Str→Option Value},P.Nodup→P[i]?=some x→vs[i]?=some v→kindOf x=some .local →
  bindL kindOf (P.zip vs) m x=some v
 | [],_,_,_,_,h,_,_=>by simp at h
 | _::_,[],_,_,_,_,h,_=>by simp at h
 | p::P,w::vs,0,m,nd,h1,h2,hk=>by
  simp at h1 h2;subst h1;subst h2
  show bindL kindOf ((p,w)::P.zip vs) m p=_
  unfold bindL
  rw [Zg0 fun v hv=>(List.nodup_cons.mp nd).1 (List.of_mem_zip hv).1,if_pos hk]
  simp
 | p::P,w::vs,i + 1,m,nd,h1,h2,hk=>by
  show bindL kindOf ((p,w)::P.zip vs) m x=_
  unfold bindL
  exact Zg6 (i:=i) (List.nodup_cons.mp nd).2 (by simpa using h1) (by simpa using h2) hk
theorem Zg9 {kindOf:Str→Option NameKind}{x:Str}{v:Value}:∀ {P:List Str} {vs:List Value} {i:Nat} {m:Str→Option Value},P.Nodup→P[i]?=some x→vs[i]?=some v→kindOf x≠some .local →
  bindC kindOf (P.zip vs) m x=some v
 | [],_,_,_,_,h,_,_=>by simp at h
 | _::_,[],_,_,_,_,h,_=>by simp at h
 | p::P,w::vs,0,m,nd,h1,h2,hk=>by
  simp at h1 h2;subst h1;subst h2
  show bindC kindOf ((p,w)::P.zip vs) m p=_
  unfold bindC
  rw [ZgY fun v hv=>(List.nodup_cons.mp nd).1 (List.of_mem_zip hv).1,if_neg hk]
  simp
 | p::P,w::vs,i + 1,m,nd,h1,h2,hk=>by
  show bindC kindOf ((p,w)::P.zip vs) m x=_
  unfold bindC
  exact Zg9 (i:=i) (List.nodup_cons.mp nd).2 (by simpa using h1) (by simpa using h2) hk
noncomputable def start (N:List Str) (vs:List V):St:=vs.map some++List.replicate (N.length - vs.length) none
noncomputable def cxOf (CX:CXT) (P:Program) (w:World) (K:PySem.W.Frag) (mg:Str→Option Value) (base:Heap) (N:List Str) (qual:Str) (scope:Scope) (f:Addr) (cd:Value) (A:Around) (outer:List Env) (s:Shared) (H:Hp) (E:XK):Cx where
 prog:=P
 w:=w
 K:=K
 mg:=mg
 base:=base
 A:=A.deeper (envOfC qual scope s.heap.objs.size f cd)
 N:=N
 s₀:=s
 H₀:=H
 env:=envOfC qual scope s.heap.objs.size f cd
 outer:=outer
 stack:=envOfC qual scope s.heap.objs.size f cd::outer
 ex:=[]
 calm:=true
 fn:=fun _=>true
 pn:=[]
 xe:=fun e s'=>wpAny (model P w) (A.deeper (envOfC qual scope s.heap.objs.size f cd)) (leaving (envOfC qual scope s.heap.objs.size f cd) e) (fun _ s''=>CX outer H s E e s'') (fun e' s''=>CX outer H s E e' s'') s'
theorem Ziy {sc:Scope}{n:Nat}{x:Str}(h:sc.names.lookup x=some .cell):∃ c,(cellsFrom n sc.names []).lookup x=some c:=by
 have q:=PySem.W.cellsFrom_some sc.names n [] (.inl h)
 exact Option.isSome_iff_exists.mp q
theorem ZgX {CX : CXT}{P : Program}{w : World}{K : PySem.W.Frag}{mg : Str → Option Value}{base : Heap}{N ps : List Str}{qual : Str}{scope : Scope}{f : Addr}{cd : Value}{A : Around}{outer : List Env}{s s1 : Shared}{H : Hp}{E : XK}{us : List Value}{vs : List V}
    (S : Zh N ps scope) (hd : A.handled = none) (e0 : Env0 P w K mg base A outer s H) (hl : vs.length = ps.length) (r : Vals vs us)
    (x : InCallC s s.heap.objs.size (bindL (envOfC qual scope s.heap.objs.size f cd).kindOf (ps.zip us) fun _ => none) (cellsFrom (s.heap.objs.size + 1) scope.names []) (bindC (envOfC qual scope s.heap.objs.size f cd).kindOf (ps.zip us) fun _ => none) s1) :
    Inv (cxOf CX P w K mg base N qual scope f cd A outer s H E) [] (start N vs) H s1 := by
  have hpl : ps.length ≤ N.length := by have := congrArg List.length S.pre; rw [List.length_take] at this; omega
  obtain ⟨h1, tk, rfl, hk⟩ := x.done
  have noA : ∀ b : Addr, b ∉ (cxOf CX P w K mg base N qual scope f cd A outer s H E).ex := fun b z => absurd (show b ∈ ([] : List Addr) from z) (by simp)
  refine ⟨⟨e0.mod, S.kind, rfl, rfl, Nat.le_refl _, fun y z c h1 h2 => ?_, fun y hy => ?_, fun y c _ h => ?_, fun _ => hd, Around.frames_deeper e0.frames, .inr ⟨rfl, rfl⟩, fun b z => absurd z (noA b), e0.bs, e0.bsz, fun b _ _ => noA b, fun b z => absurd z (noA b), e0.funs, e0.frf⟩,
    rfl, e0.bare, Un.kept hk, ⟨_, x.toInCall.ns, fun i y v h1 h2 h3 => ?_⟩, fun y c h => ⟨_, x.cell y c h⟩, e0.hok.fresh (Nat.le_refl _), fun y c h => ?_, fun p hp => absurd (show p ∈ ([] : List (Addr × Obj)) from hp) (by simp), e0.hok.kept hk, ?_⟩
  · exact name_of_addr x.apart (PySem.mem_of_lookup h1) (PySem.mem_of_lookup h2)
  · have hy : scope.names.lookup y = some .cell ∨ scope.names.lookup y = some .free := hy
    rcases hy with hy | hy
    · exact Ziy hy
    · exact absurd rfl (S.nofree _ (PySem.mem_of_lookup hy))
  · exact Nat.le_of_lt (x.above y c (PySem.mem_of_lookup h))
  · have hi : i < vs.length := by
      unfold start at h2
      by_cases hi : i < vs.length
      · exact hi
      · rw [List.getElem?_append_right (by simpa using hi)] at h2
        rw [List.getElem?_replicate] at h2
        split at h2 <;> cases h2
    have ha : vs[i]? = some v := by
      unfold start at h2
      rw [List.getElem?_append_left (by simpa using hi), List.getElem?_map] at h2
      cases e : vs[i]? with
      | none => rw [e] at h2; cases h2
      | some a => rw [e] at h2; cases h2; rfl
    obtain ⟨u, hu, rv⟩ := r.get ha
    have hp : ps[i]? = some y := by
      rw [← S.pre, List.getElem?_take_of_lt (by omega)]; exact h1
    have ndP : ps.Nodup := by rw [← S.pre]; exact S.nd.sublist (List.take_sublist _ _)
    refine ⟨u, rv, ?_⟩
    rcases S.par y (List.mem_of_getElem? hp) with k | k
    · exact .inl ⟨k, Zg6 ndP hp hu k⟩
    · obtain ⟨c, e⟩ := Ziy (n := s.heap.objs.size + 1) k
      refine .inr ⟨.inl k, c, e, ?_⟩
      have q := x.cell y c e
      rw [Zg9 ndP hp hu (by show scope.names.lookup y ≠ _; rw [k]; decide)] at q
      exact q
  · exact e0.hok.fresh (Nat.le_of_lt (x.above y c (PySem.mem_of_lookup h)))
  · unfold start
    show _ = N.length
    rw [List.length_append, List.length_map, List.length_replicate]
    omega
theorem Zm8 {CX:CXT}{P:Program}{w:World}{K:PySem.W.Frag}{mg:Str→Option Value}{base:Heap}{k:Nat}{f:Addr}{name qual:Str}{params:Arguments}{body:List Stmt}{scope:Scope}{dV kV doc pm cdv ct oc:Value}{an od:Option Addr}
  {osl:Array (Option Value)} {N ps:List Str} {sp:Sp} (lk:K.lookup f=some ⟨oc,od,.func (PySem.W.fnOf name qual params body scope dV kV doc pm an cdv ct),osl⟩) (hcd:PySem.W.codeIn K cdv qual=true) (S:Zh N ps scope)
  (len:∀ vs H Q E,sp vs H Q E→vs.length=ps.length)
  (hbody:∀ (A:Around) (outer:List Env) (s:Shared) (H:Hp) (vs:List V) (Q:VK) (E:XK),Room k (A.deeper (envOfC qual scope s.heap.objs.size f cdv))→sp vs H Q E →
   ∃ t,PSs (cxOf CX P w K mg base N qual scope f cdv A outer s H E) body t∧t { nx:=fun _ H'=>Q .non H',rt:=Q } (start N vs) H) :
  FnOk P w K mg base CX (k + 1) f (PySem.W.fnOf name qual params body scope dV kV doc pm an cdv ct) ps sp:=by
 refine ⟨len,fun A outer s H args us vs Q E hr e0 hb r hsp=>?_⟩
 have hl:=len _ _ _ _ hsp
 have KX:K.In s.heap:=e0.mod.kin.keeps fun b o e=>(e0.bs b o e).1
 have lim:s.heap.NoLimit:=e0.mod.nolimit.keeps fun b o e=>(e0.bs b o e).1
 have hkind:∀ y ∈ ps.zip us,scope.names.lookup y.1=some .local∨(scope.names.lookup y.1=some .cell∧((cellsFrom (s.heap.objs.size + 1) scope.names []).lookup y.1).isSome=true):=fun ⟨n,v⟩ hy=>by
  rcases S.par n (List.of_mem_zip hy).1 with q | q
  ·exact .inl q
  ·exact .inr ⟨q,PySem.W.cellsFrom_some _ _ _ (.inl q)⟩
 refine codeAny_call_function hr.depth (KX _ _ lk) rfl S.co S.gen rfl (PySem.W.codeRec_of KX hcd) (hb _ _ _ _ ?_)
 refine wpAny_newFunctionEnv_cells S.kind hkind fun env he s1 x=>?_
 subst he
 refine ⟨lim.keeps x.toInCall.keep,codeAny_func ?_⟩
 obtain ⟨t,ht,hq⟩:=hbody A outer s H vs Q E (hr.deeper _) hsp
 have I:Inv (cxOf CX P w K mg base N qual scope f cdv A outer s H E) [] (start N vs) H s1:=ZgX S hr.hd e0 hl r x
 refine wpAny_mono (ht [] s1 (start N vs) H _ I hq) (fun fl s' hs=>?_) fun e s' hs=>hs
 have fin:∀ {σ':St} {H':Hp} {v:V} {u:Value},Inv (cxOf CX P w K mg base N qual scope f cdv A outer s H E) [] σ' H' s'→RelV v u→Q v H'→CE outer P w H s Q u s' :=
  fun {σ' H' v u} J rv q=>⟨v,H',J.os,J.bare,J.base,J.hok,rv,q⟩
 cases fl with
 | ret u =>
  obtain ⟨v,σ',H',J,rv,q⟩:=hs
  exact fin J rv q
 | next =>
  obtain ⟨σ',H',J,q⟩:=hs
  exact fin (v:=V.non) (u:=Value.none) J rfl q
 | brk =>
  obtain ⟨_,_,_,q⟩:=hs
  exact False.elim q
 | cont =>
  obtain ⟨_,_,_,q⟩:=hs
  exact False.elim q
end L2
namespace L2
open PySem PySem.Spec PyProof.Rows
section
variable {X:Cx} {x:Str} {p pos:Pos} {e:Expr} {es:List Expr} {t:TA} {id T:String} {r:List V→Hp→VK→Prop}
noncomputable def tCB (r:List V→Hp→VK→Prop) (t:TA):TE:=fun σ H Q=>t σ H fun vs H1=>r vs H1 Q
theorem ZcK (hc:Zaq X (.builtin id) r) (hg:Gl X x) (hm:X.mg x=none) (hv:bootBuiltins x=some (.builtin id)) (ha:PA X (e::es) t) (hn:x≠"__name__":=by decide) (hdb:(x == ("__debug__":Str))=false:=by decide)
  (he:starEach (e::es) X.env=(false,eval e X.env)::starEach es X.env:=by rfl) (hpl:(backTo pos (starEach es X.env)).any (·.1)=false:=by rfl):PE X (.Call (.Name x p) (e::es) [] pos) (tCB r t):=by
 intro pins s σ H Q I h
 refine wpAny_Call_Name_kw (Zb5 I hg hm hv ?_ hn hdb)
 exact PyProof.Rows.callWith_builtin1 (thn (ha pos pins s σ H _ I h) fun us s1 ⟨vs,H1,I1,r1,q1⟩=>hc pins s1 σ H1 vs us Q I1 r1 q1) he hpl
theorem ZdZ (hc:Zaq X (.type T) r) (hg:Gl X x) (hm:X.mg x=none) (hv:bootBuiltins x=some (.type T)) (ha:PA X (e::es) t) (hn:x≠"__name__":=by decide) (hdb:(x == ("__debug__":Str))=false:=by decide)
  (he:starEach (e::es) X.env=(false,eval e X.env)::starEach es X.env:=by rfl) (hpl:(backTo pos (starEach es X.env)).any (·.1)=false:=by rfl):PE X (.Call (.Name x p) (e::es) [] pos) (tCB r t):=by
 intro pins s σ H Q I h
 refine wpAny_Call_Name_kw (Zb5 I hg hm hv ?_ hn hdb)
 exact PyProof.Rows.callWith_type1 (thn (ha pos pins s σ H _ I h) fun us s1 ⟨vs,H1,I1,r1,q1⟩=>hc pins s1 σ H1 vs us Q I1 r1 q1) he hpl
end
end L2
namespace HT
open PySem PyProof.Rows
section
open PySem.SeqAt
open PySem.AutoSeq1 (wpAny_loadPart')
open PySem.MeetsSeq PySem.MeetsSeq2 PySem.MeetsSeq3
end
section
variable {prog:Program} {w:World} {A:Around} {E:Value→Shared→Prop} {s:Shared}
end
end HT
namespace L2
open PySem PySem.Spec PyProof.Rows
noncomputable abbrev TO:=St→Hp→(Option Int→Hp→Prop)→Prop
section
variable {X:Cx} {e:Expr} {te:TE} {lo hi:Option Expr} {tl th:TO} {pos p2:Pos}
noncomputable def SlR (X:Cx) (r:V→Option Int→Option Int→Hp→VK→Prop):Prop :=
 ∀ (pins:List (Addr × Obj)) (s:Shared) (σ:St) (H:Hp) (x:V) (v vl vu:Value) (lo hi:Option Int) (sl:Addr) (Q:VK),Inv X pins σ H s→RelV x v→s.heap.IsSliceOf sl vl vu .none→IsPart vl lo→IsPart vu hi→r x lo hi H Q →
  ∃ T id,typeLookup (.type T) "__getitem__"=pure (some (.builtin id))∧s.TypeIs v T∧wpAny (model X.prog X.w) X.A (getItem v (.ref sl)) (EP X pins σ Q) X.xe s
theorem SlR.or {r r':V→Option Int→Option Int→Hp→VK→Prop}(h:SlR X r)(h':SlR X r'):SlR X (fun x lo hi H Q=>r x lo hi H Q∨r' x lo hi H Q):=by
 intro pins s σ H x v vl vu lo hi sl Q I rx hs pl pu q
 rcases q with q | q
 ·exact h pins s σ H x v vl vu lo hi sl Q I rx hs pl pu q
 ·exact h' pins s σ H x v vl vu lo hi sl Q I rx hs pl pu q
end
end L2
namespace L2
open PySem PySem.Spec PyProof.Rows
noncomputable def ixN (n:Nat) (i:Int):Option Nat:=if 0≤i then (if i < n then some i.toNat else none) else if -(n:Int)≤i then some (i + n).toNat else none
noncomputable def atI {α:Type} (xs:List α) (i:Int):Option α:=(ixN xs.length i).bind fun j=>xs[j]?
theorem Zje {n:Nat}{i:Int}{j:Nat}(h:ixN n i=some j):seqIndex? i n=some j∧j < n∧-(n:Int)≤i∧i < n:=by
 unfold ixN at h
 by_cases h0:0≤i
 ·rw [if_pos h0] at h
  by_cases h1:i < n
  ·rw [if_pos h1] at h
   have e:i.toNat=j:=Option.some.inj h
   exact ⟨by rw [seqIndex_of h0 h1,e],by omega,by omega,h1⟩
  ·rw [if_neg h1] at h;cases h
 ·rw [if_neg h0] at h
  by_cases h1:-(n:Int)≤i
  ·rw [if_pos h1] at h
   have e:(i + n).toNat=j:=Option.some.inj h
   exact ⟨by rw [seqIndex_neg (by omega) h1,e],by omega,h1,by omega⟩
  ·rw [if_neg h1] at h;cases h
theorem ZgP {α:Type}{xs:List α}{i:Int}{v:α}(h:atI xs i=some v):∃ j,seqIndex? i xs.length=some j∧xs[j]?=some v∧j < xs.length∧-(xs.length:Int)≤i∧i < xs.length:=by
 unfold atI at h
 cases e:ixN xs.length i with
 | none=>rw [e] at h;cases h
 | some j =>
  rw [e] at h
  obtain ⟨h1,h2,h3,h4⟩:=Zje e
  exact ⟨j,h1,h,h2,h3,h4⟩
noncomputable def Zgy (b:Expr):Prop:=∀ o i,subscripted b false o i=operate [o,i] (getItem o i)
noncomputable def IxR (X:Cx) (r:R2):Prop :=
 ∀ (value slice:Expr) (pins:List (Addr × Obj)) (s:Shared) (σ:St) (H:Hp) (x y:V) (v u:Value) (Q:VK),Inv X pins σ H s→RelV x v→RelV y u→r x y H Q →
  subscripted slice false v u=operate [v,u] (getItem v u)→wpAny (model X.prog X.w) X.A (subscriptTail value slice v u) (EP X pins σ Q) X.xe s
noncomputable def MtR (X:Cx) (id:String) (r:V→List V→Hp→VK→Prop):Prop :=
 ∀ (pins:List (Addr × Obj)) (s:Shared) (σ:St) (H:Hp) (x:V) (xs:List V) (v:Value) (us:List Value) (Q:VK),Inv X pins σ H s→RelV x v→Vals xs us→r x xs H Q →
  wpAny (model X.prog X.w) X.A (call (.builtin id) (v::us)) (EP X pins σ Q) X.xe s
section
variable {X:Cx} {a b:Expr} {ta tb:TE} {pos:Pos}
theorem IxR.or {r r':R2}(h:IxR X r)(h':IxR X r'):IxR X (fun x y H Q=>r x y H Q∨r' x y H Q):=by
 intro value slice pins s σ H x y v u Q I rx ry q hs
 rcases q with q | q
 ·exact h value slice pins s σ H x y v u Q I rx ry q hs
 ·exact h' value slice pins s σ H x y v u Q I rx ry q hs
theorem MtR.or {id:String}{r r':V→List V→Hp→VK→Prop}(h:MtR X id r)(h':MtR X id r'):MtR X id (fun x xs H Q=>r x xs H Q∨r' x xs H Q):=by
 intro pins s σ H x xs v us Q I rx rs q
 rcases q with q | q
 ·exact h pins s σ H x xs v us Q I rx rs q
 ·exact h' pins s σ H x xs v us Q I rx rs q
theorem ZjV {r:R2}(hr:IxR X r)(ha:PE X a ta)(hb:PE X b tb)(hs:Zgy b):PE X (.Subscript a b pos) (tOp r ta tb):=by
 intro pins s σ H Q I h
 exact Subscript_ (binT ha hb I h fun v u s2 x y H2 I2 rx ry q=>hr a b pins s2 σ H2 x y v u Q I2 rx ry q (hs _ _))
noncomputable def rIxL (K:PySem.W.Frag):R2:=fun x y H Q=>∃ p xs i v,x=.ref p∧y=.int i∧SqL K H p xs∧atI xs i=some v∧Q v H
noncomputable def rIxT (K:PySem.W.Frag):R2:=fun x y H Q=>∃ p xs i v,x=.ref p∧y=.int i∧SqT K H p xs∧atI xs i=some v∧Q v H
noncomputable def rIxS:R2:=fun x y H Q=>∃ z i c,x=.str z∧y=.int i∧z.length≤sizeLine∧atI z.cps.toList i=some c∧Q (.str ⟨#[c]⟩) H
theorem Zjh : IxR X (rIxL X.K) := by
  intro value slice pins s σ H x y v u Q I rx ry h hs
  obtain ⟨p, xs, i, z, rfl, rfl, hq, he, q⟩ := h
  cases rx
  obtain ⟨t, rfl⟩ := ry
  obtain ⟨its, r, pl, hz⟩ := I.list hq
  obtain ⟨j, h1, h2, h3, h4, h5⟩ := ZgP he
  obtain ⟨w, ew, rw'⟩ := r.get h2
  have hl := r.length
  have hn := Zet
  have fin : EP X pins σ Q w s := ⟨z, H, I, rw', q⟩
  by_cases h0 : 0 ≤ i
  · have hj : i.toNat = j := by
      rw [seqIndex_of h0 h5] at h1
      exact Option.some.inj h1
    exact item_listR pl.isList h0 (by omega) (by rw [hj]; simpa using ew) fin hs
  · have hj : (i + (its.toArray.size : Int)).toNat = j := by
      rw [seqIndex_neg (by omega) h4] at h1
      rw [List.size_toArray, ← hl]
      exact Option.some.inj h1
    exact subscriptTail_builtinR (x := w) pl.isList.typeIs slot_list_getitem.lookup
      (wpAny_getItem_list_neg (Q := fun r s' => r = w ∧ EP X pins σ Q r s') pl.isList (by omega) (by rw [List.size_toArray] <;> omega) (by omega) (by rw [hj]; simpa using ew) ⟨rfl, fin⟩) hs
theorem Zo1:IxR X (rIxT X.K):=by
 intro value slice pins s σ H x y v u Q I rx ry h hs
 obtain ⟨p,xs,i,z,rfl,rfl,hq,he,q⟩:=h
 cases rx
 obtain ⟨t,rfl⟩:=ry
 obtain ⟨its,r,pl,hz⟩:=I.tuple hq
 obtain ⟨j,h1,h2,h3,h4,h5⟩:=ZgP he
 obtain ⟨w,ew,rw'⟩:=r.get h2
 have hl:=r.length
 have hn:=Zet
 have fin:EP X pins σ Q w s:=⟨z,H,I,rw',q⟩
 exact subscriptTail_builtinR (x:=w) pl.typeIs slot_tuple_getitem.lookup
  (getItem_tuple (j:=j) (Q:=fun r s'=>r=w∧EP X pins σ Q r s') pl (by omega) (by omega) (by rw [List.size_toArray,← hl];exact h1) (by simpa using ew) ⟨rfl,fin⟩) hs
theorem Zpt:IxR X rIxS:=by
 intro value slice pins s σ H x y v u Q I rx ry h hs
 obtain ⟨z,i,c,rfl,rfl,hz,he,q⟩:=h
 obtain ⟨t,rfl⟩:=rx
 obtain ⟨t',rfl⟩:=ry
 obtain ⟨j,h1,h2,h3,h4,h5⟩:=ZgP he
 have hl:z.cps.toList.length=z.length:=by simp [Str.length]
 rw [hl] at h1 h4 h5
 have hn:=Zet
 exact tail_any (typeIs_str s z t) slot_str_getitem.lookup (getItem_str (c:=c) (by
  have e1:decide (i < -(2 ^ 63:Int))=false:=decide_eq_false (by omega)
  have e2:decide (i ≥ 2 ^ 63)=false:=decide_eq_false (by omega)
  rw [e1,e2,Bool.or_false]) (by rw [h1];simpa using h2) ⟨.str ⟨#[c]⟩,H,I.tok _,⟨_,rfl⟩,q⟩) hs
noncomputable def rIx (K:PySem.W.Frag):R2:=fun x y H Q=>rIxL K x y H Q∨rIxT K x y H Q∨rIxS x y H Q
theorem ZlJ:IxR X (rIx X.K):=Zjh.or (Zo1.or Zpt)
theorem Zka (its:List Value)(n j:Nat)(u:Value):Obj.mapSeq (·.setIfInBounds j u) { cls:=.type "list",data:=.seq its.toArray n }={ cls:=.type "list",data:=.seq (its.set j u).toArray n }:=by
 simp [Obj.mapSeq]
theorem Inv.lst {pins:List (Addr × Obj)}{σ:St}{H:Hp}{s:Shared}{p:Addr}{xs:List V}(I:Inv X pins σ H s)(h:H p=some (.lst xs)) :
  ∃ (its:List Value) (n:Nat),Vals xs its∧s.heap.get? p=some { cls:=.type "list",data:=.seq its.toArray n }∧xs.length≤sizeLine:=by
 obtain ⟨z,its,n,r,e⟩:=I.hok p _ h
 exact ⟨its,n,r,e,z⟩
theorem Inv.ZpD {pins:List (Addr × Obj)}{σ:St}{H:Hp}{s:Shared}{p:Addr}{xs ys:List V}{its its':List Value}{n n':Nat}{f:Obj→Obj}(I:Inv X pins σ H s)(h:H p=some (.lst xs))
  (ho:s.heap.get? p=some { cls:=.type "list",data:=.seq its.toArray n }) (hf:f { cls:=.type "list",data:=.seq its.toArray n }={ cls:=.type "list",data:=.seq its'.toArray n' }) (r:Vals ys its') (hz:ys.length≤sizeLine) (t:Nat) :
  Inv X pins σ (upd H p (.lst ys)) { s with heap:=s.heap.update p f,toks:=t }:=by
 have e:(s.heap.update p f).get? p=some { cls:=.type "list",data:=.seq its'.toArray n' }:=by
  rw [Heap.get?_update_self f ho (by rw [hf] <;> rfl),hf]
 refine I.write (x:=p) (e:=p) (by rw [h];trivial) (.inl rfl) (fun b u hb q=>(Heap.get?_update_other _ _ (Ne.symm hb)).trans q) ⟨_,e⟩ ?_
 exact ⟨hz,its',n',r,e⟩
noncomputable def Zqh:V→V→V→Hp→(Hp→Prop)→Prop:=fun o i v H Q=>∃ p xs k j,o=.ref p∧i=.int k∧H p=some (.lst xs)∧ixN xs.length k=some j∧Q (upd H p (.lst (xs.set j v)))
theorem set_list : PSet X Zqh := by
  intro pins s σ H o i v ov iv u Q I ro ri rv h
  obtain ⟨p, xs, k, j, rfl, rfl, hp, hj, q⟩ := h
  cases ro
  obtain ⟨t, rfl⟩ := ri
  obtain ⟨its, n, r, ho, hz⟩ := I.lst hp
  obtain ⟨h1, h2, h3, h4⟩ := Zje hj
  have hl := r.length
  have hn := Zet
  have I' : Inv X pins σ (upd H p (.lst (xs.set j v))) { s with heap := s.heap.update p (Obj.mapSeq (·.setIfInBounds j u)) } :=
    I.ZpD hp ho (Zka its n j u) (r.set rv j) (by rw [List.length_set]; exact hz) s.toks
  by_cases h0 : 0 ≤ k
  · have hk : k.toNat = j := by
      rw [seqIndex_of h0 h4] at h1
      exact Option.some.inj h1
    exact PySem.W.ki_setAt ho h0 (by omega) (by rw [List.size_toArray, ← hl]; exact h4) (by rw [hk]; exact ⟨_, I', q⟩)
  · have hk : (k + (its.toArray.size : Int)).toNat = j := by
      rw [seqIndex_neg (by omega) h3] at h1
      rw [List.size_toArray, ← hl]
      exact Option.some.inj h1
    exact PySem.W.ki_setBack ho (by omega) (by rw [List.size_toArray, ← hl]; exact h3) (by omega) (by rw [hk]; exact ⟨_, I', q⟩)
theorem ZhA:Zaq X (.builtin "len") (fun xs H Q=>∃ p ys,xs=[.ref p]∧(SqL X.K H p ys∨SqT X.K H p ys)∧Q (.int ys.length) H):=by
 intro pins s σ H xs us Q I r h
 obtain ⟨p,ys,rfl,hq,q⟩:=h
 obtain ⟨u,rfl,rx⟩:=vals1 r
 cases rx
 have hn:=Zet
 rcases hq with hq | hq
 ·obtain ⟨its,r',pl,hz⟩:=I.list hq
  have hlen:=r'.length
  exact Calls.call_len_list pl.isList (by simp only [List.size_toArray] <;> omega) ⟨.int ys.length,H,I.tok _,⟨s.toks + 1,by rw [List.size_toArray,hlen]⟩,q⟩
 ·obtain ⟨its,r',pl,hz⟩:=I.tuple hq
  have hlen:=r'.length
  exact len_tuple pl (by simp only [List.size_toArray] <;> omega) ⟨.int ys.length,H,I.tok _,⟨s.toks + 1,by rw [List.size_toArray,hlen]⟩,q⟩
theorem Zaq.or {f:Value}{r r':List V→Hp→VK→Prop}(h:Zaq X f r)(h':Zaq X f r'):Zaq X f (fun xs H Q=>r xs H Q∨r' xs H Q):=by
 intro pins s σ H xs us Q I rs q
 rcases q with q | q
 ·exact h pins s σ H xs us Q I rs q
 ·exact h' pins s σ H xs us Q I rs q
theorem Ziv : Zaq X (.type "list") (fun xs H Q => ∃ p ys, xs = [.ref p] ∧ (SqL X.K H p ys ∨ SqT X.K H p ys) ∧ ∀ l, H l = none → Q (.ref l) (upd H l (.lst ys))) := by
  intro pins s σ H xs us Q I r h
  obtain ⟨p, ys, rfl, hq, q⟩ := h
  obtain ⟨u, rfl, rx⟩ := vals1 r
  cases rx
  have fin : ∀ (its : List Value), Vals ys its → ys.length ≤ sizeLine → ∀ (h' : Heap) (c' : Nat), (∀ b o', s.heap.get? b = some o' → h'.get? b = some o') →
      h'.get? s.heap.objs.size = some { cls := .type "list", dict := none, data := .seq its.toArray c', slots := #[] } → EP X pins σ Q (.ref s.heap.objs.size) { s with heap := h' } := fun its r' hz h' c' kp e =>
    ⟨.ref s.heap.objs.size, _, I.laid (t' := s.toks) kp (Nat.le_refl _) (show Zw X.prog X.w _ h' _ (.lst ys) from ⟨hz, its, c', r', e⟩), rfl, q _ (I.hok.fresh (Nat.le_refl _))⟩
  rcases hq with hq | hq
  · obtain ⟨its, r', pl, hz⟩ := I.list hq
    have hlen := r'.length
    obtain ⟨o, ho, hc, n, hd⟩ := pl.isList
    exact call_list_seq p (.inl rfl) ho hc hd (fun h' c' kp e => fin its r' hz h' c' kp e) (by simp only [List.size_toArray] <;> omega)
  · obtain ⟨its, r', pl, hz⟩ := I.tuple hq
    have hlen := r'.length
    obtain ⟨o, ho, hc, n, hd⟩ := pl
    exact call_list_seq p (.inr rfl) ho hc hd (fun h' c' kp e => fin its r' hz h' c' kp e) (by simp only [List.size_toArray] <;> omega)
noncomputable def tyV (K : PySem.W.Frag) (T : String) (x : V) (H : Hp) : Prop := match x with
  | .str _ => T = "str"
  | .int _ => T = "int"
  | .ref p => (T = "list" ∧ ∃ xs, SqL K H p xs) ∨ (T = "tuple" ∧ ∃ o, K.lookup p = some o ∧ o.cls = .type "tuple" ∧ o.dict = none) ∨
      (T = "dict" ∧ ((∃ kvs, H p = some (.dK kvs)) ∨ ∃ kvs, H p = some (.dT kvs))) ∨ (T = "set" ∧ ∃ S n, H p = some (.set S n))
  | _ => False
theorem ZoI {pins : List (Addr × Obj)}{σ : St}{H : Hp}{s : Shared}{T : String}{x : V}{v : Value}(I : Inv X pins σ H s)(r : RelV x v)(ty : tyV X.K T x H) :
    s.TypeIs v T ∧ ∀ a, v = .ref a → ∃ ob, s.heap.get? a = some ob ∧ ob.dict = none := by
  cases x with
  | str z =>
    obtain ⟨t, rfl⟩ := r
    cases (show T = "str" from ty)
    exact ⟨typeIs_str s z t, fun _ e => nomatch e⟩
  | int i =>
    obtain ⟨t, rfl⟩ := r
    cases (show T = "int" from ty)
    exact ⟨typeIs_int s i t, fun _ e => nomatch e⟩
  | ref p =>
    cases r
    rcases ty with ⟨rfl, xs, hq⟩ | ⟨rfl, o, hk, hc, hd⟩ | ⟨rfl, hk⟩ | ⟨rfl, S, n, hk⟩
    · obtain ⟨its, _, pl, _⟩ := I.list hq
      refine ⟨pl.isList.typeIs, fun a e => ?_⟩
      cases e
      obtain ⟨o, n, e, c, hd, _⟩ := pl
      exact ⟨o, e, hd⟩
    · refine ⟨⟨o, I.kIn p o hk, hc⟩, fun a e => ?_⟩
      cases e
      exact ⟨o, I.kIn _ o hk, hd⟩
    · have z : ∃ o, s.heap.get? p = some o ∧ o.ExactDict := by
        rcases hk with ⟨kvs, hk⟩ | ⟨kvs, hk⟩
        · obtain ⟨_, _, _, _, o, _, _, e, ex, _⟩ := I.hok p _ hk
          exact ⟨o, e, ex⟩
        · obtain ⟨_, _, _, _, o, _, _, e, ex, _⟩ := I.hok p _ hk
          exact ⟨o, e, ex⟩
      obtain ⟨o, e, ex⟩ := z
      refine ⟨⟨o, e, ex.1⟩, fun a e2 => ?_⟩
      cases e2
      exact ⟨o, e, ex.2.1⟩
    · obtain ⟨o, _, _, _, e, ex, _⟩ := I.hok p _ hk
      refine ⟨⟨o, e, ex.1⟩, fun a e2 => ?_⟩
      cases e2
      exact ⟨o, e, ex.2.1⟩
  | _ => exact False.elim ty
noncomputable def tBM (K:PySem.W.Frag) (T:String) (r:V→List V→Hp→VK→Prop) (to:TE) (t:TA):TE:=fun σ H Q=>to σ H fun x H1=>tyV K T x H1∧t σ H1 fun xs H2=>r x xs H2 Q
variable {o e:Expr} {es:List Expr} {to:TE} {t:TA} {name:Str} {apos cpos:Pos} {T id:String} {r:V→List V→Hp→VK→Prop}
theorem Zdy (pa:PlainAttrs T) (slot:Slot T name id) (hty:typeOf (.builtin id)=pure (.type "method_descriptor")) (hm:MtR X id r) (ho:PE X o to) (ha:PA X (e::es) t)
  (hbase:attributeBase o name X.env (eval o X.env)=eval o X.env:=by rfl)
  (hfew:((backTo cpos (starEach (e::es) X.env)).all (fun x=>!x.1) && (backToKw cpos (keywordEach [] X.env)).all (fun x=>x.1.isSome)
   && decide ((e::es).length + ([]:List Keyword).length + (if ([]:List Keyword).isEmpty then 0 else 1) < 30))=true:=by rfl)
  (hline:(apos.endLine == cpos.line)=true:=by rfl) (hs:starEach (e::es) X.env=(false,eval e X.env)::starEach es X.env:=by rfl) (hplain:(backTo cpos (starEach es X.env)).any (·.1)=false:=by rfl) :
  PE X (.Call (.Attribute o name apos) (e::es) [] cpos) (tBM X.K T r to t):=by
 intro pins s σ H Q I h
 refine wpAny_Call_method_late hbase hfew hline rfl (thn (ho pins s σ H _ I h) fun v s1 ⟨x,H1,I1,r1,ty,q1⟩=>?_)
 obtain ⟨h1,h2⟩:=ZoI I1 r1 ty
 refine ⟨T,id,pa,slot,hty,h1,h2,?_⟩
 have hA:=ha cpos pins s1 σ H1 _ I1 q1
 rw [hs] at hA ⊢
 refine Calls.callWith_builtin (by show (false || (backTo cpos (starEach es X.env)).any (·.1))=false;rw [hplain] <;> rfl) (Calls.evalArgs_plain ?_)
 exact thn hA fun us s2 ⟨vs,H2,I2,r2,q2⟩=>hm pins s2 σ H2 x vs v us Q I2 r1 r2 q2
end
end L2
namespace L2
open PySem PySem.Spec PyProof.Rows
noncomputable def MtM (X:Cx) (id:String) (r:V→List V→Hp→VK→Prop):Prop :=
 ∀ (pins:List (Addr × Obj)) (s:Shared) (σ:St) (H:Hp) (x:V) (xs:List V) (v:Value) (us:List Value) (Q:VK),Inv X pins σ H s→RelV x v→Vals xs us→r x xs H Q →
  wpAny (model X.prog X.w) X.A (call (.builtin id) (v::us)) (EP X pins σ Q) X.xe s
theorem Vals.one:∀ {x:V} {us:List Value},Vals [x] us→∃ u,us=[u]∧RelV x u
 | _,_,.cons r .nil=>⟨_,rfl,r⟩
theorem Vals.two:∀ {x y:V} {us:List Value},Vals [x,y] us→∃ u v,us=[u,v]∧RelV x u∧RelV y v
 | _,_,_,.cons r (.cons q .nil)=>⟨_,_,rfl,r,q⟩
theorem Vals.eraseIdx:∀ {xs:List V} {us:List Value} (i:Nat),Vals xs us→Vals (xs.eraseIdx i) (us.eraseIdx i)
 | _,_,_,.nil=>.nil
 | _,_,0,.cons _ t=>t
 | _,_,i + 1,.cons r t=>.cons r (Vals.eraseIdx i t)
theorem Vals.rep {xs:List V}{us:List Value}(h:Vals xs us):∀ k:Nat,Vals (List.replicate k xs).flatten (List.replicate k us).flatten
 | 0=>.nil
 | k + 1=>by
  rw [List.replicate_succ,List.replicate_succ,List.flatten_cons,List.flatten_cons]
  exact Vals.append h (Vals.rep h k)
section
variable {X:Cx} {pins:List (Addr × Obj)} {σ:St} {H:Hp} {s:Shared} {l b:Addr} {xs ys zs:List V}
theorem Inv.lset {its its':List Value}{n:Nat}{f:Array Value→Array Value}{t':Nat}(I:Inv X pins σ H s)(hH:H l=some (.lst xs))
  (e:s.heap.get? l=some { cls:=.type "list",data:=.seq its.toArray n }) (hf:f its.toArray=its'.toArray) (hv:Vals ys its') (hz:ys.length≤sizeLine) :
  Inv X pins σ (upd H l (.lst ys)) { s with heap:=s.heap.update l (Obj.mapSeq f),toks:=t' }:=by
 have q:=PySem.IsL.update e f
 rw [hf] at q
 refine I.write (x:=l) (e:=l) (by rw [hH];exact trivial) (.inl rfl) (fun b' u hb hu=>(Heap.get?_update_other s.heap (Obj.mapSeq f) (Ne.symm hb)).trans hu) ⟨_,q⟩ ?_
 exact ⟨hz,its',_,hv,q⟩
theorem Inv.lnew {its:List Value}{t':Nat}(I:Inv X pins σ H s)(hv:Vals ys its)(hz:ys.length≤sizeLine) :
  Inv X pins σ (upd H s.heap.objs.size (.lst ys)) { s with heap:=s.heap.push { cls:=.type "list",data:=.seq its.toArray },toks:=t' } :=
 I.laid (fun _ _ q=>Heap.get?_push_of_some _ q) (Nat.le_refl _) ⟨hz,its,0,hv,Heap.get?_push_size _ rfl⟩
theorem Inv.fresh (I:Inv X pins σ H s):H s.heap.objs.size=none:=I.hok.fresh (Nat.le_refl _)
theorem Inv.lstM (I:Inv X pins σ H s)(hH:H l=some (.lst xs)):xs.length≤sizeLine∧∃ (its:List Value) (n:Nat),Vals xs its∧xs.length=its.length∧s.heap.get? l=some { cls:=.type "list",data:=.seq its.toArray n }:=by
 obtain ⟨z,its,n,r,e⟩:=I.hok l _ hH
 exact ⟨z,its,n,r,r.length,e⟩
theorem Zmr {n:Nat}(h:n≤sizeLine):Builtin.List.listTooLong n=false:=by
 unfold Builtin.List.listTooLong
 exact decide_eq_false (by omega)
end
section
variable {X:Cx}
noncomputable def ZnE:V→List V→Hp→VK→Prop:=fun x vs H Q=>∃ l xs y,x=.ref l∧vs=[y]∧H l=some (.lst xs)∧xs.length < sizeLine∧Q .non (upd H l (.lst (xs++[y])))
theorem ZcU:MtM X "list.append" ZnE:=by
 intro pins s σ H x vs v us Q I rx rv h
 obtain ⟨l,xs,y,rfl,rfl,hH,hz,q⟩:=h
 cases rx
 obtain ⟨u,rfl,ru⟩:=rv.one
 obtain ⟨z,its,n,r,hl,e⟩:=I.lstM hH
 refine call_meets F.slot_list_append ⟨_,e,rfl⟩ F.entry_list_append (F.args_list_append_2 _ _) (PySem.list_append l its.toArray n u (by rw [List.size_toArray];omega)) ⟨e,?_⟩
 refine ⟨.non,_,I.lset (its':=its++[u]) hH e (by simp) (r.append (.cons ru .nil)) ?_,rfl,q⟩
 rw [List.length_append,List.length_singleton]
 omega
noncomputable def Znl:V→List V→Hp→VK→Prop:=fun x vs H Q=>∃ l b xs zs,x=.ref l∧vs=[.ref b]∧H l=some (.lst xs)∧H b=some (.lst zs)∧xs.length + zs.length≤sizeLine∧Q .non (upd H l (.lst (xs++zs)))
theorem ZkK:MtM X "list.extend" Znl:=by
 intro pins s σ H x vs v us Q I rx rv h
 obtain ⟨l,b,xs,zs,rfl,rfl,hH,hB,hz,q⟩:=h
 cases rx
 obtain ⟨u,rfl,ru⟩:=rv.one
 cases ru
 obtain ⟨z,its,n,r,hl,e⟩:=I.lstM hH
 obtain ⟨z2,its2,n2,r2,hl2,e2⟩:=I.lstM hB
 have hsz:its.toArray.size + its2.toArray.size≤sizeLine:=by rw [List.size_toArray,List.size_toArray];omega
 have hlong:¬ (!its.toArray.isEmpty && Builtin.List.listTooLong (its.toArray.size + its2.toArray.size))=true:=by
  rw [Zmr hsz,Bool.and_false]
  exact Bool.false_ne_true
 refine call_meets F.slot_list_extend ⟨_,e,rfl⟩ F.entry_list_extend (F.args_list_extend_2 _ _)
  (AutoSeq1.list_extend_list_list_0 l its.toArray n b its2.toArray n2 hlong (by rw [List.size_toArray];omega) (by omega)) ⟨e,e2,?_⟩
 refine ⟨.non,_,I.lset (its':=its++its2) hH e (by simp) (r.append r2) ?_,rfl,q⟩
 rw [List.length_append]
 omega
end
section
variable {prog:Program} {w:World} {A:Around} {E:Value→Shared→Prop} {s:Shared}
end
section
variable {X:Cx}
end
end L2
namespace Att
open PySem PySem.W PySem.Calls PyProof.Rows
theorem ZfY {P:Params}{h:Heap}:∀ (ns:List Int) (vs:List Value),WellAll P h vs (ns.map WData.int)→IntsAre vs ns:=by
 intro ns
 induction ns with
 | nil =>
  intro vs w
  rw [List.map_nil] at w
  cases w
  exact .nil
 | cons n ns ih =>
  intro vs w
  rw [List.map_cons] at w
  cases w with
  | cons a b =>
   cases a
   exact .cons _ _ (ih _ b)
theorem Zku {l:OpenLaw}{n:Nat}(hn:l.most=some n){P:Params}{h:Heap}{args:List WData}{vals:List Value}
  (hpre:l.row.toRowW.claim.pre args=true) (hwl:WellAll P h vals args) :
  ∃ a vs ns,vals=[Value.ref a]∧args=[WData.list (ns.map WData.int)]∧h.get? a=some { cls:=.type "list",data:=.seq vs.toArray }∧IntsAre vs ns∧ns.length≤n:=by
 have hsh:WShape.hasAll [] args [.list .int]=true:=(pre_splitW hpre).1
 have hc:l.pre.holds [] { args:=args }=true:=(pre_splitW hpre).2
 obtain ⟨d,r,rfl,h1,h2⟩:=hasAllW_cons hsh
 obtain rfl:=hasAllW_nil h2
 obtain ⟨xs,rfl,h3⟩:=hasW_list h1
 obtain ⟨ns,rfl⟩:=items_int h3
 have hlen:ns.length≤n:=by
  unfold OpenLaw.pre at hc
  have h4:(WTm.not (.lt (.lit (.int (n:Int))) (.len (.arg 0)))).holds [] { args:=[.list (ns.map .int)] }=true:=by
   have h4:=(holds_andW hc).1
   rw [hn] at h4
   exact h4
  have h5:=condW_of h4 (w_not (w_lt w_lit (w_len_list (w_arg rfl))))
  rw [List.length_map] at h5
  refine Nat.le_of_not_lt fun q=>?_
  have q':(n:Int) < ((ns.length:Nat):Int):=by omega
  first
   | (rw [decide_eq_true q'] at h5;exact absurd h5 (by decide))
   | (simp at h5;omega)
 cases hwl with
 | cons w1 w2 =>
  cases w2
  cases w1 with
  | list ho hall=>exact ⟨_,_,ns,rfl,rfl,ho,ZfY ns _ hall,hlen⟩
theorem Zk4 (l:OpenLaw)(args:List WData):l.row.toRowW.claim.post args (.bool true) args=true :=
 postW_of (r:=l.row.toRowW) (X:=(true == true))
  (show WShape.has [] (.bool true) .bool=true by first | rfl | decide | simp [WShape.has,WShape.arms,WShape.armsAll])
  (show (WTm.eq .res (.lit (.bool true))).value [] { args:=args,res:=some (.bool true),after:=args }=some (.bool (true == true)) from w_eq_bool (w_res rfl) w_lit) rfl
theorem ZiW {l:OpenLaw}{n:Nat}{q:Program}{loose:List Str}{XP:(Str→Option Value)→Heap→Prop}{YP:World→Heap→Prop}{d:DefRec}
  (hn:l.most=some n) (hdf:d.params.defaults=[])
  (call:∀ (w:World) (s₀ s₁:Shared) (mg mb:Str→Option Value) (fa:Addr) (o:Obj) (pm cd doc:Value) (a:Addr) (vs:List Value) (ns:List Int),
   Ground q loose [] XP w s₀ mg mb s₁.heap→YP w s₁.heap →
   s₁.heap.get? fa=some o→o.data=.func (docDef d.name d.params d.body d.scope pm cd doc)→s₁.heap.CodeRec cd d.name→mg d.name=some (.ref fa) →
   s₁.heap.get? a=some { cls:=.type "list",data:=.seq vs.toArray }→IntsAre vs ns→ns.length≤n→s₁.gens=#[] →
   codeAny (model l.prog w) callerA (.call (.ref fa) ⟨[.ref a],[]⟩) (fun r s'=>r=.ok (.ret (.bool true))∧OldK s₁.heap s'.heap∧s'.os=s₁.os∧AllBare s'.gens) s₁) :
  WalkO q loose XP YP l.row.toRowW d [] (fun f vs=>PySem.call f vs):=by
 intro w s₀ s₁ mg mb G Y fa o pm cd doc dV kV ho hd hcd hD hmg hg args vals as hpre hlay hrd hwl hlo
 obtain rfl:dV=.none:=Dflts.none hD hdf
 obtain rfl:kV=.none:=Dflts.noKw hD
 obtain ⟨a,vs,ns,rfl,rfl,hobj,hints,hlen⟩:=Zku hn hpre hwl
 refine enter_call (codeAny_mono (call w s₀ s₁ mg mb fa o pm cd doc a vs ns G Y ho (fd_plain hd) hcd hmg hobj hints hlen hg) fun r s' hq=>?_)
 obtain ⟨rfl,h2,h3,h4⟩:=hq
 exact ⟨.inl ⟨.bool true,.bool true,[],rfl,fun _=>rfl,.bool true,Zk4 l _,fun _=>⟨List.Pairwise.nil,fun _ hm=>(nomatch hm)⟩⟩,h2,h3,h4⟩
section
variable {prog:Program} {w:World} {A:Around} {E:Value→Shared→Prop} {s:Shared} {K:Frag}
end
end Att
namespace L2
open PySem PySem.Spec PyProof.Rows
theorem ZaK:∀ {vs:List Value} {ns:List Int},IntsAre vs ns→Vals (ns.map V.int) vs
 | _,_,.nil=>.nil
 | _,_,.cons n t h=>.cons ⟨t,rfl⟩ (ZaK h)
noncomputable def Only (H:Hp):Prop:=∀ b,H b=none∨∃ o xs,H b=some (.frz o (.lst xs))
theorem ZmK {P : Program}{w : World}{K : PySem.W.Frag}{mg mb : Str → Option Value}{CX : CXT}{k : Nat}{fa a : Addr}{fd : FuncData}{x : Str}{sp : Sp}{s₁ : Shared}{vs : List Value}{ns : List Int}
    (KX : K.In s₁.heap) (hns : s₁.heap.Ns mainGlobals mg) (hb : s₁.heap.Ns builtinsNs mb) (hbb : ∀ x : Str, x ≠ "__name__" → mb x = bootBuiltins x) (hlim : s₁.heap.NoLimit) (hg : s₁.gens = #[])
    (ha : s₁.heap.get? a = some { cls := .type "list", data := .seq vs.toArray }) (hi : IntsAre vs ns) (hl : ns.length ≤ sizeLine) (hr : Room k callerA)
    (F : ∀ base : Heap, K.In base → base.Ns mainGlobals mg → FnOk P w K mg base CX k fa fd [x] sp) (hbind : ∀ (s : Shared) (u : Value), BindsTo s fd ⟨[u], []⟩ [(x, u)])
    (hsp : ∀ H : Hp, Only H → SqL K H a (ns.map V.int) → sp [.ref a] H (fun v _ => v = .bl true) fun _ _ _ => False)
    (hCX : ∀ H e s', CX [] H s₁ (fun _ _ _ => False) e s' → False) :
    codeAny (model P w) callerA (.call (.ref fa) ⟨[.ref a], []⟩) (fun r s' => r = .ok (.ret (.bool true)) ∧ OldK s₁.heap s'.heap ∧ s'.os = s₁.os ∧ AllBare s'.gens) s₁ := by
  have rv := ZaK hi
  have lenV := hi.length
  have core : ∀ H : Hp, Only H → SqL K H a (ns.map V.int) → HOk P w H s₁.heap → (∀ b, H b ≠ none → b = a) → (H a ≠ none → K.lookup a = none) →
      codeAny (model P w) callerA (.call (.ref fa) ⟨[.ref a], []⟩) (fun r s' => r = .ok (.ret (.bool true)) ∧ OldK s₁.heap s'.heap ∧ s'.os = s₁.os ∧ AllBare s'.gens) s₁ := by
    intro H hO hS hok hA hK
    have base_of : ∀ {b : Addr} {o : Obj}, s₁.heap.get? b = some o → H b = none → (hidT s₁.heap H).get? b = some o := fun e n => Zmn e n
    have noA : ∀ {b : Addr} {o : Obj} {es : Array DictEntry} {ep : Nat}, s₁.heap.get? b = some o → o.data = .dict es ep → H b = none := fun {b o es ep} e d => by
      cases q : H b with
      | none => rfl
      | some u =>
        have e' : b = a := hA b (by rw [q]; simp)
        subst e'
        rw [ha] at e; cases e
        have d' : Data.seq vs.toArray _ = Data.dict es ep := d
        cases d'
    have nsK : ∀ {b : Addr} {m : Str → Option Value}, s₁.heap.Ns b m → (hidT s₁.heap H).Ns b m := fun {b m} ⟨o, es, ep, e, d, r⟩ => ⟨o, es, ep, base_of e (noA e d), d, r⟩
    have hKb : K.In (hidT s₁.heap H) := fun b o e => base_of (KX b o e) (by
      cases q : H b with
      | none => rfl
      | some u =>
        have e' : b = a := hA b (by rw [q]; simp)
        subst e'
        rw [hK (by rw [q]; simp)] at e; cases e)
    have hM : Mod K mg (hidT s₁.heap H) := ⟨hKb, nsK hns, ⟨mb, nsK hb, hbb⟩, let ⟨mc, h1, h2⟩ := hlim; ⟨mc, nsK h1, h2⟩⟩
    have e0 : Env0 P w K mg (hidT s₁.heap H) callerA [] s₁ H := ⟨rfl, hM, fun b o e => ZnI e, Nat.le_of_eq (ZlA _ _), trivial, fun b hb => absurd (show b ∈ ([] : List Addr) from hb) (by simp), hok, .of_eq hg⟩
    refine codeAny_mono ((F _ hKb (nsK hns)).run callerA [] s₁ H ⟨[.ref a], []⟩ [.ref a] [.ref a] _ _ hr e0 (hbind s₁ (.ref a)) (.cons rfl .nil) (hsp H hO hS)) fun r s' h => ?_
    cases r with
    | error e => exact (hCX H e s' h).elim
    | ok fl =>
      cases fl with
      | next => exact False.elim h
      | brk => exact False.elim h
      | cont => exact False.elim h
      | ret u =>
        obtain ⟨v, H', os, bare, un, hok', r', q⟩ := h
        have q' : v = .bl true := q
        subst q'
        obtain rfl : u = Value.bool true := r'
        refine ⟨rfl, OldK.of_keep fun b o e => ?_, os, bare⟩
        cases q : H b with
        | none => exact un.keep b o e q (by intro z; exact absurd (show b ∈ ([] : List Addr) from z) (by simp)) (by simp)
        | some u =>
          rcases hO b with z | ⟨ob, xs, z⟩
          · rw [q] at z; cases z
          · have z2 := un.frzs b ob _ z
            obtain ⟨e1, _⟩ := hok b _ z
            obtain ⟨e2, _⟩ := hok' b _ z2
            rw [e] at e1; cases e1
            exact e2
  cases hk : K.lookup a with
  | some o =>
    have e := KX a o hk
    rw [ha] at e
    cases e
    refine core (fun _ => none) (fun _ => .inl rfl) (.inr ⟨_, vs.toArray, _, hk, rfl, rfl, rfl, by rw [List.size_toArray, lenV]; exact hl, by simpa using rv⟩) (fun b u z => by have z' : (none : Option HO) = some u := z; cases z') (fun b z => absurd rfl z) fun z => absurd rfl z
  | none =>
    refine core (fun b => if b = a then some (.frz { cls := .type "list", data := .seq vs.toArray } (.lst (ns.map V.int))) else none) (fun b => ?_) (.inl (.inr ⟨{ cls := .type "list", data := .seq vs.toArray }, if_pos rfl⟩)) (fun b u z => ?_) (fun b z => ?_) fun _ => hk
    · by_cases hb : b = a
      · exact .inr ⟨_, _, if_pos hb⟩
      · exact .inl (if_neg hb)
    · by_cases hb : b = a
      · have z' := (if_pos hb).symm.trans z
        cases z'
        subst hb
        exact ⟨ha, by rw [List.length_map]; exact hl, vs, _, rv, ha⟩
      · have z' := (if_neg hb).symm.trans z
        cases z'
    · by_cases hb : b = a
      · exact hb
      · exact absurd (if_neg hb) z
end L2
namespace L2
open PySem PySem.Spec PyProof.Rows
theorem Zoj {l:PySem.W.OpenLaw}{n k:Nat}{q:Program}{loose:List Str}{XP:(Str→Option Value)→Heap→Prop}{YP:World→Heap→Prop}{d:DefRec}{K:Params→PySem.W.Frag}{CX:World→CXT}{sp:World→Sp}{x:Str}
  (hn:l.most=some n) (hn2:n≤sizeLine) (hdf:d.params.defaults=[]) (hr:Room k callerA)
  (hY:∀ (w:World) (h:Heap),YP w h→(K w.params).In h)
  (F:∀ (w:World) (mg:Str→Option Value) (fa:Addr) (h:Heap),(K w.params).In h→h.Ns mainGlobals mg→mg d.name=some (.ref fa) →
   ∃ fd:FuncData,(∀ (s:Shared) (u:Value),BindsTo s fd ⟨[u],[]⟩ [(x,u)]) ∧
    ∀ base:Heap,(K w.params).In base→base.Ns mainGlobals mg→FnOk l.prog w (K w.params) mg base (CX w) k fa fd [x] (sp w))
  (hsp:∀ (w:World) (H:Hp) (a:Addr) (ns:List Int),ns.length≤n→Only H→SqL (K w.params) H a (ns.map V.int)→sp w [.ref a] H (fun v _=>v=.bl true) fun _ _ _=>False)
  (hCX:∀ (w:World) (H:Hp) (s:Shared) (e:Value) (s':Shared),CX w [] H s (fun _ _ _=>False) e s'→False) :
  PySem.W.WalkO q loose XP YP l.row.toRowW d [] (fun f vs=>PySem.call f vs):=by
 refine Att.ZiW hn hdf fun w s₀ s₁ mg mb fa o pm cd doc a vs ns G Y ho hd hcd hmg hobj hints hlen hg=>?_
 have KX:=hY w _ Y
 obtain ⟨fd,hb,hF⟩:=F w mg fa _ KX G.T.g hmg
 exact ZmK KX G.T.g G.T.b G.T.builtins G.T.nolimit hg hobj hints (Nat.le_trans hlen hn2) hr hF hb (fun H hO hS=>hsp w H a ns hlen hO hS) fun H e s'=>hCX w H s₁ e s'
end L2
namespace L2
open PySem PySem.Spec PyProof.Rows
noncomputable def Jf (s:Stmt):Arguments:=match s with
 | .FunctionDef _ a _ _ _ _ _ _ _ _=>a
 | _=>{ posonlyargs:=[],args:=[],vararg:=none,kwonlyargs:=[],kw_defaults:=[],kwarg:=none,defaults:=[] }
noncomputable def Zf (s:Stmt):List Stmt:=match s with
 | .FunctionDef _ _ b _ _ _ _ _ _ _=>b
 | _=>[]
noncomputable def Yb (s:Stmt):Scope:=match s with
 | .FunctionDef _ _ _ _ _ _ sc _ _ _=>sc
 | _=>{ kind:=.function,names:=[],isGenerator:=false,isCoroutine:=false }
noncomputable abbrev CX0:CXT:=fun _ _ _ _ _ _=>False
noncomputable abbrev E0:XK:=fun _ _ _=>False
theorem Zm9 {X:Cx}:Passes CX0 X E0:=fun _ _ _ _ _ _ _ h=>h.elim
structure Fun (K:PySem.W.Frag)(x qual:Str)(st:Stmt)(f:Addr)(fd:FuncData):Prop where
 ex:∃ (oc:Value) (od:Option Addr) (kV doc pm:Value) (an:Option Addr) (cdv ct:Value) (osl:Array (Option Value)),
  fd=PySem.W.fnOf x qual (Jf st) (Zf st) (Yb st) .none kV doc pm an cdv ct∧K.lookup f=some ⟨oc,od,.func fd,osl⟩∧PySem.W.codeIn K cdv qual=true
 kp:PySem.W.keepIn K (.ref f)=true
section
variable {P:Program} {w:World} {K:PySem.W.Frag} {mg:Str→Option Value} {base:Heap}
theorem Fun.ok {x qual:Str}{st:Stmt}{f:Addr}{fd:FuncData}{N ps:List Str}{k:Nat}{sp:Sp}(F:Fun K x qual st f fd)(S:Zh N ps (Yb st))(len:∀ vs H Q E,sp vs H Q E→vs.length=ps.length)
  (hbody:∀ (cdv:Value) (A:Around) (outer:List Env) (s:Shared) (H:Hp) (vs:List V) (Q:VK) (E:XK),Room k (A.deeper (envOfC qual (Yb st) s.heap.objs.size f cdv))→sp vs H Q E →
   ∃ t,PSs (cxOf CX0 P w K mg base N qual (Yb st) f cdv A outer s H E).nox (Zf st) t∧t { nx:=fun _ H'=>Q .non H',rt:=Q } (start N vs) H):FnOk P w K mg base CX0 (k + 1) f fd ps sp:=by
 obtain ⟨oc,od,kV,doc,pm,an,cdv,ct,osl,rfl,lk,hcd⟩:=F.ex
 refine Zm8 lk hcd S len fun A outer s H vs Q E hr hsp=>?_
 obtain ⟨t,h,q⟩:=hbody cdv A outer s H vs Q E hr hsp
 exact ⟨t,h.nox,q⟩
theorem Fun.binds {x qual:Str}{st:Stmt}{f:Addr}{fd:FuncData}{ps:List Str}(F:Fun K x qual st f fd)
  (h:∀ (kV doc pm:Value) (an:Option Addr) (cdv ct:Value) (us:List Value),us.length=ps.length→bindArgs (PySem.W.fnOf x qual (Jf st) (Zf st) (Yb st) .none kV doc pm an cdv ct) ⟨us,[]⟩=pure (ps.zip us)):Binds K fd ps []:=by
 obtain ⟨oc,od,kV,doc,pm,an,cdv,ct,osl,rfl,lk,hcd⟩:=F.ex
 exact .all (h kV doc pm an cdv ct)
theorem Ze {x qual:Str}{st:Stmt}{f:Addr}{oc:Value}{od an:Option Addr}{osl:Array (Option Value)}{kV doc pm cdv ct:Value}(l:K.lookup f=some ⟨oc,od,.func (PySem.W.fnOf x qual (Jf st) (Zf st) (Yb st) .none kV doc pm an cdv ct),osl⟩)
  (c:PySem.W.codeIn K cdv qual=true) (k:PySem.W.keepIn K (.ref f)=true):Fun K x qual st f (PySem.W.fnOf x qual (Jf st) (Zf st) (Yb st) .none kV doc pm an cdv ct):=⟨⟨oc,od,kV,doc,pm,an,cdv,ct,osl,rfl,l,c⟩,k⟩
end
section
variable {X:Cx}
theorem pv (i:Nat) {x:Str} {pos:Pos} (hN:X.N[i]?=some x:=by rfl) (hv:Vis X.env.scope x:=by first | exact Or.inl rfl | exact Or.inr (Or.inl rfl) | exact Or.inr (Or.inr rfl)) (hd:(x == ("__debug__":Str))=false:=by decide)
  (hcd:(x == ("__classdict__":Str))=false:=by decide):PE X (.Name x pos) (tVar i):=JN hN hv hd hcd
end
theorem iteF {A B:Prop}(h:B):if false=true then A else B:=by
 rw [if_neg Bool.false_ne_true]
 exact h
theorem iteT {A B:Prop}(h:A):if true=true then A else B:=by
 rw [if_pos rfl]
 exact h
noncomputable def Same (H H':Hp):Prop:=∀ b o,H b=some o→H' b=some o
theorem Same.refl (H:Hp):Same H H:=fun _ _ h=>h
theorem Same.trans {H H1 H2:Hp}(a:Same H H1)(b:Same H1 H2):Same H H2:=fun c o h=>b c o (a c o h)
theorem Same.free {H H':Hp}(e:Same H H'){l:Addr}(h:H' l=Option.none):H l=Option.none:=by
 cases q:H l with
 | none=>rfl
 | some o =>
  rw [e l o q] at h
  cases h
theorem Same.seq {K:PySem.W.Frag}{H H':Hp}{a:Addr}{xs:List V}(e:Same H H')(h:SqL K H a xs):SqL K H' a xs:=by
 rcases h with (h | ⟨o,h⟩) | h
 ·exact .inl (.inl (e _ _ h))
 ·exact .inl (.inr ⟨o,e _ _ h⟩)
 ·exact .inr h
end L2
set_option linter.all false
set_option Elab.async false
namespace PV
theorem el9 {A1 A2 A3 A4 A5 A6:Type}{P Q R:A1→A2→A3→A4→A5→A6→Prop}{Z:Prop}(h:∃ a b c d e f,P a b c d e f∧Q a b c d e f∧R a b c d e f)(k:∀ a b c d e f,P a b c d e f→Q a b c d e f→R a b c d e f→Z):Z:=by
 obtain ⟨a,b,c,d,e,f,p,q,r⟩:=h
 exact k a b c d e f p q r
theorem el10 {A1 A2 A3 A4 A5 A6 A7:Type}{P Q R:A1→A2→A3→A4→A5→A6→A7→Prop}{Z:Prop}(h:∃ a b c d e f g,P a b c d e f g∧Q a b c d e f g∧R a b c d e f g)(k:∀ a b c d e f g,P a b c d e f g→Q a b c d e f g→R a b c d e f g→Z):Z:=by
 obtain ⟨a,b,c,d,e,f,g,p,q,r⟩:=h
 exact k a b c d e f g p q r
open PySem (Str)
inductive D where
 | non | bl (b:Bool) | int (i:Int) | str (x:Str) | lst (xs:List D) | tup (xs:List D) | dct (kvs:List (Int × Int))
 deriving Inhabited
inductive Sl where
 | un | sh (d:D) | fr (d:D) | ow (ds:List D) | tab (rows:List (List D)) | dc (kvs:List (Int × Int)) | nw (ds:List D) | jk (d:D) | jl (n:Nat) | xc (c:Nat)
 deriving Inhabited
noncomputable def lim:Nat:=100000
mutual
noncomputable def D.dep:D→Nat
 | .lst xs=>D.deps xs + 1
 | .tup xs=>D.deps xs + 1
 | .dct _=>100
 | _=>0
noncomputable def D.deps:List D→Nat
 | []=>0
 | x::xs=>max (D.dep x) (D.deps xs)
end
mutual
noncomputable def eqD:D→D→Bool
 | .non,.non=>true
 | .bl a,.bl b=>a == b
 | .bl a,.int b=>(if a then 1 else 0) == b
 | .int a,.bl b=>a == (if b then 1 else 0)
 | .int a,.int b=>a == b
 | .str a,.str b=>a == b
 | .lst a,.lst b=>eqDs a b
 | .tup a,.tup b=>eqDs a b
 | .dct a,.dct b=>decide (a=b)
 | _,_=>false
noncomputable def eqDs:List D→List D→Bool
 | [],[]=>true
 | x::xs,y::ys=>eqD x y && eqDs xs ys
 | _,_=>false
end
noncomputable abbrev Env:=List Sl
noncomputable abbrev Ex:=Env→Option D
noncomputable abbrev Tx:=Env→Option Bool
noncomputable abbrev Lx:=Env→Option (List D)
noncomputable def Sl.val:Sl→Option D
 | .un=>none
 | .sh d=>some d
 | .fr d=>some d
 | .ow ds=>some (.lst ds)
 | .tab rows=>some (.lst (rows.map .lst))
 | .nw ds=>some (.lst ds)
 | _=>none
noncomputable def Sl.shd:Sl→Option D
 | .sh d=>some d
 | .fr d=>some d
 | _=>none
noncomputable def eC (d:D):Ex:=fun _=>some d
noncomputable def eVar (i:Nat):Ex:=fun env=>env[i]?.bind Sl.shd
noncomputable def Sl.frd:Sl→Option D
 | .fr d=>some d
 | _=>none
noncomputable def ZdC (i:Nat):Ex:=fun env=>env[i]?.bind Sl.frd
noncomputable def Yq (i:Nat):Ex:=fun env=>env[i]?.bind Sl.val
noncomputable def e2I (f:Int→Int→Option D) (a b:Ex):Ex:=fun env=>match a env,b env with
 | some (.int i),some (.int j)=>f i j
 | _,_=>none
noncomputable def iSub (i j:Int):Option D:=some (.int (i - j))
noncomputable def iMul (i j:Int):Option D:=if (-18446744073709551616 < i∧i < 18446744073709551616)∨(-18446744073709551616 < j∧j < 18446744073709551616) then some (.int (i * j)) else none
noncomputable def iMod (i j:Int):Option D:=if 0 < j then some (.int (i % j)) else none
noncomputable def iDiv (i j:Int):Option D:=if 0 < j∧j < 1073741824 then some (.int (i / j)) else none
noncomputable def t2I (p:Int→Int→Bool) (a b:Ex):Tx:=fun env=>match a env,b env with
 | some (.int i),some (.int j)=>some (p i j)
 | _,_=>none
noncomputable def pLt (i j:Int):Bool:=decide (i < j)
noncomputable def pGt (i j:Int):Bool:=decide (j < i)
noncomputable def pGe (i j:Int):Bool:=decide (j≤i)
noncomputable def tEq (a b:Ex):Tx:=fun env=>match a env,b env with
 | some x,some y=>if x.dep≤8∧y.dep≤8 then some (eqD x y) else none
 | _,_=>none
noncomputable def tNe (a b:Ex):Tx:=fun env=>match a env,b env with
 | some x,some y=>if x.dep≤8∧y.dep≤8 then some (!eqD x y) else none
 | _,_=>none
noncomputable def inD (x:D) (ys:List D):Bool:=ys.any fun y=>eqD y x
noncomputable def tIn (a b:Ex):Tx:=fun env=>match a env,b env with
 | some x,some (.lst ys)=>if D.deps ys≤8∧x.dep≤8 then some (inD x ys) else none
 | some x,some (.tup ys)=>if D.deps ys≤8∧x.dep≤8 then some (inD x ys) else none
 | _,_=>none
noncomputable def tNi (a b:Ex):Tx:=fun env=>match tIn a b env with
 | some k=>some (!k)
 | none=>none
noncomputable def D.isN:D→Bool
 | .non=>true
 | _=>false
noncomputable def tIsN (a:Ex):Tx:=fun env=>match a env with
 | some x=>some x.isN
 | none=>none
noncomputable def tNoN (a:Ex):Tx:=fun env=>match a env with
 | some x=>some (!x.isN)
 | none=>none
noncomputable def tAnd (a b:Tx):Tx:=fun env=>match a env with
 | some true=>b env
 | some false=>some false
 | none=>none
noncomputable def tOr (a b:Tx):Tx:=fun env=>match a env with
 | some true=>some true
 | some false=>b env
 | none=>none
noncomputable def tNot (a:Tx):Tx:=fun env=>match a env with
 | some k=>some (!k)
 | none=>none
noncomputable def tB (a:Ex):Tx:=fun env=>match a env with
 | some (.bl k)=>some k
 | _=>none
noncomputable def eB (a:Tx):Ex:=fun env=>match a env with
 | some k=>some (.bl k)
 | none=>none
noncomputable def evs:List Ex→Env→Option (List D)
 | [],_=>some []
 | e::es,env=>match e env,evs es env with
  | some d,some ds=>some (d::ds)
  | _,_=>none
noncomputable def eLst (es:List Ex):Ex:=fun env=>match evs es env with
 | some ds=>some (.lst ds)
 | none=>none
noncomputable def eTup (es:List Ex):Ex:=fun env=>match evs es env with
 | some ds=>some (.tup ds)
 | none=>none
noncomputable def Ye (φ:List D→Option D) (es:List Ex):Ex:=fun env=>match evs es env with
 | some ds=>φ ds
 | none=>none
noncomputable def eF1 (φ:D→Option D) (a:Ex):Ex:=fun env=>match a env with
 | some x=>φ x
 | none=>none
noncomputable def eF2 (φ:D→D→Option D) (a b:Ex):Ex:=fun env=>match a env,b env with
 | some x,some y=>φ x y
 | _,_=>none
noncomputable def ixN (n:Nat) (i:Int):Option Nat:=if 0≤i then (if i < n then some i.toNat else none) else if -(n:Int)≤i then some (i + n).toNat else none
noncomputable def atD (xs:List D) (i:Int):Option D:=(ixN xs.length i).bind fun j=>xs[j]?
noncomputable def fIx:D→D→Option D
 | .lst xs,.int i=>atD xs i
 | .tup xs,.int i=>atD xs i
 | _,_=>none
noncomputable def eIx (a b:Ex):Ex:=eF2 fIx a b
noncomputable def fAdd:D→D→Option D
 | .int i,.int j=>some (.int (i + j))
 | .lst xs,.lst ys=>if xs.length + ys.length≤lim then some (.lst (xs++ys)) else none
 | _,_=>none
noncomputable def eAdd (a b:Ex):Ex:=eF2 fAdd a b
noncomputable def fLen:D→Option D
 | .lst xs=>some (.int xs.length)
 | .tup xs=>some (.int xs.length)
 | _=>none
noncomputable def ZaH:D→Option D
 | .lst xs=>some (.lst xs)
 | .tup xs=>some (.lst xs)
 | _=>none
noncomputable def allB:List D→Option Bool
 | []=>some true
 | .bl b::xs=>match allB xs with
  | some c=>some (b && c)
  | none=>none
 | _::_=>none
noncomputable def fAll:D→Option D
 | .lst xs=>match allB xs with
  | some b=>some (.bl b)
  | none=>none
 | _=>none
noncomputable def Jv:List D→Option (List Int)
 | []=>some []
 | .int i::xs=>match Jv xs with
  | some r=>some (i::r)
  | none=>none
 | _::_=>none
noncomputable def addv (σ:List Int) (v:Int):List Int:=if v ∈ σ then σ else σ++[v]
noncomputable def seen (vs:List Int):List Int:=vs.foldl addv []
noncomputable def ins1 (x:Int):List Int→List Int
 | []=>[x]
 | y::ys=>if x≤y then x::y::ys else y::ins1 x ys
noncomputable def srt:List Int→List Int
 | []=>[]
 | x::xs=>ins1 x (srt xs)
noncomputable def Zar:D→Option D
 | .lst xs=>match Jv xs with
  | some ns=>if ns.length≤3000∧(seen ns).length < 64 then some (.lst ((srt (seen ns)).map .int)) else none
  | none=>none
 | _=>none
noncomputable def ltL:List Int→List Int→Bool
 | [],[]=>false
 | [],_::_=>true
 | _::_,[]=>false
 | x::xs,y::ys=>if x=y then ltL xs ys else decide (x < y)
noncomputable def insB {α:Type} (k:α→List Int) (x:α):List α→List α
 | []=>[x]
 | y::ys=>if ltL (k y) (k x) then y::insB k x ys else x::y::ys
noncomputable def srtB {α:Type} (k:α→List Int):List α→List α
 | []=>[]
 | x::xs=>insB k x (srtB k xs)
noncomputable def Zas:D→Option (List Int)
 | .lst xs=>Jv xs
 | _=>none
noncomputable def ZcL:List D→Option (List (List Int))
 | []=>some []
 | x::xs=>match Zas x,ZcL xs with
  | some r,some rs=>some (r::rs)
  | _,_=>none
noncomputable def Z4:D→Option D
 | .lst xs=>match Jv xs with
  | some ns=>if ns.length < 64 then some (.lst ((srt ns).map .int)) else none
  | none=>match ZcL xs with
   | some rs=>if rs.length < 64 then some (.lst ((srtB (fun r=>r) rs).map fun r=>.lst (r.map .int))) else none
   | none=>none
 | _=>none
inductive Ty where
 | int | bool | str | list | tuple
noncomputable def isTy:Ty→D→Bool
 | .int,.int _=>true
 | .int,.bl _=>true
 | .bool,.bl _=>true
 | .str,.str _=>true
 | .list,.lst _=>true
 | .tuple,.tup _=>true
 | _,_=>false
noncomputable def fIs (t:Ty):D→Option D
 | .dct _=>none
 | x=>some (.bl (isTy t x))
noncomputable def YQ:D→Bool
 | .lst _=>false
 | .tup _=>false
 | .dct _=>false
 | _=>true
noncomputable def eSc (f:Ex):Ex:=fun env=>match f env with
 | some d=>if YQ d then some d else none
 | none=>none
noncomputable def eFl (f:Ex):Ex:=fun env=>match f env with
 | some (.lst ds)=>if ds.all YQ then some (.lst ds) else none
 | _=>none
noncomputable def idxD (x:D):List D→Option Nat
 | []=>none
 | y::ys=>if eqD y x then some 0 else match idxD x ys with
  | some j=>some (j + 1)
  | none=>none
noncomputable def ZfM:D→D→Option D
 | .lst ys,x=>if D.deps ys≤8∧x.dep≤8 then (match idxD x ys with
  | some j=>some (.int j)
  | none=>none) else none
 | _,_=>none
noncomputable def iOf (a:Ex):Lx:=fun env=>match a env with
 | some (.lst xs)=>some xs
 | some (.tup xs)=>some xs
 | _=>none
noncomputable def Yg (lo:Int) (n:Nat):List D:=(List.range n).map fun k=>.int (lo + (k:Nat))
noncomputable def iRng (a:Ex):Lx:=fun env=>match a env with
 | some (.int j)=>if -(lim:Int)≤j∧j≤lim then some (Yg 0 j.toNat) else none
 | _=>none
noncomputable def Zdx (a b:Ex):Lx:=fun env=>match a env,b env with
 | some (.int i),some (.int j)=>if -(lim:Int)≤i∧i≤lim∧-(lim:Int)≤j∧j≤lim then some (Yg i (j - i).toNat) else none
 | _,_=>none
noncomputable def Y4:D→Option D
 | .int j=>if -(lim:Int)≤j∧j≤lim then some (.lst (Yg 0 j.toNat)) else none
 | _=>none
noncomputable def Z7 (i:Nat) (c:Tx) (e:Ex) (env:Env):List D→Option (List D)
 | []=>some []
 | d::ds=>match c (env.set i (.sh d)) with
  | some true=>match e (env.set i (.sh d)),Z7 i c e env ds with
   | some x,some xs=>some (x::xs)
   | _,_=>none
  | some false=>Z7 i c e env ds
  | none=>none
noncomputable def Jm:Tx:=fun _=>some true
noncomputable def Ji (i:Nat) (it:Lx) (c:Tx) (e:Ex):Ex:=fun env=>match it env with
 | some ds=>if ds.length≤lim then (match Z7 i c e env ds with
  | some xs=>some (.lst xs)
  | none=>none) else none
 | none=>none
inductive Out where
 | nx | bk | ct | rt (d:D)
noncomputable abbrev St:=Env→Option (Out × Env)
noncomputable def Zk:St:=fun env=>some (.nx,env)
noncomputable def sSet (i:Nat) (e:Ex):St:=fun env=>match e env with
 | some d=>some (.nx,env.set i (.sh d))
 | none=>none
noncomputable def Zcg (i:Nat) (e:Ex):St:=fun env=>match e env with
 | some d=>some (.nx,env.set i (.fr d))
 | none=>none
noncomputable def sOwn (i:Nat) (e:Ex):St:=fun env=>match e env with
 | some (.lst ds)=>some (.nx,env.set i (.ow ds))
 | _=>none
noncomputable def ZeT:List D→Option (List (List D))
 | []=>some []
 | .lst r::xs=>match ZeT xs with
  | some rs=>some (r::rs)
  | none=>none
 | _::_=>none
noncomputable def sTab (i:Nat) (e:Ex):St:=fun env=>match e env with
 | some (.lst ds)=>match ZeT ds with
  | some rs=>some (.nx,env.set i (.tab rs))
  | none=>none
 | _=>none
noncomputable def sFrz (i:Nat):St:=fun env=>match env[i]? with
 | some (.ow ds)=>some (.nx,env.set i (.sh (.lst ds)))
 | some (.tab rs)=>some (.nx,env.set i (.sh (.lst (rs.map .lst))))
 | some (.nw ds)=>some (.nx,env.set i (.fr (.lst ds)))
 | some (.dc kvs)=>some (.nx,env.set i (.sh (.dct kvs)))
 | some (.sh _)=>some (.nx,env)
 | some (.fr _)=>some (.nx,env)
 | _=>none
noncomputable def sApp (i:Nat) (e:Ex):St:=fun env=>match env[i]?,e env with
 | some (.ow ds),some d=>if ds.length < lim then some (.nx,env.set i (.ow (ds++[d]))) else none
 | _,_=>none
noncomputable def sNew (i:Nat) (e:Ex):St:=fun env=>match e env with
 | some (.lst ds)=>some (.nx,env.set i (.nw ds))
 | _=>none
noncomputable def ZeG (i:Nat) (e:Ex):St:=fun env=>match env[i]?,e env with
 | some (.nw ds),some d=>if ds.length < lim then some (.nx,env.set i (.nw (ds++[d]))) else none
 | _,_=>none
noncomputable def sJk (i:Nat) (e:Ex):St:=fun env=>match e env with
 | some d=>some (.nx,env.set i (.jk d))
 | none=>none
noncomputable def tFrz (i:Nat) (t:Tx):Tx:=fun env=>match env[i]? with
 | some (.jk d)=>t (env.set i (.sh d))
 | _=>none
noncomputable def ZeX:D→Bool
 | .lst r=>r.all YQ && decide (r.length < lim)
 | _=>false
noncomputable def ZcB (i:Nat) (k:Int):St:=fun env=>match env[i]? with
 | some (.jk (.lst (r::ds)))=>if ZeX r∧ds.length < lim then some (.nx,env.set i (.jl (ds.length + 1))) else none
 | _=>none
noncomputable def sExt (i:Nat) (e:Ex):St:=fun env=>match env[i]?,e env with
 | some (.ow ds),some (.lst xs)=>if ds.length + xs.length≤lim then some (.nx,env.set i (.ow (ds++xs))) else none
 | _,_=>none
noncomputable def sIns (i:Nat) (a e:Ex):St:=fun env=>match env[i]?,a env,e env with
 | some (.ow ds),some (.int k),some d=>if 0≤k∧k≤ds.length∧ds.length < lim then some (.nx,env.set i (.ow (ds.insertIdx k.toNat d))) else none
 | _,_,_=>none
noncomputable def sPut (i:Nat) (a e:Ex):St:=fun env=>match env[i]?,e env,a env with
 | some (.ow ds),some d,some (.int k)=>match ixN ds.length k with
  | some j=>some (.nx,env.set i (.ow (ds.set j d)))
  | none=>none
 | _,_,_=>none
noncomputable def ZdF (i:Nat) (a b e:Ex):St:=fun env=>match env[i]?,e env,a env,b env with
 | some (.tab rs),some d,some (.int k),some (.int l)=>match ixN rs.length k with
  | some j=>match rs[j]? with
   | some r=>match ixN r.length l with
    | some m=>some (.nx,env.set i (.tab (rs.set j (r.set m d))))
    | none=>none
   | none=>none
  | none=>none
 | _,_,_,_=>none
noncomputable def sDo (e:Ex):St:=fun env=>match e env with
 | some _=>some (.nx,env)
 | none=>none
noncomputable def sRet (e:Ex):St:=fun env=>match e env with
 | some d=>some (.rt d,env)
 | none=>none
noncomputable def ZeC (i:Nat):St:=fun env=>match env[i]? with
 | some (.tab rs)=>some (.rt (.lst (rs.map .lst)),env)
 | _=>none
noncomputable def sSeq (a b:St):St:=fun env=>match a env with
 | some (.nx,env1)=>b env1
 | r=>r
noncomputable def sIf (c:Tx) (a b:St):St:=fun env=>match c env with
 | some true=>a env
 | some false=>b env
 | none=>none
noncomputable def ZbK:St:=fun _=>none
noncomputable abbrev Tg:=D→Env→Option Env
noncomputable def gN (i:Nat):Tg:=fun d env=>some (env.set i (.sh d))
noncomputable def g2 (i j:Nat):Tg:=fun d env=>match d with
 | .tup [x,y]=>some ((env.set i (.sh x)).set j (.sh y))
 | _=>none
noncomputable def forL (g:Tg) (b:St):List D→St
 | [],env=>some (.nx,env)
 | d::ds,env=>match g d env with
  | some e0=>match b e0 with
   | some (.nx,e1)=>forL g b ds e1
   | some (.ct,e1)=>forL g b ds e1
   | some (.bk,e1)=>some (.nx,e1)
   | some (.rt r,e1)=>some (.rt r,e1)
   | none=>none
  | none=>none
noncomputable def sFor (g:Tg) (it:Lx) (b:St):St:=fun env=>match it env with
 | some ds=>forL g b ds env
 | none=>none
noncomputable def Z5 (c:Tx) (b:St):Nat→St
 | 0,_=>none
 | n + 1,env=>match c env with
  | some true=>match b env with
   | some (.nx,e1)=>Z5 c b n e1
   | some (.ct,e1)=>Z5 c b n e1
   | some (.bk,e1)=>some (.nx,e1)
   | some (.rt r,e1)=>some (.rt r,e1)
   | none=>none
  | some false=>some (.nx,env)
  | none=>none
noncomputable def enter (n:Nat) (ds:List D):Env:=ds.map .sh++List.replicate (n - ds.length) .un
noncomputable def run (p n:Nat) (g:St) (ds:List D):Option D:=if ds.length=p then (match g (enter n ds) with
 | some (.rt d,_)=>some d
 | some (.nx,_)=>some .non
 | _=>none) else none
end PV
set_option linter.all false
set_option Elab.async false
set_option maxHeartbeats 1000000
namespace PV
open PySem (Str)
structure Agr (S:List Nat)(env env0:Env):Prop where
 len:env.length=env0.length
 out:∀ i,i ∉ S→env[i]?=env0[i]?
theorem Agr.refl (S:List Nat)(env:Env):Agr S env env:=⟨rfl,fun _ _=>rfl⟩
theorem Agr.trans {S:List Nat}{a b c:Env}(h:Agr S a b)(k:Agr S b c):Agr S a c:=⟨h.len.trans k.len,fun i hi=>(h.out i hi).trans (k.out i hi)⟩
theorem Agr.set {S:List Nat}{a b:Env}(h:Agr S a b){i:Nat}(hi:i ∈ S)(s:Sl):Agr S (a.set i s) b :=
 ⟨by rw [List.length_set];exact h.len,fun j hj=>by rw [List.getElem?_set_ne (by rintro rfl;exact hj hi)];exact h.out j hj⟩
theorem Agr.mono {S T:List Nat}{a b:Env}(h:Agr S a b)(st:∀ i ∈ S,i ∈ T):Agr T a b:=⟨h.len,fun i hi=>h.out i fun z=>hi (st i z)⟩
theorem ZeM {env:Env}{i:Nat}{s:Sl}(h:i < env.length):(env.set i s)[i]?=some s:=by rw [List.getElem?_set_self h]
theorem Zy {env:Env}{i j:Nat}{s:Sl}(h:i≠j):eVar j (env.set i s)=eVar j env:=by unfold eVar;rw [List.getElem?_set_ne h]
theorem Yy {env:Env}{i:Nat}{d:D}(h:i < env.length):eVar i (env.set i (.sh d))=some d:=by unfold eVar;rw [ZeM h];rfl
theorem Agr.var {S:List Nat}{a b:Env}(h:Agr S a b){i:Nat}(hi:i ∉ S):eVar i a=eVar i b:=by unfold eVar;rw [h.out i hi]
theorem Agr.varR {S:List Nat}{a b:Env}(h:Agr S a b){i:Nat}(hi:i ∉ S):Yq i a=Yq i b:=by unfold Yq;rw [h.out i hi]
theorem Yi {a b:St}{env e1:Env}(h:a env=some (.nx,e1)):sSeq a b env=b e1:=by unfold sSeq;rw [h]
theorem Zbj {a b:St}{env e1:Env}{r:D}(h:a env=some (.rt r,e1)):sSeq a b env=some (.rt r,e1):=by unfold sSeq;rw [h]
theorem Zcz {c:Tx}{a b:St}{env:Env}(h:c env=some true):sIf c a b env=a env:=by unfold sIf;rw [h]
theorem Y5 {c:Tx}{a b:St}{env:Env}(h:c env=some false):sIf c a b env=b env:=by unfold sIf;rw [h]
theorem Zal {g:Tg}{it:Lx}{b:St}{env:Env}{ds:List D}(h:it env=some ds):sFor g it b env=forL g b ds env:=by unfold sFor;rw [h]
theorem Yx {e:Ex}{env:Env}{d:D}(h:e env=some d):sRet e env=some (.rt d,env):=by unfold sRet;rw [h]
theorem Zah {i:Nat}{e:Ex}{env:Env}{d:D}(h:e env=some d):sSet i e env=some (.nx,env.set i (.sh d)):=by unfold sSet;rw [h]
theorem Zd2 {e:Ex}{env:Env}{d:D}(h:e env=some d):sDo e env=some (.nx,env):=by unfold sDo;rw [h]
theorem JL {env:Env}:Zk env=some (.nx,env):=rfl
theorem Jt {p n:Nat}{g:St}{ds:List D}{r:D}{e1:Env}(hp:ds.length=p)(h:g (enter n ds)=some (.rt r,e1)):run p n g ds=some r:=by unfold run;rw [if_pos hp,h]
theorem ZiB {p n:Nat}{g:St}{ds:List D}{e1:Env}(hp:ds.length=p)(h:g (enter n ds)=some (.nx,e1)):run p n g ds=some .non:=by unfold run;rw [if_pos hp,h]
theorem YM {φ:List D→Option D}{a:Ex}{env:Env}{x:D}(h:a env=some x):Ye φ [a] env=φ [x]:=by simp [Ye,evs,h]
theorem Ju {φ:List D→Option D}{a b:Ex}{env:Env}{x y:D}(h:a env=some x)(h2:b env=some y):Ye φ [a,b] env=φ [x,y]:=by simp [Ye,evs,h,h2]
theorem Zeo {φ:List D→Option D}{a b c:Ex}{env:Env}{x y z:D}(h:a env=some x)(h2:b env=some y)(h3:c env=some z):Ye φ [a,b,c] env=φ [x,y,z]:=by simp [Ye,evs,h,h2,h3]
theorem Zc3 {φ:D→Option D}{a:Ex}{env:Env}{x:D}(h:a env=some x):eF1 φ a env=φ x:=by simp [eF1,h]
theorem ZaN {g:Tg}{b:St}(P:Env→Prop)(q:D→Option D):∀ (ds:List D) (env:Env),
  (∀ d ∈ ds,∀ env,P env→∃ e0,g d env=some e0∧(∀ r,q d=some r→∃ e1,b e0=some (.rt r,e1))∧(q d=none→∃ e1,b e0=some (.nx,e1)∧P e1))→P env →
  (∀ r,ds.findSome? q=some r→∃ e1,forL g b ds env=some (.rt r,e1))∧(ds.findSome? q=none→∃ e1,forL g b ds env=some (.nx,e1)∧P e1)
 | [],env,_,p=>⟨fun r h=>by simp at h,fun _=>⟨env,rfl,p⟩⟩
 | d::ds,env,h,p=>by
  obtain ⟨e0,hg,h1,h2⟩:=h d List.mem_cons_self env p
  cases hq:q d with
  | some r =>
   obtain ⟨e1,hb⟩:=h1 r hq
   refine ⟨fun r' hr=>?_,fun hn=>?_⟩
   ·rw [List.findSome?_cons,hq] at hr
    cases hr
    exact ⟨e1,by simp only [forL,hg,hb]⟩
   ·rw [List.findSome?_cons,hq] at hn
    cases hn
  | none =>
   obtain ⟨e1,hb,p1⟩:=h2 hq
   have ih:=ZaN P q ds e1 (fun d' hd'=>h d' (List.mem_cons_of_mem _ hd')) p1
   have e:forL g b (d::ds) env=forL g b ds e1:=by simp only [forL,hg,hb]
   rw [e,List.findSome?_cons,hq]
   exact ih
theorem ZcC {g : Tg}{b : St}{ds : List D}(I : Nat → Env → Prop)
    (step : ∀ k d env, ds[k]? = some d → I k env → ∃ e0 e1, g d env = some e0 ∧ b e0 = some (.nx, e1) ∧ I (k + 1) e1) (env : Env) (h0 : I 0 env) : ∃ e1, forL g b ds env = some (.nx, e1) ∧ I ds.length e1 := by
  have go : ∀ (m k : Nat) (env : Env), k + m = ds.length → I k env → ∃ e1, forL g b (ds.drop k) env = some (.nx, e1) ∧ I ds.length e1 := by
    intro m
    induction m with
    | zero => intro k env hk hI; have : k = ds.length := by omega
              subst this; rw [List.drop_length]; exact ⟨env, rfl, hI⟩
    | succ m ih =>
      intro k env hk hI
      have hlt : k < ds.length := by omega
      obtain ⟨e0, e1, h1, h2, h3⟩ := step k ds[k] env (by simp [hlt]) hI
      rw [List.drop_eq_getElem_cons hlt]
      simp only [forL, h1, h2]
      exact ih (k + 1) e1 (by omega) h3
  simpa using go ds.length 0 env (by omega) h0
theorem Zbi {i:Nat}{e:Ex}{env:Env}(F:D→D):∀ (ds:List D),(∀ d ∈ ds,e (env.set i (.sh d))=some (F d))→Z7 i Jm e env ds=some (ds.map F)
 | [],_=>rfl
 | d::ds,h=>by
  simp only [Z7,Jm,h d List.mem_cons_self,Zbi F ds fun d' hd'=>h d' (List.mem_cons_of_mem _ hd'),List.map_cons]
theorem Zef {i:Nat}{c:Tx}{e:Ex}{env:Env}(p:D→Bool)(F:D→D):∀ (ds:List D),(∀ d ∈ ds,c (env.set i (.sh d))=some (p d))→(∀ d ∈ ds,p d=true→e (env.set i (.sh d))=some (F d)) →
  Z7 i c e env ds=some ((ds.filter p).map F)
 | [],_,_=>rfl
 | d::ds,h,k=>by
  have ih:=Zef p F ds (fun d' hd'=>h d' (List.mem_cons_of_mem _ hd')) (fun d' hd'=>k d' (List.mem_cons_of_mem _ hd'))
  cases hp:p d with
  | true=>simp only [Z7,h d List.mem_cons_self,hp,k d List.mem_cons_self hp,ih,List.filter_cons_of_pos,List.map_cons]
  | false=>simp [Z7,h d List.mem_cons_self,hp,ih]
theorem Zfz {p:D→Bool}:∀ ds:List D,allB (ds.map fun d=>.bl (p d))=some (ds.all p)
 | []=>rfl
 | d::ds=>by simp only [List.map_cons,allB,Zfz ds,List.all_cons]
theorem Zm (lo:Int)(n:Nat):(Yg lo n).length=n:=by simp [Yg]
theorem Yo {n:Nat}{d:D}(h:d ∈ Yg 0 n):∃ k:Nat,k < n∧d=.int k:=by
 simp only [Yg,List.mem_map,List.mem_range] at h
 obtain ⟨k,hk,rfl⟩:=h
 exact ⟨k,hk,by simp⟩
theorem JF {lo:Int}{n k:Nat}(h:k < n):(Yg lo n)[k]?=some (.int (lo + k)):=by simp [Yg,h]
theorem Jp:lim=100000:=rfl
theorem JT {e:Ex}{env:Env}{n:Nat}(h:e env=some (.int n))(hn:n≤1000):iRng e env=some (Yg 0 n):=by
 unfold iRng
 simp only [h]
 rw [if_pos ⟨by rw [Jp];omega,by rw [Jp];omega⟩]
 simp
noncomputable def rowD (r:List Int):D:=.lst (r.map .int)
noncomputable def tabD (T:List (List Int)):D:=.lst (T.map rowD)
structure Tab (T:List (List Int))(n:Nat):Prop where
 len:T.length=n
 row:∀ r ∈ T,r.length=n
 ent:∀ r ∈ T,∀ x ∈ r,0≤x∧x < n
 pos:1≤n
 top:n≤12
noncomputable def tg (T:List (List Int)) (a b:Int):Int:=(T.getD a.toNat []).getD b.toNat 0
theorem ZjA {xs:List D}{j:Nat}{d:D}(h:xs[j]?=some d):atD xs (j:Int)=some d:=by
 have hj:j < xs.length:=(List.getElem?_eq_some_iff.mp h).1
 unfold atD ixN
 rw [if_pos (by omega),if_pos (by omega)]
 simpa using h
theorem ZeP {r:List Int}{b:Int}(h0:0≤b)(h1:b < r.length):fIx (rowD r) (.int b)=some (.int (r.getD b.toNat 0)):=by
 obtain ⟨k,rfl⟩:=Int.eq_ofNat_of_zero_le h0
 have hk:k < r.length:=by omega
 show atD _ _=_
 rw [ZjA (d:=.int (r.getD k 0))]
 ·simp
 ·simp [hk,List.getD]
theorem Zjd {T:List (List Int)}{a:Int}(h0:0≤a)(h1:a < T.length):fIx (tabD T) (.int a)=some (rowD (T.getD a.toNat [])):=by
 obtain ⟨k,rfl⟩:=Int.eq_ofNat_of_zero_le h0
 have hk:k < T.length:=by omega
 show atD _ _=_
 rw [ZjA (d:=rowD (T.getD k []))]
 ·simp
 ·simp [hk,List.getD]
theorem Tab.Zc6 {T:List (List Int)}{n:Nat}(h:Tab T n){a:Int}(h0:0≤a)(h1:a < n):(T.getD a.toNat []).length=n:=by
 have hk:a.toNat < T.length:=by have:=h.len;omega
 rw [List.getD_eq_getElem?_getD,List.getElem?_eq_getElem hk]
 exact h.row _ (List.getElem_mem hk)
theorem Tab.bound {T:List (List Int)}{n:Nat}(h:Tab T n){a b:Int}(h0:0≤a)(h1:a < n)(h2:0≤b)(h3:b < n):0≤tg T a b∧tg T a b < n:=by
 have hk:a.toNat < T.length:=by have:=h.len;omega
 have hl:=h.Zc6 h0 h1
 have hb:b.toNat < (T.getD a.toNat []).length:=by omega
 unfold tg
 rw [List.getD_eq_getElem?_getD (l:=T.getD a.toNat []),List.getElem?_eq_getElem hb]
 refine h.ent _ ?_ _ (List.getElem_mem hb)
 rw [List.getD_eq_getElem?_getD,List.getElem?_eq_getElem hk]
 exact List.getElem_mem hk
theorem ix2 {T:List (List Int)}{n:Nat}(h:Tab T n){env:Env}{e0 e1 e2:Ex}{a b:Int}(k0:e0 env=some (tabD T))(k1:e1 env=some (.int a))(k2:e2 env=some (.int b))
  (h0:0≤a) (h1:a < n) (h2:0≤b) (h3:b < n):eIx (eIx e0 e1) e2 env=some (.int (tg T a b)):=by
 have hl:=h.Zc6 h0 h1
 unfold eIx eF2
 simp only [k0,k1,k2,Zjd h0 (show a < T.length by rw [h.len];exact h1)]
 rw [ZeP h2 (by rw [hl];exact h3)]
 rfl
theorem ZdH (T:List (List Int)):fLen (tabD T)=some (.int T.length):=by simp [tabD,fLen]
theorem ZfD (r:List Int):fLen (rowD r)=some (.int r.length):=by simp [rowD,fLen]
mutual
theorem Zdv:∀ d:D,eqD d d=true
 | .non=>by simp [eqD]
 | .bl _=>by simp [eqD]
 | .int _=>by simp [eqD]
 | .str _=>by simp [eqD]
 | .lst xs=>by simp only [eqD];exact Zd6 xs
 | .tup xs=>by simp only [eqD];exact Zd6 xs
 | .dct xs=>by simp [eqD]
theorem Zd6:∀ ds:List D,eqDs ds ds=true
 | []=>by simp [eqDs]
 | d::ds=>by simp only [eqDs,Zdv d,Zd6 ds,Bool.and_self]
end
theorem ZeB:∀ xs:List Int,D.deps (xs.map .int)=0
 | []=>by simp [D.deps]
 | x::xs=>by simp [D.deps,D.dep,ZeB xs]
theorem Zdh (r:List Int):(rowD r).dep=1:=by simp [rowD,D.dep,ZeB]
theorem Zer:∀ T:List (List Int),D.deps (T.map rowD)≤1
 | []=>by simp [D.deps]
 | r::T=>by simp only [List.map_cons,D.deps,Zdh];have:=Zer T;omega
theorem ZgK (T:List (List Int)):(tabD T).dep≤2:=by have:=Zer T;simp only [tabD,D.dep];omega
theorem Zcn {a b:Ex}{env:Env}{i j:Int}(h1:a env=some (.int i))(h2:b env=some (.int j)):tEq a b env=some (i == j):=by
 simp [tEq,h1,h2,D.dep,eqD]
theorem Zgw {a b:Ex}{env:Env}{i j:Int}(h1:a env=some (.int i))(h2:b env=some (.int j)):tNe a b env=some (!(i == j)):=by
 simp [tNe,h1,h2,D.dep,eqD]
theorem Znw {σ:List Int}{v:Int}(h:σ.Nodup):(addv σ v).Nodup:=by
 unfold addv
 split
 ·exact h
 ·rename_i hv
  rw [List.nodup_append]
  exact ⟨h,by simp,fun a ha b hb=>by simp at hb;subst hb;rintro rfl;exact hv ha⟩
theorem Zmc {σ:List Int}{v x:Int}:x ∈ addv σ v↔x ∈ σ∨x=v:=by
 unfold addv
 split
 ·rename_i hv
  exact ⟨.inl,fun h=>h.elim id fun e=>e ▸ hv⟩
 ·simp
theorem ZgD:∀ (vs σ:List Int),σ.Nodup→(vs.foldl addv σ).Nodup∧∀ x,x ∈ vs.foldl addv σ↔x ∈ σ∨x ∈ vs
 | [],σ,h=>⟨h,fun x=>by simp⟩
 | v::vs,σ,h=>by
  have ih:=ZgD vs (addv σ v) (Znw h)
  refine ⟨ih.1,fun x=>?_⟩
  rw [List.foldl_cons,ih.2 x,Zmc,List.mem_cons,or_assoc]
theorem Zjb (vs:List Int):(seen vs).Nodup:=(ZgD vs [] List.nodup_nil).1
theorem ZhP {vs:List Int}{x:Int}:x ∈ seen vs↔x ∈ vs:=by
 have:=(ZgD vs [] List.nodup_nil).2 x
 unfold seen
 rw [this];simp
theorem ZkV (vs:List Int)(v:Int):seen (vs++[v])=addv (seen vs) v:=by simp [seen]
theorem Zl9 (σ:List Int)(v:Int):(addv σ v).length≤σ.length + 1:=by unfold addv;split <;> simp
theorem Zmw (vs:List Int):(seen vs).length≤vs.length:=by
 have go:∀ (vs σ:List Int),(vs.foldl addv σ).length≤σ.length + vs.length:=by
  intro vs
  induction vs with
  | nil=>intro σ;simp
  | cons v vs ih=>intro σ;have:=ih (addv σ v);have:=Zl9 σ v;simp only [List.foldl_cons,List.length_cons];omega
 simpa [seen] using go vs []
theorem Zcy (x:Int):∀ ys:List Int,(ins1 x ys).Perm (x::ys)
 | []=>.refl _
 | y::ys=>by
  unfold ins1
  split
  ·exact .refl _
  ·exact ((Zcy x ys).cons y).trans (.swap x y ys)
theorem Yu:∀ xs:List Int,(srt xs).Perm xs
 | []=>.refl _
 | x::xs=>(Zcy x (srt xs)).trans ((Yu xs).cons x)
theorem ZfN (x:Int):∀ ys:List Int,ys.Pairwise (·≤·)→(ins1 x ys).Pairwise (·≤·)
 | [],_=>by simp [ins1]
 | y::ys,h=>by
  rw [List.pairwise_cons] at h
  unfold ins1
  split
  ·rename_i hxy
   rw [List.pairwise_cons]
   refine ⟨fun z hz=>?_,List.pairwise_cons.mpr h⟩
   rcases List.mem_cons.mp hz with rfl | hz
   ·exact hxy
   ·have:=h.1 z hz;omega
  ·rename_i hxy
   rw [List.pairwise_cons]
   refine ⟨fun z hz=>?_,ZfN x ys h.2⟩
   rcases List.mem_cons.mp ((Zcy x ys).mem_iff.mp hz) with rfl | hz
   ·omega
   ·exact h.1 z hz
theorem ZcG:∀ xs:List Int,(srt xs).Pairwise (·≤·)
 | []=>List.Pairwise.nil
 | x::xs=>ZfN x _ (ZcG xs)
theorem Zie {a b:List Int}(p:a.Perm b)(ha:a.Pairwise (·≤·)):a=srt b :=
 (p.trans (Yu b).symm).eq_of_pairwise (fun x y _ _ h1 h2=>Int.le_antisymm h1 h2) ha (ZcG b)
theorem Zai {l:List Int}{x:Int}:x ∈ srt (seen l)↔x ∈ l:=by rw [(Yu _).mem_iff,ZhP]
theorem ZcZ {l:List Int}(h:l.Pairwise (·≤·))(hn:l.Nodup):l.Pairwise (· < ·) :=
 (h.and hn).imp fun {a b} hab=>by obtain ⟨h1,h2⟩:=hab;omega
theorem ZiS (l:List Int):(srt (seen l)).Pairwise (· < ·):=ZcZ (ZcG _) ((Yu _).nodup_iff.mpr (Zjb l))
theorem ZaP {a b:List Int}(ha:a.Pairwise (· < ·))(hb:b.Pairwise (· < ·))(h:∀ x,x ∈ a↔x ∈ b):a=b:=by
 have na:a.Nodup:=ha.imp fun {x y} h e=>by omega
 have nb:b.Nodup:=hb.imp fun {x y} h e=>by omega
 exact ((List.perm_ext_iff_of_nodup na nb).mpr h).eq_of_pairwise (fun x y _ _ h1 h2=>by omega) ha hb
theorem ints_map (r:List Int):Jv (r.map .int)=some r:=by
 induction r with
 | nil=>rfl
 | cons x r ih=>simp [Jv,ih]
theorem Zgu:∀ x:List Int,ltL x x=false
 | []=>rfl
 | a::x=>by simp [ltL,Zgu x]
theorem ZiE:∀ {x y z:List Int},ltL x y=true→ltL y z=true→ltL x z=true
 | [],[],z,h,_=>by simp [ltL] at h
 | [],b::y,[],_,h=>by simp [ltL] at h
 | [],b::y,c::z,_,_=>by simp [ltL]
 | a::x,[],z,h,_=>by simp [ltL] at h
 | a::x,b::y,[],_,h=>by simp [ltL] at h
 | a::x,b::y,c::z,h,k=>by
  simp only [ltL] at h k ⊢
  by_cases e1:a=b
  ·subst e1
   rw [if_pos rfl] at h
   by_cases e2:a=c
   ·subst e2
    rw [if_pos rfl] at k ⊢
    exact ZiE h k
   ·rw [if_neg e2] at k ⊢;exact k
  ·rw [if_neg e1] at h
   have h':=of_decide_eq_true h
   by_cases e2:b=c
   ·subst e2
    rw [if_neg e1];exact h
   ·rw [if_neg e2] at k
    have k':=of_decide_eq_true k
    rw [if_neg (by omega)]
    exact decide_eq_true (by omega)
theorem ZeI:∀ x y:List Int,ltL x y=false→ltL y x=false→x=y
 | [],[],_,_=>rfl
 | [],b::y,h,_=>by simp [ltL] at h
 | a::x,[],_,h=>by simp [ltL] at h
 | a::x,b::y,h,k=>by
  simp only [ltL] at h k
  by_cases e:a=b
  ·subst e
   rw [if_pos rfl] at h k
   rw [ZeI x y h k]
  ·rw [if_neg e] at h
   rw [if_neg (fun q=>e q.symm)] at k
   have h':=of_decide_eq_false h
   have k':=of_decide_eq_false k
   omega
noncomputable def leL (x y:List Int):Prop:=ltL y x=false
theorem leL.refl (x:List Int):leL x x:=Zgu x
theorem leL.of {x y:List Int}(h:ltL x y=true):leL x y:=by
 unfold leL
 cases k:ltL y x with
 | false=>rfl
 | true=>have:=ZiE h k;rw [Zgu] at this;cases this
theorem leL.trans {x y z:List Int}(h:leL x y)(k:leL y z):leL x z:=by
 unfold leL at *
 cases q:ltL z x with
 | false=>rfl
 | true =>
  cases e:ltL x y with
  | true=>have:=ZiE q e;rw [k] at this;cases this
  | false=>rw [ZeI x y e h] at q;rw [k] at q;cases q
theorem leL.anti {x y:List Int}(h:leL x y)(k:leL y x):x=y:=ZeI x y k h
theorem Zed {α:Type}(key:α→List Int)(x:α):∀ ys:List α,(insB key x ys).Perm (x::ys)
 | []=>.refl _
 | y::ys=>by
  unfold insB
  split
  ·exact ((Zed key x ys).cons y).trans (.swap x y ys)
  ·exact .refl _
theorem ZR {α:Type}(key:α→List Int):∀ xs:List α,(srtB key xs).Perm xs
 | []=>.refl _
 | x::xs=>(Zed key x _).trans ((ZR key xs).cons x)
theorem Zjw {α:Type}(key:α→List Int)(x:α):∀ ys:List α,ys.Pairwise (fun a b=>leL (key a) (key b))→(insB key x ys).Pairwise (fun a b=>leL (key a) (key b))
 | [],_=>by simp [insB]
 | y::ys,h=>by
  rw [List.pairwise_cons] at h
  unfold insB
  split
  ·rename_i hl
   rw [List.pairwise_cons]
   refine ⟨fun z hz=>?_,Zjw key x ys h.2⟩
   rcases List.mem_cons.mp ((Zed key x ys).mem_iff.mp hz) with rfl | hz
   ·exact leL.of hl
   ·exact h.1 z hz
  ·rename_i hl
   have hl':leL (key x) (key y):=by unfold leL;simpa using hl
   rw [List.pairwise_cons]
   refine ⟨fun z hz=>?_,List.pairwise_cons.mpr h⟩
   rcases List.mem_cons.mp hz with rfl | hz
   ·exact hl'
   ·exact hl'.trans (h.1 z hz)
theorem ZeO {α:Type}(key:α→List Int):∀ xs:List α,(srtB key xs).Pairwise (fun a b=>leL (key a) (key b))
 | []=>List.Pairwise.nil
 | x::xs=>Zjw key x _ (ZeO key xs)
theorem Zoh {xs:List (List Int)}(h:xs.Pairwise leL):srtB (fun r=>r) xs=xs :=
 (ZR _ xs).eq_of_pairwise (fun x y _ _ h1 h2=>leL.anti h1 h2) (ZeO (fun r=>r) xs) h
end PV
set_option linter.all false
set_option Elab.async false
set_option maxHeartbeats 1000000
namespace PV
open PySem (Str)
noncomputable def ev (e:Ex) (env:Env) (P:D→Prop):Prop:=∃ d,e env=some d∧P d
noncomputable def evI (e:Ex) (env:Env) (P:Int→Prop):Prop:=∃ i,e env=some (.int i)∧P i
noncomputable def evR (e:Ex) (env:Env) (P:List Int→Prop):Prop:=∃ r,e env=some (rowD r)∧P r
noncomputable def evT (e:Ex) (env:Env) (P:List (List Int)→Prop):Prop:=∃ T,e env=some (tabD T)∧P T
noncomputable def tv (t:Tx) (env:Env) (P:Bool→Prop):Prop:=∃ k,t env=some k∧P k
noncomputable def wp (s:St) (env:Env) (Q:Out→Env→Prop):Prop:=∃ o e,s env=some (o,e)∧Q o e
theorem ev.mono {e:Ex}{env:Env}{P P':D→Prop}(h:ev e env P)(k:∀ d,P d→P' d):ev e env P':=let ⟨d,a,b⟩:=h;⟨d,a,k d b⟩
theorem wp.mono {s:St}{env:Env}{Q Q':Out→Env→Prop}(h:wp s env Q)(k:∀ o e,Q o e→Q' o e):wp s env Q':=let ⟨o,e,a,b⟩:=h;⟨o,e,a,k o e b⟩
theorem tv.mono {t:Tx}{env:Env}{P P':Bool→Prop}(h:tv t env P)(k:∀ d,P d→P' d):tv t env P':=let ⟨d,a,b⟩:=h;⟨d,a,k d b⟩
theorem evI.ev {e:Ex}{env:Env}{P:D→Prop}(h:evI e env fun i=>P (.int i)):ev e env P:=let ⟨i,a,b⟩:=h;⟨_,a,b⟩
theorem evR.ev {e:Ex}{env:Env}{P:D→Prop}(h:evR e env fun r=>P (rowD r)):ev e env P:=let ⟨i,a,b⟩:=h;⟨_,a,b⟩
theorem evT.ev {e:Ex}{env:Env}{P:D→Prop}(h:evT e env fun r=>P (tabD r)):ev e env P:=let ⟨i,a,b⟩:=h;⟨_,a,b⟩
theorem ev.eq {e:Ex}{env:Env}{d:D}(h:ev e env (·=d)):e env=some d:=let ⟨x,a,b⟩:=h;b ▸ a
theorem evI.eq {e:Ex}{env:Env}{i:Int}(h:evI e env (·=i)):e env=some (.int i):=let ⟨x,a,b⟩:=h;b ▸ a
theorem tv.eq {e:Tx}{env:Env}{d:Bool}(h:tv e env (·=d)):e env=some d:=let ⟨x,a,b⟩:=h;b ▸ a
theorem Jl {e:Ex}{env:Env}{d:D}{P:D→Prop}(h:e env=some d)(k:P d):ev e env P:=⟨d,h,k⟩
theorem Jj {e:Ex}{env:Env}{d:Int}{P:Int→Prop}(h:e env=some (.int d))(k:P d):evI e env P:=⟨d,h,k⟩
theorem Zu {e:Ex}{env:Env}{d:List Int}{P:List Int→Prop}(h:e env=some (rowD d))(k:P d):evR e env P:=⟨d,h,k⟩
theorem Z8 {e:Ex}{env:Env}{d:List (List Int)}{P:List (List Int)→Prop}(h:e env=some (tabD d))(k:P d):evT e env P:=⟨d,h,k⟩
theorem ZcW {e:Tx}{env:Env}{d:Bool}{P:Bool→Prop}(h:e env=some d)(k:P d):tv e env P:=⟨d,h,k⟩
theorem Zma {a b:Ex}{env:Env}{P:Int→Prop}(h:evI a env fun i=>evI b env fun j=>P (i + j)):evI (eAdd a b) env P:=by
 obtain ⟨i,h1,j,h2,p⟩:=h;exact ⟨_,by simp [eAdd,eF2,h1,h2,fAdd],p⟩
theorem ZnO {a b:Ex}{env:Env}{P:Int→Prop}(h:evI a env fun i=>evI b env fun j=>P (i - j)):evI (e2I iSub a b) env P:=by
 obtain ⟨i,h1,j,h2,p⟩:=h;exact ⟨_,by simp [e2I,h1,h2,iSub],p⟩
theorem Zjm {a b:Ex}{env:Env}{P:Int→Prop}(h:evI a env fun i=>evI b env fun j=>0 < j∧P (i % j)):evI (e2I iMod a b) env P:=by
 obtain ⟨i,h1,j,h2,q,p⟩:=h;exact ⟨_,by simp only [e2I,h1,h2,iMod,if_pos q],p⟩
theorem Zfv {a:Ex}{env:Env}{P:Int→Prop}(h:evT a env fun T=>P T.length):evI (eF1 fLen a) env P:=by
 obtain ⟨T,h1,p⟩:=h;exact ⟨_,by simp [eF1,h1,ZdH],p⟩
theorem Zit {a:Ex}{env:Env}{P:Int→Prop}(h:evR a env fun T=>P T.length):evI (eF1 fLen a) env P:=by
 obtain ⟨T,h1,p⟩:=h;exact ⟨_,by simp [eF1,h1,ZfD],p⟩
theorem Zbl {e0 e1 e2:Ex}{env:Env}{P:Int→Prop}{T:List (List Int)}{n:Nat}(hT:Tab T n)(h0:e0 env=some (tabD T))(h:evI e1 env fun a=>evI e2 env fun b=>(0≤a∧a < n)∧(0≤b∧b < n)∧P (tg T a b)):evI (eIx (eIx e0 e1) e2) env P:=by
 obtain ⟨a,h1,b,h2,⟨a0,a1⟩,⟨b0,b1⟩,p⟩:=h;exact ⟨_,ix2 hT h0 h1 h2 a0 a1 b0 b1,p⟩
theorem Zdk {e0 e1:Ex}{env:Env}{P:Int→Prop}(h:evR e0 env fun r=>evI e1 env fun b=>(0≤b∧b < r.length)∧P (r.getD b.toNat 0)):evI (eIx e0 e1) env P:=by
 obtain ⟨r,h0,b,h1,⟨b0,b1⟩,p⟩:=h;exact ⟨_,by simp only [eIx,eF2,h0,h1,ZeP b0 b1],p⟩
theorem Zgp {e0 e1:Ex}{env:Env}{P:List Int→Prop}(h:evT e0 env fun r=>evI e1 env fun b=>(0≤b∧b < r.length)∧P (r.getD b.toNat [])):evR (eIx e0 e1) env P:=by
 obtain ⟨r,h0,b,h1,⟨b0,b1⟩,p⟩:=h;exact ⟨_,by simp only [eIx,eF2,h0,h1,Zjd b0 b1],p⟩
theorem ZnV {a b:Ex}{env:Env}{P:D→Prop}(h:ev a env fun x=>ev b env fun y=>P (.lst [x,y])):ev (eLst [a,b]) env P:=by
 obtain ⟨x,h1,y,h2,p⟩:=h;exact ⟨_,by simp [eLst,evs,h1,h2],p⟩
theorem ZfE {a:Ex}{env:Env}{P:List Int→Prop}(h:evI a env fun x=>P [x]):evR (eLst [a]) env P:=by
 obtain ⟨x,h1,p⟩:=h;exact ⟨_,by simp [eLst,evs,h1,rowD],p⟩
theorem ev_B {t:Tx}{env:Env}{P:D→Prop}(h:tv t env fun k=>P (.bl k)):ev (eB t) env P:=by
 obtain ⟨k,h1,p⟩:=h;exact ⟨_,by simp only [eB,h1],p⟩
theorem ZmW {a:Ex}{env:Env}{P:D→Prop}(h:evR a env fun r=>P (rowD r)):ev (eF1 ZaH a) env P:=by
 obtain ⟨r,h1,p⟩:=h;exact ⟨_,by simp only [eF1,h1];rfl,p⟩
theorem ZkF {a:Ex}{env:Env}{P:List Int→Prop}(h:evR a env fun r=>P r):evR (eF1 ZaH a) env P:=by
 obtain ⟨r,h1,p⟩:=h;exact ⟨_,by simp only [eF1,h1];rfl,p⟩
theorem ZpN {a b:Ex}{env:Env}{P:Bool→Prop}(h:evI a env fun i=>evI b env fun j=>P (decide (i < j))):tv (t2I pLt a b) env P:=by
 obtain ⟨i,h1,j,h2,p⟩:=h;exact ⟨_,by simp [t2I,h1,h2,pLt],p⟩
theorem Zii {a b:Ex}{env:Env}{P:Bool→Prop}(h:evI a env fun i=>evI b env fun j=>P (decide (i=j))):tv (tEq a b) env P:=by
 obtain ⟨i,h1,j,h2,p⟩:=h;exact ⟨_,(Zcn h1 h2).trans (by congr 1),p⟩
theorem Zoy {a b:Ex}{env:Env}{P:Bool→Prop}(h:evI a env fun i=>evI b env fun j=>P (decide (i≠j))):tv (tNe a b) env P:=by
 obtain ⟨i,h1,j,h2,p⟩:=h
 exact ⟨_,(Zgw h1 h2).trans (by congr 1;by_cases e:i=j <;> simp [e]),p⟩
theorem ZhI:∀ (r q:List Int),eqDs (r.map .int) (q.map .int)=decide (r=q)
 | [],[]=>by simp [eqDs]
 | [],_::_=>by simp [eqDs]
 | _::_,[]=>by simp [eqDs]
 | x::r,y::q=>by
  simp only [List.map_cons,eqDs,eqD,ZhI r q]
  by_cases h1:x=y <;> by_cases h2:r=q <;> simp [h1,h2]
theorem ZeY (r q:List Int):eqD (rowD r) (rowD q)=decide (r=q):=by simp only [rowD,eqD,ZhI]
theorem ZgU:∀ (r q:List (List Int)),eqDs (r.map rowD) (q.map rowD)=decide (r=q)
 | [],[]=>by simp [eqDs]
 | [],_::_=>by simp [eqDs]
 | _::_,[]=>by simp [eqDs]
 | x::r,y::q=>by
  simp only [List.map_cons,eqDs,ZeY,ZgU r q]
  by_cases h1:x=y <;> by_cases h2:r=q <;> simp [h1,h2]
theorem Zos (r q:List (List Int)):eqD (tabD r) (tabD q)=decide (r=q):=by simp only [tabD,eqD,ZgU]
theorem ZkD {a b:Ex}{env:Env}{P:Bool→Prop}(h:evR a env fun i=>evR b env fun j=>P (decide (i=j))):tv (tEq a b) env P:=by
 obtain ⟨i,h1,j,h2,p⟩:=h;exact ⟨_,by simp [tEq,h1,h2,Zdh,ZeY],p⟩
theorem Zim {a b:Ex}{env:Env}{P:Bool→Prop}(h:evR a env fun i=>evR b env fun j=>P (decide (i≠j))):tv (tNe a b) env P:=by
 obtain ⟨i,h1,j,h2,p⟩:=h;exact ⟨_,by simp [tNe,h1,h2,Zdh,ZeY],p⟩
theorem Zli {a b:Ex}{env:Env}{P:Bool→Prop}(h:evT a env fun i=>evT b env fun j=>P (decide (i≠j))):tv (tNe a b) env P:=by
 obtain ⟨i,h1,j,h2,p⟩:=h
 exact ⟨_,by have:=ZgK i;have:=ZgK j;simp only [tNe,h1,h2,Zos];rw [if_pos (by omega)];simp,p⟩
theorem Zjf (x:Int):∀ r:List Int,inD (.int x) (r.map .int)=decide (x ∈ r)
 | []=>by simp [inD]
 | y::r=>by
  have ih:=Zjf x r
  simp only [inD] at ih ⊢
  simp only [List.map_cons,List.any_cons,ih,eqD]
  by_cases h1:x=y
  ·simp [h1]
  ·have:¬ y=x:=fun e=>h1 e.symm
   simp [h1,this]
theorem Zjt (x:List Int):∀ r:List (List Int),inD (rowD x) (r.map rowD)=decide (x ∈ r)
 | []=>by simp [inD]
 | y::r=>by
  have ih:=Zjt x r
  simp only [inD] at ih ⊢
  simp only [List.map_cons,List.any_cons,ih,ZeY]
  by_cases h1:x=y
  ·simp [h1]
  ·have:¬ y=x:=fun e=>h1 e.symm
   simp [h1,this]
theorem Zpc {a b:Ex}{env:Env}{P:Bool→Prop}(h:evI a env fun i=>evR b env fun r=>P (decide (i ∉ r))):tv (tNi a b) env P:=by
 obtain ⟨i,h1,j,h2,p⟩:=h
 exact ⟨_,by simp [tNi,tIn,h1,h2,rowD,ZeB,Zjf,D.dep],p⟩
theorem Zpd {a b:Ex}{env:Env}{P:Bool→Prop}(h:evR a env fun i=>evT b env fun r=>P (decide (i ∉ r))):tv (tNi a b) env P:=by
 obtain ⟨i,h1,j,h2,p⟩:=h
 exact ⟨_,by have:=Zer j;have:=Zdh i;simp only [tNi,tIn,h1,h2,tabD,Zjt];rw [if_pos (by omega)];simp,p⟩
theorem ZbH {a:Tx}{env:Env}{P:Bool→Prop}(h:tv a env fun d=>P (!d)):tv (tNot a) env P:=by
 obtain ⟨i,h1,p⟩:=h;exact ⟨_,by simp only [tNot,h1],p⟩
theorem ZfL {a b:Tx}{env:Env}{P:Bool→Prop}(h:tv a env fun d=>(d=true→P true)∧(d=false→tv b env P)):tv (tOr a b) env P:=by
 obtain ⟨i,h1,p,q⟩:=h
 cases i with
 | false=>obtain ⟨j,h2,p⟩:=q rfl;exact ⟨j,by simp only [tOr,h1,h2],p⟩
 | true=>exact ⟨true,by simp only [tOr,h1],p rfl⟩
theorem tv_B {a:Ex}{env:Env}{P:Bool→Prop}(h:ev a env fun d=>∃ k,d=.bl k∧P k):tv (tB a) env P:=by
 obtain ⟨_,h1,k,rfl,p⟩:=h;exact ⟨_,by simp only [tB,h1],p⟩
theorem Zcm {env:Env}{Q:Out→Env→Prop}(h:Q .nx env):wp Zk env Q:=⟨_,_,rfl,h⟩
theorem ZG {i:Nat}{e:Ex}{env:Env}{Q:Out→Env→Prop}(h:ev e env fun d=>Q .nx (env.set i (.sh d))):wp (sSet i e) env Q:=by
 obtain ⟨d,h1,p⟩:=h;exact ⟨_,_,by simp only [sSet,h1],p⟩
theorem Zc5 {i:Nat}{e:Ex}{env:Env}{Q:Out→Env→Prop}(h:ev e env fun d=>Q .nx (env.set i (.fr d))):wp (Zcg i e) env Q:=by
 obtain ⟨d,h1,p⟩:=h;exact ⟨_,_,by simp only [Zcg,h1],p⟩
theorem Zo4 {i:Nat}{e:Ex}{env:Env}{Q:Out→Env→Prop}(h:ev e env fun d=>∃ ds,d=.lst ds∧Q .nx (env.set i (.ow ds))):wp (sOwn i e) env Q:=by
 obtain ⟨_,h1,ds,rfl,p⟩:=h;exact ⟨_,_,by simp only [sOwn,h1],p⟩
theorem ZoZ {i:Nat}{e:Ex}{env:Env}{Q:Out→Env→Prop}{ds:List D}(hi:env[i]?=some (.ow ds))(h:ev e env fun d=>ds.length < lim∧Q .nx (env.set i (.ow (ds++[d])))):wp (sApp i e) env Q:=by
 obtain ⟨d,h1,q,p⟩:=h;exact ⟨_,_,by simp only [sApp,hi,h1,if_pos q],p⟩
theorem Zpo {i:Nat}{env:Env}{Q:Out→Env→Prop}{ds:List D}(hi:env[i]?=some (.ow ds))(h:Q .nx (env.set i (.sh (.lst ds)))):wp (sFrz i) env Q:=⟨_,_,by simp only [sFrz,hi],h⟩
theorem ZjG {i:Nat}{env:Env}{Q:Out→Env→Prop}{d:D}(hi:env[i]?=some (.sh d))(h:Q .nx env):wp (sFrz i) env Q:=⟨_,_,by simp only [sFrz,hi],h⟩
theorem Zhy {e:Ex}{env:Env}{Q:Out→Env→Prop}(h:ev e env fun _=>Q .nx env):wp (sDo e) env Q:=by
 obtain ⟨d,h1,p⟩:=h;exact ⟨_,_,by simp only [sDo,h1],p⟩
theorem JG {e:Ex}{env:Env}{Q:Out→Env→Prop}(h:ev e env fun d=>Q (.rt d) env):wp (sRet e) env Q:=by
 obtain ⟨d,h1,p⟩:=h;exact ⟨_,_,by simp only [sRet,h1],p⟩
noncomputable def thn (b:St) (Q:Out→Env→Prop):Out→Env→Prop
 | .nx,e=>wp b e Q
 | .bk,e=>Q .bk e
 | .ct,e=>Q .ct e
 | .rt d,e=>Q (.rt d) e
theorem wp_seq {a b:St}{env:Env}{Q:Out→Env→Prop}(h:wp a env (thn b Q)):wp (sSeq a b) env Q:=by
 obtain ⟨o,e,h1,p⟩:=h
 cases o with
 | nx=>obtain ⟨o,e',h2,p⟩:=p;exact ⟨o,e',by simp only [sSeq,h1,h2],p⟩
 | bk=>exact ⟨_,_,by simp only [sSeq,h1],p⟩
 | ct=>exact ⟨_,_,by simp only [sSeq,h1],p⟩
 | rt d=>exact ⟨_,_,by simp only [sSeq,h1],p⟩
theorem ZdB {c:Tx}{a b:St}{env:Env}{Q:Out→Env→Prop}(h:tv c env fun k=>(k=true→wp a env Q)∧(k=false→wp b env Q)):wp (sIf c a b) env Q:=by
 obtain ⟨k,h1,p,q⟩:=h
 cases k with
 | true=>obtain ⟨o,e,h2,p⟩:=p rfl;exact ⟨o,e,by simp only [sIf,h1,h2],p⟩
 | false=>obtain ⟨o,e,h2,p⟩:=q rfl;exact ⟨o,e,by simp only [sIf,h1,h2],p⟩
theorem Za7 {c:Tx}{a:St}{env:Env}{Q:Out→Env→Prop}(h:tv c env (·=false))(k:Q .nx env):wp (sIf c a Zk) env Q :=
 ZdB (tv.mono h fun d hd=>⟨fun e=>(by rw [hd] at e;cases e),fun _=>Zcm k⟩)
noncomputable def lps (I:Env→Prop) (Q:Out→Env→Prop):Out→Env→Prop
 | .nx,e=>I e
 | .ct,e=>I e
 | .bk,e=>Q .nx e
 | .rt d,e=>Q (.rt d) e
theorem Zd4 {g : Tg}{it : Lx}{b : St}{env : Env}{Q : Out → Env → Prop}{ds : List D}(I : Nat → Env → Prop)(hit : it env = some ds)(h0 : I 0 env)
    (step : ∀ k d e, ds[k]? = some d → I k e → ∃ e0, g d e = some e0 ∧ wp b e0 (lps (I (k + 1)) Q)) (h1 : ∀ e, I ds.length e → Q .nx e) : wp (sFor g it b) env Q := by
  have go : ∀ (m k : Nat) (env : Env), k + m = ds.length → I k env → ∃ o e, forL g b (ds.drop k) env = some (o, e) ∧ Q o e := by
    intro m
    induction m with
    | zero => intro k env hk hI; have : k = ds.length := by omega
              subst this; rw [List.drop_length]; exact ⟨_, env, rfl, h1 _ hI⟩
    | succ m ih =>
      intro k env hk hI
      have hlt : k < ds.length := by omega
      obtain ⟨e0, hg, o, e1, hb, p⟩ := step k ds[k] env (by simp [hlt]) hI
      rw [List.drop_eq_getElem_cons hlt]
      cases o with
      | nx => obtain ⟨o, e, h2, p⟩ := ih (k + 1) e1 (by omega) p; exact ⟨o, e, by simp only [forL, hg, hb, h2], p⟩
      | ct => obtain ⟨o, e, h2, p⟩ := ih (k + 1) e1 (by omega) p; exact ⟨o, e, by simp only [forL, hg, hb, h2], p⟩
      | bk => exact ⟨_, _, by simp only [forL, hg, hb], p⟩
      | rt d => exact ⟨_, _, by simp only [forL, hg, hb], p⟩
  obtain ⟨o, e, h2, p⟩ := go ds.length 0 env (by omega) h0
  exact ⟨o, e, by simp only [sFor, hit]; simpa using h2, p⟩
theorem ZeJ {i n:Nat}{it:Lx}{b:St}{env:Env}{Q:Out→Env→Prop}(I:Nat→Env→Prop)(hit:it env=some (Yg 0 n))(h0:I 0 env)
  (step:∀ (k:Nat) e,k < n→I k e→wp b (e.set i (.sh (.int k))) (lps (I (k + 1)) Q)) (h1:∀ e,I n e→Q .nx e):wp (sFor (gN i) it b) env Q:=by
 refine Zd4 I hit h0 (fun k d e hd hI=>?_) (fun e hI=>h1 e (by rwa [Zm] at hI))
 have hk:k < n:=by have:=(List.getElem?_eq_some_iff.mp hd).1;rwa [Zm] at this
 rw [JF hk] at hd
 injection hd with hd
 subst hd
 refine ⟨_,rfl,?_⟩
 have:=step k e hk hI
 rwa [show (0:Int) + (k:Nat)=k by omega]
theorem ZaR {i:Nat}{it:Lx}{r:List Int}{b:St}{env:Env}{Q:Out→Env→Prop}(I:Nat→Env→Prop)(hit:it env=some (r.map .int))(h0:I 0 env)
  (step:∀ (k:Nat) e x,r[k]?=some x→I k e→wp b (e.set i (.sh (.int x))) (lps (I (k + 1)) Q)) (h1:∀ e,I r.length e→Q .nx e):wp (sFor (gN i) it b) env Q:=by
 refine Zd4 I hit h0 (fun k d e hd hI=>?_) (fun e hI=>h1 e (by rwa [List.length_map] at hI))
 rw [List.getElem?_map,Option.map_eq_some_iff] at hd
 obtain ⟨x,hx,rfl⟩:=hd
 exact ⟨_,rfl,step k e x hx hI⟩
theorem ZlP {i:Nat}{it:Lx}{r:List (List Int)}{b:St}{env:Env}{Q:Out→Env→Prop}(I:Nat→Env→Prop)(hit:it env=some (r.map rowD))(h0:I 0 env)
  (step:∀ (k:Nat) e x,r[k]?=some x→I k e→wp b (e.set i (.sh (rowD x))) (lps (I (k + 1)) Q)) (h1:∀ e,I r.length e→Q .nx e):wp (sFor (gN i) it b) env Q:=by
 refine Zd4 I hit h0 (fun k d e hd hI=>?_) (fun e hI=>h1 e (by rwa [List.length_map] at hI))
 rw [List.getElem?_map,Option.map_eq_some_iff] at hd
 obtain ⟨x,hx,rfl⟩:=hd
 exact ⟨_,rfl,step k e x hx hI⟩
theorem Zmi {c:Tx}{b:St}{env:Env}{Q:Out→Env→Prop}{m N:Nat}(I:Nat→Env→Prop)(hN:N < m)(h0:I 0 env)
  (step:∀ k e,I k e→tv c e fun t=>(t=true→k < N∧wp b e (lps (I (k + 1)) Q))∧(t=false→Q .nx e)):wp (Z5 c b m) env Q:=by
 have go:∀ (m k:Nat) (env:Env),N < k + m→k≤N→I k env→∃ o e,Z5 c b m env=some (o,e)∧Q o e:=by
  intro m
  induction m with
  | zero=>intro k env h1 h2;omega
  | succ m ih =>
   intro k env h1 h2 hI
   obtain ⟨t,ht,p,q⟩:=step k env hI
   cases t with
   | false=>exact ⟨_,_,by simp only [Z5,ht],q rfl⟩
   | true =>
    obtain ⟨hk,o,e1,hb,p⟩:=p rfl
    cases o with
    | nx=>obtain ⟨o,e,h3,p⟩:=ih (k + 1) e1 (by omega) (by omega) p;exact ⟨o,e,by simp only [Z5,ht,hb,h3],p⟩
    | ct=>obtain ⟨o,e,h3,p⟩:=ih (k + 1) e1 (by omega) (by omega) p;exact ⟨o,e,by simp only [Z5,ht,hb,h3],p⟩
    | bk=>exact ⟨_,_,by simp only [Z5,ht,hb],p⟩
    | rt d=>exact ⟨_,_,by simp only [Z5,ht,hb],p⟩
 exact go m 0 env (by omega) (by omega) h0
noncomputable def ends (d:D):Out→Env→Prop
 | .rt x,_=>x=d
 | .nx,_=>d=.non
 | _,_=>False
theorem Y7 {p n:Nat}{g:St}{ds:List D}{d:D}(hp:ds.length=p)(h:wp g (enter n ds) (ends d)):run p n g ds=some d:=by
 obtain ⟨o,e,h1,q⟩:=h
 cases o with
 | rt x=>have:x=d:=q;subst this;exact Jt hp h1
 | nx=>have:d=.non:=q;subst this;exact ZiB hp h1
 | bk=>cases q
 | ct=>cases q
theorem Zcv {i:Nat}{it:Lx}{c:Tx}{e:Ex}{env:Env}{P:D→Prop}{ds:List D}(p:D→Bool)(F:D→D)(hit:it env=some ds)(hl:ds.length≤lim)
  (hc:∀ d ∈ ds,tv c (env.set i (.sh d)) (·=p d)) (he:∀ d ∈ ds,p d=true→ev e (env.set i (.sh d)) (·=F d)) (h:P (.lst ((ds.filter p).map F))):ev (Ji i it c e) env P :=
 ⟨_,by simp only [Ji,hit,if_pos hl,Zef p F ds (fun d hd=>(hc d hd).eq) fun d hd hp=>(he d hd hp).eq],h⟩
theorem Zkc {i:Nat}{it:Lx}{c:Tx}{e:Ex}{env:Env}{P:List Int→Prop}{r:List Int}(p:Int→Bool)(F:Int→Int)(hit:it env=some (r.map .int))(hl:r.length≤lim)
  (hc:∀ x ∈ r,tv c (env.set i (.sh (.int x))) (·=p x)) (he:∀ x ∈ r,p x=true→evI e (env.set i (.sh (.int x))) (·=F x)) (h:P ((r.filter p).map F)):evR (Ji i it c e) env P:=by
 have key:=Zcv (P:=(·=rowD ((r.filter p).map F))) (c:=c) (e:=e) (i:=i) (fun d=>match d with | .int x=>p x | _=>false) (fun d=>match d with | .int x=>.int (F x) | _=>.non) hit (by rw [List.length_map];exact hl)
  (fun d hd=>by obtain ⟨x,hx,rfl⟩:=List.mem_map.mp hd;exact hc x hx)
  (fun d hd hp=>by obtain ⟨x,hx,rfl⟩:=List.mem_map.mp hd;exact evI.ev (let ⟨y,h1,h2⟩:=he x hx hp;⟨y,h1,congrArg D.int h2⟩))
  (by simp [rowD,List.filter_map,Function.comp_def])
 exact ⟨_,key.eq,h⟩
theorem Zde {i:Nat}{it:Lx}{e:Ex}{env:Env}{P:List Int→Prop}{r:List Int}(F:Int→Int)(hit:it env=some (r.map .int))(hl:r.length≤lim)
  (he:∀ x ∈ r,evI e (env.set i (.sh (.int x))) (·=F x)) (h:P (r.map F)):evR (Ji i it Jm e) env P :=
 Zkc (fun _=>true) F hit hl (fun _ _=>⟨_,rfl,rfl⟩) (fun x hx _=>he x hx) (by rw [List.filter_eq_self.mpr (fun _ _=>rfl)];exact h)
noncomputable def upto (n:Nat):List Int:=(List.range n).map Int.ofNat
theorem Zkz (n:Nat):(upto n).map D.int=Yg 0 n:=by simp [upto,Yg,Function.comp_def]
theorem Jk {n:Nat}{x:Int}:x ∈ upto n↔0≤x∧x < n:=by
 simp only [upto,List.mem_map,List.mem_range]
 exact ⟨fun ⟨k,hk,e⟩=>by subst e;simp only [Int.ofNat_eq_natCast];omega,fun ⟨h0,h1⟩=>⟨x.toNat,by omega,by simp only [Int.ofNat_eq_natCast];omega⟩⟩
theorem JW (n:Nat):(upto n).length=n:=by simp [upto]
theorem Zgz (n:Nat):(upto n).Nodup:=by
 unfold upto
 exact List.Pairwise.map _ (fun a b (h:a≠b) (e:Int.ofNat a=Int.ofNat b)=>h (by simp only [Int.ofNat_eq_natCast] at e;omega)) List.nodup_range
theorem Zeu {e:Ex}{env:Env}{n:Nat}(h:e env=some (.int n))(hn:n≤1000):iRng e env=some ((upto n).map .int):=by rw [Zkz];exact JT h hn
theorem Zla {a:Ex}{env:Env}{P:List Int→Prop}(h:evI a env fun j=>∃ n:Nat,j=n∧n≤1000∧P (upto n)):evR (eF1 Y4 a) env P:=by
 obtain ⟨_,h1,n,rfl,hn,p⟩:=h
 refine ⟨_,?_,p⟩
 simp only [eF1,h1,Y4]
 rw [if_pos ⟨by rw [Jp];omega,by rw [Jp];omega⟩,← Zkz]
 simp [rowD]
theorem Ze8 {a:Ex}{env:Env}{P:List Int→Prop}(h:evR a env fun r=>r.length≤3000∧(seen r).length < 64∧P (srt (seen r))):evR (eF1 Zar a) env P:=by
 obtain ⟨r,h1,h2,h3,p⟩:=h
 refine ⟨_,?_,p⟩
 simp only [eF1,h1,rowD,Zar,ints_map]
 rw [if_pos ⟨h2,h3⟩]
theorem ZgG {a b:Ex}{env:Env}{P:List Int→Prop}(h:evR a env fun r=>evR b env fun q=>r.length + q.length≤1000∧P (r++q)):evR (eAdd a b) env P:=by
 obtain ⟨r,h1,q,h2,h3,p⟩:=h
 refine ⟨_,?_,p⟩
 simp only [eAdd,eF2,h1,h2,rowD,fAdd,List.length_map]
 rw [if_pos (by rw [Jp];omega),List.map_append]
theorem Zjg {i:Nat}{e:Ex}{env:Env}{Q:Out→Env→Prop}(h:evR e env fun r=>Q .nx (env.set i (.ow (r.map .int)))):wp (sOwn i e) env Q:=by
 obtain ⟨r,h1,p⟩:=h
 exact ⟨_,_,by simp only [sOwn,h1,rowD],p⟩
theorem Zow {i:Nat}{e:Ex}{env:Env}{Q:Out→Env→Prop}{r:List Int}(hi:env[i]?=some (.ow (r.map .int)))(h:evR e env fun q=>r.length + q.length≤1000∧Q .nx (env.set i (.ow ((r++q).map .int)))):wp (sExt i e) env Q:=by
 obtain ⟨q,h1,h2,p⟩:=h
 refine ⟨_,_,?_,p⟩
 simp only [sExt,hi,h1,rowD]
 rw [if_pos (by rw [List.length_map,List.length_map,Jp];omega),List.map_append]
theorem ZpH {e:Ex}{env:Env}{P:Int→Prop}(h:evI e env P):evI (eSc e) env P:=by
 obtain ⟨d,h1,p⟩:=h
 exact ⟨d,by simp [eSc,h1,YQ],p⟩
theorem Zat {r:List Int}{e:Ex}{env:Env}(h:e env=some (rowD r)):iOf e env=some (r.map .int):=by simp [iOf,h,rowD]
theorem Zgs {i:Nat}{it:Lx}{e:Ex}{env:Env}{P:Bool→Prop}{r:List Int}(p:Int→Bool)(hit:it env=some (r.map .int))(hl:r.length≤lim)(he:∀ x ∈ r,ev e (env.set i (.sh (.int x))) (·=.bl (p x)))(h:P (r.all p)):ev (eF1 fAll (Ji i it Jm e)) env fun d=>∃ k,d=.bl k∧P k:=by
 refine ⟨_,?_,_,rfl,h⟩
 have hc:=Zbi (i:=i) (e:=e) (env:=env) (fun d=>match d with | .int x=>.bl (p x) | _=>.non) (r.map .int) (fun d hd=>by obtain ⟨x,hx,rfl⟩:=List.mem_map.mp hd;exact (he x hx).eq)
 have e2:(r.map D.int).map (fun d=>match d with | .int x=>D.bl (p x) | _=>.non)=r.map fun x=>.bl (p x):=by simp
 have e3:∀ q:List Int,allB (q.map fun x=>D.bl (p x))=some (q.all p):=by
  intro q
  induction q with
  | nil=>rfl
  | cons x q ih=>simp only [List.map_cons,allB,ih,List.all_cons]
 simp only [eF1,Ji,hit,List.length_map,if_pos hl,hc,e2,fAll,e3]
end PV
namespace PV
theorem ZkO {i:Nat}{e:Ex}{env:Env}{Q:Out→Env→Prop}(h:ev e env fun d=>∃ ds,d=.lst ds∧Q .nx (env.set i (.nw ds))):wp (sNew i e) env Q:=by
 obtain ⟨_,h1,ds,rfl,p⟩:=h;exact ⟨_,_,by simp only [sNew,h1],p⟩
theorem Zi9 {i:Nat}{e:Ex}{env:Env}{Q:Out→Env→Prop}{ds:List D}(hi:env[i]?=some (.nw ds))(h:ev e env fun d=>ds.length < lim∧Q .nx (env.set i (.nw (ds++[d])))):wp (ZeG i e) env Q:=by
 obtain ⟨d,h1,q,p⟩:=h;exact ⟨_,_,by simp only [ZeG,hi,h1,if_pos q],p⟩
theorem Zjx {i:Nat}{env:Env}{Q:Out→Env→Prop}{ds:List D}(hi:env[i]?=some (.nw ds))(h:Q .nx (env.set i (.fr (.lst ds)))):wp (sFrz i) env Q:=⟨_,_,by simp only [sFrz,hi],h⟩
theorem ZjU {i:Nat}{e:Ex}{env:Env}{Q:Out→Env→Prop}(h:ev e env fun d=>Q .nx (env.set i (.jk d))):wp (sJk i e) env Q:=by
 obtain ⟨d,h1,p⟩:=h;exact ⟨_,_,by simp only [sJk,h1],p⟩
theorem ZkZ {i:Nat}{t:Tx}{env:Env}{P:Bool→Prop}{d:D}(hi:env[i]?=some (.jk d))(h:tv t (env.set i (.sh d)) P):tv (tFrz i t) env P:=by
 obtain ⟨k,h1,p⟩:=h;exact ⟨k,by simp only [tFrz,hi,h1],p⟩
theorem Zmf {r:List Int}(h:r.length≤1000):ZeX (rowD r)=true:=by
 simp only [ZeX,rowD,Bool.and_eq_true,decide_eq_true_eq,List.length_map,Jp]
 exact ⟨by simp [List.all_map,YQ,Function.comp_def],by omega⟩
theorem Zih {i:Nat}{k:Int}{env:Env}{Q:Out→Env→Prop}{r:List Int}{T:List (List Int)}(hi:env[i]?=some (.jk (tabD (r::T))))(hr:r.length≤1000)(hT:T.length≤1000)(h:Q .nx (env.set i (.jl (T.length + 1)))):wp (ZcB i k) env Q:=by
 refine ⟨_,_,?_,h⟩
 have e:env[i]?=some (.jk (.lst (rowD r::T.map rowD))):=hi
 simp only [ZcB,e]
 rw [if_pos ⟨Zmf hr,by rw [List.length_map,Jp];omega⟩,List.length_map]
theorem Zix {e:Ex}{env:Env}{P:List Int→Prop}(h:evR e env P):evR (eFl e) env P:=by
 obtain ⟨r,h1,p⟩:=h
 refine ⟨r,?_,p⟩
 simp only [eFl,h1,rowD]
 rw [if_pos (by simp [List.all_map,YQ,Function.comp_def])]
theorem ZcD {a:Ex}{env:Env}{P:List Int→Prop}(h:evR a env fun r=>r.length < 64∧P (srt r)):evR (eF1 Z4 a) env P:=by
 obtain ⟨r,h1,h2,p⟩:=h
 refine ⟨_,?_,p⟩
 simp only [eF1,h1,rowD,Z4,ints_map]
 rw [if_pos h2]
theorem ZhX:∀ T:List (List Int),ZcL (T.map rowD)=some T
 | []=>rfl
 | r::T=>by simp only [List.map_cons,ZcL,ZhX T,rowD,Zas,ints_map]
theorem ZhB {a:Ex}{env:Env}{P:List (List Int)→Prop}(h:evT a env fun r=>r.length < 64∧P (srtB (fun r=>r) r)):evT (eF1 Z4 a) env P:=by
 obtain ⟨T,h1,h2,p⟩:=h
 refine ⟨_,?_,p⟩
 cases T with
 | nil=>simp only [eF1,h1,tabD];rfl
 | cons r T =>
  have e1:Jv ((r::T).map rowD)=none:=by simp [Jv,rowD]
  simp only [eF1,h1,tabD,Z4,e1,ZhX]
  rw [if_pos h2]
  rfl
theorem Zh0 {i:Nat}{it:Lx}{c:Tx}{e:Ex}{env:Env}{P:List Int→Prop}{T:List (List Int)}(p:List Int→Bool)(F:List Int→Int)(hit:it env=some (T.map rowD))(hl:T.length≤lim)
  (hc:∀ x ∈ T,tv c (env.set i (.sh (rowD x))) (·=p x)) (he:∀ x ∈ T,p x=true→evI e (env.set i (.sh (rowD x))) (·=F x)) (h:P ((T.filter p).map F)):evR (Ji i it c e) env P:=by
 have key:=Zcv (P:=(·=rowD ((T.filter p).map F))) (c:=c) (e:=e) (i:=i) (fun d=>match Zas d with | some x=>p x | none=>false) (fun d=>match Zas d with | some x=>.int (F x) | none=>.non) hit (by rw [List.length_map];exact hl)
  (fun d hd=>by obtain ⟨x,hx,rfl⟩:=List.mem_map.mp hd;simp only [rowD,Zas,ints_map];exact hc x hx)
  (fun d hd hp=>by
   obtain ⟨x,hx,rfl⟩:=List.mem_map.mp hd
   simp only [rowD,Zas,ints_map] at hp ⊢
   exact evI.ev (let ⟨y,h1,h2⟩:=he x hx hp;⟨y,h1,congrArg D.int h2⟩))
  (by simp [rowD,List.filter_map,Function.comp_def,Zas,ints_map])
 exact ⟨_,key.eq,h⟩
theorem Zgi {i:Nat}{it:Lx}{c:Tx}{e:Ex}{env:Env}{P:List (List Int)→Prop}{T:List (List Int)}(p:List Int→Bool)(F:List Int→List Int)(hit:it env=some (T.map rowD))(hl:T.length≤lim)
  (hc:∀ x ∈ T,tv c (env.set i (.sh (rowD x))) (·=p x)) (he:∀ x ∈ T,p x=true→evR e (env.set i (.sh (rowD x))) (·=F x)) (h:P ((T.filter p).map F)):evT (Ji i it c e) env P:=by
 have key:=Zcv (P:=(·=tabD ((T.filter p).map F))) (c:=c) (e:=e) (i:=i) (fun d=>match Zas d with | some x=>p x | none=>false) (fun d=>match Zas d with | some x=>rowD (F x) | none=>.non) hit (by rw [List.length_map];exact hl)
  (fun d hd=>by obtain ⟨x,hx,rfl⟩:=List.mem_map.mp hd;simp only [rowD,Zas,ints_map];exact hc x hx)
  (fun d hd hp=>by
   obtain ⟨x,hx,rfl⟩:=List.mem_map.mp hd
   simp only [rowD,Zas,ints_map] at hp ⊢
   exact evR.ev (let ⟨y,h1,h2⟩:=he x hx hp;⟨y,h1,congrArg rowD h2⟩))
  (by simp [tabD,rowD,List.filter_map,Function.comp_def,Zas,ints_map])
 exact ⟨_,key.eq,h⟩
theorem Zcd {T:List (List Int)}{e:Ex}{env:Env}(h:e env=some (tabD T)):iOf e env=some (T.map rowD):=by simp [iOf,h,tabD]
theorem Zor {i:Nat}{e:Ex}{env:Env}{Q:Out→Env→Prop}{T:List (List Int)}(hi:env[i]?=some (.ow (T.map rowD)))(h:evR e env fun x=>T.length < 1000∧Q .nx (env.set i (.ow ((T++[x]).map rowD)))):wp (sApp i e) env Q:=by
 obtain ⟨x,h1,h2,p⟩:=h
 refine ZoZ hi ⟨_,h1,?_,?_⟩
 ·rw [List.length_map,Jp];omega
 ·rw [List.map_append] at p;exact p
end PV
set_option linter.all false
set_option Elab.async false
set_option maxRecDepth 100000
set_option maxHeartbeats 4000000
namespace PV
open PySem PySem.Spec PyProof.Rows
open L2 (V Hp HO Vals SqL SqT Same upd Cx PE PT PW PA PS PSs TE TT TA TS Inv RelV Yc Jd Zd)
noncomputable def kvV (kvs:List (Int × Int)):List (L2.Key × V):=kvs.map fun p=>(Sum.inl p.1,V.int p.2)
mutual
noncomputable def Rep (K:PySem.W.Frag) (H:Hp):D→V→Prop
 | .non,v=>v=.non
 | .bl b,v=>v=.bl b
 | .int i,v=>v=.int i
 | .str x,v=>v=.str x
 | .lst ds,v=>∃ a vs,v=.ref a∧SqL K H a vs∧Reps K H ds vs
 | .tup ds,v=>∃ a vs,v=.ref a∧SqT K H a vs∧Reps K H ds vs
 | .dct kvs,v=>∃ a o,v=.ref a∧H a=some (.frz o (.dK (kvV kvs)))
noncomputable def Reps (K:PySem.W.Frag) (H:Hp):List D→List V→Prop
 | [],vs=>vs=[]
 | d::ds,vs=>∃ v r,vs=v::r∧Rep K H d v∧Reps K H ds r
end
theorem seqT {K:PySem.W.Frag}{H H':Hp}{a:Addr}{xs:List V}(e:Same H H')(h:SqT K H a xs):SqT K H' a xs:=by
 rcases h with (h | ⟨o,h⟩) | h
 ·exact .inl (.inl (e _ _ h))
 ·exact .inl (.inr ⟨o,e _ _ h⟩)
 ·exact .inr h
mutual
theorem Rep.mono {K:PySem.W.Frag}{H H':Hp}(e:Same H H'):∀ (d:D) (v:V),Rep K H d v→Rep K H' d v
 | .non,_,h=>by simp only [Rep] at h ⊢;exact h
 | .bl _,_,h=>by simp only [Rep] at h ⊢;exact h
 | .int _,_,h=>by simp only [Rep] at h ⊢;exact h
 | .str _,_,h=>by simp only [Rep] at h ⊢;exact h
 | .lst ds,v,h=>by
  simp only [Rep] at h ⊢
  obtain ⟨a,vs,h1,h2,h3⟩:=h
  exact ⟨a,vs,h1,e.seq h2,Reps.mono e ds vs h3⟩
 | .tup ds,v,h=>by
  simp only [Rep] at h ⊢
  obtain ⟨a,vs,h1,h2,h3⟩:=h
  exact ⟨a,vs,h1,seqT e h2,Reps.mono e ds vs h3⟩
 | .dct kvs,v,h=>by
  simp only [Rep] at h ⊢
  obtain ⟨a,o,h1,h2⟩:=h
  exact ⟨a,o,h1,e _ _ h2⟩
theorem Reps.mono {K:PySem.W.Frag}{H H':Hp}(e:Same H H'):∀ (ds:List D) (vs:List V),Reps K H ds vs→Reps K H' ds vs
 | [],_,h=>by simp only [Reps] at h ⊢;exact h
 | d::ds,vs,h=>by
  simp only [Reps] at h ⊢
  obtain ⟨v,r,h1,h2,h3⟩:=h
  exact ⟨v,r,h1,Rep.mono e d v h2,Reps.mono e ds r h3⟩
end
section
variable {K:PySem.W.Frag} {H:Hp}
theorem Reps.nil:Reps K H [] []:=by simp [Reps]
theorem Reps.cons {d:D}{v:V}{ds:List D}{vs:List V}(h:Rep K H d v)(t:Reps K H ds vs):Reps K H (d::ds) (v::vs):=by
 simp only [Reps];exact ⟨v,vs,rfl,h,t⟩
theorem Reps.length:∀ {ds:List D} {vs:List V},Reps K H ds vs→ds.length=vs.length
 | [],vs,h=>by simp only [Reps] at h;subst h;rfl
 | d::ds,vs,h=>by
  simp only [Reps] at h
  obtain ⟨v,r,rfl,_,t⟩:=h
  simp [t.length]
theorem Reps.get:∀ {ds:List D} {vs:List V} {i:Nat} {d:D},Reps K H ds vs→ds[i]?=some d→∃ v,vs[i]?=some v∧Rep K H d v
 | [],vs,i,d,h,e=>by simp at e
 | d'::ds,vs,0,d,h,e=>by
  simp only [Reps] at h
  obtain ⟨v,r,rfl,h1,t⟩:=h
  simp at e;subst e
  exact ⟨v,rfl,h1⟩
 | d'::ds,vs,i + 1,d,h,e=>by
  simp only [Reps] at h
  obtain ⟨v,r,rfl,h1,t⟩:=h
  obtain ⟨w,q1,q2⟩:=Reps.get (i:=i) (d:=d) t (by simpa using e)
  exact ⟨w,by simpa using q1,q2⟩
theorem Reps.getV:∀ {ds:List D} {vs:List V} {i:Nat} {v:V},Reps K H ds vs→vs[i]?=some v→∃ d,ds[i]?=some d∧Rep K H d v
 | [],vs,i,v,h,e=>by simp only [Reps] at h;subst h;simp at e
 | d'::ds,vs,0,v,h,e=>by
  simp only [Reps] at h
  obtain ⟨w,r,rfl,h1,t⟩:=h
  simp at e;subst e
  exact ⟨d',rfl,h1⟩
 | d'::ds,vs,i + 1,v,h,e=>by
  simp only [Reps] at h
  obtain ⟨w,r,rfl,h1,t⟩:=h
  obtain ⟨d,q1,q2⟩:=Reps.getV (i:=i) (v:=v) t (by simpa using e)
  exact ⟨d,by simpa using q1,q2⟩
theorem Reps.append:∀ {ds es:List D} {vs ws:List V},Reps K H ds vs→Reps K H es ws→Reps K H (ds++es) (vs++ws)
 | [],es,vs,ws,h,h2=>by simp only [Reps] at h;subst h;exact h2
 | d::ds,es,vs,ws,h,h2=>by
  simp only [Reps] at h
  obtain ⟨v,r,rfl,h1,t⟩:=h
  exact Reps.cons h1 (t.append h2)
theorem Reps.take:∀ {ds:List D} {vs:List V} (n:Nat),Reps K H ds vs→Reps K H (ds.take n) (vs.take n)
 | [],vs,n,h=>by simp only [Reps] at h;subst h;simp [Reps]
 | d::ds,vs,0,h=>by simp [Reps]
 | d::ds,vs,n + 1,h=>by
  simp only [Reps] at h
  obtain ⟨v,r,rfl,h1,t⟩:=h
  exact Reps.cons h1 (t.take n)
theorem Reps.drop:∀ {ds:List D} {vs:List V} (n:Nat),Reps K H ds vs→Reps K H (ds.drop n) (vs.drop n)
 | [],vs,n,h=>by simp only [Reps] at h;subst h;simp [Reps]
 | d::ds,vs,0,h=>h
 | d::ds,vs,n + 1,h=>by
  simp only [Reps] at h
  obtain ⟨v,r,rfl,h1,t⟩:=h
  exact t.drop n
theorem Reps.set {d:D}{v:V}(h:Rep K H d v):∀ {ds:List D} {vs:List V} (i:Nat),Reps K H ds vs→Reps K H (ds.set i d) (vs.set i v)
 | [],vs,i,t=>by simp only [Reps] at t;subst t;simp [Reps]
 | e::ds,vs,0,t=>by
  simp only [Reps] at t
  obtain ⟨w,r,rfl,h1,t⟩:=t
  exact Reps.cons h t
 | e::ds,vs,i + 1,t=>by
  simp only [Reps] at t
  obtain ⟨w,r,rfl,h1,t⟩:=t
  exact Reps.cons h1 (t.set h i)
theorem Reps.insertIdx {d:D}{v:V}(h:Rep K H d v):∀ {ds:List D} {vs:List V} (i:Nat),Reps K H ds vs→Reps K H (ds.insertIdx i d) (vs.insertIdx i v)
 | ds,vs,0,t=>by simp only [List.insertIdx_zero];exact Reps.cons h t
 | [],vs,i + 1,t=>by simp only [Reps] at t;subst t;simp [Reps]
 | e::ds,vs,i + 1,t=>by
  simp only [Reps] at t
  obtain ⟨w,r,rfl,h1,t⟩:=t
  simp only [List.insertIdx_succ_cons]
  exact Reps.cons h1 (t.insertIdx h i)
theorem Reps.ints (xs:List Int):Reps K H (xs.map .int) (xs.map .int):=by
 induction xs with
 | nil=>exact Reps.nil
 | cons x xs ih=>exact Reps.cons (by simp [Rep]) ih
end
noncomputable def cut (F G:Hp):Hp:=fun a=>match G a with
 | none=>F a
 | some _=>none
theorem ZbO {F G:Hp}:Same (cut F G) F:=fun b o h=>by
 unfold cut at h
 split at h
 ·exact h
 ·cases h
theorem ZbP {F G:Hp}{a:Addr}(h:G a=none):cut F G a=F a:=by unfold cut;rw [h]
structure Ext (F H F' H':Hp):Prop where
 hh:Same H H'
 ff:Same F F'
 dm:∀ a o,F' a=some o→F a=some o∨H a=none
 fh:Same F' H'
theorem Ext.refl {F H:Hp}(h:Same F H):Ext F H F H:=⟨.refl _,.refl _,fun _ _ e=>.inl e,h⟩
theorem Ext.trans {F H F1 H1 F2 H2:Hp}(a:Ext F H F1 H1)(b:Ext F1 H1 F2 H2):Ext F H F2 H2 :=
 ⟨a.hh.trans b.hh,a.ff.trans b.ff,fun c o e=>(b.dm c o e).elim (fun q=>a.dm c o q) fun q=>.inr (a.hh.free q),b.fh⟩
theorem Ext.laid {F H:Hp}(fh:Same F H){p:Addr}{o:HO}(hp:H p=none):Ext F H (upd F p o) (upd H p o):=by
 refine ⟨fun b u e=>?_,fun b u e=>?_,fun b u e=>?_,fun b u e=>?_⟩
 ·rw [Jd (Zd e hp)];exact e
 ·rw [Jd (Zd (fh _ _ e) hp)];exact e
 ·by_cases hb:b=p
  ·subst hb;exact .inr hp
  ·rw [Jd hb] at e;exact .inl e
 ·by_cases hb:b=p
  ·subst hb;rw [Yc] at e ⊢;exact e
  ·rw [Jd hb] at e ⊢;exact fh _ _ e
theorem Ext.own {F H:Hp}(fh:Same F H){p:Addr}{o:HO}(hp:H p=none):Ext F H F (upd H p o):=by
 have s:Same H (upd H p o):=fun b u e=>by rw [Jd (Zd e hp)];exact e
 exact ⟨s,.refl _,fun _ _ e=>.inl e,fh.trans s⟩
theorem Ext.frz {F H F' H':Hp}(e:Ext F H F' H'){p:Addr}{o:HO}(hp:H p=none)(h':H' p=some o)(f':F' p=none):Ext F H (upd F' p o) H':=by
 refine ⟨e.hh,fun b u q=>?_,fun b u q=>?_,fun b u q=>?_⟩
 ·rw [Jd (Zd (e.ff _ _ q) f')];exact e.ff _ _ q
 ·by_cases hb:b=p
  ·subst hb;exact .inr hp
  ·rw [Jd hb] at q;exact e.dm _ _ q
 ·by_cases hb:b=p
  ·subst hb;rw [Yc] at q;cases q;exact h'
  ·rw [Jd hb] at q;exact e.fh _ _ q
noncomputable def Zq (K:PySem.W.Frag) (F H:Hp):List (List D)→List Addr→Prop
 | [],as=>as=[]
 | r::rs,as=>∃ a t vs,as=a::t∧H a=some (.lst vs)∧Reps K F r vs∧Zq K F H rs t
theorem Zq.mono {K:PySem.W.Frag}{F H F' H':Hp}(ff:Same F F'):∀ {rs:List (List D)} {as:List Addr},(∀ a ∈ as,∀ o,H a=some o→H' a=some o)→Zq K F H rs as→Zq K F' H' rs as
 | [],_,_,h=>h
 | r::rs,_,hh,h=>by
  obtain ⟨a,t,vs,rfl,h1,h2,h3⟩:=h
  exact ⟨a,t,vs,rfl,hh a List.mem_cons_self _ h1,Reps.mono ff _ _ h2,Zq.mono ff (fun b hb=>hh b (List.mem_cons_of_mem _ hb)) h3⟩
theorem Zq.length {K:PySem.W.Frag}{F H:Hp}:∀ {rs:List (List D)} {as:List Addr},Zq K F H rs as→rs.length=as.length
 | [],_,h=>by have:_=[]:=h;rw [this];rfl
 | r::rs,_,h=>by obtain ⟨a,t,vs,rfl,_,_,h3⟩:=h;simp [h3.length]
theorem Zq.get {K:PySem.W.Frag}{F H:Hp}:∀ {rs:List (List D)} {as:List Addr} {j:Nat} {r:List D},Zq K F H rs as→rs[j]?=some r→∃ a vs,as[j]?=some a∧H a=some (.lst vs)∧Reps K F r vs
 | [],_,_,_,_,e=>by simp at e
 | r::rs,_,0,q,h,e=>by obtain ⟨a,t,vs,rfl,h1,h2,h3⟩:=h;simp at e;subst e;exact ⟨a,vs,rfl,h1,h2⟩
 | r::rs,_,j + 1,q,h,e=>by
  obtain ⟨a,t,vs,rfl,h1,h2,h3⟩:=h
  obtain ⟨b,ws,k1,k2,k3⟩:=Zq.get (j:=j) h3 (by simpa using e)
  exact ⟨b,ws,by simpa using k1,k2,k3⟩
theorem Zq.reps {K:PySem.W.Frag}{F H:Hp}(fh:Same F H):∀ {rs:List (List D)} {as:List Addr},Zq K F H rs as→Reps K H (rs.map .lst) (as.map .ref)
 | [],_,h=>by have e:_=[]:=h;subst e;exact Reps.nil
 | r::rs,_,h=>by
  obtain ⟨a,t,vs,rfl,h1,h2,h3⟩:=h
  exact Reps.cons (by simp only [Rep];exact ⟨a,vs,rfl,.inl (.inl h1),Reps.mono fh _ _ h2⟩) (h3.reps fh)
mutual
noncomputable def RepN (H:Hp):D→V→Prop
 | .non,v=>v=.non
 | .bl b,v=>v=.bl b
 | .int i,v=>v=.int i
 | .str x,v=>v=.str x
 | .lst ds,v=>∃ a vs,v=.ref a∧H a=some (.lst vs)∧Yh H ds vs
 | .tup ds,v=>∃ a vs,v=.ref a∧H a=some (.tup vs)∧Yh H ds vs
 | .dct kvs,v=>∃ a o,v=.ref a∧H a=some (.frz o (.dK (kvV kvs)))
noncomputable def Yh (H:Hp):List D→List V→Prop
 | [],vs=>vs=[]
 | d::ds,vs=>∃ v r,vs=v::r∧RepN H d v∧Yh H ds r
end
mutual
theorem RepN.rep {K:PySem.W.Frag}{H:Hp}:∀ (d:D) (v:V),RepN H d v→Rep K H d v
 | .non,_,h=>by simp only [Rep,RepN] at h ⊢;exact h
 | .bl _,_,h=>by simp only [Rep,RepN] at h ⊢;exact h
 | .int _,_,h=>by simp only [Rep,RepN] at h ⊢;exact h
 | .str _,_,h=>by simp only [Rep,RepN] at h ⊢;exact h
 | .lst ds,v,h=>by
  simp only [Rep,RepN] at h ⊢
  obtain ⟨a,vs,h1,h2,h3⟩:=h
  exact ⟨a,vs,h1,.inl (.inl h2),Yh.reps ds vs h3⟩
 | .tup ds,v,h=>by
  simp only [Rep,RepN] at h ⊢
  obtain ⟨a,vs,h1,h2,h3⟩:=h
  exact ⟨a,vs,h1,.inl (.inl h2),Yh.reps ds vs h3⟩
 | .dct kvs,v,h=>by simp only [Rep,RepN] at h ⊢;exact h
theorem Yh.reps {K:PySem.W.Frag}{H:Hp}:∀ (ds:List D) (vs:List V),Yh H ds vs→Reps K H ds vs
 | [],_,h=>by simp only [Reps,Yh] at h ⊢;exact h
 | d::ds,vs,h=>by
  simp only [Reps,Yh] at h ⊢
  obtain ⟨v,r,h1,h2,h3⟩:=h
  exact ⟨v,r,h1,RepN.rep d v h2,Yh.reps ds r h3⟩
end
mutual
theorem RepN.mono {H H':Hp}(e:Same H H'):∀ (d:D) (v:V),RepN H d v→RepN H' d v
 | .non,_,h=>by simp only [RepN] at h ⊢;exact h
 | .bl _,_,h=>by simp only [RepN] at h ⊢;exact h
 | .int _,_,h=>by simp only [RepN] at h ⊢;exact h
 | .str _,_,h=>by simp only [RepN] at h ⊢;exact h
 | .lst ds,v,h=>by
  simp only [RepN] at h ⊢
  obtain ⟨a,vs,h1,h2,h3⟩:=h
  exact ⟨a,vs,h1,e _ _ h2,Yh.mono e ds vs h3⟩
 | .tup ds,v,h=>by
  simp only [RepN] at h ⊢
  obtain ⟨a,vs,h1,h2,h3⟩:=h
  exact ⟨a,vs,h1,e _ _ h2,Yh.mono e ds vs h3⟩
 | .dct kvs,v,h=>by
  simp only [RepN] at h ⊢
  obtain ⟨a,o,h1,h2⟩:=h
  exact ⟨a,o,h1,e _ _ h2⟩
theorem Yh.mono {H H':Hp}(e:Same H H'):∀ (ds:List D) (vs:List V),Yh H ds vs→Yh H' ds vs
 | [],_,h=>by simp only [Yh] at h ⊢;exact h
 | d::ds,vs,h=>by
  simp only [Yh] at h ⊢
  obtain ⟨v,r,h1,h2,h3⟩:=h
  exact ⟨v,r,h1,RepN.mono e d v h2,Yh.mono e ds r h3⟩
end
noncomputable def hpL (H:Hp) (L:List Addr):Hp:=fun b=>if b ∈ L then H b else none
theorem Zcw {H:Hp}{L:List Addr}{b:Addr}(h:b ∈ L):hpL H L b=H b:=if_pos h
theorem ZbU {H:Hp}{L:List Addr}:Same (hpL H L) H:=fun b o h=>by
 unfold hpL at h
 split at h
 ·exact h
 ·cases h
theorem Zmz {H H':Hp}{L:List Addr}(h:∀ a ∈ L,∀ o,H a=some o→H' a=some o):Same (hpL H L) (hpL H' L):=fun b o q=>by
 unfold hpL at q ⊢
 split at q
 ·rename_i hb;rw [if_pos hb];exact h b hb o q
 ·cases q
noncomputable def xName (c:Nat):Str:=(["NoTable","NoFolk","NoElement","NoPart","NotLoose","TooLarge","NoNote"]:List Str).getD c "FolkError"
noncomputable def CN (K:PySem.W.Frag) (c:Nat) (C:Addr):Prop:=PySem.W.nsIn K mainGlobals (xName c)=some (some (.ref C))
noncomputable def isX (a C:Addr) (h:Heap):Prop:=∃ o ws,h.get? a=some o∧o.cls=.ref C∧o.dict=none∧o.data=.fields ws
noncomputable def SlOk (K:PySem.W.Frag) (B F H:Hp):Sl→Option V→List Addr→Prop
 | .un,_,_=>True
 | .sh d,ov,_=>∃ v,ov=some v∧Rep K F d v
 | .fr d,ov,_=>∃ v,ov=some v∧RepN (cut F B) d v
 | .ow ds,ov,L=>∃ a vs,ov=some (.ref a)∧L=[a]∧H a=some (.lst vs)∧Reps K F ds vs
 | .tab rs,ov,L=>∃ a as,ov=some (.ref a)∧L=a::as∧(a::as).Nodup∧H a=some (.lst (as.map .ref))∧Zq K F H rs as
 | .dc kvs,ov,L=>∃ a,ov=some (.ref a)∧L=[a]∧H a=some (.dK (kvV kvs))
 | .nw ds,ov,L=>∃ a vs,ov=some (.ref a)∧L=[a]∧H a=some (.lst vs)∧Yh (cut F B) ds vs
 | .jk d,ov,L=>∃ v,ov=some v∧RepN (hpL H L) d v
 | .jl n,ov,L=>∃ a vs,ov=some (.ref a)∧a ∈ L∧H a=some (.lst vs)∧vs.length≤n
 | .xc c,ov,_=>∃ a C,ov=some (.ref a)∧CN K c C∧F a=some (.ext (isX a C))
structure SOk (K:PySem.W.Frag)(BF BH F H:Hp)(σ:L2.St)(env:Env)(L:Nat→List Addr):Prop where
 s0:Same BH H
 f0:Same BF F
 fh:Same F H
 fd:∀ a o,F a=some o→BF a=some o∨BH a=none
 ow:∀ i a,a ∈ L i→F a=none∧BH a=none∧H a≠none
 dj:∀ i j a,a ∈ L i→a ∈ L j→i=j
 len:σ.length=env.length
 sl:∀ i s,env[i]?=some s→∃ ov,σ[i]?=some ov∧SlOk K BH F H s ov (L i)
theorem Zbd {F F' G:Hp}(h:Same F F'):Same (cut F G) (cut F' G):=fun b o q=>by
 unfold cut at q ⊢
 split at q
 ·exact h _ _ q
 ·cases q
theorem SlOk.ext {K:PySem.W.Frag}{B F H F' H':Hp}{s:Sl}{ov:Option V}{L:List Addr}(ff:Same F F')(hl:∀ a ∈ L,∀ o,H a=some o→H' a=some o)(h:SlOk K B F H s ov L):SlOk K B F' H' s ov L:=by
 cases s with
 | un=>trivial
 | sh d=>obtain ⟨v,e,r⟩:=h;exact ⟨v,e,Rep.mono ff _ _ r⟩
 | fr d=>obtain ⟨v,e,r⟩:=h;exact ⟨v,e,RepN.mono (Zbd ff) _ _ r⟩
 | ow ds=>obtain ⟨a,vs,e,rfl,h1,r⟩:=h;exact ⟨a,vs,e,rfl,hl a (by simp) _ h1,Reps.mono ff _ _ r⟩
 | tab rs =>
  obtain ⟨a,as,e,rfl,nd,h1,r⟩:=h
  exact ⟨a,as,e,rfl,nd,hl a List.mem_cons_self _ h1,r.mono ff fun b hb=>hl b (List.mem_cons_of_mem _ hb)⟩
 | dc _=>obtain ⟨a,e,rfl,h1⟩:=h;exact ⟨a,e,rfl,hl a (by simp) _ h1⟩
 | nw ds=>obtain ⟨a,vs,e,rfl,h1,r⟩:=h;exact ⟨a,vs,e,rfl,hl a (by simp) _ h1,Yh.mono (Zbd ff) _ _ r⟩
 | jk d=>obtain ⟨v,e,r⟩:=h;exact ⟨v,e,RepN.mono (Zmz hl) _ _ r⟩
 | jl n=>obtain ⟨a,vs,e,ha,h1,r⟩:=h;exact ⟨a,vs,e,ha,hl a ha _ h1,r⟩
 | xc c=>obtain ⟨a,C,e,hc,h1⟩:=h;exact ⟨a,C,e,hc,ff _ _ h1⟩
theorem SOk.ext {K:PySem.W.Frag}{BF BH F H F' H':Hp}{σ:L2.St}{env:Env}{L:Nat→List Addr}(S:SOk K BF BH F H σ env L)(e:Ext F H F' H'):SOk K BF BH F' H' σ env L where
 s0:=S.s0.trans e.hh
 f0:=S.f0.trans e.ff
 fh:=e.fh
 fd:=fun a o q=>(e.dm a o q).elim (S.fd a o) fun z=>.inr (S.s0.free z)
 ow:=fun i a q=>by
  obtain ⟨h1,h2,h3⟩:=S.ow i a q
  refine ⟨?_,h2,?_⟩
  ·cases z:F' a with
   | none=>rfl
   | some o =>
    rcases e.dm a o z with y | y
    ·rw [h1] at y;cases y
    ·exact absurd y h3
  ·intro z
   cases y:H a with
   | none=>exact h3 y
   | some o=>rw [e.hh _ _ y] at z;cases z
 dj:=S.dj
 len:=S.len
 sl:=fun i s q=>by
  obtain ⟨ov,h1,h2⟩:=S.sl i s q
  exact ⟨ov,h1,h2.ext e.ff fun a _ o z=>e.hh a o z⟩
inductive Md where
 | r | k | f
noncomputable def hpM (BH F H:Hp):Md→Hp
 | .r=>H
 | .k=>F
 | .f=>cut F BH
theorem ZbR {BH F H F' H':Hp}(e:Ext F H F' H'):∀ m:Md,Same (hpM BH F H m) (hpM BH F' H' m)
 | .r=>e.hh
 | .k=>e.ff
 | .f=>Zbd e.ff
theorem Zf6 {BH F H:Hp}(fh:Same F H):∀ m:Md,Same (hpM BH F H m) H
 | .r=>.refl _
 | .k=>fh
 | .f=>ZbO.trans fh
theorem Rep.scal {K:PySem.W.Frag}{H H':Hp}{d:D}{v:V}(hs:YQ d=true)(h:Rep K H d v):Rep K H' d v:=by
 cases d <;> simp_all [Rep,YQ]
noncomputable def tD (K:PySem.W.Frag) (m:Md) (f:Ex):TE:=fun σ H Q=>∃ BF BH F env L d,SOk K BF BH F H σ env L∧f env=some d ∧
 ∀ v F' H',Ext F H F' H'→Rep K (hpM BH F' H' m) d v→Q v H'
noncomputable def tTst (K:PySem.W.Frag) (t:Tx):TT:=fun σ H Q=>∃ BF BH F env L b,SOk K BF BH F H σ env L∧t env=some b ∧
 ∀ F' H',Ext F H F' H'→Q b H'
noncomputable def tO (K:PySem.W.Frag) (m:Md) (f:Ex):TE:=fun σ H Q=>∃ BF BH F env L ds,SOk K BF BH F H σ env L∧f env=some (.lst ds) ∧
 ∀ a vs F' H',Ext F H F' H'→H a=none→H' a=some (.lst vs)→F' a=none→Reps K (hpM BH F' H' m) ds vs→Q (.ref a) H'
structure PD (X:Cx)(m:Md)(e:Expr)(f:Ex):Prop where
 h:PE X e (tD X.K m f)
noncomputable def PDo (X:Cx) (m:Md) (e:Expr) (f:Ex):Prop:=PE X e (tO X.K m f)
noncomputable def PTd (X:Cx) (e:Expr) (t:Tx):Prop:=PT X e (tTst X.K t)
theorem PE.of {X:Cx}{e:Expr}{t t':TE}(h:PE X e t')(i:∀ σ H Q,t σ H Q→t' σ H Q):PE X e t:=fun pins s σ H Q I q=>h pins s σ H Q I (i σ H Q q)
theorem PT.of {X:Cx}{e:Expr}{t t':TT}(h:PT X e t')(i:∀ σ H Q,t σ H Q→t' σ H Q):PT X e t:=fun pins s σ H Q I q=>h pins s σ H Q I (i σ H Q q)
theorem PW.of {X:Cx}{e:Expr}{t t':TT}(h:PW X e t')(i:∀ σ H Q,t σ H Q→t' σ H Q):PW X e t:=fun wh pins s σ H Q I q=>h wh pins s σ H Q I (i σ H Q q)
theorem PS.of {X:Cx}{e:Stmt}{t t':TS}(h:PS X e t')(i:∀ D σ H,t D σ H→t' D σ H):PS X e t:=fun pins s σ H D I q=>h pins s σ H D I (i D σ H q)
theorem PSs.of {X:Cx}{e:List Stmt}{t t':TS}(h:PSs X e t')(i:∀ D σ H,t D σ H→t' D σ H):PSs X e t:=fun pins s σ H D I q=>h pins s σ H D I (i D σ H q)
section
variable {X:Cx} {m:Md} {a b c:Expr} {f g h:Ex} {pos:Pos}
theorem PD.r (h:PD X m a f):PD X .r a f:=PD.mk <| PE.of h.h fun σ H Q ⟨BF,BH,F,env,L,d,S,e,q⟩ =>
 ⟨BF,BH,F,env,L,d,S,e,fun v F' H' x r=>q v F' H' x (Rep.mono (Zf6 x.fh m) _ _ r)⟩
theorem PDo.d (h:PDo X m a f)(hf:∀ env d,f env=some d→∃ ds,d=.lst ds):PD X m a f:=PD.mk <| PE.of h fun σ H Q hh_=>el9 hh_ fun BF BH F env L d S e q=>by
 obtain ⟨ds,rfl⟩:=hf env d e
 refine ⟨BF,BH,F,env,L,ds,S,e,fun p vs F' H' x hp h1 h2 r=>?_⟩
 have x':=x.frz hp h1 h2
 refine q (.ref p) (upd F' p (.lst vs)) H' x' ?_
 have hB:BH p=none:=S.s0.free hp
 have s:Same (hpM BH F' H' m) (hpM BH (upd F' p (.lst vs)) H' m):=by
  have ss:Same F' (upd F' p (.lst vs)):=fun b u e=>by rw [Jd (Zd e h2)];exact e
  cases m with
  | r=>exact .refl _
  | k=>exact ss
  | f=>exact Zbd ss
 simp only [Rep]
 refine ⟨p,vs,rfl,.inl (.inl ?_),Reps.mono s _ _ r⟩
 cases m with
 | r=>exact h1
 | k=>exact Yc
 | f=>show cut _ _ p=_;rw [ZbP hB];exact Yc
noncomputable def nst:Expr→Bool
 | .Starred _ _=>false
 | _=>true
noncomputable def nsts:List Expr→Bool
 | []=>true
 | e::es=>nst e && nsts es
theorem Jh {e:Expr}{es:List Expr}{env:PySem.Env}(h:nst e=true):starEach (e::es) env=(false,eval e env)::starEach es env:=by
 cases e <;> first | rfl | (cases h)
theorem Yn {e:Expr}{env:PySem.Env}(h:nst e=true):starEach [e] env=[(false,eval e env)]:=(Jh h).trans rfl
theorem Zbg {env:PySem.Env}{pos:Pos}:∀ {es:List Expr},nsts es=true→(backTo pos (starEach es env)).any (·.1)=false
 | [],_=>rfl
 | e::es,h=>by
  unfold nsts at h
  rw [Bool.and_eq_true] at h
  rw [Jh h.1]
  show (false || (backTo pos (starEach es env)).any (·.1))=false
  rw [Zbg h.2];rfl
theorem ZaM {env:PySem.Env}{pos:Pos}:∀ {es:List Expr},nsts es=true→(backTo pos (starEach es env)).all (fun x=>!x.1)=true
 | [],_=>rfl
 | e::es,h=>by
  unfold nsts at h
  rw [Bool.and_eq_true] at h
  rw [Jh h.1]
  show (true && (backTo pos (starEach es env)).all (fun x=>!x.1))=true
  rw [ZaM h.2];rfl
theorem ZlY {a b:Expr}(h:nst a=true)(h2:nst b=true):nsts [a,b]=true:=by unfold nsts nsts nsts;rw [h,h2];rfl
theorem Zbf {a:Expr}(h:nst a=true):nsts [a]=true:=by unfold nsts nsts;rw [h];rfl
noncomputable def visB (sc:Scope) (x:Str):Bool:=match sc.names.lookup x with
 | some .local=>true
 | some .cell=>true
 | some .free=>true
 | _=>false
theorem ZD {sc:Scope}{x:Str}(h:visB sc x=true):L2.Vis sc x:=by
 unfold visB at h
 split at h
 ·rename_i e;exact .inl e
 ·rename_i e;exact .inr (.inl e)
 ·rename_i e;exact .inr (.inr e)
 ·cases h
noncomputable def locB (sc:Scope) (x:Str):Bool:=match sc.names.lookup x with
 | some .local=>true
 | some .cell=>true
 | _=>false
theorem ZV {sc:Scope}{x:Str}(h:locB sc x=true):L2.Loc sc x:=by
 unfold locB at h
 split at h
 ·rename_i e;exact .inl e
 ·rename_i e;exact .inr e
 ·cases h
noncomputable def fnB (X:Cx) (x:Str):Bool:=X.fn x || (match X.env.scope.names.lookup x with
 | some .local=>true
 | _=>false)
theorem Zaj {X:Cx}{x:Str}(h:fnB X x=true):X.fn x=true∨X.env.scope.names.lookup x=some .local:=by
 unfold fnB at h
 rw [Bool.or_eq_true] at h
 rcases h with h | h
 ·exact .inl h
 ·split at h
  ·rename_i e;exact .inr e
  ·cases h
theorem Jc {i j}:PD X m (.Constant (.int i) j pos) (eC (.int i)):=PD.mk <| PE.of L2.ZfZ fun σ H Q hh_=>el9 hh_ fun BF BH F env L d S e q=>by
 cases e;exact q _ F H (.refl S.fh) (by simp [Rep])
theorem ZaI {i j}:PD X m (.Constant (.bool i) j pos) (eC (.bl i)):=PD.mk <| PE.of L2.Zqf fun σ H Q hh_=>el9 hh_ fun BF BH F env L d S e q=>by
 cases e;exact q _ F H (.refl S.fh) (by simp [Rep])
theorem Zaw {i j}:PD X m (.Constant (.str i) j pos) (eC (.str i)):=PD.mk <| PE.of L2.Zkw fun σ H Q hh_=>el9 hh_ fun BF BH F env L d S e q=>by
 cases e;exact q _ F H (.refl S.fh) (by simp [Rep])
theorem Zc8 {j}:PD X m (.Constant .none j pos) (eC .non):=PD.mk <| PE.of L2.Zoz fun σ H Q hh_=>el9 hh_ fun BF BH F env L d S e q=>by
 cases e;exact q _ F H (.refl S.fh) (by simp [Rep])
theorem ZoJ {i j p2}:PD X m (.UnaryOp .USub (.Constant (.int i) j p2) pos) (eC (.int (-i))):=PD.mk <| PE.of (L2.ZpQ L2.ZpI L2.ZfZ) fun σ H Q hh_=>el9 hh_ fun BF BH F env L d S e q=>by
 cases e;exact ⟨i,rfl,q _ F H (.refl S.fh) (by simp [Rep])⟩
theorem Za (i:Nat) {x:Str} (hN:X.N[i]?=some x:=by kernel_rfl) (hv:visB X.env.scope x=true:=by kernel_rfl) (hd:(x == ("__debug__":Str))=false:=by kernel_rfl)
  (hcd:(x == ("__classdict__":Str))=false:=by kernel_rfl):PD X .k (.Name x pos) (eVar i):=PD.mk <| PE.of (L2.JN hN (ZD hv) hd hcd) fun σ H Q hh_=>el9 hh_ fun BF BH F env L d S e q=>by
 unfold eVar at e
 cases he:env[i]? with
 | none=>rw [he] at e;cases e
 | some s =>
  rw [he] at e
  obtain ⟨ov,h1,h2⟩:=S.sl i s he
  cases s with
  | sh d'=>cases e;obtain ⟨v,rfl,r⟩:=h2;exact ⟨v,h1,q v F H (.refl S.fh) r⟩
  | fr d'=>cases e;obtain ⟨v,rfl,r⟩:=h2;exact ⟨v,h1,q v F H (.refl S.fh) (RepN.rep _ _ (RepN.mono ZbO _ _ r))⟩
  | un=>cases e
  | ow _=>cases e
  | tab _=>cases e
  | dc _=>cases e
  | nw _=>cases e
  | jk _=>cases e
  | jl _=>cases e
  | xc _=>cases e
theorem Zbn (i:Nat) {x:Str} (hN:X.N[i]?=some x:=by kernel_rfl) (hv:visB X.env.scope x=true:=by kernel_rfl) (hd:(x == ("__debug__":Str))=false:=by kernel_rfl)
  (hcd:(x == ("__classdict__":Str))=false:=by kernel_rfl):PD X .r (.Name x pos) (Yq i):=PD.mk <| PE.of (L2.JN hN (ZD hv) hd hcd) fun σ H Q hh_=>el9 hh_ fun BF BH F env L d S e q=>by
 unfold Yq at e
 cases he:env[i]? with
 | none=>rw [he] at e;cases e
 | some s =>
  rw [he] at e
  obtain ⟨ov,h1,h2⟩:=S.sl i s he
  cases s with
  | sh d'=>cases e;obtain ⟨v,rfl,r⟩:=h2;exact ⟨v,h1,q v F H (.refl S.fh) (Rep.mono S.fh _ _ r)⟩
  | fr d'=>cases e;obtain ⟨v,rfl,r⟩:=h2;exact ⟨v,h1,q v F H (.refl S.fh) (RepN.rep _ _ (RepN.mono (ZbO.trans S.fh) _ _ r))⟩
  | un=>cases e
  | ow ds =>
   cases e
   obtain ⟨p,vs,rfl,_,h3,r⟩:=h2
   refine ⟨_,h1,q _ F H (.refl S.fh) ?_⟩
   simp only [Rep,hpM]
   exact ⟨p,vs,rfl,.inl (.inl h3),Reps.mono S.fh _ _ r⟩
  | tab rs =>
   cases e
   obtain ⟨p,as,rfl,_,_,h3,r⟩:=h2
   refine ⟨_,h1,q _ F H (.refl S.fh) ?_⟩
   simp only [Rep,hpM]
   exact ⟨p,_,rfl,.inl (.inl h3),r.reps S.fh⟩
  | dc _=>cases e
  | nw ds =>
   cases e
   obtain ⟨p,vs,rfl,_,h3,r⟩:=h2
   refine ⟨_,h1,q _ F H (.refl S.fh) ?_⟩
   simp only [Rep,hpM]
   exact ⟨p,vs,rfl,.inl (.inl h3),Yh.reps _ _ (Yh.mono (ZbO.trans S.fh) _ _ r)⟩
  | jk _=>cases e
  | jl _=>cases e
  | xc _=>cases e
theorem ZoP {x:Str} {i:Int} (hg:X.env.kindOf x=some .globalImplicit:=by kernel_rfl) (hm:∃ t,X.mg x=some (.int i t)) (hd:(x == ("__debug__":Str))=false:=by kernel_rfl):PD X m (.Name x pos) (eC (.int i)):=by
 obtain ⟨t,hm⟩:=hm
 exact PD.mk <| PE.of (L2.ZnL (v:=.int i) hg hm ⟨t,rfl⟩ hd) fun σ H Q hh_=>el9 hh_ fun BF BH F env L d S e q=>by
  cases e;exact q _ F H (.refl S.fh) (by simp [Rep])
theorem Zna (h:PD X .r a f):PD X m a (eSc f):=PD.mk <| PE.of h.h fun σ H Q hh_=>el9 hh_ fun BF BH F env L d S e q=>by
 unfold eSc at e
 cases he:f env with
 | none=>rw [he] at e;cases e
 | some d' =>
  rw [he] at e
  dsimp only at e
  split at e
  ·rename_i hs
   cases e
   exact ⟨BF,BH,F,env,L,_,S,he,fun v F' H' x r=>q v F' H' x (r.scal hs)⟩
  ·cases e
theorem two {m1 m2:Md}{R:V→V→Hp→Prop}{σ:L2.St}{H BF BH F:Hp}{env:Env}{L:Nat→List Addr}{x y:D}(S:SOk X.K BF BH F H σ env L)(e1:f env=some x)(e2:g env=some y)
  (k:∀ v w F' H',Ext F H F' H'→Rep X.K (hpM BH F' H' m1) x v→Rep X.K (hpM BH F' H' m2) y w→R v w H') :
  tD X.K m1 f σ H fun v H1=>tD X.K m2 g σ H1 fun w H2=>R v w H2 :=
 ⟨BF,BH,F,env,L,x,S,e1,fun v F1 H1 x1 r1=>⟨BF,BH,F1,env,L,y,S.ext x1,e2,fun w F2 H2 x2 r2=>k v w F2 H2 (x1.trans x2) (Rep.mono (ZbR x2 m1) _ _ r1) r2⟩⟩
theorem Jr {K:PySem.W.Frag}{H:Hp}{i:Int}{v:V}(h:Rep K H (.int i) v):v=.int i:=by simpa [Rep] using h
theorem Zil {op:Operator}{C:Int→Int→Prop}{G:Int→Int→Int}{φ:Int→Int→Option D}(ho:L2.OpR X (binaryOp op) (L2.rI C fun i j=>.int (G i j)))
  (hφ:∀ i j d,φ i j=some d→C i j∧d=.int (G i j)) {m1 m2:Md} (ha:PD X m1 a f) (hb:PD X m2 b g):PD X m (.BinOp a op b pos) (e2I φ f g) :=
 PD.mk <| PE.of (L2.Zkg ho ha.h hb.h) fun σ H Q hh_=>el9 hh_ fun BF BH F env L d S e q=>by
  unfold e2I at e
  split at e
  ·rename_i i j h1 h2
   refine two S h1 h2 fun v w F' H' x r1 r2=>?_
   obtain ⟨hc,rfl⟩:=hφ i j d e
   exact ⟨i,j,Jr r1,Jr r2,hc,q _ F' H' x (by simp [Rep])⟩
  ·cases e
theorem Zoa {op:Operator}{G:Int→Int→Int}{φ:Int→Int→Option D}(ho:L2.OpR X (binaryOp op) (L2.rI0 fun i j=>.int (G i j)))
  (hφ:∀ i j d,φ i j=some d→d=.int (G i j)) {m1 m2:Md} (ha:PD X m1 a f) (hb:PD X m2 b g):PD X m (.BinOp a op b pos) (e2I φ f g) :=
 PD.mk <| PE.of (L2.Zkg ho ha.h hb.h) fun σ H Q hh_=>el9 hh_ fun BF BH F env L d S e q=>by
  unfold e2I at e
  split at e
  ·rename_i i j h1 h2
   refine two S h1 h2 fun v w F' H' x r1 r2=>?_
   obtain rfl:=hφ i j d e
   exact ⟨i,j,Jr r1,Jr r2,q _ F' H' x (by simp [Rep])⟩
  ·cases e
variable {m1 m2 m3:Md}
theorem ZgN (ha:PD X m1 a f)(hb:PD X m2 b g):PD X m (.BinOp a .Sub b pos) (e2I iSub f g):=Zoa L2.Zpw (fun i j d h=>by cases h;rfl) ha hb
theorem YT (ha:PD X m1 a f)(hb:PD X m2 b g):PD X m (.BinOp a .Mult b pos) (e2I iMul f g):=Zil L2.ZoR (fun i j d h=>by
 unfold iMul at h;split at h
 ·rename_i hc;cases h;exact ⟨hc,rfl⟩
 ·cases h) ha hb
theorem Jw (ha:PD X m1 a f)(hb:PD X m2 b g):PD X m (.BinOp a .Mod b pos) (e2I iMod f g):=Zil L2.Zpy (fun i j d h=>by
 unfold iMod at h;split at h
 ·rename_i hc;cases h;exact ⟨hc,rfl⟩
 ·cases h) ha hb
theorem ZaF (ha:PD X m1 a f)(hb:PD X m2 b g):PD X m (.BinOp a .FloorDiv b pos) (e2I iDiv f g):=Zil L2.Zop (fun i j d h=>by
 unfold iDiv at h;split at h
 ·rename_i hc;cases h;exact ⟨hc,rfl⟩
 ·cases h) ha hb
end
end PV
set_option linter.all false
set_option Elab.async false
set_option maxRecDepth 100000
set_option maxHeartbeats 4000000
namespace PV
open PySem PySem.Spec PyProof.Rows
open L2 (V Hp HO Vals SqL SqT Same upd Cx PE PT PW PA PS PSs TE TT TA TS Inv RelV Yc Jd Zd)
mutual
noncomputable def Hr (s:Shared):D→Value→Prop
 | .non,u=>u=.none
 | .bl b,u=>u=.bool b
 | .int i,u=>∃ t,u=.int i t
 | .str x,u=>∃ t,u=.str x t
 | .lst ds,u=>∃ a its,u=.ref a∧s.heap.IsList a its.toArray∧Hrs s ds its
 | .tup ds,u=>∃ a its,u=.ref a∧s.heap.IsTuple a its.toArray∧Hrs s ds its
 | .dct _,_=>False
noncomputable def Hrs (s:Shared):List D→List Value→Prop
 | [],us=>us=[]
 | d::ds,us=>∃ u r,us=u::r∧Hr s d u∧Hrs s ds r
end
mutual
theorem Zax {X:Cx}{pins:List (Addr × Obj)}{σ:L2.St}{H:Hp}{s:Shared}(I:Inv X pins σ H s):∀ (d:D) (x:V) (u:Value),d.dep < 100→Rep X.K H d x→RelV x u→Hr s d u
 | .non,x,u,_,h,r=>by simp only [Rep] at h;subst h;simp only [Hr];exact r
 | .bl b,x,u,_,h,r=>by simp only [Rep] at h;subst h;simp only [Hr];exact r
 | .int i,x,u,_,h,r=>by simp only [Rep] at h;subst h;simp only [Hr];exact r
 | .str i,x,u,_,h,r=>by simp only [Rep] at h;subst h;simp only [Hr];exact r
 | .lst ds,x,u,hd,h,r=>by
  simp only [D.dep] at hd
  simp only [Rep] at h
  obtain ⟨a,vs,rfl,hs,t⟩:=h
  obtain ⟨its,rv,p,_⟩:=I.list hs
  cases r
  simp only [Hr]
  exact ⟨a,its,rfl,p.isList,Zfs I ds vs its (by omega) t rv⟩
 | .dct ds,x,u,hd,h,r=>by simp [D.dep] at hd
 | .tup ds,x,u,hd,h,r=>by
  simp only [D.dep] at hd
  simp only [Rep] at h
  obtain ⟨a,vs,rfl,hs,t⟩:=h
  obtain ⟨its,rv,p,_⟩:=I.tuple hs
  cases r
  simp only [Hr]
  exact ⟨a,its,rfl,p,Zfs I ds vs its (by omega) t rv⟩
theorem Zfs {X:Cx}{pins:List (Addr × Obj)}{σ:L2.St}{H:Hp}{s:Shared}(I:Inv X pins σ H s):∀ (ds:List D) (vs:List V) (us:List Value),D.deps ds < 100→Reps X.K H ds vs→Vals vs us→Hrs s ds us
 | [],vs,us,_,h,r=>by simp only [Reps] at h;subst h;cases r;simp [Hrs]
 | d::ds,vs,us,hd,h,r=>by
  simp only [D.deps] at hd
  simp only [Reps] at h
  obtain ⟨v,t,rfl,h1,h2⟩:=h
  cases r with
  | cons r1 r2 =>
   simp only [Hrs]
   exact ⟨_,_,rfl,Zax I d v _ (by omega) h1 r1,Zfs I ds t _ (by omega) h2 r2⟩
end
section
variable {s:Shared}
theorem Hrs.length:∀ {ds:List D} {us:List Value},Hrs s ds us→ds.length=us.length
 | [],us,h=>by simp only [Hrs] at h;subst h;rfl
 | d::ds,us,h=>by simp only [Hrs] at h;obtain ⟨u,r,rfl,_,t⟩:=h;simp [Hrs.length t]
theorem Hrs.get:∀ {ds:List D} {us:List Value} {j:Nat} (h1:j < ds.length) (h2:j < us.length),Hrs s ds us→Hr s ds[j] us[j]
 | [],us,j,h1,h2,h=>by simp at h1
 | d::ds,us,0,h1,h2,h=>by simp only [Hrs] at h;obtain ⟨u,r,rfl,x,t⟩:=h;exact x
 | d::ds,us,j + 1,h1,h2,h=>by simp only [Hrs] at h;obtain ⟨u,r,rfl,x,t⟩:=h;exact Hrs.get (j:=j) (by simpa using h1) (by simpa using h2) t
theorem ZfJ {h:Heap}{a:Addr}{xs ys:List Value}(h1:h.IsList a xs.toArray)(h2:h.IsList a ys.toArray):xs=ys:=by
 obtain ⟨o,e,c,n,d⟩:=h1
 obtain ⟨o',e',c',n',d'⟩:=h2
 rw [e] at e';cases e'
 rw [d] at d'
 injection d' with d1 _
 have:=congrArg Array.toList d1
 simpa using this
theorem Zff {h:Heap}{a:Addr}{xs ys:List Value}(h1:h.IsTuple a xs.toArray)(h2:h.IsTuple a ys.toArray):xs=ys:=by
 obtain ⟨o,e,c,n,d⟩:=h1
 obtain ⟨o',e',c',n',d'⟩:=h2
 rw [e] at e';cases e'
 rw [d] at d'
 injection d' with d1 _
 have:=congrArg Array.toList d1
 simpa using this
mutual
theorem Hr.func:∀ (d e:D) (u:Value),Hr s d u→Hr s e u→d=e
 | .lst ds,.lst es,u,h1,h2=>by
  simp only [Hr] at h1 h2
  obtain ⟨a,its,rfl,l1,r1⟩:=h1
  obtain ⟨b,its2,e,l2,r2⟩:=h2
  cases e
  obtain rfl:=ZfJ l1 l2
  rw [Hrs.func ds es its r1 r2]
 | .tup ds,.tup es,u,h1,h2=>by
  simp only [Hr] at h1 h2
  obtain ⟨a,its,rfl,l1,r1⟩:=h1
  obtain ⟨b,its2,e,l2,r2⟩:=h2
  cases e
  obtain rfl:=Zff l1 l2
  rw [Hrs.func ds es its r1 r2]
 | .lst ds,.tup es,u,h1,h2=>by
  simp only [Hr] at h1 h2
  obtain ⟨a,its,rfl,l1,r1⟩:=h1
  obtain ⟨b,its2,e,l2,r2⟩:=h2
  cases e
  exact absurd rfl (SeqAt.ne_of_list_tuple l1 l2)
 | .tup ds,.lst es,u,h1,h2=>by
  simp only [Hr] at h1 h2
  obtain ⟨a,its,rfl,l1,r1⟩:=h1
  obtain ⟨b,its2,e,l2,r2⟩:=h2
  cases e
  exact absurd rfl (SeqAt.ne_of_list_tuple l2 l1)
 | .non,e,u,h1,h2=>by simp only [Hr] at h1;subst h1;cases e <;> simp [Hr] at h2 <;> first | rfl | (obtain ⟨_,_,_,_⟩:=h2) | skip
 | .bl b,e,u,h1,h2=>by simp only [Hr] at h1;subst h1;cases e <;> simp [Hr] at h2 <;> first | (rw [h2]) | skip
 | .int i,e,u,h1,h2=>by simp only [Hr] at h1;obtain ⟨t,rfl⟩:=h1;cases e <;> simp [Hr] at h2 <;> first | (rw [h2]) | skip
 | .str i,e,u,h1,h2=>by simp only [Hr] at h1;obtain ⟨t,rfl⟩:=h1;cases e <;> simp [Hr] at h2 <;> first | (rw [h2]) | skip
 | .lst ds,.non,u,h1,h2=>by simp only [Hr] at h1 h2;obtain ⟨_,_,rfl,_⟩:=h1;cases h2
 | .lst ds,.bl _,u,h1,h2=>by simp only [Hr] at h1 h2;obtain ⟨_,_,rfl,_⟩:=h1;cases h2
 | .lst ds,.int _,u,h1,h2=>by simp only [Hr] at h1 h2;obtain ⟨_,_,rfl,_⟩:=h1;obtain ⟨_,h2⟩:=h2;cases h2
 | .lst ds,.str _,u,h1,h2=>by simp only [Hr] at h1 h2;obtain ⟨_,_,rfl,_⟩:=h1;obtain ⟨_,h2⟩:=h2;cases h2
 | .tup ds,.non,u,h1,h2=>by simp only [Hr] at h1 h2;obtain ⟨_,_,rfl,_⟩:=h1;cases h2
 | .tup ds,.bl _,u,h1,h2=>by simp only [Hr] at h1 h2;obtain ⟨_,_,rfl,_⟩:=h1;cases h2
 | .tup ds,.int _,u,h1,h2=>by simp only [Hr] at h1 h2;obtain ⟨_,_,rfl,_⟩:=h1;obtain ⟨_,h2⟩:=h2;cases h2
 | .dct _,e,u,h1,h2=>by cases h1
 | .lst _,.dct _,u,h1,h2=>by cases h2
 | .tup _,.dct _,u,h1,h2=>by cases h2
 | .tup ds,.str _,u,h1,h2=>by simp only [Hr] at h1 h2;obtain ⟨_,_,rfl,_⟩:=h1;obtain ⟨_,h2⟩:=h2;cases h2
theorem Hrs.func:∀ (ds es:List D) (us:List Value),Hrs s ds us→Hrs s es us→ds=es
 | [],[],_,_,_=>rfl
 | [],e::es,us,h1,h2=>by simp only [Hrs] at h1 h2;subst h1;obtain ⟨_,_,h,_⟩:=h2;cases h
 | d::ds,[],us,h1,h2=>by simp only [Hrs] at h1 h2;subst h2;obtain ⟨_,_,h,_⟩:=h1;cases h
 | d::ds,e::es,us,h1,h2=>by
  simp only [Hrs] at h1 h2
  obtain ⟨u,r,rfl,x,t⟩:=h1
  obtain ⟨u',r',e',x',t'⟩:=h2
  cases e'
  rw [Hr.func d e u x x',Hrs.func ds es r t t']
end
theorem ZbJ:∀ (ds es:List D),ds.length=es.length→(List.range ds.length).all (fun j=>eqD (ds.getD j .non) (es.getD j .non))=eqDs ds es
 | [],[],_=>by simp [eqDs]
 | [],_::_,h=>by simp at h
 | _::_,[],h=>by simp at h
 | d::ds,e::es,h=>by
  have ih:=ZbJ ds es (by simpa using h)
  rw [List.length_cons,List.range_succ_eq_map,List.all_cons,List.all_map]
  simp only [eqDs]
  rw [← ih]
  rfl
theorem Zcr:∀ (ds es:List D),ds.length≠es.length→eqDs ds es=false
 | [],[],h=>absurd rfl h
 | [],_::_,_=>by simp [eqDs]
 | _::_,[],_=>by simp [eqDs]
 | d::ds,e::es,h=>by simp only [eqDs,Zcr ds es (by simpa using h),Bool.and_false]
theorem ZeZ:∀ {ds:List D} {j:Nat} (h:j < ds.length),(ds[j]).dep≤D.deps ds
 | [],_,h=>by simp at h
 | d::ds,0,h=>by simp only [D.deps];exact Nat.le_max_left _ _
 | d::ds,j + 1,h=>by simp only [D.deps];exact Nat.le_trans (ZeZ (j:=j) (by simpa using h)) (Nat.le_max_right _ _)
noncomputable def Ih (s:Shared) (A:Around) (x:List D):Prop:=∀ j (h:j < x.length) (e:D) (u v:Value),A.units + (x[j]).dep < cLine→Hr s x[j] u→Hr s e v→SeqAt.EqAt A s u v (eqD x[j] e)
theorem items {A:Around}{x y:List D}{xits yits:List Value}(ih:Ih s A.in1 x)(hu:A.units + D.deps x + 1 < cLine)(hl:x.length=y.length)(xr:Hrs s x xits)(yr:Hrs s y yits) :
  ∀ j (h1:j < xits.toArray.size) (h2:j < yits.toArray.size),SeqAt.EqAt A.in1 s xits.toArray[j] yits.toArray[j] (eqD (x.getD j .non) (y.getD j .non)):=fun j h1 h2=>by
 have k1:j < x.length:=by rw [xr.length];simpa using h1
 have k2:j < y.length:=by rw [← hl];exact k1
 have e1:x.getD j .non=x[j]:=by simp [List.getD,k1]
 have e2:y.getD j .non=y[j]:=by simp [List.getD,k2]
 rw [e1,e2]
 have hd:=ZeZ (ds:=x) k1
 have a1:=xr.get k1 (by rw [← xr.length];exact k1)
 have a2:=yr.get k2 (by rw [← yr.length];exact k2)
 refine ih j k1 _ _ _ ?_ (by simpa using a1) (by simpa using a2)
 show A.units + 1 + _ < cLine
 omega
theorem ZfO {A:Around}{xa ya:Addr}{xits yits:List Value}(x y:List D)(hu:A.units + D.deps x + 1 < cLine)(xl:s.heap.IsList xa xits.toArray)(yl:s.heap.IsList ya yits.toArray)(xr:Hrs s x xits)(yr:Hrs s y yits)(ih:Ih s A.in1 x) :
  SeqAt.RcAt A s (.ref xa) (.ref ya) (eqD (.lst x) (.lst y)):=by
 simp only [eqD]
 by_cases hl:x.length=y.length
 ·have e:=SeqAt.RcAt.lists (e:=fun j=>eqD (x.getD j .non) (y.getD j .non)) xl yl (by simp [← xr.length,← yr.length,hl]) (by omega) (items ih hu hl xr yr)
  rw [show xits.toArray.size=x.length by simp [xr.length],ZbJ x y hl] at e
  exact e
 ·rw [Zcr x y hl]
  exact SeqAt.RcAt.lists_lengths xl yl (by simp [← xr.length,← yr.length,hl]) (by omega)
theorem Zfd {A:Around}{xa ya:Addr}{xits yits:List Value}(x y:List D)(hu:A.units + D.deps x + 1 < cLine)(xl:s.heap.IsTuple xa xits.toArray)(yl:s.heap.IsTuple ya yits.toArray)(xr:Hrs s x xits)(yr:Hrs s y yits)(ih:Ih s A.in1 x) :
  SeqAt.RcAt A s (.ref xa) (.ref ya) (eqD (.tup x) (.tup y)):=by
 simp only [eqD]
 have e:=SeqAt.RcAt.tuples (A:=A) (e:=fun j=>eqD (x.getD j .non) (y.getD j .non)) xl yl (by omega) (fun j h1 h2=>by
  have k1:j < x.length:=by rw [xr.length];simpa using h1
  have k2:j < y.length:=by rw [yr.length];simpa using h2
  have e1:x.getD j .non=x[j]:=by simp [List.getD,k1]
  have e2:y.getD j .non=y[j]:=by simp [List.getD,k2]
  rw [e1,e2]
  have hd:=ZeZ (ds:=x) k1
  have a1:=xr.get k1 (by rw [← xr.length];exact k1)
  have a2:=yr.get k2 (by rw [← yr.length];exact k2)
  refine ih j k1 _ _ _ ?_ (by simpa using a1) (by simpa using a2)
  show A.units + 1 + _ < cLine
  omega)
 have z:((List.range (min xits.toArray.size yits.toArray.size)).all (fun j=>eqD (x.getD j .non) (y.getD j .non)) && xits.toArray.size == yits.toArray.size)=eqDs x y:=by
  rw [show xits.toArray.size=x.length by simp [xr.length],show yits.toArray.size=y.length by simp [yr.length]]
  by_cases hl:x.length=y.length
  ·rw [← hl,Nat.min_self,ZbJ x y hl];simp
  ·rw [Zcr x y hl,beq_eq_false_iff_ne.mpr hl,Bool.and_false]
 rw [z] at e
 exact e
theorem Zkf {A:Around}{xa ya:Addr}{xits yits:List Value}(x y:List D)(hu:A.units + D.deps x + 1 < cLine)(xl:s.heap.IsList xa xits.toArray)(yl:s.heap.IsList ya yits.toArray)(xr:Hrs s x xits)(yr:Hrs s y yits)(ih:Ih s A.in1 x) :
  SeqAt.EqAt A s (.ref xa) (.ref ya) (eqD (.lst x) (.lst y)):=by
 by_cases ha:xa=ya
 ·subst ha
  obtain rfl:=ZfJ xl yl
  obtain rfl:=Hrs.func _ _ _ xr yr
  rw [Zdv]
  exact SeqAt.EqAt.same _
 ·exact .of_refs ha (ZfO x y hu xl yl xr yr ih)
theorem Zi1 {A:Around}{xa ya:Addr}{xits yits:List Value}(x y:List D)(hu:A.units + D.deps x + 1 < cLine)(xl:s.heap.IsTuple xa xits.toArray)(yl:s.heap.IsTuple ya yits.toArray)(xr:Hrs s x xits)(yr:Hrs s y yits)(ih:Ih s A.in1 x) :
  SeqAt.EqAt A s (.ref xa) (.ref ya) (eqD (.tup x) (.tup y)):=by
 by_cases ha:xa=ya
 ·subst ha
  obtain rfl:=Zff xl yl
  obtain rfl:=Hrs.func _ _ _ xr yr
  rw [Zdv]
  exact SeqAt.EqAt.same _
 ·exact .of_refs ha (Zfd x y hu xl yl xr yr ih)
theorem ZjW {A:Around}{xa ya:Addr}{xits yits:List Value}(x y:List D)(hu:A.units + D.deps x + 1 < cLine)(xl:s.heap.IsList xa xits.toArray)(yl:s.heap.IsList ya yits.toArray)(xr:Hrs s x xits)(yr:Hrs s y yits)(ih:Ih s A.in1 x) :
  SeqAt.RcNeAt A s (.ref xa) (.ref ya) (!eqD (.lst x) (.lst y)):=by
 simp only [eqD]
 by_cases hl:x.length=y.length
 ·have e:=SeqAt.RcNeAt.lists (e:=fun j=>eqD (x.getD j .non) (y.getD j .non)) xl yl (by simp [← xr.length,← yr.length,hl]) (by omega) (items ih hu hl xr yr)
  rw [show xits.toArray.size=x.length by simp [xr.length],ZbJ x y hl] at e
  exact e
 ·rw [Zcr x y hl]
  exact SeqAt.RcNeAt.lists_lengths xl yl (by simp [← xr.length,← yr.length,hl]) (by omega)
theorem ZiT {A:Around}{xa ya:Addr}{xits yits:List Value}(x y:List D)(hu:A.units + D.deps x + 1 < cLine)(xl:s.heap.IsTuple xa xits.toArray)(yl:s.heap.IsTuple ya yits.toArray)(xr:Hrs s x xits)(yr:Hrs s y yits)(ih:Ih s A.in1 x) :
  SeqAt.RcNeAt A s (.ref xa) (.ref ya) (!eqD (.tup x) (.tup y)):=by
 simp only [eqD]
 have e:=SeqAt.RcNeAt.tuples (A:=A) (e:=fun j=>eqD (x.getD j .non) (y.getD j .non)) xl yl (by omega) (fun j h1 h2=>by
  have k1:j < x.length:=by rw [xr.length];simpa using h1
  have k2:j < y.length:=by rw [yr.length];simpa using h2
  have e1:x.getD j .non=x[j]:=by simp [List.getD,k1]
  have e2:y.getD j .non=y[j]:=by simp [List.getD,k2]
  rw [e1,e2]
  have hd:=ZeZ (ds:=x) k1
  have a1:=xr.get k1 (by rw [← xr.length];exact k1)
  have a2:=yr.get k2 (by rw [← yr.length];exact k2)
  refine ih j k1 _ _ _ ?_ (by simpa using a1) (by simpa using a2)
  show A.units + 1 + _ < cLine
  omega)
 have z:((List.range (min xits.toArray.size yits.toArray.size)).all (fun j=>eqD (x.getD j .non) (y.getD j .non)) && xits.toArray.size == yits.toArray.size)=eqDs x y:=by
  rw [show xits.toArray.size=x.length by simp [xr.length],show yits.toArray.size=y.length by simp [yr.length]]
  by_cases hl:x.length=y.length
  ·rw [← hl,Nat.min_self,ZbJ x y hl];simp
  ·rw [Zcr x y hl,beq_eq_false_iff_ne.mpr hl,Bool.and_false]
 rw [z] at e
 exact e
noncomputable def D.kids:D→List D
 | .lst xs=>xs
 | .tup xs=>xs
 | _=>[]
theorem ZbT {A:Around}(d e:D)(u v:Value)(hu:A.units + d.dep < cLine)(h1:Hr s d u)(h2:Hr s e v)(ih:Ih s A.in1 d.kids):SeqAt.EqAt A s u v (eqD d e):=by
 have hu0:A.units < cLine:=by omega
 cases d with
 | dct x=>cases h1
 | non =>
  cases h1
  cases e with
  | dct y=>cases h2
  | non =>
   cases h2
   exact SeqAt.EqAt.same _
  | bl y =>
   cases h2
   exact SeqAt.EqAt.none_bool y
  | int y =>
   obtain ⟨yt,rfl⟩:=h2
   exact SeqAt.EqAt.none_int y yt
  | str y =>
   obtain ⟨yt,rfl⟩:=h2
   exact SeqAt.EqAt.none_str y yt
  | lst y =>
   obtain ⟨ya,yits,rfl,yl,yr⟩:=h2
   exact SeqAt.EqAt.none_list yl hu0
  | tup y =>
   obtain ⟨ya,yits,rfl,yl,yr⟩:=h2
   exact SeqAt.EqAt.none_tuple yl hu0
 | bl x =>
  cases h1
  cases e with
  | dct y=>cases h2
  | non =>
   cases h2
   exact SeqAt.EqAt.bool_none x
  | bl y =>
   cases h2
   exact SeqAt.EqAt.bool_bool x y
  | int y =>
   obtain ⟨yt,rfl⟩:=h2
   exact SeqAt.EqAt.bool_int x y yt
  | str y =>
   obtain ⟨yt,rfl⟩:=h2
   exact SeqAt.EqAt.bool_str x y yt
  | lst y =>
   obtain ⟨ya,yits,rfl,yl,yr⟩:=h2
   exact SeqAt.EqAt.bool_list x yl hu0
  | tup y =>
   obtain ⟨ya,yits,rfl,yl,yr⟩:=h2
   exact SeqAt.EqAt.bool_tuple x yl hu0
 | int x =>
  obtain ⟨xt,rfl⟩:=h1
  cases e with
  | dct y=>cases h2
  | non =>
   cases h2
   exact SeqAt.EqAt.int_none x xt
  | bl y =>
   cases h2
   exact SeqAt.EqAt.int_bool x xt y
  | int y =>
   obtain ⟨yt,rfl⟩:=h2
   exact SeqAt.EqAt.int_int x xt y yt
  | str y =>
   obtain ⟨yt,rfl⟩:=h2
   exact SeqAt.EqAt.int_str x xt y yt
  | lst y =>
   obtain ⟨ya,yits,rfl,yl,yr⟩:=h2
   exact SeqAt.EqAt.int_list x xt yl hu0
  | tup y =>
   obtain ⟨ya,yits,rfl,yl,yr⟩:=h2
   exact SeqAt.EqAt.int_tuple x xt yl hu0
 | str x =>
  obtain ⟨xt,rfl⟩:=h1
  cases e with
  | dct y=>cases h2
  | non =>
   cases h2
   exact SeqAt.EqAt.str_none x xt
  | bl y =>
   cases h2
   exact SeqAt.EqAt.str_bool x xt y
  | int y =>
   obtain ⟨yt,rfl⟩:=h2
   exact SeqAt.EqAt.str_int x xt y yt
  | str y =>
   obtain ⟨yt,rfl⟩:=h2
   exact SeqAt.EqAt.str_str x xt y yt
  | lst y =>
   obtain ⟨ya,yits,rfl,yl,yr⟩:=h2
   exact SeqAt.EqAt.str_list x xt yl hu0
  | tup y =>
   obtain ⟨ya,yits,rfl,yl,yr⟩:=h2
   exact SeqAt.EqAt.str_tuple x xt yl hu0
 | lst x =>
  obtain ⟨xa,xits,rfl,xl,xr⟩:=h1
  cases e with
  | dct y=>cases h2
  | non =>
   cases h2
   exact SeqAt.EqAt.list_none xl hu0
  | bl y =>
   cases h2
   exact SeqAt.EqAt.list_bool y xl hu0
  | int y =>
   obtain ⟨yt,rfl⟩:=h2
   exact SeqAt.EqAt.list_int y yt xl hu0
  | str y =>
   obtain ⟨yt,rfl⟩:=h2
   exact SeqAt.EqAt.list_str y yt xl hu0
  | lst y =>
   obtain ⟨ya,yits,rfl,yl,yr⟩:=h2
   exact Zkf x y hu xl yl xr yr ih
  | tup y =>
   obtain ⟨ya,yits,rfl,yl,yr⟩:=h2
   exact SeqAt.EqAt.list_tuple xl yl hu0
 | tup x =>
  obtain ⟨xa,xits,rfl,xl,xr⟩:=h1
  cases e with
  | dct y=>cases h2
  | non =>
   cases h2
   exact SeqAt.EqAt.tuple_none xl hu0
  | bl y =>
   cases h2
   exact SeqAt.EqAt.tuple_bool y xl hu0
  | int y =>
   obtain ⟨yt,rfl⟩:=h2
   exact SeqAt.EqAt.tuple_int y yt xl hu0
  | str y =>
   obtain ⟨yt,rfl⟩:=h2
   exact SeqAt.EqAt.tuple_str y yt xl hu0
  | lst y =>
   obtain ⟨ya,yits,rfl,yl,yr⟩:=h2
   exact SeqAt.EqAt.tuple_list xl yl hu0
  | tup y =>
   obtain ⟨ya,yits,rfl,yl,yr⟩:=h2
   exact Zi1 x y hu xl yl xr yr ih
theorem ZmA {A:Around}(d e:D)(u v:Value)(hu:A.units + d.dep < cLine)(h1:Hr s d u)(h2:Hr s e v)(ih:Ih s A.in1 d.kids):SeqAt.RcAt A s u v (eqD d e):=by
 have hu0:A.units < cLine:=by omega
 cases d with
 | dct x=>cases h1
 | non =>
  cases h1
  cases e with
  | dct y=>cases h2
  | non =>
   cases h2
   exact SeqAt.RcAt.none_none
  | bl y =>
   cases h2
   exact SeqAt.RcAt.none_bool y
  | int y =>
   obtain ⟨yt,rfl⟩:=h2
   exact SeqAt.RcAt.none_int y yt
  | str y =>
   obtain ⟨yt,rfl⟩:=h2
   exact SeqAt.RcAt.none_str y yt
  | lst y =>
   obtain ⟨ya,yits,rfl,yl,yr⟩:=h2
   exact SeqAt.RcAt.none_list yl hu0
  | tup y =>
   obtain ⟨ya,yits,rfl,yl,yr⟩:=h2
   exact SeqAt.RcAt.none_tuple yl hu0
 | bl x =>
  cases h1
  cases e with
  | dct y=>cases h2
  | non =>
   cases h2
   exact SeqAt.RcAt.bool_none x
  | bl y =>
   cases h2
   exact SeqAt.RcAt.bool_bool x y
  | int y =>
   obtain ⟨yt,rfl⟩:=h2
   exact SeqAt.RcAt.bool_int x y yt
  | str y =>
   obtain ⟨yt,rfl⟩:=h2
   exact SeqAt.RcAt.bool_str x y yt
  | lst y =>
   obtain ⟨ya,yits,rfl,yl,yr⟩:=h2
   exact SeqAt.RcAt.bool_list x yl hu0
  | tup y =>
   obtain ⟨ya,yits,rfl,yl,yr⟩:=h2
   exact SeqAt.RcAt.bool_tuple x yl hu0
 | int x =>
  obtain ⟨xt,rfl⟩:=h1
  cases e with
  | dct y=>cases h2
  | non =>
   cases h2
   exact SeqAt.RcAt.int_none x xt
  | bl y =>
   cases h2
   exact SeqAt.RcAt.int_bool x xt y
  | int y =>
   obtain ⟨yt,rfl⟩:=h2
   exact SeqAt.RcAt.int_int x xt y yt
  | str y =>
   obtain ⟨yt,rfl⟩:=h2
   exact SeqAt.RcAt.int_str x xt y yt
  | lst y =>
   obtain ⟨ya,yits,rfl,yl,yr⟩:=h2
   exact SeqAt.RcAt.int_list x xt yl hu0
  | tup y =>
   obtain ⟨ya,yits,rfl,yl,yr⟩:=h2
   exact SeqAt.RcAt.int_tuple x xt yl hu0
 | str x =>
  obtain ⟨xt,rfl⟩:=h1
  cases e with
  | dct y=>cases h2
  | non =>
   cases h2
   exact SeqAt.RcAt.str_none x xt
  | bl y =>
   cases h2
   exact SeqAt.RcAt.str_bool x xt y
  | int y =>
   obtain ⟨yt,rfl⟩:=h2
   exact SeqAt.RcAt.str_int x xt y yt
  | str y =>
   obtain ⟨yt,rfl⟩:=h2
   exact SeqAt.RcAt.str_str x xt y yt
  | lst y =>
   obtain ⟨ya,yits,rfl,yl,yr⟩:=h2
   exact SeqAt.RcAt.str_list x xt yl hu0
  | tup y =>
   obtain ⟨ya,yits,rfl,yl,yr⟩:=h2
   exact SeqAt.RcAt.str_tuple x xt yl hu0
 | lst x =>
  obtain ⟨xa,xits,rfl,xl,xr⟩:=h1
  cases e with
  | dct y=>cases h2
  | non =>
   cases h2
   exact SeqAt.RcAt.list_none xl hu0
  | bl y =>
   cases h2
   exact SeqAt.RcAt.list_bool y xl hu0
  | int y =>
   obtain ⟨yt,rfl⟩:=h2
   exact SeqAt.RcAt.list_int y yt xl hu0
  | str y =>
   obtain ⟨yt,rfl⟩:=h2
   exact SeqAt.RcAt.list_str y yt xl hu0
  | lst y =>
   obtain ⟨ya,yits,rfl,yl,yr⟩:=h2
   exact ZfO x y hu xl yl xr yr ih
  | tup y =>
   obtain ⟨ya,yits,rfl,yl,yr⟩:=h2
   exact SeqAt.RcAt.list_tuple xl yl hu0
 | tup x =>
  obtain ⟨xa,xits,rfl,xl,xr⟩:=h1
  cases e with
  | dct y=>cases h2
  | non =>
   cases h2
   exact SeqAt.RcAt.tuple_none xl hu0
  | bl y =>
   cases h2
   exact SeqAt.RcAt.tuple_bool y xl hu0
  | int y =>
   obtain ⟨yt,rfl⟩:=h2
   exact SeqAt.RcAt.tuple_int y yt xl hu0
  | str y =>
   obtain ⟨yt,rfl⟩:=h2
   exact SeqAt.RcAt.tuple_str y yt xl hu0
  | lst y =>
   obtain ⟨ya,yits,rfl,yl,yr⟩:=h2
   exact SeqAt.RcAt.tuple_list xl yl hu0
  | tup y =>
   obtain ⟨ya,yits,rfl,yl,yr⟩:=h2
   exact Zfd x y hu xl yl xr yr ih
theorem Zmm {A:Around}(d e:D)(u v:Value)(hu:A.units + d.dep < cLine)(h1:Hr s d u)(h2:Hr s e v)(ih:Ih s A.in1 d.kids):SeqAt.RcNeAt A s u v (!eqD d e):=by
 have hu0:A.units < cLine:=by omega
 cases d with
 | dct x=>cases h1
 | non =>
  cases h1
  cases e with
  | dct y=>cases h2
  | non =>
   cases h2
   exact SeqAt.RcNeAt.none_none
  | bl y =>
   cases h2
   exact SeqAt.RcNeAt.none_bool y
  | int y =>
   obtain ⟨yt,rfl⟩:=h2
   exact SeqAt.RcNeAt.none_int y yt
  | str y =>
   obtain ⟨yt,rfl⟩:=h2
   exact SeqAt.RcNeAt.none_str y yt
  | lst y =>
   obtain ⟨ya,yits,rfl,yl,yr⟩:=h2
   exact SeqAt.RcNeAt.none_list yl hu0
  | tup y =>
   obtain ⟨ya,yits,rfl,yl,yr⟩:=h2
   exact SeqAt.RcNeAt.none_tuple yl hu0
 | bl x =>
  cases h1
  cases e with
  | dct y=>cases h2
  | non =>
   cases h2
   exact SeqAt.RcNeAt.bool_none x
  | bl y =>
   cases h2
   exact SeqAt.RcNeAt.bool_bool x y
  | int y =>
   obtain ⟨yt,rfl⟩:=h2
   exact SeqAt.RcNeAt.bool_int x y yt
  | str y =>
   obtain ⟨yt,rfl⟩:=h2
   exact SeqAt.RcNeAt.bool_str x y yt
  | lst y =>
   obtain ⟨ya,yits,rfl,yl,yr⟩:=h2
   exact SeqAt.RcNeAt.bool_list x yl hu0
  | tup y =>
   obtain ⟨ya,yits,rfl,yl,yr⟩:=h2
   exact SeqAt.RcNeAt.bool_tuple x yl hu0
 | int x =>
  obtain ⟨xt,rfl⟩:=h1
  cases e with
  | dct y=>cases h2
  | non =>
   cases h2
   exact SeqAt.RcNeAt.int_none x xt
  | bl y =>
   cases h2
   exact SeqAt.RcNeAt.int_bool x xt y
  | int y =>
   obtain ⟨yt,rfl⟩:=h2
   exact SeqAt.RcNeAt.int_int x xt y yt
  | str y =>
   obtain ⟨yt,rfl⟩:=h2
   exact SeqAt.RcNeAt.int_str x xt y yt
  | lst y =>
   obtain ⟨ya,yits,rfl,yl,yr⟩:=h2
   exact SeqAt.RcNeAt.int_list x xt yl hu0
  | tup y =>
   obtain ⟨ya,yits,rfl,yl,yr⟩:=h2
   exact SeqAt.RcNeAt.int_tuple x xt yl hu0
 | str x =>
  obtain ⟨xt,rfl⟩:=h1
  cases e with
  | dct y=>cases h2
  | non =>
   cases h2
   exact SeqAt.RcNeAt.str_none x xt
  | bl y =>
   cases h2
   exact SeqAt.RcNeAt.str_bool x xt y
  | int y =>
   obtain ⟨yt,rfl⟩:=h2
   exact SeqAt.RcNeAt.str_int x xt y yt
  | str y =>
   obtain ⟨yt,rfl⟩:=h2
   exact SeqAt.RcNeAt.str_str x xt y yt
  | lst y =>
   obtain ⟨ya,yits,rfl,yl,yr⟩:=h2
   exact SeqAt.RcNeAt.str_list x xt yl hu0
  | tup y =>
   obtain ⟨ya,yits,rfl,yl,yr⟩:=h2
   exact SeqAt.RcNeAt.str_tuple x xt yl hu0
 | lst x =>
  obtain ⟨xa,xits,rfl,xl,xr⟩:=h1
  cases e with
  | dct y=>cases h2
  | non =>
   cases h2
   exact SeqAt.RcNeAt.list_none xl hu0
  | bl y =>
   cases h2
   exact SeqAt.RcNeAt.list_bool y xl hu0
  | int y =>
   obtain ⟨yt,rfl⟩:=h2
   exact SeqAt.RcNeAt.list_int y yt xl hu0
  | str y =>
   obtain ⟨yt,rfl⟩:=h2
   exact SeqAt.RcNeAt.list_str y yt xl hu0
  | lst y =>
   obtain ⟨ya,yits,rfl,yl,yr⟩:=h2
   exact ZjW x y hu xl yl xr yr ih
  | tup y =>
   obtain ⟨ya,yits,rfl,yl,yr⟩:=h2
   exact SeqAt.RcNeAt.list_tuple xl yl hu0
 | tup x =>
  obtain ⟨xa,xits,rfl,xl,xr⟩:=h1
  cases e with
  | dct y=>cases h2
  | non =>
   cases h2
   exact SeqAt.RcNeAt.tuple_none xl hu0
  | bl y =>
   cases h2
   exact SeqAt.RcNeAt.tuple_bool y xl hu0
  | int y =>
   obtain ⟨yt,rfl⟩:=h2
   exact SeqAt.RcNeAt.tuple_int y yt xl hu0
  | str y =>
   obtain ⟨yt,rfl⟩:=h2
   exact SeqAt.RcNeAt.tuple_str y yt xl hu0
  | lst y =>
   obtain ⟨ya,yits,rfl,yl,yr⟩:=h2
   exact SeqAt.RcNeAt.tuple_list xl yl hu0
  | tup y =>
   obtain ⟨ya,yits,rfl,yl,yr⟩:=h2
   exact ZiT x y hu xl yl xr yr ih
mutual
theorem ZkH:∀ (d:D) {A:Around} (e:D) (u v:Value),A.units + d.dep < cLine→Hr s d u→Hr s e v→SeqAt.EqAt A s u v (eqD d e)
 | .lst xs,_,e,u,v,hu,h1,h2=>ZbT (.lst xs) e u v hu h1 h2 (Zdt xs)
 | .dct xs,_,e,u,v,hu,h1,h2=>by cases h1
 | .tup xs,_,e,u,v,hu,h1,h2=>ZbT (.tup xs) e u v hu h1 h2 (Zdt xs)
 | .non,_,e,u,v,hu,h1,h2=>ZbT .non e u v hu h1 h2 (fun j h=>by simp [D.kids] at h)
 | .bl b,_,e,u,v,hu,h1,h2=>ZbT (.bl b) e u v hu h1 h2 (fun j h=>by simp [D.kids] at h)
 | .int b,_,e,u,v,hu,h1,h2=>ZbT (.int b) e u v hu h1 h2 (fun j h=>by simp [D.kids] at h)
 | .str b,_,e,u,v,hu,h1,h2=>ZbT (.str b) e u v hu h1 h2 (fun j h=>by simp [D.kids] at h)
theorem Zdt:∀ (xs:List D) {A:Around},Ih s A xs
 | [],_=>fun j h=>by simp at h
 | x::xs,_=>fun j h=>match j,h with
  | 0,h=>fun e u v hu h1 h2=>ZkH x e u v hu h1 h2
  | j + 1,h=>fun e u v hu h1 h2=>Zdt xs j (by simpa using h) e u v hu h1 h2
end
theorem ZoF (d:D){A:Around}(e:D)(u v:Value)(hu:A.units + d.dep < cLine)(h1:Hr s d u)(h2:Hr s e v):SeqAt.RcAt A s u v (eqD d e):=ZmA d e u v hu h1 h2 (Zdt _)
theorem ZoQ (d:D){A:Around}(e:D)(u v:Value)(hu:A.units + d.dep < cLine)(h1:Hr s d u)(h2:Hr s e v):SeqAt.RcNeAt A s u v (!eqD d e):=Zmm d e u v hu h1 h2 (Zdt _)
end
end PV
set_option linter.all false
set_option Elab.async false
set_option maxRecDepth 100000
set_option maxHeartbeats 4000000
namespace PV
open PySem PySem.Spec PyProof.Rows
open L2 (V Hp HO Vals SqL SqT Same upd Cx PE PT PW PA PS PSs TE TT TA TS Inv RelV Yc Jd Zd)
theorem Zex {K:PySem.W.Frag}{H:Hp}{i:Bool}{v:V}(h:Rep K H (.bl i) v):v=.bl i:=by simpa [Rep] using h
section
variable {X:Cx} {m m1 m2 m3:Md} {a b c:Expr} {f g h:Ex} {t u:Tx} {pos:Pos} {rest:List Expr}
theorem ZaG (ha:PD X m a f)(he:∀ whole,isTrue a X.env whole=(do let v ← whole;standAt a.pos;holding [v] (truthy v)):=by intro _;rfl):PTd X a (tB f) :=
 PT.of (L2.ZoK ha.h he) fun σ H Q hh_=>el9 hh_ fun BF BH F env L d S e q=>by
  unfold tB at e
  split at e
  ·rename_i k hk
   cases e
   exact ⟨BF,BH,F,env,L,_,S,hk,fun v F' H' x r=>⟨d,Zex r,q F' H' x⟩⟩
  ·cases e
theorem Zm4 (ha:PD X m a f):PD X m a (eB (tB f)):=PD.mk <| PE.of ha.h fun σ H Q hh_=>el9 hh_ fun BF BH F env L d S e q=>by
 unfold eB tB at e
 split at e
 ·rename_i k hk
  split at hk
  ·rename_i k' hk'
   cases e;cases hk
   exact ⟨BF,BH,F,env,L,_,S,hk',q⟩
  ·cases hk
 ·cases e
structure ZcN (X:Cx)(r:L2.R2)(f g:Ex)(t:Tx):Prop where
 ok:∀ env k,t env=some k→∃ x y,f env=some x∧g env=some y∧∀ v w H' (Q:V→Hp→Prop),Rep X.K H' x v→Rep X.K H' y w→Q (.bl k) H'→r v w H' Q
theorem ZhQ {op:CmpOp}{r:L2.R2}(ho:L2.OpR X (compareOp op) r)(hc:ZcN X r f g t)(hm:behindInMarks op b=false)(ha:PD X m1 a f)(hb:PD X m2 b g):PD X m (.Compare a [op] [b] pos) (eB t) :=
 PD.mk <| PE.of (L2.Zog ho ha.r.h hb.r.h hm) fun σ H Q hh_=>el9 hh_ fun BF BH F env L d S e q=>by
  unfold eB at e
  split at e
  ·rename_i k hk
   cases e
   obtain ⟨x,y,hx,hy,hr⟩:=hc.ok env k hk
   exact two S hx hy fun v w F' H' z r1 r2=>hr v w H' Q r1 r2 (q _ F' H' z (by simp [Rep]))
  ·cases e
theorem Zb4 {op:CmpOp}{r:L2.R2}(ho:L2.OpR X (compareOp op) r)(hc:ZcN X r f g t)(hm:behindInMarks op b=false)(ha:PD X m1 a f)(hb:PD X m2 b g):PTd X (.Compare a [op] [b] pos) t :=
 PT.of (L2.Zne ho ha.r.h hb.r.h hm) fun σ H Q hh_=>el9 hh_ fun BF BH F env L k S e q=>by
  obtain ⟨x,y,hx,hy,hr⟩:=hc.ok env k e
  exact two S hx hy fun v w F' H' z r1 r2=>hr v w H' _ r1 r2 ⟨k,rfl,q F' H' z⟩
theorem Zge {p:Int→Int→Bool}{G:Int→Int→V}(hG:∀ i j,G i j=.bl (p i j)):ZcN X (L2.rI0 G) f g (t2I p f g):=⟨fun env k e=>by
 unfold t2I at e
 split at e
 ·rename_i i j h1 h2
  cases e
  exact ⟨_,_,h1,h2,fun v w H' Q r1 r2 q=>⟨i,j,Jr r1,Jr r2,by rw [hG];exact q⟩⟩
 ·cases e⟩
theorem Zf8 (ha:PD X m1 a f)(hb:PD X m2 b g):PTd X (.Compare a [.Lt] [b] pos) (t2I pLt f g):=Zb4 L2.Zm6 (Zge fun _ _=>rfl) (L2.Zbr _) ha hb
theorem Zm7 (ha:PD X m1 a f)(hb:PD X m2 b g):PTd X (.Compare a [.Gt] [b] pos) (t2I pGt f g):=Zb4 L2.Zqg (Zge fun _ _=>rfl) (L2.Zbr _) ha hb
theorem ZpZ (ha:PD X m1 a f)(hb:PD X m2 b g):PD X m (.Compare a [.Lt] [b] pos) (eB (t2I pLt f g)):=ZhQ L2.Zm6 (Zge fun _ _=>rfl) (L2.Zbr _) ha hb
theorem ZpT (ha:PD X m1 a f)(hb:PD X m2 b g):PD X m (.Compare a [.GtE] [b] pos) (eB (t2I pGe f g)):=ZhQ L2.ZpP (Zge fun _ _=>rfl) (L2.Zbr _) ha hb
noncomputable def rEqD (K:PySem.W.Frag) (neg:Bool):L2.R2:=fun x y H Q=>∃ dx dy,Rep K H dx x∧Rep K H dy y∧(dx.dep≤8∧dy.dep≤8)∧Q (.bl (if neg then !eqD dx dy else eqD dx dy)) H
theorem ZlU (hu:X.A.units + 64 < cLine):L2.OpR X (compareOp .Eq) (rEqD X.K false):=by
 intro pins s σ H x y v u Q I rx ry h
 obtain ⟨dx,dy,h1,h2,hd,q⟩:=h
 exact ZoF dx dy v u (by omega) (Zax I _ _ _ (by omega) h1 rx) (Zax I _ _ _ (by omega) h2 ry) X.prog X.w X.xe _ ⟨.bl _,H,I,rfl,q⟩
theorem Zpx (hu:X.A.units + 64 < cLine):L2.OpR X (compareOp .NotEq) (rEqD X.K true):=by
 intro pins s σ H x y v u Q I rx ry h
 obtain ⟨dx,dy,h1,h2,hd,q⟩:=h
 exact ZoQ dx dy v u (by omega) (Zax I _ _ _ (by omega) h1 rx) (Zax I _ _ _ (by omega) h2 ry) X.prog X.w X.xe _ ⟨.bl _,H,I,rfl,q⟩
theorem ZkE:ZcN X (rEqD X.K false) f g (tEq f g):=⟨fun env k e=>by
 unfold tEq at e
 split at e
 ·rename_i x y h1 h2
  split at e
  ·rename_i hd
   cases e
   exact ⟨x,y,h1,h2,fun v w H' Q r1 r2 q=>⟨x,y,r1,r2,hd,q⟩⟩
  ·cases e
 ·cases e⟩
theorem ZoD:ZcN X (rEqD X.K true) f g (tNe f g):=⟨fun env k e=>by
 unfold tNe at e
 split at e
 ·rename_i x y h1 h2
  split at e
  ·rename_i hd
   cases e
   exact ⟨x,y,h1,h2,fun v w H' Q r1 r2 q=>⟨x,y,r1,r2,hd,q⟩⟩
  ·cases e
 ·cases e⟩
variable (hu:X.A.units + 64 < cLine)
include hu
theorem ZcO (ha:PD X m1 a f)(hb:PD X m2 b g):PTd X (.Compare a [.Eq] [b] pos) (tEq f g):=Zb4 (ZlU hu) ZkE (L2.Zbr _) ha hb
theorem Za6 (ha:PD X m1 a f)(hb:PD X m2 b g):PTd X (.Compare a [.NotEq] [b] pos) (tNe f g):=Zb4 (Zpx hu) ZoD (L2.Zbr _) ha hb
theorem Zkj (ha:PD X m1 a f)(hb:PD X m2 b g):PD X m (.Compare a [.Eq] [b] pos) (eB (tEq f g)):=ZhQ (ZlU hu) ZkE (L2.Zbr _) ha hb
omit hu
open Classical in
noncomputable def eqH (s:Shared) (x:D) (u:Value):Bool:=if ∃ d,Hr s d u∧eqD d x=true then true else false
theorem Zeg {s:Shared}{x d:D}{u:Value}(h:Hr s d u):eqH s x u=eqD d x:=by
 unfold eqH
 cases e:eqD d x with
 | true=>rw [if_pos ⟨d,h,e⟩]
 | false=>rw [if_neg];rintro ⟨d',h',e'⟩;rw [Hr.func _ _ _ h' h,e] at e';cases e'
theorem ZgA {s:Shared}{x:D}:∀ {ys:List D} {us:List Value},Hrs s ys us→us.any (eqH s x)=ys.any fun y=>eqD y x
 | [],us,h=>by simp only [Hrs] at h;subst h;rfl
 | y::ys,us,h=>by
  simp only [Hrs] at h
  obtain ⟨u,r,rfl,h1,h2⟩:=h
  rw [List.any_cons,List.any_cons,Zeg h1,ZgA h2]
theorem Zda {A:Around}{s:Shared}{x:D}{v:Value}(hx:Hr s x v):∀ {ys:List D} {us:List Value},A.units + D.deps ys < cLine→Hrs s ys us→∀ u ∈ us,SeqAt.EqAt A s u v (eqH s x u)
 | [],us,_,h=>by simp only [Hrs] at h;subst h;intro u hu;cases hu
 | y::ys,us,hd,h=>by
  simp only [Hrs] at h
  obtain ⟨u,r,rfl,h1,h2⟩:=h
  simp only [D.deps] at hd
  intro u' hu'
  rcases List.mem_cons.mp hu' with rfl | hu'
  ·rw [Zeg h1];exact ZkH y x _ v (by omega) h1 hx
  ·exact Zda hx (by omega) h2 u' hu'
noncomputable def rInD (K:PySem.W.Frag) (neg:Bool):L2.R2:=fun x y H Q=>∃ dx ys,Rep K H dx x∧(Rep K H (.lst ys) y∨Rep K H (.tup ys) y)∧(D.deps ys≤8∧dx.dep≤8)∧Q (.bl (if neg then !inD dx ys else inD dx ys)) H
include hu
theorem ZoL:L2.OpR X (compareOp .NotIn) (rInD X.K true):=by
 intro pins s σ H x y v u Q I rx ry h
 obtain ⟨dx,ys,h1,h2,hd,q⟩:=h
 have hx:=Zax I _ _ _ (by omega) h1 rx
 have hin:X.A.in1.units + D.deps ys < cLine:=by show X.A.units + 1 + _ < _;omega
 rcases h2 with h2 | h2
 ·have hy:=Zax I _ _ _ (by simp only [D.dep];omega) h2 ry
  simp only [Hr] at hy
  obtain ⟨p,its,rfl,hl,hr⟩:=hy
  refine SeqAt.notIn_listAt (eqH s dx) hl (fun w hw=>Zda hx hin hr w (by simpa using hw)) ⟨.bl _,H,I,rfl,?_⟩
  rw [show its.toArray.any (eqH s dx)=its.any (eqH s dx) by simp,ZgA hr]
  exact q
 ·have hy:=Zax I _ _ _ (by simp only [D.dep];omega) h2 ry
  simp only [Hr] at hy
  obtain ⟨p,its,rfl,hl,hr⟩:=hy
  refine SeqAt.notIn_tupleAt (eqH s dx) hl (fun w hw=>Zda hx hin hr w (by simpa using hw)) ⟨.bl _,H,I,rfl,?_⟩
  rw [show its.toArray.any (eqH s dx)=its.any (eqH s dx) by simp,ZgA hr]
  exact q
omit hu
theorem Zps:ZcN X (rInD X.K true) f g (tNi f g):=⟨fun env k e=>by
 unfold tNi at e
 split at e
 ·rename_i k' e'
  cases e
  unfold tIn at e'
  split at e'
  ·rename_i x ys h1 h2
   split at e'
   ·rename_i hd;cases e';exact ⟨x,_,h1,h2,fun v w H' Q r1 r2 q=>⟨x,ys,r1,.inl r2,hd,q⟩⟩
   ·cases e'
  ·rename_i x ys h1 h2
   split at e'
   ·rename_i hd;cases e';exact ⟨x,_,h1,h2,fun v w H' Q r1 r2 q=>⟨x,ys,r1,.inr r2,hd,q⟩⟩
   ·cases e'
  ·cases e'
 ·cases e⟩
include hu
theorem Zkp (ha:PD X m1 a f)(hb:PD X m2 b g)(hm:behindInMarks .NotIn b=false:=by with_unfolding_all rfl):PTd X (.Compare a [.NotIn] [b] pos) (tNi f g):=Zb4 (ZoL hu) Zps hm ha hb
omit hu
theorem Zja {K:PySem.W.Frag}{H:Hp}{d:D}{v:V}(h:Rep K H d v):decide (v=.non)=d.isN:=by
 cases d <;> simp only [Rep,D.isN] at h ⊢
 ·subst h;simp
 ·subst h;simp
 ·subst h;simp
 ·subst h;simp
 ·obtain ⟨a,vs,rfl,_⟩:=h;simp
 ·obtain ⟨a,vs,rfl,_⟩:=h;simp
 ·obtain ⟨a,o,rfl,_⟩:=h;simp
theorem Znm:ZcN X (fun x y H Q=>y=.non∧Q (.bl (decide (x=.non))) H) f (eC .non) (tIsN f):=⟨fun env k e=>by
 unfold tIsN at e
 split at e
 ·rename_i x h1
  cases e
  exact ⟨x,.non,h1,rfl,fun v w H' Q r1 r2 q=>⟨by simpa [Rep] using r2,by rw [Zja r1];exact q⟩⟩
 ·cases e⟩
theorem Zot:ZcN X (fun x y H Q=>y=.non∧Q (.bl (!decide (x=.non))) H) f (eC .non) (tNoN f):=⟨fun env k e=>by
 unfold tNoN at e
 split at e
 ·rename_i x h1
  cases e
  exact ⟨x,.non,h1,rfl,fun v w H' Q r1 r2 q=>⟨by simpa [Rep] using r2,by rw [Zja r1];exact q⟩⟩
 ·cases e⟩
theorem ZlL {j p2}(ha:PD X m1 a f):PTd X (.Compare a [.Is] [.Constant .none j p2] pos) (tIsN f):=Zb4 L2.ZoW Znm (L2.Zbr _) ha (Zc8 (m:=.r))
theorem ZkL {j p2}(ha:PD X m1 a f):PTd X (.Compare a [.IsNot] [.Constant .none j p2] pos) (tNoN f):=Zb4 L2.Zno Zot (L2.Zbr _) ha (Zc8 (m:=.r))
noncomputable def PWd (X:Cx) (e:Expr) (t:Tx):Prop:=PW X e (tTst X.K t)
theorem pw_t (h:PWd X a t):PTd X a t:=h _
theorem Zg2 (ha:PTd X a t):PWd X (.BoolOp .And [a] pos) t:=L2.Zov ha
theorem ZbL (ha:PTd X a t):PWd X (.BoolOp .Or [a] pos) t:=L2.ZpC ha
theorem Zky (ha:PTd X a t)(hb:PWd X (.BoolOp .And (b::rest) pos) u):PWd X (.BoolOp .And (a::b::rest) pos) (tAnd t u):=PW.of (L2.Zo0 ha hb) fun σ H Q hh_=>el9 hh_ fun BF BH F env L k S e q=>by
 unfold tAnd at e
 split at e
 ·rename_i h1
  exact ⟨BF,BH,F,env,L,true,S,h1,fun F' H' z=>L2.iteT (⟨BF,BH,F',env,L,k,S.ext z,e,fun F2 H2 z2=>q F2 H2 (z.trans z2)⟩)⟩
 ·rename_i h1
  cases e
  exact ⟨BF,BH,F,env,L,false,S,h1,fun F' H' z=>L2.iteF (q F' H' z)⟩
 ·cases e
theorem Zdu (ha:PTd X a t)(hb:PWd X (.BoolOp .Or (b::rest) pos) u):PWd X (.BoolOp .Or (a::b::rest) pos) (tOr t u):=PW.of (L2.Zp1 ha hb) fun σ H Q hh_=>el9 hh_ fun BF BH F env L k S e q=>by
 unfold tOr at e
 split at e
 ·rename_i h1
  cases e
  exact ⟨BF,BH,F,env,L,true,S,h1,fun F' H' z=>L2.iteT (q F' H' z)⟩
 ·rename_i h1
  exact ⟨BF,BH,F,env,L,false,S,h1,fun F' H' z=>L2.iteF (⟨BF,BH,F',env,L,k,S.ext z,e,fun F2 H2 z2=>q F2 H2 (z.trans z2)⟩)⟩
 ·cases e
theorem Zan (ha:PTd X a t):PTd X (.UnaryOp .Not a pos) (tNot t):=PT.of (L2.Zan ha) fun σ H Q hh_=>el9 hh_ fun BF BH F env L k S e q=>by
 unfold tNot at e
 split at e
 ·rename_i k' h1
  cases e
  exact ⟨BF,BH,F,env,L,k',S,h1,fun F' H' z=>q F' H' z⟩
 ·cases e
theorem ZdV (ha:PD X m a (eB t)):PD X m (.BoolOp .And [a] pos) (eB t):=PD.mk <| L2.ZoV ha.h
theorem ZkS {env:Env}{d:D}(h:eB t env=some d):∃ k,t env=some k∧d=.bl k:=by
 unfold eB at h
 split at h
 ·rename_i k hk;cases h;exact ⟨k,hk,rfl⟩
 ·cases h
theorem Zhx {env:Env}{k:Bool}(h:t env=some k):eB t env=some (.bl k):=by unfold eB;rw [h]
theorem ZhO (ha:PD X m1 a (eB t))(hb:PD X m2 (.BoolOp .And (b::rest) pos) (eB u)):PD X m (.BoolOp .And (a::b::rest) pos) (eB (tAnd t u)):=PD.mk <| PE.of (L2.ZoC ha.h hb.h) fun σ H Q hh_=>el9 hh_ fun BF BH F env L d S e q=>by
 obtain ⟨k,hk,rfl⟩:=ZkS e
 unfold tAnd at hk
 split at hk
 ·rename_i h1
  exact ⟨BF,BH,F,env,L,_,S,Zhx h1,fun v F' H' z r=>⟨true,Zex r,L2.iteT (⟨BF,BH,F',env,L,_,S.ext z,Zhx hk,fun w F2 H2 z2 r2=>q w F2 H2 (z.trans z2) (r2.scal rfl)⟩)⟩⟩
 ·rename_i h1
  cases hk
  exact ⟨BF,BH,F,env,L,_,S,Zhx h1,fun v F' H' z r=>⟨false,Zex r,L2.iteF (q _ F' H' z (by simp [Rep]))⟩⟩
 ·cases hk
theorem ZoS (ha:PD X m1 a (eB t)):PD X m (.UnaryOp .Not a pos) (eB (tNot t)):=PD.mk <| PE.of (L2.ZoY ha.h) fun σ H Q hh_=>el9 hh_ fun BF BH F env L d S e q=>by
 obtain ⟨k,hk,rfl⟩:=ZkS e
 unfold tNot at hk
 split at hk
 ·rename_i k' h1
  cases hk
  exact ⟨BF,BH,F,env,L,_,S,Zhx h1,fun v F' H' z r=>⟨k',Zex r,q _ F' H' z (by simp [Rep])⟩⟩
 ·cases hk
end
end PV
set_option linter.all false
set_option Elab.async false
set_option maxRecDepth 100000
set_option maxHeartbeats 4000000
namespace PV
open PySem PySem.Spec PyProof.Rows
open L2 (V Hp HO Vals SqL SqT Same upd Cx PE PT PW PA PS PSs TE TT TA TS Inv RelV Yc Jd Zd)
structure Bt (mg:Str→Option Value):Prop where
 len:mg "len"=none
 range:mg "range"=none
 list:mg "list"=none
 all:mg "all"=none
 isinstance:mg "isinstance"=none
 max:mg "max"=none
 int:mg "int"=none
 bool:mg "bool"=none
 str:mg "str"=none
 tuple:mg "tuple"=none
 sorted:mg "sorted"=none
 set:mg "set"=none
 any:mg "any"=none
 enumerate:mg "enumerate"=none
 dict:mg "dict"=none
theorem Zdc:lim≤sizeLine:=by rw [sizeLine_eq];decide
theorem Zlw:lim < sizeLine:=by rw [sizeLine_eq];decide
section
variable {X:Cx} {m m1 m2 m3:Md} {a b c e:Expr} {es:List Expr} {f g h:Ex} {fs:List Ex} {t u:Tx} {pos:Pos}
noncomputable def tAs (K:PySem.W.Frag) (m:Md) (fs:List Ex):TA:=fun σ H Q=>∃ BF BH F env L ds,SOk K BF BH F H σ env L∧evs fs env=some ds ∧
 ∀ vs F' H',Ext F H F' H'→Reps K (hpM BH F' H' m) ds vs→Q vs H'
structure PAd (X:Cx)(m:Md)(es:List Expr)(fs:List Ex):Prop where
 h:PA X es (tAs X.K m fs)
theorem PA.of {X:Cx}{e:List Expr}{t t':TA}(h:PA X e t')(i:∀ σ H Q,t σ H Q→t' σ H Q):PA X e t:=fun pos pins s σ H Q I q=>h pos pins s σ H Q I (i σ H Q q)
theorem Yd:PAd X m [] []:=PAd.mk <| PA.of L2.Yv fun σ H Q hh_=>el9 hh_ fun BF BH F env L ds S e q=>by
 cases e;exact q [] F H (.refl S.fh) Reps.nil
theorem Ja (ha:PD X m e f)(hr:PAd X m es fs)(hs:nst e=true:=by rfl):PAd X m (e::es) (f::fs) :=
 PAd.mk <| PA.of (L2.Ym ha.h hr.h (Jh hs)) fun σ H Q hh_=>el9 hh_ fun BF BH F env L ds S e q=>by
  simp only [evs] at e
  split at e
  ·rename_i d ds' h1 h2
   cases e
   exact ⟨BF,BH,F,env,L,d,S,h1,fun v F1 H1 x1 r1=>⟨BF,BH,F1,env,L,ds',S.ext x1,h2,fun vs F2 H2 x2 r2=>q (v::vs) F2 H2 (x1.trans x2) (Reps.cons (Rep.mono (ZbR x2 m) _ _ r1) r2)⟩⟩
  ·cases e
theorem Zgq {env:Env}:∀ {fs:List Ex} {ds:List D},evs fs env=some ds→ds.length=fs.length
 | [],ds,h=>by cases h;rfl
 | f::fs,ds,h=>by
  simp only [evs] at h
  split at h
  ·rename_i d ds' h1 h2;cases h;simp [Zgq h2]
  ·cases h
theorem ZbQ {K:PySem.W.Frag}{BF BH F F1 H H1:Hp}{σ:L2.St}{env:Env}{L:Nat→List Addr}(S:SOk K BF BH F H σ env L)(x:Ext F H F1 H1){p:Addr}(hp:H1 p=none)(o:HO) :
  Ext F H F1 (upd H1 p o)∧H p=none∧F1 p=none∧Same (hpM BH F1 H1 m) (hpM BH F1 (upd H1 p o) m) :=
 ⟨x.trans (Ext.own x.fh hp),x.hh.free hp,x.fh.free hp,ZbR (Ext.own x.fh hp) m⟩
theorem ZaY (ha:PAd X m es fs)(hl:fs.length≤1000:=by decide):PDo X m (.List es pos) (eLst fs):=PE.of (L2.Zpj ha.h) fun σ H Q hh_=>el9 hh_ fun BF BH F env L ds S e q=>by
 unfold eLst at e
 split at e
 ·rename_i ds' h1
  cases e
  refine ⟨BF,BH,F,env,L,ds,S,h1,fun vs F' H' x r=>⟨?_,fun p hp=>?_⟩⟩
  ·rw [← r.length,Zgq h1];exact Nat.le_trans hl (by rw [sizeLine_eq];decide)
  ·obtain ⟨y,h0,h2,s⟩:=ZbQ (m:=m) S x hp (HO.lst vs)
   exact q p vs F' _ y h0 Yc h2 (Reps.mono s _ _ r)
 ·cases e
theorem Zl0 {env:Env}{d:D}(h:eLst fs env=some d):∃ ds,d=.lst ds:=by
 unfold eLst at h
 split at h
 ·cases h;exact ⟨_,rfl⟩
 ·cases h
theorem Yl (ha:PAd X m es fs)(hl:fs.length≤1000:=by decide):PD X m (.List es pos) (eLst fs):=(ZaY ha hl).d fun env d h=>Zl0 h
theorem ZbF {x1}(ha:PAd X m es fs)(hl:fs.length≤1000:=by decide):PD X m (.Tuple es x1 pos) (eTup fs):=PD.mk <| PE.of (L2.Zpa ha.h) fun σ H Q hh_=>el9 hh_ fun BF BH F env L d S e q=>by
 unfold eTup at e
 split at e
 ·rename_i ds' h1
  cases e
  refine ⟨BF,BH,F,env,L,ds',S,h1,fun vs F' H' x r=>⟨?_,fun p hp=>?_⟩⟩
  ·rw [← r.length,Zgq h1];exact Nat.le_trans hl (by rw [sizeLine_eq];decide)
  ·have y:=Ext.laid (o:=HO.tup vs) x.fh hp
   refine q (.ref p) _ _ (x.trans y) ?_
   simp only [Rep]
   refine ⟨p,vs,rfl,.inl (.inl ?_),Reps.mono (ZbR y m) _ _ r⟩
   cases m with
   | r=>exact Yc
   | k=>exact Yc
   | f=>show cut _ _ p=_;rw [ZbP (S.s0.free (x.hh.free hp))];exact Yc
 ·cases e
theorem Zj8 {prog:Program}{w:World}{A:Around}{E:Value→Shared→Prop}{s:Shared}{l b:Addr}{its its2:Array Value}{Q:Value→Shared→Prop}(hl:s.heap.IsList l its)(hb:s.heap.IsList b its2)
  (h:Q (.ref s.heap.objs.size) { s with heap:=s.heap.push { cls:=.type "list",data:=.seq (its++its2) } }) (hsz:its.size + its2.size≤sizeLine):wpAny (model prog w) A (binaryOp .Add (.ref l) (.ref b)) Q E s:=by
 obtain ⟨⟨cls,dd,data,sl⟩,ho,hc,n,hd⟩:=id hl
 obtain ⟨⟨cls2,dd2,data2,sl2⟩,ho2,hc2,n2,hd2⟩:=id hb
 simp only at hc hd hc2 hd2
 subst hc hd hc2 hd2
 exact concat_meets ⟨_,ho,rfl⟩ ⟨_,ho2,rfl⟩ noFill_list_add seq_list_add PySem.F.slot_list_add PySem.F.entry_list_add (PySem.F.args_list_add_2 _ _) (list_addW l b its its2 n n2 dd dd2 sl sl2 hsz) ⟨ho,ho2,h⟩
theorem Zoi:L2.OpR X (binaryOp .Add) (fun x y H Q=>∃ l b xs zs,x=.ref l∧y=.ref b∧SqL X.K H l xs∧SqL X.K H b zs∧xs.length + zs.length≤sizeLine∧∀ p,H p=none→Q (.ref p) (upd H p (.lst (xs++zs)))):=by
 intro pins s σ H x y v u Q I rx ry h
 obtain ⟨l,b,xs,zs,rfl,rfl,hH,hB,hz,q⟩:=h
 cases rx
 cases ry
 obtain ⟨its,r,p,z⟩:=I.list hH
 obtain ⟨its2,r2,p2,z2⟩:=I.list hB
 have hl:=r.length
 have hl2:=r2.length
 have ea:its.toArray++its2.toArray=(its++its2).toArray:=by simp
 refine Zj8 p.isList p2.isList ?_ (by rw [List.size_toArray,List.size_toArray];omega)
 rw [ea]
 exact ⟨.ref _,_,I.lnew (t':=s.toks) (r.append r2) (by rw [List.length_append];omega),rfl,q _ I.fresh⟩
theorem Yt (ha:PD X m a f)(hb:PD X m b g):PD X m (.BinOp a .Add b pos) (eAdd f g):=PD.mk <| PE.of (L2.Zkg (L2.OpR.or L2.Zo2 Zoi) ha.h hb.h) fun σ H Q hh_=>el9 hh_ fun BF BH F env L d S e q=>by
 unfold eAdd eF2 at e
 split at e
 ·rename_i x y h1 h2
  unfold fAdd at e
  split at e
  ·cases e
   exact two S h1 h2 fun v w F' H' z r1 r2=>.inl ⟨_,_,Jr r1,Jr r2,q _ F' H' z (by simp [Rep])⟩
  ·split at e
   ·rename_i xs ys hl
    cases e
    refine two S h1 h2 fun v w F' H' z r1 r2=>.inr ?_
    simp only [Rep] at r1 r2
    obtain ⟨p1,vs,rfl,s1,t1⟩:=r1
    obtain ⟨p2,ws,rfl,s2,t2⟩:=r2
    have hh:=Zf6 (BH:=BH) z.fh m
    refine ⟨p1,p2,vs,ws,rfl,rfl,hh.seq s1,hh.seq s2,?_,fun p hp=>?_⟩
    ·rw [← t1.length,← t2.length];exact Nat.le_trans hl Zdc
    ·have y:=Ext.laid (o:=HO.lst (vs++ws)) z.fh hp
     refine q (.ref p) _ _ (z.trans y) ?_
     simp only [Rep]
     refine ⟨p,_,rfl,.inl (.inl ?_),Reps.mono (ZbR y m) _ _ (t1.append t2)⟩
     cases m with
     | r=>exact Yc
     | k=>exact Yc
     | f=>show cut _ _ p=_;rw [ZbP (S.s0.free (z.hh.free hp))];exact Yc
   ·cases e
  ·cases e
 ·cases e
theorem ZlT {K:PySem.W.Frag}{H:Hp}{ds:List D}{vs:List V}{i:Int}{d:D}(r:Reps K H ds vs)(h:atD ds i=some d):∃ v,L2.atI vs i=some v∧Rep K H d v:=by
 unfold atD at h
 unfold L2.atI
 rw [← r.length]
 show ∃ v,((ixN ds.length i).bind fun j=>vs[j]?)=some v∧_
 cases e:ixN ds.length i with
 | none=>rw [e] at h;cases h
 | some j =>
  rw [e] at h
  obtain ⟨v,h1,h2⟩:=r.get (i:=j) h
  exact ⟨v,h1,h2⟩
theorem Jg (ha:PD X m a f)(hb:PD X m1 b g)(hs:L2.Zgy b:=by exact fun _ _=>rfl):PD X m (.Subscript a b pos) (eIx f g):=PD.mk <| PE.of (L2.ZjV L2.ZlJ ha.h hb.h hs) fun σ H Q hh_=>el9 hh_ fun BF BH F env L d S e q=>by
 unfold eIx eF2 at e
 split at e
 ·rename_i x y h1 h2
  refine two S h1 h2 fun v w F' H' z r1 r2=>?_
  have hh:=Zf6 (BH:=BH) z.fh m
  unfold fIx at e
  split at e
  ·simp only [Rep] at r1
   obtain ⟨p,vs,rfl,s1,t1⟩:=r1
   obtain ⟨v',k1,k2⟩:=ZlT t1 e
   exact .inl ⟨p,vs,_,v',rfl,Jr r2,hh.seq s1,k1,q _ F' H' z k2⟩
  ·simp only [Rep] at r1
   obtain ⟨p,vs,rfl,s1,t1⟩:=r1
   obtain ⟨v',k1,k2⟩:=ZlT t1 e
   exact .inr (.inl ⟨p,vs,_,v',rfl,Jr r2,seqT hh s1,k1,q _ F' H' z k2⟩)
  ·cases e
 ·cases e
theorem Znc {x:Str}{id:String}{p:Pos}{r:List V→Hp→L2.VK→Prop}{φ:D→Option D}(hc:L2.Zaq X (.builtin id) r)(hm:X.mg x=none)(hv:bootBuiltins x=some (.builtin id))
  (hφ:∀ d y H' v (Q:V→Hp→Prop),φ d=some y→Rep X.K H' d v→(∀ w,Rep X.K H' y w→Q w H')→r [v] H' Q∧YQ y=true)
  (ha:PD X m1 a f) (hg:X.env.kindOf x=some .globalImplicit:=by kernel_rfl) (hn:x≠"__name__":=by decide) (hdb:(x == ("__debug__":Str))=false:=by kernel_rfl) (hs:nst a=true:=by rfl):PD X m (.Call (.Name x p) [a] [] pos) (eF1 φ f) :=
 PD.mk <| PE.of (L2.ZcK hc hg hm hv (L2.Ym ha.r.h L2.Yv (Yn hs)) hn hdb (Jh hs) rfl) fun σ H Q hh_=>el9 hh_ fun BF BH F env L d S e q=>by
  unfold eF1 at e
  split at e
  ·rename_i y h1
   refine ⟨BF,BH,F,env,L,y,S,h1,fun v F' H' z r1=>?_⟩
   have sc:=(hφ y d H' v (fun _ _=>True) e r1 (fun _ _=>trivial)).2
   exact (hφ y d H' v Q e r1 fun w rw=>q w F' H' z (rw.scal sc)).1
  ·cases e
theorem Zt {p:Pos} (T:Bt X.mg) (ha:PD X m1 a f) (hg:X.env.kindOf "len"=some .globalImplicit:=by kernel_rfl) (hs:nst a=true:=by rfl):PD X m (.Call (.Name "len" p) [a] [] pos) (eF1 fLen f) :=
 Znc L2.ZhA T.len PySem.boot_len (fun d y H' v Q e r k=>by
  unfold fLen at e
  split at e
  ·cases e
   simp only [Rep] at r
   obtain ⟨p,vs,rfl,s1,t1⟩:=r
   exact ⟨⟨p,vs,rfl,.inl s1,k _ (by simp [Rep,t1.length])⟩,rfl⟩
  ·cases e
   simp only [Rep] at r
   obtain ⟨p,vs,rfl,s1,t1⟩:=r
   exact ⟨⟨p,vs,rfl,.inr s1,k _ (by simp [Rep,t1.length])⟩,rfl⟩
  ·cases e) ha hg (by decide) (by decide) hs
theorem Zlr (hc : X.calm = true) : L2.Zaq X (.builtin "all") (fun xs H Q => ∃ (p : Addr) (bs : List Bool), xs = [.ref p] ∧ SqL X.K H p (bs.map V.bl) ∧ Q (.bl (bs.all fun b => b)) H) := by
  intro pins s σ H xs us Q I r h
  obtain ⟨p, bs, rfl, hq, q⟩ := h
  obtain ⟨u, rfl, ru⟩ := r.one
  cases ru
  obtain ⟨its, rv, pl, hz⟩ := I.list hq
  have hlt : p < s.heap.objs.size := by obtain ⟨o, e, _⟩ := pl.isList; exact Heap.lt_size e
  refine call_all_walk (wpAny_pyIter_list pl.isList ?_)
  have hlen : its.length = bs.length := by have := rv.length; rw [List.length_map] at this; exact this.symm
  have tru : ∀ (j : Nat) (v : Value), its[j]? = some v → v = .bool (bs.getD j true) := fun j v hj => by
    have hjl : j < bs.length := by rw [← hlen]; exact (List.getElem?_eq_some_iff.mp hj).1
    obtain ⟨w, h1, h2⟩ := rv.get (i := j) (x := V.bl bs[j]) (by simp [hjl])
    rw [hj] at h1; cases h1
    have : v = .bool bs[j] := h2
    rw [this]; simp [List.getD, hjl]
  refine ⟨s.heap.objs.size, _, _, _, _, _, fun j => bs.getD j true, rfl, Walks.list (show (X.A.in1).handled = none from I.ok.hd hc) s.heap.objs.size p (Nat.ne_of_lt hlt) its.toArray, ⟨⟨_, Heap.get?_push_size _ rfl, rfl, rfl⟩, pl.isList.push _⟩, ?_, fun h' tk hk => ?_⟩
  · intro i v s' Q' E' hP hq'
    have e := tru i v (by simpa using hP)
    subst e
    exact wpAny_truthy_bool hq'
  · have e : (List.range its.toArray.size).all (fun j => bs.getD j true) = bs.all fun b => b := by
      rw [List.size_toArray, hlen]
      clear tru hlen rv hq q hz
      induction bs with
      | nil => rfl
      | cons b bs ih => rw [List.length_cons, List.range_succ_eq_map, List.all_cons, List.all_map]; rw [List.all_cons]; congr 1
    rw [e]
    refine ⟨.bl _, H, I.kept (h' := h') (t' := tk) fun b o eo => ?_, rfl, q⟩
    exact hk b o (by simp; exact Nat.ne_of_lt (Heap.lt_size eo)) (Heap.get?_push_of_some _ eo)
theorem ZhZ {K:PySem.W.Frag}{H:Hp}:∀ {xs:List D} {vs:List V} {b:Bool},allB xs=some b→Reps K H xs vs→∃ bs:List Bool,vs=bs.map V.bl∧(bs.all fun b=>b)=b
 | [],vs,b,h,r=>by simp only [Reps] at r;subst r;cases h;exact ⟨[],rfl,rfl⟩
 | .bl c::xs,vs,b,h,r=>by
  simp only [Reps] at r
  obtain ⟨v,t,rfl,h1,h2⟩:=r
  simp only [allB] at h
  cases e:allB xs with
  | none=>rw [e] at h;cases h
  | some d =>
   rw [e] at h
   cases h
   obtain ⟨bs,rfl,rfl⟩:=ZhZ e h2
   obtain rfl:=Zex h1
   exact ⟨c::bs,rfl,rfl⟩
 | .non::_,_,_,h,_=>by simp [allB] at h
 | .int _::_,_,_,h,_=>by simp [allB] at h
 | .str _::_,_,_,h,_=>by simp [allB] at h
 | .lst _::_,_,_,h,_=>by simp [allB] at h
 | .tup _::_,_,_,h,_=>by simp [allB] at h
theorem Zd3 {p:Pos} (T:Bt X.mg) (ha:PD X m1 a f) (hc:X.calm=true:=by rfl) (hg:X.env.kindOf "all"=some .globalImplicit:=by kernel_rfl) (hs:nst a=true:=by rfl):PD X m (.Call (.Name "all" p) [a] [] pos) (eF1 fAll f) :=
 Znc (Zlr hc) T.all boot_all (fun d y H' v Q e r k=>by
  unfold fAll at e
  split at e
  ·split at e
   ·rename_i b hb
    cases e
    simp only [Rep] at r
    obtain ⟨p,vs,rfl,s1,t1⟩:=r
    obtain ⟨bs,rfl,rfl⟩:=ZhZ hb t1
    exact ⟨⟨p,bs,rfl,s1,k _ (by simp [Rep])⟩,rfl⟩
   ·cases e
  ·cases e) ha hg (by decide) (by decide) hs
noncomputable def tyN:Ty→String
 | .int=>"int" | .bool=>"bool" | .str=>"str" | .list=>"list" | .tuple=>"tuple"
theorem ZnM {K:PySem.W.Frag}(t:Ty):PySem.W.kitOne K (.type "int") (.type (tyN t))=some (match t with | .int=>true | _=>false):=by cases t <;> with_unfolding_all rfl
theorem ZmI {K:PySem.W.Frag}(t:Ty):PySem.W.kitOne K (.type "bool") (.type (tyN t))=some (match t with | .int=>true | .bool=>true | _=>false):=by cases t <;> with_unfolding_all rfl
theorem Zn0 {K:PySem.W.Frag}(t:Ty):PySem.W.kitOne K (.type "str") (.type (tyN t))=some (match t with | .str=>true | _=>false):=by cases t <;> with_unfolding_all rfl
theorem Zmo {K:PySem.W.Frag}(t:Ty):PySem.W.kitOne K (.type "NoneType") (.type (tyN t))=some false:=by cases t <;> with_unfolding_all rfl
theorem ZmJ {K:PySem.W.Frag}(t:Ty):PySem.W.kitOne K (.type "list") (.type (tyN t))=some (match t with | .list=>true | _=>false):=by cases t <;> with_unfolding_all rfl
theorem kit_tuple {K:PySem.W.Frag}(t:Ty):PySem.W.kitOne K (.type "tuple") (.type (tyN t))=some (match t with | .tuple=>true | _=>false):=by cases t <;> with_unfolding_all rfl
end
end PV
set_option linter.all false
set_option Elab.async false
set_option maxRecDepth 100000
set_option maxHeartbeats 4000000
namespace PV
open PySem PySem.Spec PyProof.Rows
open L2 (V Hp HO Vals SqL SqT Same upd Cx PE PT PW PA PS PSs TE TT TA TS Inv RelV Yc Jd Zd)
section
variable {X:Cx} {m m1 m2 m3:Md} {a b c e:Expr} {es:List Expr} {f g h:Ex} {fs:List Ex} {t u:Tx} {pos:Pos}
theorem ZmU (t:Ty):L2.Zaq X (.builtin "isinstance") (fun xs H Q=>∃ (d:D) (v:V),xs=[v,.ty (tyN t)]∧Rep X.K H d v∧fIs t d=some (.bl (isTy t d))∧Q (.bl (isTy t d)) H):=by
 intro pins s σ H xs us Q I r h
 obtain ⟨d,v,rfl,hd,hk,q⟩:=h
 obtain ⟨u,w,rfl,ru,rw'⟩:=r.two
 obtain rfl:w=Value.type (tyN t):=rw'
 have fin:∀ {k:Bool},k=isTy t d→∀ tk,L2.EP X pins σ Q (.bool k) { s with toks:=tk }:=fun {k} e tk=>⟨.bl k,H,I.tok tk,rfl,by rw [e];exact q⟩
 cases d with
 | dct _=>cases hk
 | non =>
  simp only [Rep] at hd;subst hd;cases ru
  exact PySem.W.kia_one PySem.W.kitx_none I.kIn True.intro (Zmo t) (fun z=>nomatch z) (fin (by cases t <;> rfl))
 | bl b =>
  simp only [Rep] at hd;subst hd;cases ru
  exact PySem.W.kia_one PySem.W.kitx_bool I.kIn True.intro (ZmI t) (fun z=>nomatch z) (fin (by cases t <;> rfl))
 | int i =>
  simp only [Rep] at hd;subst hd;obtain ⟨tk,rfl⟩:=ru
  exact PySem.W.kia_one PySem.W.kitx_int I.kIn True.intro (ZnM t) (fun z=>nomatch z) (fin (by cases t <;> rfl))
 | str i =>
  simp only [Rep] at hd;subst hd;obtain ⟨tk,rfl⟩:=ru
  exact PySem.W.kia_one PySem.W.kitx_str I.kIn True.intro (Zn0 t) (fun z=>nomatch z) (fin (by cases t <;> rfl))
 | lst ds =>
  simp only [Rep] at hd
  obtain ⟨p,vs,rfl,hs,_⟩:=hd
  cases ru
  obtain ⟨its,_,pl,_⟩:=I.list hs
  obtain ⟨o,n,h1,h2,_⟩:=pl
  exact PySem.W.kia_one PySem.W.kitx_list I.kIn ⟨o,h1,h2⟩ (ZmJ t) (fun z=>nomatch z) (fin (by cases t <;> rfl))
 | tup ds =>
  simp only [Rep] at hd
  obtain ⟨p,vs,rfl,hs,_⟩:=hd
  cases ru
  obtain ⟨its,_,pl,_⟩:=I.tuple hs
  obtain ⟨o,h1,h2,_⟩:=pl
  exact PySem.W.kia_one PySem.W.kitx_tuple I.kIn ⟨o,h1,h2⟩ (kit_tuple t) (fun z=>nomatch z) (fin (by cases t <;> rfl))
theorem ZhM (t:Ty) {p p2:Pos} {x:Str} (T:Bt X.mg) (hx:X.mg x=none) (hb:bootBuiltins x=some (.type (tyN t))) (ha:PD X m1 a f) (hg:X.env.kindOf "isinstance"=some .globalImplicit:=by kernel_rfl) (hg2:X.env.kindOf x=some .globalImplicit:=by kernel_rfl)
  (hn:x≠"__name__":=by decide) (hd:(x == ("__debug__":Str))=false:=by kernel_rfl)
  (hs:nst a=true:=by rfl):PD X m (.Call (.Name "isinstance" p) [a,.Name x p2] [] pos) (eF1 (fIs t) f) :=
 PD.mk <| PE.of (L2.ZcK (ZmU t) hg T.isinstance boot_isinstance (L2.Ym ha.r.h (L2.Ym (L2.ZjL (v:=.ty (tyN t)) hg2 hx hb rfl hn hd) L2.Yv (Yn rfl)) (Jh hs)) (by decide) (by decide) (Jh hs) rfl) fun σ H Q hh_=>el9 hh_ fun BF BH F env L d S e q=>by
  unfold eF1 at e
  split at e
  ·rename_i y h1
   have hk:fIs t y=some (.bl (isTy t y)):=by
    cases y with
    | dct _=>cases e
    | _=>rfl
   rw [hk] at e
   cases e
   exact ⟨BF,BH,F,env,L,y,S,h1,fun v F' H' z r1=>⟨y,v,rfl,r1,hk,q _ F' H' z (by simp [Rep])⟩⟩
  ·cases e
theorem ZkR {p p2:Pos} (T:Bt X.mg) (ha:PD X m1 a f) (hg:X.env.kindOf "isinstance"=some .globalImplicit:=by kernel_rfl) (hg2:X.env.kindOf "int"=some .globalImplicit:=by kernel_rfl) (hs:nst a=true:=by rfl):PD X m (.Call (.Name "isinstance" p) [a,.Name "int" p2] [] pos) (eF1 (fIs .int) f) :=
 ZhM .int T T.int (by decide +kernel) ha hg hg2 (by decide) (by decide) hs
theorem ZfU {p p2:Pos} (T:Bt X.mg) (ha:PD X m1 a f) (hg:X.env.kindOf "isinstance"=some .globalImplicit:=by kernel_rfl) (hg2:X.env.kindOf "bool"=some .globalImplicit:=by kernel_rfl) (hs:nst a=true:=by rfl):PD X m (.Call (.Name "isinstance" p) [a,.Name "bool" p2] [] pos) (eF1 (fIs .bool) f) :=
 ZhM .bool T T.bool (by decide +kernel) ha hg hg2 (by decide) (by decide) hs
theorem ZfG {p p2:Pos} (T:Bt X.mg) (ha:PD X m1 a f) (hg:X.env.kindOf "isinstance"=some .globalImplicit:=by kernel_rfl) (hg2:X.env.kindOf "list"=some .globalImplicit:=by kernel_rfl) (hs:nst a=true:=by rfl):PD X m (.Call (.Name "isinstance" p) [a,.Name "list" p2] [] pos) (eF1 (fIs .list) f) :=
 ZhM .list T T.list (by decide +kernel) ha hg hg2 (by decide) (by decide) hs
theorem ZgF {p:Pos} (T:Bt X.mg) (ha:PD X m a f) (hg:X.env.kindOf "list"=some .globalImplicit:=by kernel_rfl) (hs:nst a=true:=by rfl):PDo X m (.Call (.Name "list" p) [a] [] pos) (eF1 ZaH f) :=
 PE.of (L2.ZdZ L2.Ziv hg T.list (by decide +kernel) (L2.Ym ha.h L2.Yv (Yn hs)) (by decide) (by decide) (Jh hs) rfl) fun σ H Q hh_=>el9 hh_ fun BF BH F env L ds S e q=>by
  unfold eF1 at e
  split at e
  ·rename_i y h1
   refine ⟨BF,BH,F,env,L,y,S,h1,fun v F' H' z r1=>?_⟩
   have hm:=Zf6 (BH:=BH) z.fh m
   unfold ZaH at e
   split at e
   ·cases e
    simp only [Rep] at r1
    obtain ⟨p,vs,rfl,s1,t1⟩:=r1
    refine ⟨p,vs,rfl,.inl (hm.seq s1),fun l hl=>?_⟩
    obtain ⟨y,h0,h2,s⟩:=ZbQ (m:=m) S z hl (HO.lst vs)
    exact q l vs F' _ y h0 Yc h2 (Reps.mono s _ _ t1)
   ·cases e
    simp only [Rep] at r1
    obtain ⟨p,vs,rfl,s1,t1⟩:=r1
    refine ⟨p,vs,rfl,.inr (seqT hm s1),fun l hl=>?_⟩
    obtain ⟨y,h0,h2,s⟩:=ZbQ (m:=m) S z hl (HO.lst vs)
    exact q l vs F' _ y h0 Yc h2 (Reps.mono s _ _ t1)
   ·cases e
  ·cases e
theorem Zg5 {env:Env}{d:D}(h:eF1 ZaH f env=some d):∃ ds,d=.lst ds:=by
 unfold eF1 at h
 split at h
 ·unfold ZaH at h
  split at h
  ·cases h;exact ⟨_,rfl⟩
  ·cases h;exact ⟨_,rfl⟩
  ·cases h
 ·cases h
theorem ZjJ {p:Pos} (T:Bt X.mg) (ha:PD X m a f) (hg:X.env.kindOf "list"=some .globalImplicit:=by kernel_rfl) (hs:nst a=true:=by rfl):PD X m (.Call (.Name "list" p) [a] [] pos) (eF1 ZaH f) :=
 (ZgF T ha hg hs).d fun env d h=>Zg5 h
theorem ZiC {x:D}:∀ {ys:List D} {j:Nat},idxD x ys=some j→j < ys.length∧(∀ h:j < ys.length,eqD ys[j] x=true)∧∀ i (h:i < ys.length),i < j→eqD ys[i] x=false
 | [],j,h=>by simp [idxD] at h
 | y::ys,j,h=>by
  simp only [idxD] at h
  split at h
  ·rename_i hy
   cases h
   exact ⟨by simp,fun _=>hy,fun i _ hi=>by omega⟩
  ·rename_i hy
   cases e:idxD x ys with
   | none=>rw [e] at h;cases h
   | some k =>
    rw [e] at h
    cases h
    obtain ⟨h1,h2,h3⟩:=ZiC e
    refine ⟨by simpa using h1,fun _=>by simpa using h2 h1,fun i hi hik=>?_⟩
    cases i with
    | zero=>simpa using hy
    | succ i=>simpa using h3 i (by simpa using hi) (by omega)
theorem Zk8 (hu:X.A.units + 64 < cLine):L2.MtR X "list.index" (fun x xs H Q=>∃ (dx:D) (y:V) (ys:List D) (j:Nat),xs=[y]∧Rep X.K H (.lst ys) x∧Rep X.K H dx y∧(D.deps ys≤8∧dx.dep≤8)∧idxD dx ys=some j∧Q (.int j) H):=by
 intro pins s σ H x xs v us Q I rx rv h
 obtain ⟨dx,y,ys,j,rfl,h1,h2,hd,hj,q⟩:=h
 obtain ⟨u,rfl,ru⟩:=rv.one
 have hx:=Zax I _ _ _ (by omega) h2 ru
 have hz:ys.length≤sizeLine:=by
  simp only [Rep] at h1
  obtain ⟨p,vs,rfl,hs,t⟩:=h1
  obtain ⟨_,_,_,z⟩:=I.list hs
  rw [t.length];exact z
 have hy:=Zax I _ _ _ (by simp only [D.dep];omega) h1 rx
 simp only [Hr] at hy
 obtain ⟨p,its,rfl,hl,hr⟩:=hy
 have hin:X.A.in1.units + D.deps ys < cLine:=by show X.A.units + 1 + _ < _;omega
 have hlen:=hr.length
 obtain ⟨j1,j2,j3⟩:=ZiC hj
 have js:(j:Int) < 2 ^ 63 - 1:=by rw [sizeLine_eq] at hz;omega
 obtain ⟨⟨cls,dd,data,sl⟩,ho,hc,n,hdt⟩:=id hl
 simp only at hc hdt
 subst hc hdt
 refine call_meets PySem.F.slot_list_index ⟨_,ho,rfl⟩ PySem.F.entry_list_index (PySem.F.args_list_index_2 _ _)
  (SeqAt.list_indexAt p its.toArray n dd sl u (eqH s dx) j (by simp;omega) js ?_ ?_) ⟨ho,fun y hy=>Zda hx hin hr y (by simpa using hy),?_⟩
 all_goals first
  | exact ⟨.int j,H,I.tok _,⟨_,rfl⟩,q⟩
  | skip
 ·have e:=hr.get j1 (by omega)
  have:=Zeg (x:=dx) e
  simp only [List.getElem_toArray]
  rw [this]
  exact j2 j1
 ·intro i hi hij
  have i1:i < ys.length:=by rw [hlen];simpa using hi
  have e:=hr.get i1 (by omega)
  have:=Zeg (x:=dx) e
  simp only [List.getElem_toArray]
  rw [this]
  exact j3 i i1 hij
end
end PV
set_option linter.all false
set_option Elab.async false
set_option maxRecDepth 100000
set_option maxHeartbeats 4000000
namespace PV
open PySem PySem.Spec PyProof.Rows
open L2 (V Hp HO Vals SqL SqT Same upd Cx PE PT PW PA PS PSs TE TT TA TS Inv RelV Yc Jd Zd)
noncomputable def putL (L:Nat→List Addr) (i:Nat) (l:List Addr):Nat→List Addr:=fun j=>if j=i then l else L j
theorem Zap {L:Nat→List Addr}{i:Nat}{l:List Addr}:putL L i l i=l:=by unfold putL;rw [if_pos rfl]
theorem ZaW {L:Nat→List Addr}{i j:Nat}{l:List Addr}(h:j≠i):putL L i l j=L j:=by unfold putL;rw [if_neg h]
section
variable {K:PySem.W.Frag} {BF BH F H:Hp} {σ:L2.St} {env:Env} {L:Nat→List Addr}
theorem SOk.ZeW (S:SOk K BF BH F H σ env L):Ext BF BH F H:=⟨S.s0,S.f0,S.fd,S.fh⟩
theorem SOk.set (S:SOk K BF BH F H σ env L)(i:Nat){s:Sl}{v:V}{l:List Addr}(hs:SlOk K BH F H s (some v) l)(ho:∀ a ∈ l,F a=none∧BH a=none∧H a≠none)(hd:∀ a ∈ l,∀ j,j≠i→a ∉ L j) :
  SOk K BF BH F H (σ.set i (some v)) (env.set i s) (putL L i l) where
 s0:=S.s0
 f0:=S.f0
 fh:=S.fh
 fd:=S.fd
 ow:=fun j a h=>by
  by_cases hj:j=i
  ·subst hj;rw [Zap] at h;exact ho a h
  ·rw [ZaW hj] at h;exact S.ow j a h
 dj:=fun j k a h1 h2=>by
  by_cases hj:j=i
  ·subst hj
   rw [Zap] at h1
   by_cases hk:k=j
   ·exact hk.symm
   ·rw [ZaW hk] at h2;exact absurd h2 (hd a h1 k hk)
  ·rw [ZaW hj] at h1
   by_cases hk:k=i
   ·subst hk;rw [Zap] at h2;exact absurd h1 (hd a h2 j hj)
   ·rw [ZaW hk] at h2;exact S.dj j k a h1 h2
 len:=by rw [List.length_set,List.length_set];exact S.len
 sl:=fun j s' h=>by
  by_cases hj:i=j
  ·subst hj
   have hlt:i < env.length:=by have:=(List.getElem?_eq_some_iff.mp h).1;rwa [List.length_set] at this
   rw [List.getElem?_set_self hlt] at h
   cases h
   exact ⟨some v,List.getElem?_set_self (by rw [S.len];exact hlt),by rw [Zap];exact hs⟩
  ·rw [List.getElem?_set_ne hj] at h
   obtain ⟨ov,h1,h2⟩:=S.sl j s' h
   exact ⟨ov,by rw [List.getElem?_set_ne hj];exact h1,by rw [ZaW (Ne.symm hj)];exact h2⟩
theorem SOk.Zdw (S:SOk K BF BH F H σ env L)(i:Nat){d:D}{v:V}(r:Rep K F d v):SOk K BF BH F H (σ.set i (some v)) (env.set i (.sh d)) (putL L i []) :=
 S.set i ⟨v,rfl,r⟩ (fun a h=>by cases h) (fun a h=>by cases h)
noncomputable def frzH (F H:Hp) (l:List Addr):Hp:=fun b=>if b ∈ l then H b else F b
theorem Za2 {F H:Hp}{l:List Addr}{b:Addr}(h:b ∈ l):frzH F H l b=H b:=by unfold frzH;rw [if_pos h]
theorem Zbo {F H:Hp}{l:List Addr}{b:Addr}(h:b ∉ l):frzH F H l b=F b:=by unfold frzH;rw [if_neg h]
theorem SOk.frz (S:SOk K BF BH F H σ env L)(i:Nat){s s':Sl}(he:env[i]?=some s)(hs:∀ ov,σ[i]?=some ov→SlOk K BH F H s ov (L i)→Same F (frzH F H (L i))→SlOk K BH (frzH F H (L i)) H s' ov []) :
  SOk K BF BH (frzH F H (L i)) H σ (env.set i s') (putL L i []):=by
 have ff:Same F (frzH F H (L i)):=fun b o h=>by
  by_cases hb:b ∈ L i
  ·rw [(S.ow i b hb).1] at h;cases h
  ·rw [Zbo hb];exact h
 refine ⟨S.s0,S.f0.trans ff,fun b o h=>?_,fun b o h=>?_,fun j a h=>?_,fun j k a h1 h2=>?_,by rw [List.length_set];exact S.len,fun j t h=>?_⟩
 ·by_cases hb:b ∈ L i
  ·rw [Za2 hb] at h;exact h
  ·rw [Zbo hb] at h;exact S.fh _ _ h
 ·by_cases hb:b ∈ L i
  ·exact .inr (S.ow i b hb).2.1
  ·rw [Zbo hb] at h;exact S.fd _ _ h
 ·by_cases hj:j=i
  ·subst hj;rw [Zap] at h;cases h
  ·rw [ZaW hj] at h
   obtain ⟨h1,h2,h3⟩:=S.ow j a h
   exact ⟨by rw [Zbo fun z=>hj (S.dj j i a h z)];exact h1,h2,h3⟩
 ·by_cases hj:j=i
  ·subst hj;rw [Zap] at h1;cases h1
  ·by_cases hk:k=i
   ·subst hk;rw [Zap] at h2;cases h2
   ·rw [ZaW hj] at h1;rw [ZaW hk] at h2;exact S.dj j k a h1 h2
 ·by_cases hj:i=j
  ·subst hj
   have hlt:i < env.length:=(List.getElem?_eq_some_iff.mp he).1
   rw [List.getElem?_set_self hlt] at h
   cases h
   obtain ⟨ov,h1,h2⟩:=S.sl i s he
   exact ⟨ov,h1,by rw [Zap];exact hs ov h1 h2 ff⟩
  ·rw [List.getElem?_set_ne hj] at h
   obtain ⟨ov,h1,h2⟩:=S.sl j t h
   exact ⟨ov,h1,by rw [ZaW (Ne.symm hj)];exact h2.ext ff fun a _ o z=>z⟩
theorem SOk.ZeH (S:SOk K BF BH F H σ env L)(i:Nat):Same F (frzH F H (L i)):=fun b o h=>by
 by_cases hb:b ∈ L i
 ·rw [(S.ow i b hb).1] at h;cases h
 ·rw [Zbo hb];exact h
theorem SOk.own (S:SOk K BF BH F H σ env L){i:Nat}{a:Addr}(ha:a ∈ L i)(o:HO){s':Sl}(hs:∀ s ov,env[i]?=some s→σ[i]?=some ov→SlOk K BH F H s ov (L i)→SlOk K BH F (upd H a o) s' ov (L i)) :
  SOk K BF BH F (upd H a o) σ (env.set i s') L:=by
 obtain ⟨fa,ba,ha'⟩:=S.ow i a ha
 refine ⟨fun b u h=>?_,S.f0,fun b u h=>?_,S.fd,fun j c h=>?_,S.dj,by rw [List.length_set];exact S.len,fun j t h=>?_⟩
 ·rw [Jd (Zd h ba)];exact S.s0 _ _ h
 ·rw [Jd (Zd h fa)];exact S.fh _ _ h
 ·obtain ⟨h1,h2,h3⟩:=S.ow j c h
  refine ⟨h1,h2,?_⟩
  by_cases hc:c=a
  ·subst hc;rw [Yc];simp
  ·rw [Jd hc];exact h3
 ·by_cases hj:i=j
  ·subst hj
   have hlt:i < env.length:=by have:=(List.getElem?_eq_some_iff.mp h).1;rwa [List.length_set] at this
   rw [List.getElem?_set_self hlt] at h
   cases h
   obtain ⟨ov,h1,h2⟩:=S.sl i env[i] (by simp [hlt])
   exact ⟨ov,h1,hs _ _ (by simp [hlt]) h1 h2⟩
  ·rw [List.getElem?_set_ne hj] at h
   obtain ⟨ov,h1,h2⟩:=S.sl j t h
   refine ⟨ov,h1,h2.ext (.refl _) fun c hc u z=>?_⟩
   have hca:c≠a:=fun e=>by subst e;exact hj (S.dj i j c ha hc)
   rw [Jd hca]
   exact z
end
noncomputable abbrev RetP:=Hp→Hp→Hp→D→V→Prop
noncomputable def rk (K:PySem.W.Frag) (m:Md):RetP:=fun BH F' H' d v=>Rep K (hpM BH F' H' m) d v
noncomputable def rT (K:PySem.W.Frag):RetP:=fun BH F' H' d v=>∃ a as rs,d=.lst (rs.map .lst)∧v=.ref a∧H' a=some (.lst (as.map .ref))∧Zq K F' H' rs as∧(a::as).Nodup∧∀ b ∈ a::as,BH b=none∧F' b=none
noncomputable def After (D0:L2.Ends) (m:RetP) (BH F' H':Hp) (σ':L2.St):Out→Prop
 | .nx=>D0.nx σ' H'
 | .bk=>D0.bk σ' H'
 | .ct=>D0.ct σ' H'
 | .rt d=>∀ v,m BH F' H' d v→D0.rt v H'
noncomputable def tS (K:PySem.W.Frag) (m:RetP) (g:St):TS:=fun D0 σ H=>∃ BF BH F env L o env',SOk K BF BH F H σ env L∧g env=some (o,env') ∧
 ∀ F' H' σ' L',SOk K BF BH F' H' σ' env' L'→Same F F'→After D0 m BH F' H' σ' o
structure PSd (X:Cx)(m:RetP)(st:List Stmt)(g:St):Prop where
 h:PSs X st (tS X.K m g)
structure PS1 (X:Cx)(m:RetP)(st:Stmt)(g:St):Prop where
 h:PS X st (tS X.K m g)
section
variable {X:Cx} {m:RetP} {m1 m2:Md} {st:Stmt} {rest:List Stmt} {g g2:St} {e a b:Expr} {f fa fb:Ex} {t:Tx} {pos pos':Pos}
theorem Zn:PSd X m [] Zk:=PSd.mk <| PSs.of L2.Znx fun D0 σ H hh_=>el10 hh_ fun BF BH F env L o env' S e k=>by
 cases e;exact k F H σ L S (.refl _)
theorem Jb (h:PS1 X m st g):PSd X m [st] g:=⟨L2.Zn2 h.h⟩
theorem Zb (h1:PS1 X m st g)(h2:PSd X m rest g2):PSd X m (st::rest) (sSeq g g2):=PSd.mk <| PSs.of (L2.Zmk h1.h h2.h) fun D0 σ H hh_=>el10 hh_ fun BF BH F env L o env' S e k=>by
 unfold sSeq at e
 split at e
 ·rename_i env1 h1
  exact ⟨BF,BH,F,env,L,.nx,env1,S,h1,fun F' H' σ' L' S' s'=>⟨BF,BH,F',env1,L',o,env',S',e,fun F2 H2 σ2 L2 S2 s2=>k F2 H2 σ2 L2 S2 (s'.trans s2)⟩⟩
 ·rename_i r hne
  cases hr:g env with
  | none=>rw [hr] at e;cases e
  | some p =>
   obtain ⟨o1,e1⟩:=p
   rw [hr] at e
   cases e
   refine ⟨BF,BH,F,env,L,o,env',S,hr,fun F' H' σ' L' S' s'=>?_⟩
   have kk:=k F' H' σ' L' S' s'
   cases o with
   | nx=>exact absurd hr (hne _)
   | bk=>exact kk
   | ct=>exact kk
   | rt d=>exact kk
theorem Zmg {pins:List (Addr × Obj)}{σ:L2.St}{H:Hp}{s:Shared}{a:Addr}{kvs:List (L2.Key × V)}(I:Inv X pins σ H s)(h:H a=some (.dK kvs)):∃ o,Inv X pins σ (upd H a (.frz o (.dK kvs))) s:=by
 have ok:=I.hok a _ h
 obtain ⟨z,y,vs,r,ob,es,ep,e,c⟩:=ok
 refine ⟨ob,?_⟩
 have hne:∀ b o,H b=some o→(∀ kv,o≠.dK kv)→upd H a (.frz ob (.dK kvs)) b=some o:=fun b o hb hn=>by
  have:b≠a:=fun q=>by subst q;rw [h] at hb;cases hb;exact hn _ rfl
  rw [Jd this];exact hb
 have res:=I.un (t':=s.toks) (h':=s.heap) (H':=upd H a (.frz ob (.dK kvs))) ⟨fun b o q _ _ _=>q,fun b o q _ _ _=>⟨o.slots,q⟩,fun b o q n _=>by
  have:b≠a:=fun q=>by subst q;rw [h] at n;cases n
  rw [Jd this];exact n,fun b o q _=>⟨o,q⟩,fun b xs q=>hne b _ q (fun _ z=>by cases z),fun b o u q=>hne b _ q (fun _ z=>by cases z),fun b ps q=>⟨#[],by rw [hne b _ q (fun _ z=>by cases z)];simp⟩⟩ fun b u q=>by
   by_cases hb:b=a
   ·subst hb
    rw [Yc] at q
    cases q
    refine ⟨e,?_⟩
    exact L2.Zw.stay (I.hok b _ h) (fun _ _ _ q=>q) (fun c q=>hne c _ q (fun _ z=>by cases z)) fun c xs q=>hne c _ q (fun _ z=>by cases z)
   ·rw [Jd hb] at q
    exact L2.Zw.stay (I.hok b _ q) (fun _ _ _ q=>q) (fun c q=>hne c _ q (fun _ z=>by cases z)) fun c xs q=>hne c _ q (fun _ z=>by cases z)
 exact res
theorem Yz (i:Nat){sts:List Stmt}(h2:PSd X m sts g2):PSd X m sts (sSeq (sFrz i) g2):=PSd.mk fun pins s0 σ H D0 I hh_=>el10 hh_ fun BF BH F env L o env' S e k=>by
 unfold sSeq sFrz at e
 cases he:env[i]? with
 | none=>rw [he] at e;cases e
 | some s =>
  rw [he] at e
  cases s with
  | un=>cases e
  | dc kvs =>
   obtain ⟨ov,hσ,hso⟩:=S.sl i _ he
   obtain ⟨p,rfl,hl,h3⟩:=hso
   obtain ⟨ob,I'⟩:=Zmg I h3
   have S1:=S.own (i:=i) (a:=p) (by rw [hl];simp) (HO.frz ob (.dK (kvV kvs))) (s':=.un) fun s ov e1 e2 e3=>trivial
   have hlt:i < env.length:=(List.getElem?_eq_some_iff.mp he).1
   have S2:=S1.frz i (s:=.un) (s':=.sh (.dct kvs)) (List.getElem?_set_self hlt) fun ov h1 h ff=>by
    rw [hσ] at h1;cases h1
    refine ⟨_,rfl,?_⟩
    simp only [Rep]
    exact ⟨p,ob,rfl,by rw [Za2 (by rw [hl];simp)];exact Yc⟩
   rw [List.set_set] at S2
   exact h2.h pins s0 σ _ D0 I' ⟨BF,BH,_,_,_,o,env',S2,e,fun F2 H2 σ2 L2 S2' s2=>k F2 H2 σ2 L2 S2' ((S1.ZeH i).trans s2)⟩
  | jk _=>cases e
  | jl _=>cases e
  | xc _=>cases e
  | nw ds =>
   have S':=S.frz i (s':=.fr (.lst ds)) he fun ov _ h ff=>by
    obtain ⟨p,vs,rfl,hl,h3,r⟩:=h
    refine ⟨_,rfl,?_⟩
    simp only [RepN]
    refine ⟨p,vs,rfl,?_,Yh.mono (Zbd ff) _ _ r⟩
    rw [ZbP ((S.ow i p (by rw [hl];simp)).2.1),Za2 (by rw [hl];simp)];exact h3
   exact h2.h pins s0 σ H D0 I ⟨BF,BH,_,_,_,o,env',S',e,fun F2 H2 σ2 L2 S2 s2=>k F2 H2 σ2 L2 S2 ((S.ZeH i).trans s2)⟩
  | sh d=>exact h2.h pins s0 σ H D0 I ⟨BF,BH,F,env,L,o,env',S,e,k⟩
  | fr d=>exact h2.h pins s0 σ H D0 I ⟨BF,BH,F,env,L,o,env',S,e,k⟩
  | ow ds =>
   have S':=S.frz i (s':=.sh (.lst ds)) he fun ov _ h ff=>by
    obtain ⟨p,vs,rfl,hl,h3,r⟩:=h
    refine ⟨_,rfl,?_⟩
    simp only [Rep]
    exact ⟨p,vs,rfl,.inl (.inl (by rw [Za2 (by rw [hl];simp)];exact h3)),Reps.mono ff _ _ r⟩
   exact h2.h pins s0 σ H D0 I ⟨BF,BH,_,_,_,o,env',S',e,fun F2 H2 σ2 L2 S2 s2=>k F2 H2 σ2 L2 S2 ((S.ZeH i).trans s2)⟩
  | tab rs =>
   have S':=S.frz i (s':=.sh (.lst (rs.map .lst))) he fun ov _ h ff=>by
    obtain ⟨p,as,rfl,hl,nd,h3,r⟩:=h
    refine ⟨_,rfl,?_⟩
    simp only [Rep]
    refine ⟨p,_,rfl,.inl (.inl (by rw [Za2 (by rw [hl];simp)];exact h3)),?_⟩
    have r':Zq X.K (frzH F H (L i)) (frzH F H (L i)) rs as:=r.mono ff fun b hb o z=>by rw [Za2 (by rw [hl];exact List.mem_cons_of_mem _ hb)];exact z
    exact r'.reps (.refl _)
   exact h2.h pins s0 σ H D0 I ⟨BF,BH,_,_,_,o,env',S',e,fun F2 H2 σ2 L2 S2 s2=>k F2 H2 σ2 L2 S2 ((S.ZeH i).trans s2)⟩
theorem Zdr:PS1 X m st ZbK:=PS1.mk <| PS.of L2.Zmu fun D0 σ H ⟨BF,BH,F,env,L,o,env',S,e,k⟩=>by cases e
theorem Zdz (ha:PD X m1 e f)(hs:swapsWith e none pos.line X.env=pure false:=by rfl):PS1 X m (.Expr e pos) (sDo f):=PS1.mk <| PS.of (L2.Zcp ha.h hs) fun D0 σ H hh_=>el10 hh_ fun BF BH F env L o env' S e k=>by
 unfold sDo at e
 split at e
 ·rename_i d h1
  cases e
  exact ⟨BF,BH,F,env,L,d,S,h1,fun v F' H' z r=>k F' H' σ L (S.ext z) z.ff⟩
 ·cases e
theorem Zi (ha:PD X m1 e f):PS1 X (rk X.K m1) (.Return (some e) pos) (sRet f):=PS1.mk <| PS.of (L2.ZfR ha.h) fun D0 σ H hh_=>el10 hh_ fun BF BH F env L o env' S e k=>by
 unfold sRet at e
 split at e
 ·rename_i d h1
  cases e
  exact ⟨BF,BH,F,env,L,d,S,h1,fun v F' H' z r=>k F' H' σ L (S.ext z) z.ff v r⟩
 ·cases e
theorem Zo {A B:List Stmt}(hc:PTd X e t)(ha:PSd X m A g)(hb:PSd X m B g2):PS1 X m (.If e A B pos) (sIf t g g2):=PS1.mk <| PS.of (L2.Zqd hc ha.h hb.h) fun D0 σ H hh_=>el10 hh_ fun BF BH F env L o env' S e k=>by
 unfold sIf at e
 split at e
 ·rename_i h1
  exact ⟨BF,BH,F,env,L,true,S,h1,fun F' H' z=>L2.iteT ⟨BF,BH,F',env,L,o,env',S.ext z,e,fun F2 H2 σ2 L2 S2 s2=>k F2 H2 σ2 L2 S2 (z.ff.trans s2)⟩⟩
 ·rename_i h1
  exact ⟨BF,BH,F,env,L,false,S,h1,fun F' H' z=>L2.iteF ⟨BF,BH,F',env,L,o,env',S.ext z,e,fun F2 H2 σ2 L2 S2 s2=>k F2 H2 σ2 L2 S2 (z.ff.trans s2)⟩⟩
 ·cases e
theorem Zg (nd:X.N.Nodup)(i:Nat){x:Str}(ha:PD X .k e f)(hi:X.N[i]?=some x:=by kernel_rfl)(hx:locB X.env.scope x=true:=by kernel_rfl)(hs:swapsWith e (some (.Name x pos')) pos.line X.env=pure false:=by rfl)
  (hf:fnB X x=true:=by kernel_rfl):PS1 X m (.Assign [.Name x pos'] e pos) (sSet i f) :=
 PS1.mk <| PS.of (L2.Zdo nd hi (ZV hx) ha.h hs (Zaj hf)) fun D0 σ H hh_=>el10 hh_ fun BF BH F env L o env' S e k=>by
  unfold sSet at e
  split at e
  ·rename_i d h1
   cases e
   exact ⟨BF,BH,F,env,L,d,S,h1,fun v F' H' z r=>k F' H' _ _ ((S.ext z).Zdw i r) z.ff⟩
  ·cases e
theorem Zod {K:PySem.W.Frag}{BF BH F F' H H':Hp}{σ:L2.St}{env:Env}{L:Nat→List Addr}(S:SOk K BF BH F H σ env L)(z:Ext F H F' H')(i:Nat){p:Addr}{vs:List V}{ds:List D}(h0:H p=none)(h1:H' p=some (.lst vs))(h2:F' p=none)(r:Reps K F' ds vs) :
  SOk K BF BH F' H' (σ.set i (some (.ref p))) (env.set i (.ow ds)) (putL L i [p]) :=
 (S.ext z).set i ⟨p,vs,rfl,rfl,h1,r⟩ (fun a h=>by
  rw [List.mem_singleton] at h;subst h
  exact ⟨h2,S.s0.free h0,by rw [h1];simp⟩) (fun a h j hj hm=>by
  rw [List.mem_singleton] at h;subst h
  exact (S.ow j a hm).2.2 h0)
theorem Za4 (nd:X.N.Nodup)(i:Nat){x:Str}(ha:PDo X .k e f)(hi:X.N[i]?=some x:=by kernel_rfl)(hx:locB X.env.scope x=true:=by kernel_rfl)(hs:swapsWith e (some (.Name x pos')) pos.line X.env=pure false:=by rfl)
  (hf:fnB X x=true:=by kernel_rfl):PS1 X m (.Assign [.Name x pos'] e pos) (sOwn i f) :=
 PS1.mk <| PS.of (L2.Zdo nd hi (ZV hx) ha hs (Zaj hf)) fun D0 σ H hh_=>el10 hh_ fun BF BH F env L o env' S e k=>by
  unfold sOwn at e
  split at e
  ·rename_i ds h1
   cases e
   exact ⟨BF,BH,F,env,L,ds,S,h1,fun p vs F' H' z h0 h2 h3 r=>k F' H' _ _ (Zod S z i h0 h2 h3 r) z.ff⟩
  ·cases e
theorem Zei {K:PySem.W.Frag}{H:Hp}{p:Addr}{vs:List V}(h:H p=some (.lst vs)):L2.tyV K "list" (.ref p) H:=.inl ⟨rfl,vs,.inl (.inl h)⟩
theorem Zhw {K:PySem.W.Frag}{BF BH F H:Hp}{σ:L2.St}{env:Env}{L:Nat→List Addr}(S:SOk K BF BH F H σ env L){i:Nat}{ds:List D}(h:env[i]?=some (.ow ds)):∃ p vs,σ[i]?=some (some (.ref p))∧L i=[p]∧H p=some (.lst vs)∧Reps K F ds vs:=by
 obtain ⟨ov,h1,h2⟩:=S.sl i _ h
 obtain ⟨p,vs,rfl,h3,h4,h5⟩:=h2
 exact ⟨p,vs,h1,h3,h4,h5⟩
theorem Zgo {K:PySem.W.Frag}{BF BH F H:Hp}{σ:L2.St}{env:Env}{L:Nat→List Addr}(S:SOk K BF BH F H σ env L){i:Nat}{ds ds':List D}{p:Addr}{vs':List V}(he:env[i]?=some (.ow ds))(hl:L i=[p])(hσ:σ[i]?=some (some (.ref p)))(r:Reps K F ds' vs') :
  SOk K BF BH F (upd H p (.lst vs')) σ (env.set i (.ow ds')) L :=
 S.own (i:=i) (a:=p) (by rw [hl];simp) _ fun s ov h1 h2 h3=>by
  rw [hσ] at h2;cases h2
  exact ⟨p,vs',rfl,hl,Yc,r⟩
theorem ZcM (i:Nat) {x:Str} {p1 p2 p3 p4:Pos} (ha:PD X .k e f) (hN:X.N[i]?=some x:=by kernel_rfl) (hv:visB X.env.scope x=true:=by kernel_rfl) (hd:(x == ("__debug__":Str))=false:=by kernel_rfl)
  (hcd:(x == ("__classdict__":Str))=false:=by kernel_rfl) (hst:nst e=true:=by rfl)
  (hbase:attributeBase (.Name x p1) "append" X.env (eval (.Name x p1) X.env)=eval (.Name x p1) X.env:=by rfl)
  (hline:(p2.endLine == p3.line)=true:=by rfl)
  (hsw:swapsWith (.Call (.Attribute (.Name x p1) "append" p2) [e] [] p3) none p4.line X.env=pure false:=by rfl) :
  PS1 X m (.Expr (.Call (.Attribute (.Name x p1) "append" p2) [e] [] p3) p4) (sApp i f) :=
 PS1.mk <| PS.of (L2.Zcp (L2.Zdy PySem.F.plainAttrs_list PySem.F.slot_list_append PySem.F.type_list_append L2.ZcU (L2.JN hN (ZD hv) hd hcd) (L2.Ym ha.h L2.Yv (Yn hst)) hbase (by rw [ZaM (Zbf hst)];rfl) hline (Jh hst) rfl) hsw) fun D0 σ H hh_=>el10 hh_ fun BF BH F env L o env' S e k=>by
  unfold sApp at e
  split at e
  ·rename_i ds d he h1
   split at e
   ·rename_i hlen
    cases e
    obtain ⟨p,vs,hσ,hl,hp,r⟩:=Zhw S he
    refine ⟨_,hσ,Zei hp,BF,BH,F,env,L,d,S,h1,fun v F' H' z rv=>?_⟩
    have S':=S.ext z
    have r':Reps X.K F' (ds++[d]) (vs++[v]):=(Reps.mono z.ff _ _ r).append (Reps.cons rv Reps.nil)
    refine ⟨p,vs,v,rfl,rfl,z.hh _ _ hp,by rw [← r.length];exact Nat.lt_of_lt_of_le hlen Zdc,?_⟩
    exact k F' _ σ L (Zgo S' he hl hσ r') z.ff
   ·cases e
  ·cases e
theorem Zpl (its:List Value)(k:Nat)(u:Value)(h:k≤its.length):(its.toArray.extract 0 k).push u++its.toArray.extract k=(its.insertIdx k u).toArray:=by
 have e:its.insertIdx k u=its.take k++u::its.drop k:=by
  induction its generalizing k with
  | nil=>simp at h;subst h;simp
  | cons a t ih =>
   cases k with
   | zero=>simp
   | succ k=>simp at h;simp [ih k h]
 rw [e]
 simp
 rw [List.take_of_length_le (by rw [List.length_drop];exact Nat.le_refl _)]
theorem ZjP:L2.MtM X "list.insert" (fun x vs H Q=>∃ (l:Addr) (xs:List V) (k:Int) (y:V),x=.ref l∧vs=[.int k,y]∧H l=some (.lst xs)∧0≤k∧k≤xs.length∧xs.length < lim∧Q .non (upd H l (.lst (xs.insertIdx k.toNat y)))):=by
 intro pins s σ H x vs v us Q I rx rv h
 obtain ⟨l,xs,k,y,rfl,rfl,hH,hk0,hk,hz,q⟩:=h
 cases rx
 obtain ⟨u,w,rfl,ru,rw'⟩:=rv.two
 obtain ⟨t,rfl⟩:=ru
 obtain ⟨z,its,n,r,hl,e⟩:=I.lstM hH
 have hlim:lim=100000:=rfl
 have hz2:its.toArray.size≤sizeLine:=by rw [List.size_toArray,sizeLine_eq];omega
 have hfit:Builtin.List.listFitsIndex k=true:=by
  unfold Builtin.List.listFitsIndex
  rw [Bool.and_eq_true]
  exact ⟨decide_eq_true (Int.le_trans (by decide) hk0),decide_eq_true (Int.lt_of_lt_of_le (show k < 9223372036854775808 by omega) (by decide))⟩
 have hfit':¬ (!Builtin.List.listFitsIndex k)=true:=by rw [hfit];decide
 refine call_meets PySem.F.slot_list_insert ⟨_,e,rfl⟩ PySem.F.entry_list_insert (PySem.F.args_list_insert_3 _ _ _)
  (AutoSeq1.list_insert_list_int_val_1 l its.toArray n k t w hfit' hz2) ⟨e,?_⟩
 refine ⟨.non,_,I.lset (its':=its.insertIdx k.toNat w) hH e ?_ ?_ ?_,rfl,q⟩
 ·have hn:¬ (k < 0):=by omega
  have hm:min k.toNat its.toArray.size=k.toNat:=by rw [List.size_toArray];omega
  have hif:(if k < 0 then (k + ((its.toArray.size:Nat):Int)).toNat else min k.toNat its.toArray.size)=k.toNat:=by rw [if_neg hn,hm]
  dsimp only
  rw [hif]
  exact Zpl its k.toNat w (by omega)
 ·clear e hz hz2 hfit hfit' hk hk0 q hH
  have go:∀ (k:Nat) (xs:List V) (its:List Value),Vals xs its→Vals (xs.insertIdx k y) (its.insertIdx k w):=by
   intro k
   induction k with
   | zero=>intro xs its r;simp only [List.insertIdx_zero];exact .cons rw' r
   | succ k ih =>
    intro xs its r
    cases r with
    | nil=>simp only [List.insertIdx_succ_nil];exact .nil
    | cons r1 r2=>simp only [List.insertIdx_succ_cons];exact .cons r1 (ih _ _ r2)
  exact go k.toNat xs its r
 ·have:(xs.insertIdx k.toNat y).length≤xs.length + 1:=List.length_insertIdx_le_succ
  rw [sizeLine_eq];omega
theorem ZoO (i:Nat) {x:Str} {p1 p2 p3 p4:Pos} (hq:PD X m1 a fa) (ha:PD X .k e f) (hN:X.N[i]?=some x:=by kernel_rfl) (hv:visB X.env.scope x=true:=by kernel_rfl) (hd:(x == ("__debug__":Str))=false:=by kernel_rfl)
  (hcd:(x == ("__classdict__":Str))=false:=by kernel_rfl) (hst:nst a=true:=by rfl) (hst2:nst e=true:=by rfl)
  (hbase:attributeBase (.Name x p1) "insert" X.env (eval (.Name x p1) X.env)=eval (.Name x p1) X.env:=by rfl)
  (hline:(p2.endLine == p3.line)=true:=by rfl)
  (hsw:swapsWith (.Call (.Attribute (.Name x p1) "insert" p2) [a,e] [] p3) none p4.line X.env=pure false:=by rfl) :
  PS1 X m (.Expr (.Call (.Attribute (.Name x p1) "insert" p2) [a,e] [] p3) p4) (sIns i fa f) :=
 PS1.mk <| PS.of (L2.Zcp (L2.Zdy PySem.F.plainAttrs_list PySem.F.slot_list_insert PySem.F.type_list_insert ZjP (L2.JN hN (ZD hv) hd hcd) (L2.Ym hq.h (L2.Ym ha.h L2.Yv (Yn hst2)) (Jh hst)) hbase (by rw [ZaM (ZlY hst hst2)];rfl) hline (Jh hst) (Zbg (Zbf hst2))) hsw) fun D0 σ H hh_=>el10 hh_ fun BF BH F env L o env' S e k=>by
  unfold sIns at e
  split at e
  ·rename_i ds j d he h1 h2
   split at e
   ·rename_i hlen
    cases e
    obtain ⟨p,vs,hσ,hl,hp,r⟩:=Zhw S he
    refine ⟨_,hσ,Zei hp,BF,BH,F,env,L,_,S,h1,fun v F1 H1 z1 r1=>⟨BF,BH,F1,env,L,d,S.ext z1,h2,fun w F' H' z2 rv=>?_⟩⟩
    have z:=z1.trans z2
    have S':=S.ext z
    obtain rfl:=Jr r1
    have r':Reps X.K F' (ds.insertIdx j.toNat d) (vs.insertIdx j.toNat w):=(Reps.mono z.ff _ _ r).insertIdx rv j.toNat
    refine ⟨p,vs,j,w,rfl,rfl,z.hh _ _ hp,hlen.1,by rw [← r.length];exact hlen.2.1,by rw [← r.length];exact hlen.2.2,?_⟩
    exact k F' _ σ L (Zgo S' he hl hσ r') z.ff
   ·cases e
  ·cases e
end
end PV
set_option linter.all false
set_option Elab.async false
set_option maxRecDepth 100000
set_option maxHeartbeats 4000000
namespace PV
open PySem PySem.Spec PyProof.Rows
open L2 (V Hp HO Vals SqL SqT Same upd Cx PE PT PW PA PS PSs TE TT TA TS Inv RelV Yc Jd Zd)
section
variable {X:Cx} {m:RetP} {m1 m2 m3:Md} {st:Stmt} {rest:List Stmt} {g g2 b:St} {e a c:Expr} {f fa fb fc:Ex} {t:Tx} {pos pos' p1 p2 p3:Pos}
theorem Zo6 (i:Nat) {x:Str} (hq:PD X m1 a fa) (ha:PD X .k e f) (hN:X.N[i]?=some x:=by kernel_rfl) (hv:visB X.env.scope x=true:=by kernel_rfl) (hd:(x == ("__debug__":Str))=false:=by kernel_rfl)
  (hcd:(x == ("__classdict__":Str))=false:=by kernel_rfl)
  (has:∀ v,assign (.Subscript (.Name x p1) a p2) X.env v=(do
   let ov ← holding [v] (eval (.Name x p1) X.env)
   let iv ← holding [v,ov] (eval a X.env)
   standAt p2
   holding [v,ov,iv] (setItem ov iv v)
   release [v,ov,iv] []):=by intro _;rfl)
  (hs:swapsWithSole [.Subscript (.Name x p1) a p2] e pos.line X.env=pure false:=by rfl) (hw:swappedStores [.Subscript (.Name x p1) a p2] e X.env=pure none:=by rfl)
  (h1:(assignEach [.Subscript (.Name x p1) a p2] X.env).map (·.2)=[assign (.Subscript (.Name x p1) a p2) X.env]:=by rfl):PS1 X m (.Assign [.Subscript (.Name x p1) a p2] e pos) (sPut i fa f) :=
 PS1.mk <| PS.of (L2.Zk7 ha.h (L2.Zk2 (L2.JN hN (ZD hv) hd hcd) hq.h L2.set_list has) hs hw h1) fun D0 σ H hh_=>el10 hh_ fun BF BH F env L o env' S e k=>by
  unfold sPut at e
  split at e
  ·rename_i ds d kk he h2 h3
   split at e
   ·rename_i j hj
    cases e
    obtain ⟨p,vs,hσ,hl,hp,r⟩:=Zhw S he
    refine ⟨BF,BH,F,env,L,d,S,h2,fun v F1 H1 z1 r1=>⟨_,hσ,BF,BH,F1,env,L,_,S.ext z1,h3,fun w F2 H2 z2 r2=>?_⟩⟩
    have z:=z1.trans z2
    have S':=S.ext z
    have r1':=Rep.mono z2.ff _ _ r1
    refine ⟨p,vs,kk,j,rfl,Jr r2,z.hh _ _ hp,by rw [← r.length];exact hj,?_⟩
    exact k F2 _ σ L (Zgo S' he hl hσ ((Reps.mono z.ff _ _ r).set r1' j)) z.ff
   ·cases e
  ·cases e
theorem Zq.set {K:PySem.W.Frag}{F H:Hp}:∀ {rs:List (List D)} {as:List Addr} {j:Nat} {r:List D} {a:Addr} {vs':List V},as.Nodup→Zq K F H rs as→as[j]?=some a→Reps K F r vs'→Zq K F (upd H a (.lst vs')) (rs.set j r) as
 | [],as,j,r,a,vs',_,h,e,_=>by have z:as=[]:=h;subst z;simp at e
 | r0::rs,as,0,r,a,vs',nd,h,e,h'=>by
  obtain ⟨b,t,vs,rfl,h1,h2,h3⟩:=h
  have e':b=a:=by simpa using e
  subst e'
  obtain ⟨n1,n2⟩:=List.nodup_cons.mp nd
  exact ⟨b,t,vs',rfl,Yc,h',h3.mono (.refl _) fun c hc o z=>by rw [Jd (fun q=>n1 (by rw [← q];exact hc))];exact z⟩
 | r0::rs,as,j + 1,r,a,vs',nd,h,e,h'=>by
  obtain ⟨b,t,vs,rfl,h1,h2,h3⟩:=h
  obtain ⟨n1,n2⟩:=List.nodup_cons.mp nd
  have e':t[j]?=some a:=by simpa using e
  exact ⟨b,t,vs,rfl,by rw [Jd (fun q=>n1 (by rw [q];exact List.mem_of_getElem? e'))];exact h1,h2,Zq.set n2 h3 e' h'⟩
theorem Zn6 (i:Nat) {x:Str} (hq:PD X m1 a fa) (hc:PD X m2 c fc) (ha:PD X .k e f) (hN:X.N[i]?=some x:=by kernel_rfl) (hv:visB X.env.scope x=true:=by kernel_rfl) (hd:(x == ("__debug__":Str))=false:=by kernel_rfl)
  (hcd:(x == ("__classdict__":Str))=false:=by kernel_rfl) (hix:L2.Zgy a:=by exact fun _ _=>rfl)
  (has:∀ v,assign (.Subscript (.Subscript (.Name x p1) a p2) c p3) X.env v=(do
   let ov ← holding [v] (eval (.Subscript (.Name x p1) a p2) X.env)
   let iv ← holding [v,ov] (eval c X.env)
   standAt p3
   holding [v,ov,iv] (setItem ov iv v)
   release [v,ov,iv] []):=by intro _;rfl)
  (hs:swapsWithSole [.Subscript (.Subscript (.Name x p1) a p2) c p3] e pos.line X.env=pure false:=by rfl) (hw:swappedStores [.Subscript (.Subscript (.Name x p1) a p2) c p3] e X.env=pure none:=by rfl)
  (h1:(assignEach [.Subscript (.Subscript (.Name x p1) a p2) c p3] X.env).map (·.2)=[assign (.Subscript (.Subscript (.Name x p1) a p2) c p3) X.env]:=by rfl) :
  PS1 X m (.Assign [.Subscript (.Subscript (.Name x p1) a p2) c p3] e pos) (ZdF i fa fc f) :=
 PS1.mk <| PS.of (L2.Zk7 ha.h (L2.Zk2 (L2.ZjV L2.Zjh (L2.JN hN (ZD hv) hd hcd) hq.h hix) hc.h L2.set_list has) hs hw h1) fun D0 σ H hh_=>el10 hh_ fun BF BH F env L o env' S e k=>by
  unfold ZdF at e
  split at e
  ·rename_i rs d kk ll he h2 h3 h4
   split at e
   ·rename_i j hj
    split at e
    ·rename_i r hr
     split at e
     ·rename_i mm hm
      cases e
      obtain ⟨ov,hσ,hso⟩:=S.sl i _ he
      obtain ⟨p,as,rfl,hl,nd,hp,hrows⟩:=hso
      refine ⟨BF,BH,F,env,L,d,S,h2,fun v F1 H1 z1 r1=>⟨_,hσ,BF,BH,F1,env,L,_,S.ext z1,h3,fun w F2 H2 z2 r2=>?_⟩⟩
      have z:=z1.trans z2
      have S2:=S.ext z
      obtain ⟨ra,vs,g1,g2,g3⟩:=hrows.get hr
      have hla:as.length=rs.length:=hrows.length.symm
      have hat:L2.atI (as.map V.ref) kk=some (.ref ra):=by
       unfold L2.atI
       rw [List.length_map,hla]
       show ((ixN rs.length kk).bind fun j=>(as.map V.ref)[j]?)=_
       rw [hj]
       show (as.map V.ref)[j]?=_
       rw [List.getElem?_map,g1];rfl
      refine ⟨p,as.map V.ref,kk,.ref ra,rfl,Jr r2,.inl (.inl (z.hh _ _ hp)),hat,BF,BH,F2,env,L,_,S2,h4,fun w2 F3 H3 z3 r3=>?_⟩
      have z':=z.trans z3
      have S3:=S.ext z'
      have r1':=Rep.mono (z2.trans z3).ff _ _ r1
      have g3':=Reps.mono z'.ff _ _ g3
      refine ⟨ra,vs,ll,mm,rfl,Jr r3,z'.hh _ _ g2,by rw [← g3.length];exact hm,?_⟩
      have hra:ra ∈ as:=List.mem_of_getElem? g1
      obtain ⟨n1,n2⟩:=List.nodup_cons.mp nd
      refine k F3 _ σ L (S3.own (i:=i) (a:=ra) (by rw [hl];exact List.mem_cons_of_mem _ hra) _ fun s ov e1 e2 e3=>?_) z'.ff
      rw [hσ] at e2;cases e2
      refine ⟨p,as,rfl,hl,nd,?_,?_⟩
      ·rw [Jd (fun q=>n1 (by rw [q];exact hra))];exact z'.hh _ _ hp
      ·have hrows':Zq X.K F3 H3 rs as:=hrows.mono z'.ff fun b _ o q=>z'.hh _ _ q
       exact hrows'.set n2 g1 (g3'.set r1' mm)
     ·cases e
    ·cases e
   ·cases e
  ·cases e
structure ItOk (K:PySem.W.Frag)(J:L2.It)(F:Hp)(ds:List D):Prop where
 stop:∀ H,Same F H→J.stop ds.length H
 go:∀ i H,Same F H→i < ds.length→J.go i H
 yld:∀ i H x H' F0,Same F F0→Same F0 H→i < ds.length→J.yld i H x H'→∃ d F2,ds[i]?=some d∧Ext F0 H F2 H'∧Rep K F2 d x
noncomputable def tIt (K:PySem.W.Frag) (lx:Lx):L2.TI:=fun σ H R=>∃ BF BH F env L ds,SOk K BF BH F H σ env L∧lx env=some ds∧∀ J F' H',Ext F H F' H'→ItOk K J F' ds→R J H'
noncomputable def PId (X:Cx) (tg iter:Expr) (lx:Lx):Prop:=L2.PI X tg iter (tIt X.K lx)
theorem PI.of {tg iter:Expr}{w w':L2.TI}(h:L2.PI X tg iter w')(i:∀ σ H R,w σ H R→w' σ H R):L2.PI X tg iter w:=fun pins s σ H R I q=>h pins s σ H R I (i σ H R q)
noncomputable def iSeq (K:PySem.W.Frag) (tl:TE):L2.TI:=fun σ H R=>tl σ H fun x H1=>∃ p,x=.ref p∧(((∃ xs,SqL K H1 p xs)∧R (L2.Itl K p) H1)∨((∃ xs,SqT K H1 p xs)∧R (L2.Itt K p) H1))
theorem ZpK {tg l:Expr}{tl:TE}(hl:PE X l tl):L2.PI X tg l (iSeq X.K tl):=by
 intro pins s σ H R I h
 refine L2.thn (hl pins s σ H _ I h) fun v s1 ⟨x,H1,I1,r1,q1⟩=>?_
 obtain ⟨p,e,q1⟩:=q1
 subst e
 cases r1
 rcases q1 with ⟨⟨xs,hq⟩,q⟩ | ⟨⟨xs,hq⟩,q⟩
 ·obtain ⟨its,rv,pl,hz⟩:=I1.list hq
  refine wpAny_pyIter_list pl.isList ?_
  refine ⟨s1.heap.objs.size,[s1.heap.objs.size],_,_,H1,rfl,I1.kept (t':=s1.toks) fun b o e=>Heap.get?_push_of_some _ e,L2.ZlH p _,⟨_,Heap.get?_push_size _ rfl,rfl,rfl⟩,fun b hb=>?_,q⟩
  have e:b=s1.heap.objs.size:=by simpa using hb
  subst e
  exact I1.fpOk (Nat.le_refl _) (I1.hok.fresh (Nat.le_refl _))
 ·obtain ⟨its,rv,pl,hz⟩:=I1.tuple hq
  refine wpAny_pyIter_tuple (show s1.heap.IsTuple p its.toArray from pl) ?_
  refine ⟨s1.heap.objs.size,[s1.heap.objs.size],_,_,H1,rfl,I1.kept (t':=s1.toks) fun b o e=>Heap.get?_push_of_some _ e,L2.Zke p _,⟨_,Heap.get?_push_size _ rfl,rfl,rfl⟩,fun b hb=>?_,q⟩
  have e:b=s1.heap.objs.size:=by simpa using hb
  subst e
  exact I1.fpOk (Nat.le_refl _) (I1.hok.fresh (Nat.le_refl _))
theorem Jo {tg:Expr}(ha:PD X .k a f):PId X tg a (iOf f):=PI.of (ZpK ha.h) fun σ H R hh_=>el9 hh_ fun BF BH F env L ds S e q=>by
 unfold iOf at e
 split at e
 ·rename_i xs h1
  cases e
  refine ⟨BF,BH,F,env,L,_,S,h1,fun v F' H' z r=>?_⟩
  simp only [Rep] at r
  obtain ⟨p,vs,rfl,hs,t⟩:=r
  refine ⟨p,rfl,.inl ⟨⟨vs,z.fh.seq hs⟩,q _ F' H' z ⟨fun H2 s2=>⟨vs,s2.seq hs,by rw [t.length];exact Nat.le_refl _⟩,fun i H2 s2 hi=>?_,fun i H2 x H3 F0 s1 s2 hi hy=>?_⟩⟩⟩
  ·exact ⟨vs,vs[i]'(by rw [← t.length];exact hi),s2.seq hs,by simp [← t.length,hi]⟩
  ·obtain ⟨rfl,hy⟩:=hy
   obtain ⟨d,k1,k2⟩:=t.getV (hy vs ((s1.trans s2).seq hs))
   exact ⟨d,F0,k1,.refl s2,Rep.mono s1 _ _ k2⟩
 ·rename_i xs h1
  cases e
  refine ⟨BF,BH,F,env,L,_,S,h1,fun v F' H' z r=>?_⟩
  simp only [Rep] at r
  obtain ⟨p,vs,rfl,hs,t⟩:=r
  refine ⟨p,rfl,.inr ⟨⟨vs,seqT z.fh hs⟩,q _ F' H' z ⟨fun H2 s2=>⟨vs,seqT s2 hs,by rw [t.length];exact Nat.le_refl _⟩,fun i H2 s2 hi=>?_,fun i H2 x H3 F0 s1 s2 hi hy=>?_⟩⟩⟩
  ·exact ⟨vs,vs[i]'(by rw [← t.length];exact hi),seqT s2 hs,by simp [← t.length,hi]⟩
  ·obtain ⟨rfl,hy⟩:=hy
   obtain ⟨d,k1,k2⟩:=t.getV (hy vs (seqT (s1.trans s2) hs))
   exact ⟨d,F0,k1,.refl s2,Rep.mono s1 _ _ k2⟩
 ·cases e
theorem Zh1 {K:PySem.W.Frag}{F:Hp}{lo:Int}{n:Nat}:ItOk K (L2.Itr lo n) F (Yg lo n) where
 stop:=fun H _=>by show n≤(Yg lo n).length;rw [Zm];exact Nat.le_refl _
 go:=fun i H _ h=>by show i < n;rw [Zm] at h;exact h
 yld:=fun i H x H' F0 _ s2 hi hy=>by
  obtain ⟨rfl,rfl⟩:=hy
  rw [Zm] at hi
  exact ⟨_,F0,JF hi,.refl s2,by simp [Rep]⟩
theorem Zr {tg:Expr} (T:Bt X.mg) (ha:PD X m1 a f) (hg:X.env.kindOf "range"=some .globalImplicit:=by kernel_rfl) (hs:nst a=true:=by rfl):PId X tg (.Call (.Name "range" p1) [a] [] pos) (iRng f) :=
 PI.of (L2.ZlN hg T.range (L2.Ym ha.h L2.Yv (Yn hs)) (Yn hs)) fun σ H R hh_=>el9 hh_ fun BF BH F env L ds S e q=>by
  unfold iRng at e
  split at e
  ·rename_i j h1
   split at e
   ·rename_i hj
    cases e
    refine ⟨BF,BH,F,env,L,_,S,h1,fun v F' H' z r=>?_⟩
    obtain rfl:=Jr r
    have hl:(lim:Int)=100000:=rfl
    exact ⟨j,rfl,by omega,by omega,q _ F' H' z Zh1⟩
   ·cases e
  ·cases e
theorem ZnN {tg:Expr} (T:Bt X.mg) (ha:PD X m1 a f) (hb:PD X m2 c fc) (hg:X.env.kindOf "range"=some .globalImplicit:=by kernel_rfl) (hs:nst a=true:=by rfl) (hs2:nst c=true:=by rfl):PId X tg (.Call (.Name "range" p1) [a,c] [] pos) (Zdx f fc) :=
 PI.of (L2.ZlG hg T.range (L2.Ym ha.h (L2.Ym hb.h L2.Yv (Yn hs2)) (Jh hs)) ((Jh hs).trans (by rw [Yn hs2])) (Yn hs2)) fun σ H R hh_=>el9 hh_ fun BF BH F env L ds S e q=>by
  unfold Zdx at e
  split at e
  ·rename_i i j h1 h2
   split at e
   ·rename_i hj
    cases e
    refine ⟨BF,BH,F,env,L,_,S,h1,fun v F1 H1 z1 r1=>⟨BF,BH,F1,env,L,_,S.ext z1,h2,fun w F2 H2 z2 r2=>?_⟩⟩
    have hl:(lim:Int)=100000:=rfl
    exact ⟨i,j,by rw [Jr r1,Jr r2],⟨by omega,by omega,by omega,by omega⟩,q _ F2 H2 (z1.trans z2) Zh1⟩
   ·cases e
  ·cases e
noncomputable def tTg (K:PySem.W.Frag) (g:Tg):L2.TG:=fun v σ H Q=>∃ BF BH F env L d env1,SOk K BF BH F H σ env L∧Rep K F d v∧g d env=some env1∧∀ F' H' σ' L',SOk K BF BH F' H' σ' env1 L'→Same F F'→Q σ' H'
noncomputable def PGd (X:Cx) (tg:Expr) (g:Tg):Prop:=L2.PG X tg (tTg X.K g)
theorem pg_n (nd:X.N.Nodup)(i:Nat){x:Str}(hi:X.N[i]?=some x:=by kernel_rfl)(hx:locB X.env.scope x=true:=by kernel_rfl)(hf:fnB X x=true:=by kernel_rfl):PGd X (.Name x pos) (gN i) :=
 fun pins s σ H v u Q I r ⟨BF,BH,F,env,L,d,env1,S,rd,e,k⟩=>L2.ZeN nd hi (ZV hx) (Zaj hf) pins s σ H v u Q I r (by
  cases e
  exact k F H _ _ (S.Zdw i rd) (.refl _))
theorem Zj {tg iter:Expr}{lx:Lx}{tg':Tg}{body:List Stmt}(hi:PId X tg iter lx)(hg:PGd X tg tg')(hb:PSd X m body b)(hp:PassesOwn (model X.prog X.w) X.A X.env X.xe:=by exact PassesOwn.never)(hc:X.calm=true:=by rfl)
  (hs:∀ x,foldedSetIterable iter X.env x=pure x:=by intro _;rfl):PS1 X m (.For tg iter body [] pos) (sFor tg' lx b):=PS1.mk <| PS.of (L2.Zpk hp hc hi hg hb.h hs) fun D0 σ H hh_=>el10 hh_ fun BF BH F env L o env' S e k=>by
 unfold sFor at e
 split at e
 ·rename_i ds h1
  refine ⟨BF,BH,F,env,L,ds,S,h1,fun J F1 H1 z1 J1=>?_⟩
  refine ⟨fun i mm σ H=>mm=ds.length - i∧i≤ds.length∧∃ F env L,SOk X.K BF BH F H σ env L∧Same F1 F∧forL tg' b (ds.drop i) env=some (o,env'),⟨ds.length,by simp,Nat.zero_le _,F1,env,L,S.ext z1,.refl _,e⟩,?_⟩
  rintro i mm σ H ⟨rfl,hi,F,env,L,S,s1,e⟩
  by_cases hlt:i < ds.length
  ·refine .inr ⟨J1.go i H (s1.trans S.fh) hlt,fun σ' H'=>∃ F env L,SOk X.K BF BH F H' σ' env L∧Same F1 F∧forL tg' b (ds.drop (i + 1)) env=some (o,env'),fun σ' H' ⟨F,env,L,q1,q2,q3⟩=>⟨ds.length - (i + 1),by omega,rfl,hlt,F,env,L,q1,q2,q3⟩,fun x H' hy=>?_⟩
   obtain ⟨d,F2,hd,z2,r2⟩:=J1.yld i H x H' F s1 S.fh hlt hy
   rw [List.drop_eq_getElem_cons hlt] at e
   have hd':ds[i]=d:=by rw [List.getElem?_eq_getElem hlt] at hd;exact Option.some.inj hd
   rw [hd'] at e
   simp only [forL] at e
   split at e
   ·rename_i env0 hg0
    refine ⟨BF,BH,F2,env,L,d,env0,S.ext z2,r2,hg0,fun F3 H3 σ3 L3 S3 s3=>?_⟩
    have s13:Same F1 F3:=(s1.trans z2.ff).trans s3
    split at e
    ·rename_i e1 hb1
     exact ⟨BF,BH,F3,env0,L3,.nx,e1,S3,hb1,fun F4 H4 σ4 L4 S4 s4=>⟨F4,e1,L4,S4,s13.trans s4,e⟩⟩
    ·rename_i e1 hb1
     exact ⟨BF,BH,F3,env0,L3,.ct,e1,S3,hb1,fun F4 H4 σ4 L4 S4 s4=>⟨F4,e1,L4,S4,s13.trans s4,e⟩⟩
    ·rename_i e1 hb1
     cases e
     exact ⟨BF,BH,F3,env0,L3,.bk,env',S3,hb1,fun F4 H4 σ4 L4 S4 s4=>k F4 H4 σ4 L4 S4 ((z1.ff.trans s13).trans s4)⟩
    ·rename_i r e1 hb1
     cases e
     exact ⟨BF,BH,F3,env0,L3,.rt r,env',S3,hb1,fun F4 H4 σ4 L4 S4 s4=>k F4 H4 σ4 L4 S4 ((z1.ff.trans s13).trans s4)⟩
    ·cases e
   ·cases e
  ·have ei:i=ds.length:=by omega
   subst ei
   rw [List.drop_length] at e
   cases e
   exact .inl ⟨J1.stop H (s1.trans S.fh),k F H σ L S (z1.ff.trans s1)⟩
 ·cases e
end
end PV
set_option linter.all false
set_option Elab.async false
set_option maxRecDepth 100000
set_option maxHeartbeats 4000000
namespace PV
open PySem PySem.Spec PyProof.Rows
open L2 (V Hp HO Vals SqL SqT Same upd Cx PE PT PW PA PS PSs TE TT TA TS Inv RelV Yc Jd Zd)
section
variable {X:Cx} {m:RetP} {m1 m2 m3:Md} {st:Stmt} {rest:List Stmt} {g g2 b:St} {e a c:Expr} {es:List Expr} {f fa fb fc:Ex} {fs:List Ex} {t:Tx} {pos pos' p p1 p2 p3:Pos}
theorem ZoG {body:List Stmt}(n:Nat)(hc:PTd X e t)(hb:PSd X m body b)(hp:PassesOwn (model X.prog X.w) X.A X.env X.xe:=by exact PassesOwn.never):PS1 X m (.While e body [] pos) (Z5 t b n):=PS1.mk <| PS.of (L2.ZmH hp hc hb.h) fun D0 σ H hh_=>el10 hh_ fun BF BH F env L o env' S e k=>by
 refine ⟨fun mm σ H=>∃ F1 env L,SOk X.K BF BH F1 H σ env L∧Same F F1∧Z5 t b mm env=some (o,env'),⟨n,F,env,L,S,.refl _,e⟩,?_⟩
 rintro mm σ H ⟨F1,env,L,S,s1,e⟩
 cases mm with
 | zero=>cases e
 | succ mm =>
  simp only [Z5] at e
  split at e
  ·rename_i h1
   refine ⟨BF,BH,F1,env,L,true,S,h1,fun F2 H2 z2=>L2.iteT ⟨fun σ' H'=>∃ F1 env L,SOk X.K BF BH F1 H' σ' env L∧Same F F1∧Z5 t b mm env=some (o,env'),fun σ' H' q=>⟨mm,Nat.lt_succ_self _,q⟩,?_⟩⟩
   split at e
   ·rename_i e1 hb1
    exact ⟨BF,BH,F2,env,L,.nx,e1,S.ext z2,hb1,fun F4 H4 σ4 L4 S4 s4=>⟨F4,e1,L4,S4,(s1.trans z2.ff).trans s4,e⟩⟩
   ·rename_i e1 hb1
    exact ⟨BF,BH,F2,env,L,.ct,e1,S.ext z2,hb1,fun F4 H4 σ4 L4 S4 s4=>⟨F4,e1,L4,S4,(s1.trans z2.ff).trans s4,e⟩⟩
   ·rename_i e1 hb1
    cases e
    exact ⟨BF,BH,F2,env,L,.bk,env',S.ext z2,hb1,fun F4 H4 σ4 L4 S4 s4=>k F4 H4 σ4 L4 S4 ((s1.trans z2.ff).trans s4)⟩
   ·rename_i r e1 hb1
    cases e
    exact ⟨BF,BH,F2,env,L,.rt r,env',S.ext z2,hb1,fun F4 H4 σ4 L4 S4 s4=>k F4 H4 σ4 L4 S4 ((s1.trans z2.ff).trans s4)⟩
   ·cases e
  ·rename_i h1
   cases e
   exact ⟨BF,BH,F1,_,L,false,S,h1,fun F2 H2 z2=>L2.iteF (k F2 H2 σ L (S.ext z2) (s1.trans z2.ff))⟩
  ·cases e
noncomputable def spR (K:PySem.W.Frag) (m:RetP) (φ:List D→Option D):L2.Sp:=fun vs H Q _=>∃ F ds d,Same F H∧Reps K F ds vs∧φ ds=some d∧∀ v F' H',Ext F H F' H'→m H F' H' d v→Q v H'
structure Cal (P:Program)(w:World)(K:PySem.W.Frag)(mg:Str→Option Value)(base:Heap)(k:Nat)(x:Str)(m:RetP)(φ:List D→Option D):Prop where
 ex:∃ (fa:Addr) (fd:FuncData) (ps:List Str),mg x=some (.ref fa)∧PySem.W.keepIn K (.ref fa)=true∧L2.FnOk P w K mg base L2.CX0 k fa fd ps (spR K m φ)∧L2.Binds K fd ps []
theorem Cal.mono {P:Program}{w:World}{K:PySem.W.Frag}{mg:Str→Option Value}{base:Heap}{j k:Nat}{x:Str}{m:RetP}{φ:List D→Option D}(h:Cal P w K mg base j x m φ)(hk:j≤k):Cal P w K mg base k x m φ:=by
 obtain ⟨fa,fd,ps,h1,h2,h3,h4⟩:=h.ex
 exact ⟨⟨fa,fd,ps,h1,h2,h3.mono hk,h4⟩⟩
theorem Zid {BH H F2 H2:Hp}(s:Same BH H):∀ m:Md,Same (hpM H F2 H2 m) (hpM BH F2 H2 m)
 | .r=>.refl _
 | .k=>.refl _
 | .f=>fun b o h=>by
  show cut F2 BH b=some o
  have h':cut F2 H b=some o:=h
  unfold cut at h' ⊢
  split at h'
  ·rename_i hn
   rw [s.free hn]
   exact h'
  ·cases h'
theorem ZfA {k:Nat} {x:Str} {φ:List D→Option D} (G:Cal X.prog X.w X.K X.mg X.base k x m φ) (hr:L2.Room k X.A) (ha:PAd X .k (e::es) fs) (hg:L2.Gl X x) (hdb:(x == ("__debug__":Str))=false)
  (he:starEach (e::es) X.env=(false,eval e X.env)::starEach es X.env) (hpl:(backTo pos (starEach es X.env)).any (·.1)=false) :
  PE X (.Call (.Name x p) (e::es) [] pos) (fun σ H Q=>∃ BF BH F env L d,SOk X.K BF BH F H σ env L∧Ye φ fs env=some d∧∀ v F' H' H0,Same BH H0→Same H H0→Ext F H F' H'→m H0 F' H' d v→Q v H'):=by
 obtain ⟨fa,fd,ps,h1,h2,h3,h4⟩:=G.ex
 exact PE.of (L2.Znh h3 hr hg h1 h2 h4 .nil L2.Zm9 ha.h hdb he hpl) fun σ H Q hh_=>el9 hh_ fun BF BH F env L d S e q=>by
  unfold Ye at e
  split at e
  ·rename_i ds h5
   refine ⟨BF,BH,F,env,L,ds,S,h5,fun vs F' H' z r=>?_⟩
   show spR X.K m φ (vs++[]) H' Q L2.E0
   rw [List.append_nil]
   exact ⟨F',ds,d,z.fh,r,e,fun v F2 H2 z2 r2=>q v F2 H2 H' (S.s0.trans z.hh) z.hh (z.trans z2) r2⟩
  ·cases e
theorem Yk {k:Nat} {x:Str} {φ:List D→Option D} (G:Cal X.prog X.w X.K X.mg X.base k x (rk X.K m1) φ) (hr:L2.Room k X.A) (ha:PAd X .k (e::es) fs) (hg:X.env.kindOf x=some .globalImplicit:=by kernel_rfl) (hdb:(x == ("__debug__":Str))=false:=by kernel_rfl)
  (hn:nst e=true:=by rfl) (hns:nsts es=true:=by rfl):PD X m1 (.Call (.Name x p) (e::es) [] pos) (Ye φ fs) :=
 PD.mk <| PE.of (ZfA G hr ha hg hdb (Jh hn) (Zbg hns)) fun σ H Q ⟨BF,BH,F,env,L,d,S,e,q⟩ =>
  ⟨BF,BH,F,env,L,d,S,e,fun v F' H' H0 s0 s1 z r=>q v F' H' z (Rep.mono (Zid s0 m1) _ _ r)⟩
theorem Zl5 {k:Nat} {x:Str} {φ:List D→Option D} (G:Cal X.prog X.w X.K X.mg X.base k x (rk X.K m1) φ) (hr:L2.Room k X.A) (hg:X.env.kindOf x=some .globalImplicit:=by kernel_rfl) (hdb:(x == ("__debug__":Str))=false:=by kernel_rfl):PD X m1 (.Call (.Name x p) [] [] pos) (Ye φ []):=by
 obtain ⟨fa,fd,ps,h1,h2,h3,h4⟩:=G.ex
 exact PD.mk <| PE.of (L2.ZmL h3 hr hg h1 h2 h4 .nil L2.Zm9 hdb) fun σ H Q hh_=>el9 hh_ fun BF BH F env L d S e q=>by
  have e':φ []=some d:=e
  exact ⟨F,[],d,S.fh,Reps.nil,e',fun v F2 H2 z2 r2=>q v F2 H2 z2 (Rep.mono (Zid S.s0 m1) _ _ r2)⟩
noncomputable def tT (K:PySem.W.Frag) (f:Ex):TE:=fun σ H Q=>∃ BF BH F env L d,SOk K BF BH F H σ env L∧f env=some d∧∀ v F' H',Ext F H F' H'→rT K H F' H' d v→Q v H'
noncomputable def PDt (X:Cx) (e:Expr) (f:Ex):Prop:=PE X e (tT X.K f)
theorem Zi6 {K:PySem.W.Frag}{A B F' H':Hp}{d:D}{v:V}(s:Same A B)(h:rT K B F' H' d v):rT K A F' H' d v:=by
 obtain ⟨a,as,rs,h1,h2,h3,h4,h5,h6⟩:=h
 exact ⟨a,as,rs,h1,h2,h3,h4,h5,fun b hb=>⟨s.free (h6 b hb).1,(h6 b hb).2⟩⟩
theorem ZhU {k:Nat} {x:Str} {φ:List D→Option D} (G:Cal X.prog X.w X.K X.mg X.base k x (rT X.K) φ) (hr:L2.Room k X.A) (ha:PAd X .k (e::es) fs) (hg:X.env.kindOf x=some .globalImplicit:=by kernel_rfl) (hdb:(x == ("__debug__":Str))=false:=by kernel_rfl)
  (hn:nst e=true:=by rfl) (hns:nsts es=true:=by rfl):PDt X (.Call (.Name x p) (e::es) [] pos) (Ye φ fs) :=
 PE.of (ZfA G hr ha hg hdb (Jh hn) (Zbg hns)) fun σ H Q ⟨BF,BH,F,env,L,d,S,e,q⟩ =>
  ⟨BF,BH,F,env,L,d,S,e,fun v F' H' H0 s0 s1 z r=>q v F' H' z (Zi6 s1 r)⟩
theorem PDt.k (h:PDt X e f):PD X .k e f:=PD.mk <| PE.of h fun σ H Q hh_=>el9 hh_ fun BF BH F env L d S e q=>by
 refine ⟨BF,BH,F,env,L,d,S,e,fun v F' H' z r=>?_⟩
 obtain ⟨a,as,rs,rfl,rfl,h3,h4,h5,h6⟩:=r
 have ff:Same F' (frzH F' H' (a::as)):=fun b o hb=>by
  by_cases hm:b ∈ a::as
  ·rw [(h6 b hm).2] at hb;cases hb
  ·rw [Zbo hm];exact hb
 have z':Ext F H (frzH F' H' (a::as)) H':=⟨z.hh,z.ff.trans ff,fun b o hb=>by
  by_cases hm:b ∈ a::as
  ·exact .inr (h6 b hm).1
  ·rw [Zbo hm] at hb;exact z.dm b o hb,fun b o hb=>by
  by_cases hm:b ∈ a::as
  ·rw [Za2 hm] at hb;exact hb
  ·rw [Zbo hm] at hb;exact z.fh b o hb⟩
 refine q _ _ H' z' ?_
 simp only [Rep,hpM]
 refine ⟨a,_,rfl,.inl (.inl (by rw [Za2 List.mem_cons_self];exact h3)),?_⟩
 have r':Zq X.K (frzH F' H' (a::as)) (frzH F' H' (a::as)) rs as:=h4.mono ff fun b hb o z=>by rw [Za2 (List.mem_cons_of_mem _ hb)];exact z
 exact r'.reps (.refl _)
theorem ZhD:∀ rs:List (List D),ZeT (rs.map .lst)=some rs
 | []=>rfl
 | r::rs=>by simp only [List.map_cons,ZeT,ZhD rs]
theorem ZnD {K:PySem.W.Frag}{BF BH F F' H H':Hp}{σ:L2.St}{env:Env}{L:Nat→List Addr}(S:SOk K BF BH F H σ env L)(z:Ext F H F' H')(i:Nat){a:Addr}{as:List Addr}{rs:List (List D)}(h3:H' a=some (.lst (as.map .ref)))(h4:Zq K F' H' rs as)(h5:(a::as).Nodup)
  (h6:∀ b ∈ a::as,H b=none∧F' b=none):SOk K BF BH F' H' (σ.set i (some (.ref a))) (env.set i (.tab rs)) (putL L i (a::as)):=by
 have rowsIn:∀ {rs:List (List D)} {as:List Addr},Zq K F' H' rs as→∀ b ∈ as,H' b≠none:=by
  intro rs
  induction rs with
  | nil=>intro as h b hb;have e:as=[]:=h;subst e;cases hb
  | cons r rs ih =>
   intro as h b hb
   obtain ⟨c,t,vs,rfl,h1,_,h3⟩:=h
   rcases List.mem_cons.mp hb with rfl | hb
   ·rw [h1];simp
   ·exact ih h3 b hb
 refine (S.ext z).set i ⟨a,as,rfl,rfl,h5,h3,h4⟩ (fun b hb=>⟨(h6 b hb).2,S.s0.free (h6 b hb).1,?_⟩) (fun b hb j hj hm=>(S.ow j b hm).2.2 (h6 b hb).1)
 rcases List.mem_cons.mp hb with rfl | hb
 ·rw [h3];simp
 ·exact rowsIn h4 b hb
theorem ZnT (i:Nat) {x:Str} (hN:X.N[i]?=some x:=by kernel_rfl) (hv:visB X.env.scope x=true:=by kernel_rfl) (hd:(x == ("__debug__":Str))=false:=by kernel_rfl)
  (hcd:(x == ("__classdict__":Str))=false:=by kernel_rfl):PS1 X (rT X.K) (.Return (some (.Name x p1)) pos) (ZeC i) :=
 PS1.mk <| PS.of (L2.ZfR (L2.JN hN (ZD hv) hd hcd)) fun D0 σ H hh_=>el10 hh_ fun BF BH F env L o env' S e k=>by
  unfold ZeC at e
  split at e
  ·rename_i rs he
   cases e
   obtain ⟨ov,h1,h2⟩:=S.sl i _ he
   obtain ⟨a,as,rfl,hl,nd,h3,h4⟩:=h2
   exact ⟨_,h1,k F H σ L S (.refl _) _ ⟨a,as,rs,rfl,rfl,h3,h4,nd,fun b hb=>⟨(S.ow i b (by rw [hl];exact hb)).2.1,(S.ow i b (by rw [hl];exact hb)).1⟩⟩⟩
  ·cases e
theorem Zmd (ha:PDt X e f):PS1 X (rT X.K) (.Return (some e) pos) (sRet f):=PS1.mk <| PS.of (L2.ZfR ha) fun D0 σ H hh_=>el10 hh_ fun BF BH F env L o env' S e k=>by
 unfold sRet at e
 split at e
 ·rename_i d h1
  cases e
  exact ⟨BF,BH,F,env,L,d,S,h1,fun v F' H' z r=>k F' H' σ L (S.ext z) z.ff v (Zi6 S.s0 r)⟩
 ·cases e
theorem ZkA {n:Nat}{ds:List D}(h:ds.length≤n):(enter n ds).length=n:=by
 unfold enter
 rw [List.length_append,List.length_map,List.length_replicate]
 omega
theorem Zg8 {K:PySem.W.Frag}{F H:Hp}{N:List Str}{ds:List D}{vs:List V}(fh:Same F H)(r:Reps K F ds vs)(hl:ds.length≤N.length):SOk K F H F H (L2.start N vs) (enter N.length ds) (fun _=>[]) where
 s0:=.refl _
 f0:=.refl _
 fh:=fh
 fd:=fun a o h=>.inl h
 ow:=fun i a h=>by cases h
 dj:=fun i j a h=>by cases h
 len:=by
  rw [ZkA hl]
  unfold L2.start
  rw [List.length_append,List.length_map,List.length_replicate]
  have:=r.length
  omega
 sl:=fun i s h=>by
  unfold enter at h
  unfold L2.start
  by_cases hi:i < ds.length
  ·rw [List.getElem?_append_left (by rw [List.length_map];exact hi),List.getElem?_map,List.getElem?_eq_getElem hi] at h
   cases h
   obtain ⟨v,h1,h2⟩:=r.get (i:=i) (d:=ds[i]) (by simp [hi])
   refine ⟨some v,?_,v,rfl,h2⟩
   rw [List.getElem?_append_left (by rw [List.length_map,← r.length];exact hi),List.getElem?_map,h1];rfl
  ·rw [List.getElem?_append_right (by rw [List.length_map];omega),List.length_map,List.getElem?_replicate] at h
   split at h
   ·rename_i hlt
    cases h
    refine ⟨none,?_,trivial⟩
    rw [List.getElem?_append_right (by rw [List.length_map,← r.length];omega),List.length_map,List.getElem?_replicate,if_pos (by rw [← r.length];exact hlt)]
   ·cases h
theorem Zjl {p n:Nat}{g:St}{ds:List D}{d:D}(h:run p n g ds=some d):ds.length=p∧((∃ env',g (enter n ds)=some (.rt d,env'))∨(d=.non∧∃ env',g (enter n ds)=some (.nx,env'))):=by
 unfold run at h
 split at h
 ·rename_i hl
  split at h
  ·rename_i d' e1 hg;cases h;exact ⟨hl,.inl ⟨e1,hg⟩⟩
  ·rename_i e1 hg;cases h;exact ⟨hl,.inr ⟨rfl,e1,hg⟩⟩
  ·cases h
 ·cases h
theorem Yp {P:Program}{w:World}{K:PySem.W.Frag}{mg:Str→Option Value}{base:Heap}{x qual:Str}{st:Stmt}{f:Addr}{fd:FuncData}{N ps:List Str}{k:Nat}{m:RetP}{g:St}(F:L2.Fun K x qual st f fd)(S:L2.Zh N ps (L2.Yb st))
  (hm:(∀ BH F' H',m BH F' H' .non .non)∨∀ env env',g env≠some (.nx,env')) (hb:∀ (cdv:Value) (A:Around) (outer:List PySem.Env) (s:Shared) (H:Hp) (E:L2.XK),L2.Room k (A.deeper (envOfC qual (L2.Yb st) s.heap.objs.size f cdv)) →
   PSd (L2.cxOf L2.CX0 P w K mg base N qual (L2.Yb st) f cdv A outer s H E).nox m (L2.Zf st) g):L2.FnOk P w K mg base L2.CX0 (k + 1) f fd ps (spR K m (run ps.length N.length g)):=by
 have hpl:ps.length≤N.length:=by have:=congrArg List.length S.pre;rw [List.length_take] at this;omega
 refine F.ok S (fun vs H Q E h=>?_) (fun cdv A outer s H vs Q E hr h=>?_)
 ·obtain ⟨F0,ds,d,h1,h2,h3,h4⟩:=h
  rw [← h2.length]
  exact (Zjl h3).1
 ·obtain ⟨F0,ds,d,h1,h2,h3,h4⟩:=h
  obtain ⟨hl,h3⟩:=Zjl h3
  refine ⟨_,(hb cdv A outer s H E hr).h,?_⟩
  have S0:=Zg8 (N:=N) h1 h2 (by omega)
  rcases h3 with ⟨env',hg⟩ | ⟨rfl,env',hg⟩
  ·exact ⟨F0,H,F0,_,_,.rt d,env',S0,hg,fun F' H' σ' L' S' s' v r=>h4 v F' H' S'.ZeW r⟩
  ·rcases hm with hm | hm
   ·exact ⟨F0,H,F0,_,_,.nx,env',S0,hg,fun F' H' σ' L' S' s'=>h4 .non F' H' S'.ZeW (hm _ _ _)⟩
   ·exact absurd hg (hm _ _)
theorem Ys {K:PySem.W.Frag}(m1:Md):∀ BH F' H',rk K m1 BH F' H' .non .non:=fun _ _ _=>by simp [rk,Rep]
end
end PV
set_option linter.all false
set_option Elab.async false
set_option maxRecDepth 100000
set_option maxHeartbeats 4000000
namespace PV
open PySem PySem.Spec PyProof.Rows
open L2 (V Hp HO Vals SqL SqT Same upd Cx PE PT PW PA PS PSs TE TT TA TS Inv RelV Yc Jd Zd Un)
noncomputable def Z0 (sc osc:Scope):Scope :=
 { sc with names:=sc.names.map fun (n,k)=>if (k == .free && osc.kind == .function && osc.names.lookup n == some .cell) then (n,.cell) else (n,k) }
noncomputable def blk (X:Cx) (osc sc:Scope) (cs:List (Str × Addr)) (C:Addr) (s0:Shared) (H0:Hp) (fp:List Addr) (pins:List (Addr × Obj)):Cx :=
 { X with
  env:={ scope:=Z0 sc osc,locals:=C,globals:=X.env.globals,cells:=cs,qual:=X.env.qual,func:=none,code:=X.env.code,frame:=X.env.frame,builtins:=X.env.builtins }
  s₀:=s0,H₀:=H0,outer:=X.stack,stack:=X.stack,ex:=fp,fn:=fun y=>decide (sc.names.lookup y=some .cell),pn:=X.pn++pins }
structure ZcJ (N:List Str)(osc sc:Scope)(x:Str):Prop where
 kind:sc.kind=.function
 loc:∀ y ∈ sc.names,y.2=.local→sc.names.lookup y.1=some .local
 free:∀ y ∈ sc.names,y.2=.free→osc.names.lookup y.1=some .cell∨osc.names.lookup y.1=some .free
 var:sc.names.lookup x=some .local∨sc.names.lookup x=some .cell
 own:∀ y ∈ sc.names,(y.2=.local∨y.2=.cell)→y.1=x∨y.1 ∉ N
 cell:∀ y ∈ sc.names,y.2=.cell→y.1=x
 once:(sc.names.filter fun y=>y.2 == .cell).length≤1
noncomputable def Zci (N:List Str) (osc sc:Scope) (x:Str):Bool :=
 (sc.kind == .function) && (sc.names.all fun y=>!(y.2 == .local) || sc.names.lookup y.1 == some .local) && (sc.names.all fun y=>!(y.2 == .free) || (osc.names.lookup y.1 == some .cell || osc.names.lookup y.1 == some .free)) &&
 (sc.names.lookup x == some .local || sc.names.lookup x == some .cell) && (sc.names.all fun y=>!(y.2 == .local || y.2 == .cell) || (y.1 == x || !N.contains y.1)) && (sc.names.all fun y=>!(y.2 == .cell) || y.1 == x) && decide ((sc.names.filter fun y=>y.2 == .cell).length≤1)
theorem ZcI {N:List Str}{osc sc:Scope}{x:Str}(h:Zci N osc sc x=true):ZcJ N osc sc x:=by
 unfold Zci at h
 simp only [Bool.and_eq_true,List.all_eq_true,Bool.or_eq_true,Bool.not_eq_true',decide_eq_true_eq] at h
 obtain ⟨⟨⟨⟨⟨⟨h1,h2⟩,h3⟩,h4⟩,h5⟩,h6⟩,h7⟩:=h
 refine ⟨by simpa using h1,fun y hy e=>?_,fun y hy e=>?_,?_,fun y hy e=>?_,fun y hy e=>?_,h7⟩
 ·rcases h2 y hy with z | z
  ·rw [e] at z;simp at z
  ·simpa using z
 ·rcases h3 y hy with z | z
  ·rw [e] at z;simp at z
  ·rcases z with z | z
   ·exact .inl (by simpa using z)
   ·exact .inr (by simpa using z)
 ·rcases h4 with z | z
  ·exact .inl (by simpa using z)
  ·exact .inr (by simpa using z)
 ·rcases h5 y hy with z | z
  ·rcases e with e | e <;> (rw [e] at z;simp at z)
  ·rcases z with z | z
   ·exact .inl (by simpa using z)
   ·exact .inr (by simpa using z)
 ·rcases h6 y hy with z | z
  ·rw [e] at z;simp at z
  ·simpa using z
theorem Zf4 {env : PySem.Env}{sc : Scope}(h : ∀ y ∈ sc.names, y.2 = .free → ∃ c, env.cells.lookup y.1 = some c) :
    ∃ cl, closureFor sc env = pure cl ∧ (∀ n c, cl.lookup n = some c → env.cells.lookup n = some c) ∧ (∀ y ∈ sc.names, y.2 = .free → ∃ c, cl.lookup y.1 = some c) ∧ (∀ n c, cl.lookup n = some c → (n, NameKind.free) ∈ sc.names) := by
  have go : ∀ (names : List (Str × NameKind)) (acc : List (Str × Addr)), (∀ y ∈ names, y.2 = .free → ∃ c, env.cells.lookup y.1 = some c) → (∀ n c, acc.lookup n = some c → env.cells.lookup n = some c) →
      ∃ cl, (forIn names acc (fun (p : Str × NameKind) (cs : List (Str × Addr)) => (match p with | (name, kind) => if (kind == .free) = true then (do let a ← cellOf env name; pure (ForInStep.yield ((name, a) :: cs))) else pure (ForInStep.yield cs) : Sem (ForInStep (List (Str × Addr))))) : Sem (List (Str × Addr))) = pure cl ∧
        (∀ n c, cl.lookup n = some c → env.cells.lookup n = some c) ∧ (∀ n c, acc.lookup n = some c → ∃ c', cl.lookup n = some c') ∧ (∀ y ∈ names, y.2 = .free → ∃ c, cl.lookup y.1 = some c) ∧ (∀ n c, cl.lookup n = some c → acc.lookup n = some c ∨ (n, NameKind.free) ∈ names) := by
    intro names
    induction names with
    | nil => intro acc _ ha; exact ⟨acc, rfl, ha, fun n c e => ⟨c, e⟩, (fun y hy => nomatch hy), fun n c e => .inl e⟩
    | cons p r ih =>
      obtain ⟨n, k⟩ := p
      intro acc hf ha
      have hr : ∀ y ∈ r, y.2 = .free → ∃ c, env.cells.lookup y.1 = some c := fun y hy => hf y (List.mem_cons_of_mem _ hy)
      rw [List.forIn_cons]
      by_cases hk : k = .free
      · obtain ⟨c, hc⟩ := hf (n, k) List.mem_cons_self hk
        have ha' : ∀ n' c', ((n, c) :: acc).lookup n' = some c' → env.cells.lookup n' = some c' := fun n' c' e => by
          rw [List.lookup_cons] at e
          cases hb : n' == n with
          | true => rw [hb] at e; cases e; rw [beq_iff_eq.mp hb]; exact hc
          | false => rw [hb] at e; exact ha n' c' e
        obtain ⟨cl, e1, e2, e3, e4, e5⟩ := ih ((n, c) :: acc) hr ha'
        have step : (if (k == NameKind.free) = true then (do let a ← cellOf env n; pure (ForInStep.yield ((n, a) :: acc))) else pure (ForInStep.yield acc) : Sem (ForInStep (List (Str × Addr)))) = pure (ForInStep.yield ((n, c) :: acc)) := by
          rw [if_pos (by simp [hk])]
          unfold cellOf
          rw [show env.cells.lookup n = some c from hc]
          rfl
        refine ⟨cl, ?_, e2, fun n' c' e => ?_, fun y hy hy2 => ?_, fun n' c' e => ?_⟩
        · dsimp only
          rw [step]
          exact e1
        · by_cases hb : n' == n
          · exact e3 n' c (by rw [List.lookup_cons, hb])
          · exact e3 n' c' (by rw [List.lookup_cons]; simp only [Bool.not_eq_true] at hb; rw [hb]; exact e)
        · rcases List.mem_cons.mp hy with rfl | hy
          · exact e3 n c (by rw [List.lookup_cons]; simp)
          · exact e4 y hy hy2
        · rcases e5 n' c' e with z | z
          · rw [List.lookup_cons] at z
            cases hb : n' == n with
            | true => rw [beq_iff_eq.mp hb, ← hk]; exact .inr List.mem_cons_self
            | false => rw [hb] at z; exact .inl z
          · exact .inr (List.mem_cons_of_mem _ z)
      · obtain ⟨cl, e1, e2, e3, e4, e5⟩ := ih acc hr ha
        have step : (if (k == NameKind.free) = true then (do let a ← cellOf env n; pure (ForInStep.yield ((n, a) :: acc))) else pure (ForInStep.yield acc) : Sem (ForInStep (List (Str × Addr)))) = pure (ForInStep.yield acc) := by
          rw [if_neg (by simpa using hk)]
        refine ⟨cl, ?_, e2, e3, fun y hy hy2 => ?_, fun n' c' e => ?_⟩
        · dsimp only
          rw [step]
          exact e1
        · rcases List.mem_cons.mp hy with rfl | hy
          · exact absurd hy2 hk
          · exact e4 y hy hy2
        · rcases e5 n' c' e with z | z
          · exact .inl z
          · exact .inr (List.mem_cons_of_mem _ z)
  obtain ⟨cl, e1, e2, _, e4, e5⟩ := go sc.names [] h (fun n c e => by simp at e)
  refine ⟨cl, ?_, e2, e4, fun n c e => (e5 n c e).elim (fun z => by simp at z) id⟩
  unfold closureFor
  exact (congrArg (fun (t : Sem (List (Str × Addr))) => t >>= fun cs => pure cs) e1)
theorem Zce:∀ (names:List (Str × NameKind)) (n:Nat) (acc:List (Str × Addr)) (h:Heap),(∀ y ∈ names,y.2≠.cell)→cellsFrom n names acc=acc∧pushCells h names=h
 | [],_,_,_,_=>⟨rfl,rfl⟩
 | (x,k)::r,n,acc,h,hc=>by
  have hk:(k == NameKind.cell)=false:=by simpa using hc (x,k) List.mem_cons_self
  unfold cellsFrom pushCells
  rw [if_neg (by rw [hk];simp),if_neg (by rw [hk];simp)]
  exact Zce r n acc h fun y hy=>hc y (List.mem_cons_of_mem _ hy)
theorem Zhg:∀ (names:List (Str × NameKind)) (n:Nat) (acc:List (Str × Addr)) (h:Heap) (x:Str),(∀ y ∈ names,y.2=.cell→y.1=x)→(names.filter fun y=>y.2 == .cell).length=1 →
  cellsFrom n names acc=(x,n)::acc∧pushCells h names=h.push { cls:=.type "cell",data:=.cell none }
 | [],_,_,_,_,_,hl=>by simp at hl
 | (y,k)::r,n,acc,h,x,hx,hl=>by
  by_cases hk:k=.cell
  ·subst hk
   have hr:∀ y ∈ r,y.2≠.cell:=fun z hz e=>by
    rw [List.filter_cons_of_pos (by simp)] at hl
    have hlen:(r.filter fun y=>y.2 == .cell).length=0:=by simpa using hl
    have hmem:z ∈ r.filter fun y=>y.2 == .cell:=List.mem_filter.mpr ⟨hz,by simp [e]⟩
    rw [List.length_eq_zero_iff.mp hlen] at hmem
    cases hmem
   have hyx:y=x:=hx (y,.cell) List.mem_cons_self rfl
   subst hyx
   unfold cellsFrom pushCells
   rw [if_pos (by simp),if_pos (by simp)]
   exact ⟨(Zce r _ _ h hr).1,(Zce r n acc _ hr).2⟩
  ·have hk':(k == NameKind.cell)=false:=by simpa using hk
   unfold cellsFrom pushCells
   rw [if_neg (by rw [hk'];simp),if_neg (by rw [hk'];simp)]
   exact Zhg r n acc h x (fun z hz=>hx z (List.mem_cons_of_mem _ hz)) (by rw [List.filter_cons_of_neg (by rw [hk'];simp)] at hl;exact hl)
theorem ZiX {M:Model}{A:Around}{E:Value→Shared→Prop}{s:Shared}{sc:Scope}{g:Addr}{cl:List (Str × Addr)}{q:Str}{outer:PySem.Env}{Q:PySem.Env→Shared→Prop}
  (h:Q { scope:=sc,locals:=s.heap.objs.size,globals:=g,cells:=cellsFrom (s.heap.objs.size + 1) sc.names cl,qual:=q,func:=none,code:=outer.code,frame:=outer.frame,builtins:=outer.builtins }
   { s with heap:=pushCells (s.heap.push { cls:=.type "dict",data:=.dict #[] }) sc.names }):wpAny M A (newFunctionEnv sc g cl [] q none .none (some outer)) Q E s:=by
 simp only [newFunctionEnv,Option.isSome_some,if_true]
 refine wpAny_bind (wpAny_alloc ?_)
 refine wpAny_bind (wpAny_layCells _ (fun name kind cells=>by cases hkc:kind == NameKind.cell <;> simp [hkc]) _ _ _ _ ?_)
 rw [show ({ s with heap:=s.heap.push { cls:=.type "dict",data:=.dict #[] } }:Shared).heap.objs.size=s.heap.objs.size + 1 from Heap.size_push ..]
 exact wpAny_bind (wpAny_pure (wpAny_pure h))
end PV
set_option linter.all false
set_option Elab.async false
set_option maxRecDepth 100000
set_option maxHeartbeats 4000000
namespace PV
open PySem PySem.Spec PyProof.Rows
open L2 (V Hp HO Vals SqL SqT Same upd Cx PE PT PW PA PS PSs TE TT TA TS Inv RelV Yc Jd Zd Un)
noncomputable def rkd (osc:Scope) (n:Str) (k:NameKind):NameKind:=if (k == NameKind.free && osc.kind == .function && osc.names.lookup n == some .cell)=true then NameKind.cell else k
theorem ZfF (f:Str→NameKind→NameKind):∀ (names:List (Str × NameKind)) (y:Str),(names.map fun p=>(p.1,f p.1 p.2)).lookup y=(names.lookup y).map (f y)
 | [],y=>rfl
 | (n,k)::r,y=>by
  rw [List.map_cons,List.lookup_cons,List.lookup_cons]
  cases hy:y == n with
  | true =>
   have e:y=n:=beq_iff_eq.mp hy
   subst e
   rfl
  | false=>exact ZfF f r y
theorem ZbD {osc:Scope}(names:List (Str × NameKind))(y:Str):(names.map fun (n,k)=>if (k == NameKind.free && osc.kind == .function && osc.names.lookup n == some .cell) then (n,NameKind.cell) else (n,k)).lookup y =
  (names.lookup y).map (rkd osc y):=by
 rw [← ZfF (rkd osc)]
 congr 1
 refine List.map_congr_left fun p _=>?_
 obtain ⟨n,k⟩:=p
 unfold rkd
 dsimp only
 split <;> rfl
theorem ZbA {sc osc:Scope}{y:Str}{k:NameKind}(h:(Z0 sc osc).names.lookup y=some k):∃ k0,sc.names.lookup y=some k0∧(k=k0∨(k0=.free∧k=.cell)):=by
 have h':=h
 unfold Z0 at h'
 dsimp only at h'
 rw [ZbD] at h'
 cases e:sc.names.lookup y with
 | none=>rw [e] at h';cases h'
 | some k0 =>
  rw [e] at h'
  refine ⟨k0,rfl,?_⟩
  have h2:rkd osc y k0=k:=Option.some.inj h'
  unfold rkd at h2
  split at h2
  ·rename_i hc
   simp only [Bool.and_eq_true,beq_iff_eq] at hc
   exact .inr ⟨hc.1.1,h2.symm⟩
  ·exact .inl h2.symm
theorem Zfc {sc osc:Scope}{y:Str}(h:sc.names.lookup y=some .local):(Z0 sc osc).names.lookup y=some .local:=by
 unfold Z0;dsimp only;rw [ZbD,h];rfl
theorem Zkm {sc osc:Scope}{y:Str}(h:sc.names.lookup y=some .cell):(Z0 sc osc).names.lookup y=some .cell:=by
 unfold Z0;dsimp only;rw [ZbD,h];rfl
theorem ZjR {sc osc:Scope}{y:Str}(h:sc.names.lookup y=some .free):(Z0 sc osc).names.lookup y=some .cell∨(Z0 sc osc).names.lookup y=some .free:=by
 unfold Z0;dsimp only;rw [ZbD,h]
 show some (rkd osc y .free)=some _∨some (rkd osc y .free)=some _
 unfold rkd
 split
 ·exact .inl rfl
 ·exact .inr rfl
section
variable {X:Cx} {osc sc:Scope} {x:Str} {i:Nat} {pins:List (Addr × Obj)} {σ:L2.St} {H:Hp} {s:Shared} {cl:List (Str × Addr)} {fp:List Addr}
theorem Zbs (CO : ZcJ X.N osc sc x)(h0 : Heap)(n : Nat) :
    (∀ y ∈ sc.names, y.2 ≠ .cell) ∧ cellsFrom n sc.names cl = cl ∧ pushCells h0 sc.names = h0 ∨
    (x, NameKind.cell) ∈ sc.names ∧ cellsFrom n sc.names cl = (x, n) :: cl ∧ pushCells h0 sc.names = h0.push { cls := .type "cell", data := .cell none } := by
  by_cases h : ∀ y ∈ sc.names, y.2 ≠ .cell
  · exact .inl ⟨h, Zce sc.names n cl h0 h⟩
  · have h' : ∃ y ∈ sc.names, y.2 = .cell := by
      refine Classical.byContradiction fun z => h fun y hy e => z ⟨y, hy, e⟩
    obtain ⟨⟨y, k⟩, hy, e⟩ := h'
    have e' : k = .cell := e
    subst e'
    have hyx : y = x := CO.cell (y, .cell) hy rfl
    subst hyx
    have hl : (sc.names.filter fun y => y.2 == .cell).length = 1 := by
      have h1 := CO.once
      have hm : (y, NameKind.cell) ∈ sc.names.filter fun y => y.2 == .cell := List.mem_filter.mpr ⟨hy, by simp⟩
      have h2 := List.length_pos_of_mem hm
      omega
    exact .inr ⟨hy, Zhg sc.names n cl h0 y CO.cell hl⟩
theorem Zn3 (I : Inv X pins σ H s)(CO : ZcJ X.N osc sc x)(hosc : X.env.scope = osc)(nd : X.N.Nodup)(hi : X.N[i]? = some x)
    (c1 : ∀ n c, cl.lookup n = some c → X.env.cells.lookup n = some c) (c2 : ∀ y ∈ sc.names, y.2 = .free → ∃ c, cl.lookup y.1 = some c) (c3 : ∀ n c, cl.lookup n = some c → (n, NameKind.free) ∈ sc.names)
    (hf : ∀ b ∈ fp, L2.FpOk X pins H b) (hl : ∀ b ∈ fp, b < s.heap.objs.size) :
    Inv (blk X osc sc (cellsFrom (s.heap.objs.size + 1) sc.names cl) s.heap.objs.size s H fp pins) [] (σ.set i none) H { s with heap := pushCells (s.heap.push { cls := .type "dict", data := .dict #[] }) sc.names } := by
  have keep : ∀ b o, s.heap.get? b = some o → (pushCells (s.heap.push { cls := .type "dict", data := .dict #[] }) sc.names).get? b = some o := fun b o e => pushCells_keeps _ _ b o (Heap.get?_push_of_some _ e)
  have hsz : (s.heap.push { cls := .type "dict", data := .dict #[] }).objs.size = s.heap.objs.size + 1 := Heap.size_push ..
  have hns : (pushCells (s.heap.push { cls := .type "dict", data := .dict #[] }) sc.names).Ns s.heap.objs.size (fun _ => none) := (Heap.Ns.new s.heap (.type "dict")).keeps (pushCells_keeps _ _)
  have F1 : ∀ y c, (cellsFrom (s.heap.objs.size + 1) sc.names cl).lookup y = some c → (X.env.cells.lookup y = some c ∧ c < s.heap.objs.size) ∨ (y = x ∧ c = s.heap.objs.size + 1 ∧ (pushCells (s.heap.push { cls := .type "dict", data := .dict #[] }) sc.names).IsCell c none) := fun y c e => by
    have old : cl.lookup y = some c → X.env.cells.lookup y = some c ∧ c < s.heap.objs.size := fun z => by
      have z1 := c1 y c z
      obtain ⟨v, q⟩ := I.cell y c z1
      exact ⟨z1, q.lt⟩
    rcases Zbs (cl := cl) CO (s.heap.push { cls := .type "dict", data := .dict #[] }) (s.heap.objs.size + 1) with ⟨_, e1, _⟩ | ⟨_, e1, e2⟩
    · rw [e1] at e; exact .inl (old e)
    · rw [e1, List.lookup_cons] at e
      cases hy : y == x with
      | true =>
        rw [hy] at e
        cases e
        refine .inr ⟨beq_iff_eq.mp hy, rfl, ?_⟩
        rw [e2]
        exact ⟨_, by rw [← hsz]; exact Heap.get?_push_size _ rfl, rfl⟩
      | false => rw [hy] at e; exact .inl (old e)
  have F2 : ∀ y c, y ≠ x → cl.lookup y = some c → (cellsFrom (s.heap.objs.size + 1) sc.names cl).lookup y = some c := fun y c hy e => by
    rcases Zbs (cl := cl) CO (s.heap.push { cls := .type "dict", data := .dict #[] }) (s.heap.objs.size + 1) with ⟨_, e1, _⟩ | ⟨_, e1, _⟩
    · rw [e1]; exact e
    · rw [e1, List.lookup_cons, beq_false_of_ne hy]; exact e
  have fresh : ∀ a, s.heap.objs.size ≤ a → H a = none := fun a ha => I.hok.fresh ha
  refine ⟨⟨I.ok.mod, CO.kind, I.ok.glob, I.ok.blt, Nat.le_refl _, fun y z c h1 h2 => ?_, fun y hy => ?_, fun y c hy e => ?_, I.ok.hd, I.ok.frames, .inl rfl, fun b hb => ⟨?_, fun y c e z => ?_⟩, I.bs, Nat.le_trans I.ok.bsz I.sz, fun b o e hb => ?_, fun b hb z => ?_, I.stack, I.Zgv⟩,
    rfl, I.bare, Un.kept keep, ⟨_, hns, fun j y v h1 h2 h3 => ?_⟩, fun y c e => ?_, fresh _ (Nat.le_refl _), fun y c e => ?_, fun p hp => ?_, I.hok.kept keep, by rw [List.length_set]; exact I.len⟩
  · -- inj
    rcases F1 y c h1 with ⟨a1, a2⟩ | ⟨a1, a2, _⟩
    · rcases F1 z c h2 with ⟨b1, b2⟩ | ⟨b1, b2, _⟩
      · exact I.ok.inj y z c a1 b1
      · rw [b2] at a2; exact absurd a2 (Nat.not_lt.mpr (Nat.le_succ _))
    · rcases F1 z c h2 with ⟨b1, b2⟩ | ⟨b1, b2, _⟩
      · rw [a2] at b2; exact absurd b2 (Nat.not_lt.mpr (Nat.le_succ _))
      · rw [a1, b1]
  · -- has
    have hy' : (Z0 sc osc).names.lookup y = some .cell ∨ (Z0 sc osc).names.lookup y = some .free := hy
    have hk : sc.names.lookup y = some .cell ∨ sc.names.lookup y = some .free := by
      rcases hy' with z | z
      · obtain ⟨k0, e0, e1⟩ := ZbA z
        rcases e1 with e1 | ⟨e1, _⟩
        · rw [← e1] at e0; exact .inl e0
        · rw [e1] at e0; exact .inr e0
      · obtain ⟨k0, e0, e1⟩ := ZbA z
        rcases e1 with e1 | ⟨_, e1⟩
        · rw [← e1] at e0; exact .inr e0
        · cases e1
    rcases hk with z | z
    · have hm := PySem.mem_of_lookup z
      have hyx : y = x := CO.cell (y, .cell) hm rfl
      subst hyx
      rcases Zbs (cl := cl) CO (s.heap.push { cls := .type "dict", data := .dict #[] }) (s.heap.objs.size + 1) with ⟨n1, _, _⟩ | ⟨_, e1, _⟩
      · exact absurd rfl (n1 _ hm)
      · exact ⟨s.heap.objs.size + 1, by show (cellsFrom _ _ _).lookup y = _; rw [e1, List.lookup_cons]; simp⟩
    · obtain ⟨c, hc⟩ := c2 (y, .free) (PySem.mem_of_lookup z) rfl
      have hc' : cl.lookup y = some c := hc
      rcases Zbs (cl := cl) CO (s.heap.push { cls := .type "dict", data := .dict #[] }) (s.heap.objs.size + 1) with ⟨_, e1, _⟩ | ⟨_, e1, _⟩
      · exact ⟨c, by show (cellsFrom _ _ _).lookup y = _; rw [e1]; exact hc'⟩
      · cases hy : y == x with
        | true => exact ⟨_, by show (cellsFrom _ _ _).lookup y = _; rw [e1, List.lookup_cons, hy]⟩
        | false => exact ⟨c, by show (cellsFrom _ _ _).lookup y = _; rw [e1, List.lookup_cons, hy]; exact hc'⟩
  · -- cab
    have hy' : sc.names.lookup y = some .cell := of_decide_eq_true hy
    have hm := PySem.mem_of_lookup hy'
    have hyx : y = x := CO.cell (y, .cell) hm rfl
    subst hyx
    have e' : (cellsFrom (s.heap.objs.size + 1) sc.names cl).lookup y = some c := e
    rcases Zbs (cl := cl) CO (s.heap.push { cls := .type "dict", data := .dict #[] }) (s.heap.objs.size + 1) with ⟨n1, _, _⟩ | ⟨_, e1, _⟩
    · exact absurd rfl (n1 _ hm)
    · rw [e1, List.lookup_cons] at e'
      simp at e'
      show s.heap.objs.size ≤ c
      rw [← e']
      exact Nat.le_succ _
  · exact Nat.ne_of_lt (hl b hb)
  · rcases F1 y c e with ⟨a1, a2⟩ | ⟨_, a2, _⟩
    · obtain ⟨_, _, _, _, f5, _⟩ := hf b hb
      exact f5 y c a1 z
    · have h3 := hl b hb
      rw [← z, a2] at h3
      exact absurd h3 (Nat.not_lt.mpr (Nat.le_succ _))
  · obtain ⟨_, _, _, f4, _⟩ := hf b hb
    rcases f4 with z | z
    · exact I.ok.noex b o e z
    · exact absurd (Nat.lt_of_lt_of_le (Heap.lt_size e) I.ok.bsz) (Nat.not_lt.mpr z)
  · obtain ⟨_, f2, f3, _⟩ := hf b hb
    rcases List.mem_cons.mp (I.Zdb b z) with q | q
    · exact f2 q
    · exact f3 q
  · -- loc
    have hji : j ≠ i := fun e => by
      subst e
      by_cases hlt : j < σ.length
      · rw [List.getElem?_set_self hlt] at h2; cases h2
      · rw [List.getElem?_eq_none (by rw [List.length_set]; omega)] at h2; cases h2
    rw [List.getElem?_set_ne (Ne.symm hji)] at h2
    have hyx : y ≠ x := fun e => hji (L2.Zfp nd (by rw [← e]; exact h1) hi)
    have hmemN : y ∈ X.N := List.mem_of_getElem? h1
    have hk : sc.names.lookup y = some .free := by
      have h3' : (Z0 sc osc).names.lookup y = some .local ∨ (Z0 sc osc).names.lookup y = some .cell ∨ (Z0 sc osc).names.lookup y = some .free := h3
      have own : ∀ k, sc.names.lookup y = some k → (k = .local ∨ k = .cell) → False := fun k e hk => by
        rcases CO.own (y, k) (PySem.mem_of_lookup e) hk with z | z
        · exact hyx z
        · exact z hmemN
      rcases h3' with z | z | z
      · obtain ⟨k0, e0, e1⟩ := ZbA z
        rcases e1 with e1 | ⟨_, e1⟩
        · exact (own k0 e0 (.inl e1.symm)).elim
        · cases e1
      · obtain ⟨k0, e0, e1⟩ := ZbA z
        rcases e1 with e1 | ⟨e1, _⟩
        · exact (own k0 e0 (.inr e1.symm)).elim
        · rw [e1] at e0; exact e0
      · obtain ⟨k0, e0, e1⟩ := ZbA z
        rcases e1 with e1 | ⟨_, e1⟩
        · rw [← e1] at e0; exact e0
        · cases e1
    have hm := PySem.mem_of_lookup hk
    have ho := CO.free (y, .free) hm rfl
    obtain ⟨m, hn, hloc⟩ := I.loc
    obtain ⟨u, ru, lk⟩ := hloc j y v h1 h2 (by rw [hosc]; rcases ho with z | z; exact .inr (.inl z); exact .inr (.inr z))
    refine ⟨u, ru, .inr ⟨ZjR hk, ?_⟩⟩
    rcases lk with ⟨k1, _⟩ | ⟨_, c, hc, hcell⟩
    · have k1' : X.env.scope.names.lookup y = some .local := k1
      rw [hosc] at k1'
      rcases ho with z | z <;> (rw [k1'] at z; cases z)
    · obtain ⟨c', hc'⟩ := c2 (y, .free) hm rfl
      have e1 := c1 y c' hc'
      rw [hc] at e1; cases e1
      exact ⟨c, F2 y c hyx hc', hcell.keeps keep⟩
  · rcases F1 y c e with ⟨a1, _⟩ | ⟨_, _, a3⟩
    · obtain ⟨v, q⟩ := I.cell y c a1
      exact ⟨v, q.keeps keep⟩
    · exact ⟨none, a3⟩
  · rcases F1 y c e with ⟨a1, _⟩ | ⟨_, a2, _⟩
    · exact I.freeC y c a1
    · exact fresh c (by rw [a2]; exact Nat.le_succ _)
  · have hp' : p ∈ X.pn ++ pins := by
      have : p ∈ (X.pn ++ pins) ++ [] := hp
      simpa using this
    obtain ⟨q1, q2, q3, q4, q5⟩ := I.pin p hp'
    refine ⟨keep _ _ q1, q2, Nat.ne_of_lt (Heap.lt_size q1), fun z => ?_, q5⟩
    rcases List.mem_cons.mp (I.Zdb _ z) with w | w
    · exact q3 w
    · exact q4 w
theorem Zms {cs:List (Str × Addr)}{C:Addr}{pinsB:List (Addr × Obj)}{σb:L2.St}{Hb:Hp}{s1:Shared}(I:Inv X pins σ H s)(hf:∀ b ∈ fp,L2.FpOk X pins H b)(Ib:Inv (blk X osc sc cs C s H fp pins) pinsB σb Hb s1):Inv X pins σ Hb s1 :=
 I.call' (ch:=fp) Ib.os Ib.base Ib.hok Ib.bare fun b hb=>by
  obtain ⟨_,f2,_,f4,f5,f6⟩:=hf b hb
  exact ⟨f4,f2,f5,f6⟩
end
section
variable {prog:Program} {w:World} {A:Around} {R:Result→Shared→Prop} {s:Shared}
theorem ZhS {elt target iter : Expr}{ifs : List Expr}{scope : Scope}{pos : Pos}{it acc : Value}{env : PySem.Env}(I : Nat → Shared → Prop)
    (turn : ∀ n s, I n s → wpAny (model prog w) A (pyNext it) (fun r s₁ => match r with
      | none => R (.ok .next) s₁
      | some v => wpAny (model prog w) A (letOwnedTupleGo target it v) (fun _ s₁' => wpAny (model prog w) A (assign target env v) (fun _ s₂ =>
          wpAny (model prog w) A (forIn ifs true fun c r => if r = true then do let ok ← isTrue c env (eval c env); pure (ForInStep.yield ok) else pure (ForInStep.yield r)) (fun ok s₃ =>
            if ok = true then wpAny (model prog w) A (eval elt env) (fun x s₄ =>
              wpAny (model prog w) A (call (.builtin "list.append") [acc, x]) (fun _ s₅ => ∃ m, m < n ∧ I m s₅) (fun _ _ => False) s₄) (fun _ _ => False) s₃
            else ∃ m, m < n ∧ I m s₃) (fun _ _ => False) s₂) (fun _ _ => False) s₁') (fun _ _ => False) s₁) (fun _ _ => False) s)
    (n : Nat) (h : I n s) :
    codeAny (model prog w) A (.compLoop (.ListComp elt [⟨target, iter, ifs, 0⟩] scope pos) 0 it acc env) R s := by
  refine codeAny_loop rfl I (fun n s hI => ?_) n h
  show wpAny _ A ((compTurn (.ListComp elt [⟨target, iter, ifs, 0⟩] scope pos) 0 it acc env).onRaise (fun x => do noteFrame x env; theTreesLotGoes x)) _ _ s
  refine wpAny_noted ?_
  rw [compTurn_list]
  refine wpAny_bind (wpAny_standAt (wpAny_bind (wpAny_mono (turn n s hI) (fun r s₁ h₁ => ?_) fun _ _ h' => h'.elim)))
  cases r with
  | none => exact wpAny_pure h₁
  | some v =>
    refine wpAny_bind (wpAny_mono h₁ (fun _ s₁' h₁' => ?_) fun _ _ h' => h'.elim)
    refine wpAny_bind (wpAny_mono h₁' (fun _ s₂ h₂ => wpAny_bind (wpAny_mono h₂ (fun ok s₃ h₃ => ?_) fun _ _ h' => h'.elim)) fun _ _ h' => h'.elim)
    cases ok with
    | false => exact wpAny_pure ⟨rfl, h₃⟩
    | true =>
      exact wpAny_bind (wpAny_bind (wpAny_mono h₃ (fun x s₄ h₄ => wpAny_bind (wpAny_mono h₄ (fun _ s₅ h₅ => wpAny_pure (wpAny_pure ⟨rfl, h₅⟩)) fun _ _ h' => h'.elim)) fun _ _ h' => h'.elim))
end
end PV
set_option linter.all false
set_option Elab.async false
set_option maxRecDepth 100000
set_option maxHeartbeats 4000000
namespace PV
open PySem PySem.Spec PyProof.Rows
open L2 (V Hp HO Vals SqL SqT Same upd Cx PE PT PW PA PS PSs TE TT TA TS Inv RelV Yc Jd Zd Un)
noncomputable def Zco (X:Cx) (ifs:List Expr) (tc:TT):Prop:=∀ (pins:List (Addr × Obj)) (s:Shared) (σ:L2.St) (H:Hp) (Q:Bool→Hp→Prop),Inv X pins σ H s→tc σ H Q →
 wpAny (model X.prog X.w) X.A (forIn ifs true fun c r=>if r=true then do let ok ← isTrue c X.env (eval c X.env);pure (ForInStep.yield ok) else pure (ForInStep.yield r)) (L2.TP X pins σ Q) X.xe s
theorem Zek {X:Cx}:Zco X [] (fun _ H Q=>Q true H):=fun pins s σ H Q I h=>wpAny_tests_nil ⟨H,I,h⟩
theorem ZgV {X:Cx}{c:Expr}{tc:TT}(h:PT X c tc):Zco X [c] tc:=fun pins s σ H Q I q=>wpAny_tests_one (h pins s σ H Q I q)
noncomputable def ZcP (J:L2.It) (i:Nat) (tc:TT) (te:TE) (σ:L2.St) (p:Addr) (Q:L2.VK) (H1:Hp):Prop :=
 ∃ W:Nat→Nat→Hp→List V→Prop,(∃ m,W 0 m (upd H1 p (.lst [])) [])∧∀ k m H2 acc,W k m H2 acc→H2 p=some (.lst acc)∧acc.length < sizeLine ∧
  ((J.stop k H2∧Q (.ref p) H2)∨(J.go k H2∧∀ v H3,J.yld k H2 v H3→tc (σ.set i (some v)) H3 fun b H4=>if b=true then te (σ.set i (some v)) H4 fun w H5=>H5 p=some (.lst acc)∧∃ m',m' < m∧W (k + 1) m' (upd H5 p (.lst (acc++[w]))) (acc++[w])
   else ∃ m',m' < m∧W (k + 1) m' H4 acc))
noncomputable def Zj5 (wi:L2.TI) (i:Nat) (tc:TT) (te:TE):TE:=fun σ H Q=>wi σ H fun J H1=>∀ p,H1 p=none→ZcP J i tc te σ p Q H1
section
variable {X:Cx} {sc:Scope} {x:Str} {i:Nat} {px pos:Pos} {iter elt:Expr} {ifs:List Expr} {wi:L2.TI} {tc:TT} {te:TE}
theorem Zgk (nox : ∀ e s, X.xe e s → False)(hc : X.calm = true)(nd : X.N.Nodup)(CO : ZcJ X.N X.env.scope sc x)(hi : X.N[i]? = some x)
    (hT : ∀ cs C s0 H0 fp pn, Zco (blk X X.env.scope sc cs C s0 H0 fp pn) ifs tc) (hE : ∀ cs C s0 H0 fp pn, PE (blk X X.env.scope sc cs C s0 H0 fp pn) elt te)
    {pins : List (Addr × Obj)} {σ : L2.St} {H : Hp} {s : Shared} {E : Value → Shared → Prop} {Q : L2.VK} {it : Addr} {fp : List Addr} {tn : Nat → Heap → Prop} {J : L2.It} {cl : List (Str × Addr)} {RR : Value → Addr → Result → Shared → Prop}
    (I : Inv X pins σ H s) (T : L2.Turn X.prog X.w X.K (.Name x px) J fp it tn) (st : tn 0 s.heap) (hf : ∀ b ∈ fp, L2.FpOk X pins H b) (hq : ∀ p, H p = none → ZcP J i tc te σ p Q H)
    (c1 : ∀ n c, cl.lookup n = some c → X.env.cells.lookup n = some c) (c2 : ∀ y ∈ sc.names, y.2 = .free → ∃ c, cl.lookup y.1 = some c) (c3 : ∀ n c, cl.lookup n = some c → (n, NameKind.free) ∈ sc.names)
    (hRR : ∀ (p C : Addr) (Hb : Hp) (m : Str → Option Value) (s1 : Shared), Inv X pins σ Hb s1 → Q (.ref p) Hb → s1.heap.Ns C m → Hb C = none → C ≠ X.env.locals → X.s₀.heap.objs.size ≤ C → (∀ y c, X.env.cells.lookup y = some c → c ≠ C) → (∀ q ∈ X.pn ++ pins, q.1 ≠ C) → C ∉ X.fs → RR (.ref p) C (.ok .next) s1) :
    wpAny (model X.prog X.w) X.A (newList []) (fun acc s₃ => wpAny (model X.prog X.w) X.A (newFunctionEnv sc X.env.globals cl [] X.env.qual none .none (some X.env)) (fun cenv s₄ =>
      codeAny (model X.prog X.w) X.A (.compStart (.ListComp elt [⟨.Name x px, iter, ifs, 0⟩] sc pos) 0 (.ref it) acc { cenv with scope := relabel sc X.env }) (RR acc cenv.locals) s₄) E s₃) E s := by
  refine wpAny_newObj_type (ZiX ?_)
  have hp : H s.heap.objs.size = none := I.fresh
  have I3 : Inv X pins σ (upd H s.heap.objs.size (.lst [])) { s with heap := s.heap.push { cls := .type "list", data := .seq ([] : List Value).toArray } } := I.lnew (t' := s.toks) (its := []) (ys := []) .nil (Nat.zero_le _)
  obtain ⟨W, ⟨m0, w0⟩, turn⟩ := hq _ hp
  generalize hs3 : ({ s with heap := s.heap.push { cls := .type "list", data := .seq ([] : List Value).toArray } } : Shared) = s3 at I3
  generalize hH3 : upd H s.heap.objs.size (.lst []) = H3 at I3 w0
  have hlt : ∀ b ∈ fp, b < s.heap.objs.size := fun b hb => by obtain ⟨o, e, _⟩ := T.obj 0 s.heap st b hb; exact Heap.lt_size e
  have hk3 : ∀ b o, s.heap.get? b = some o → s3.heap.get? b = some o := fun b o e => by rw [← hs3]; exact Heap.get?_push_of_some _ e
  have hf3 : ∀ b ∈ fp, L2.FpOk X pins H3 b := fun b hb => by
    obtain ⟨f1, f2⟩ := hf b hb
    refine ⟨?_, f2⟩
    rw [← hH3, Jd (Nat.ne_of_lt (hlt b hb))]
    exact f1
  have st3 : tn 0 s3.heap := T.keep 0 _ _ st fun b hb o e => hk3 b o e
  have hl3 : ∀ b ∈ fp, b < s3.heap.objs.size := fun b hb => by obtain ⟨o, e, _⟩ := T.obj 0 s3.heap st3 b hb; exact Heap.lt_size e
  have Ib := Zn3 (i := i) (fp := fp) I3 CO rfl nd hi c1 c2 c3 hf3 hl3
  let Xb := blk X X.env.scope sc (cellsFrom (s3.heap.objs.size + 1) sc.names cl) s3.heap.objs.size s3 H3 fp pins
  have hTb : Zco Xb ifs tc := hT _ _ _ _ _ _
  have hEb : PE Xb elt te := hE _ _ _ _ _ _
  have stk : ∀ b, b ∈ L2.frs X.stack → b < s3.heap.objs.size := fun b hb => by
    refine Nat.lt_of_not_le fun hle => ?_
    rcases List.mem_cons.mp (I3.Zdb b hb) with z | z
    · rw [z] at hle; exact absurd I3.lt (Nat.not_lt.mpr hle)
    · exact I3.nofs hle z
  have st4 : tn 0 (pushCells (s3.heap.push { cls := .type "dict", data := .dict #[] }) sc.names) := T.keep 0 _ _ st3 fun b hb o e => pushCells_keeps _ _ b o (Heap.get?_push_of_some _ e)
  have xf : ∀ {α : Type} {t : Sem α} {Q : α → Shared → Prop} {s : Shared}, wpAny (model X.prog X.w) X.A t Q X.xe s → wpAny (model X.prog X.w) X.A t Q (fun _ _ => False) s := fun h => wpAny_mono h (fun _ _ q => q) fun e s q => nox e s q
  have pgx : L2.PG Xb (.Name x px) (L2.Zgl i) := by
    refine L2.ZeN nd hi ?_ ?_
    · rcases CO.var with z | z
      · exact .inl (Zfc z)
      · exact .inr (Zkm z)
    · rcases CO.var with z | z
      · exact .inr (Zfc z)
      · exact .inl (decide_eq_true z)
  have loop : ∀ s4 : Shared, s4 = { s3 with heap := pushCells (s3.heap.push { cls := .type "dict", data := .dict #[] }) sc.names } →
      codeAny (model X.prog X.w) X.A (.compLoop (.ListComp elt [⟨.Name x px, iter, ifs, 0⟩] sc pos) 0 (.ref it) (.ref s.heap.objs.size) Xb.env) (RR (.ref s.heap.objs.size) s3.heap.objs.size) s4 := by
    rintro s4 rfl
    have stat : ∀ {Hc : Hp}, (∀ b ∈ fp, Hc b = none) → ∀ b ∈ fp, L2.FpOk Xb [] Hc b := fun {Hc} hn b hb => by
      obtain ⟨_, f2, f3, f4, f5, f6⟩ := hf3 b hb
      refine ⟨hn b hb, Nat.ne_of_lt (hl3 b hb), fun z => ?_, .inl hb, Ib.ok.exf b hb |>.2, fun q hq' => ?_⟩
      · rcases List.mem_cons.mp (I3.Zdb b z) with w | w
        · exact f2 w
        · exact f3 w
      · have hq2 : q ∈ (X.pn ++ pins) ++ [] := hq'
        exact f6 q (by simpa using hq2)
    refine ZhS (fun n s' => ∃ k ov Hc acc, Inv Xb [] (σ.set i ov) Hc s' ∧ tn k s'.heap ∧ (∀ b ∈ fp, Hc b = none) ∧ W k n Hc acc) ?_ m0 ⟨0, none, H3, [], Ib, st4, fun b hb => (hf3 b hb).1, w0⟩
    rintro n s5 ⟨k, ov, Hc, acc, I5, st5, fr5, w5⟩
    obtain ⟨hacc, hlen, hcase⟩ := turn k n Hc acc w5
    rcases hcase with ⟨stop, qn⟩ | ⟨go, step⟩
    · refine xf (L2.thn (T.done Xb rfl rfl rfl hc k [] s5 (σ.set i ov) Hc X.xe I5 (stat fr5) st5 stop) fun r s6 ⟨hr, I6⟩ => ?_)
      subst hr
      obtain ⟨mm, hn6, _⟩ := I6.loc
      refine hRR _ _ Hc mm s6 (Zms (osc := X.env.scope) (sc := sc) I3 hf3 I6) qn hn6 I6.free (Ne.symm (Nat.ne_of_lt I3.lt)) I3.sz (fun y c e z => ?_) (fun q hq' z => ?_) fun z => ?_
      · obtain ⟨v, q⟩ := I3.cell y c e
        exact absurd q.lt (by rw [z]; exact Nat.lt_irrefl _)
      · exact absurd (Heap.lt_size (I3.pin q hq').1) (by rw [z]; exact Nat.lt_irrefl _)
      · exact I3.nofs (Nat.le_refl _) z
    · refine xf (L2.thn (T.item Xb rfl rfl rfl hc k [] s5 (σ.set i ov) Hc X.xe I5 (stat fr5) st5 go) fun r s6 ⟨u, hr, h6⟩ => ?_)
      subst hr
      refine xf (L2.thn h6 fun _ s7 ⟨v, H7, I7, r7, y7, st7, fr7⟩ => ?_)
      have I7' := I7.pinned (stat fr7) (T.obj _ _ st7)
      have hv := step v H7 y7
      refine xf (L2.thn (pgx _ s7 (σ.set i ov) H7 v u (fun σ' H' => σ' = σ.set i (some v) ∧ H' = H7) I7' r7 ⟨by rw [List.set_set], rfl⟩) fun _ s8 ⟨σ8, H8, I8, e8, e8'⟩ => ?_)
      subst e8 e8'
      refine xf (L2.thn (hTb _ s8 _ H8 _ I8 hv) fun ok s9 ⟨H9, I9, q9⟩ => ?_)
      have again : ∀ {σ10 : L2.St} {H10 : Hp} {acc' : List V} {s10 : Shared}, Inv Xb ([] ++ L2.ZdW fp s7.heap) σ10 H10 s10 → σ10 = σ.set i (some v) → (∃ m', m' < n ∧ W (k + 1) m' H10 acc') →
          ∃ m, m < n ∧ ∃ k ov Hc acc, Inv Xb [] (σ.set i ov) Hc s10 ∧ tn k s10.heap ∧ (∀ b ∈ fp, Hc b = none) ∧ W k m Hc acc := fun {σ10 H10 acc' s10} I10 e10 ⟨m', hm, w10⟩ => by
        subst e10
        refine ⟨m', hm, k + 1, some v, H10, acc', I10.Zcs, T.keep _ _ _ st7 fun b hb o e => (I10.pin (b, o) (List.mem_append_right _ (List.mem_append_right _ (L2.Zch hb e)))).1, fun b hb => ?_, w10⟩
        obtain ⟨o, e, d⟩ := T.obj _ _ st7 b hb
        exact (I10.pin (b, o) (List.mem_append_right _ (List.mem_append_right _ (L2.Zch hb e)))).2.1
      cases ok with
      | false =>
        show ∃ m, m < n ∧ _
        rw [if_neg Bool.false_ne_true] at q9
        exact again I9 rfl q9
      | true =>
        rw [if_pos rfl] at q9
        show wpAny _ _ _ _ _ _
        refine xf (L2.thn (hEb _ s9 _ H9 _ I9 q9) fun ww s10 ⟨x10, H10, I10, r10, q10, m', hm, w10⟩ => ?_)
        refine xf (L2.thn (L2.ZcU (X := Xb) _ s10 _ H10 (.ref s.heap.objs.size) [x10] (.ref s.heap.objs.size) [ww] (fun _ H' => H' = upd H10 s.heap.objs.size (.lst (acc ++ [x10]))) I10 rfl (.cons r10 .nil) ⟨_, acc, x10, rfl, rfl, q10, hlen, rfl⟩) fun _ s11 ⟨_, H11, I11, _, e11⟩ => ?_)
        subst e11
        exact again I11 rfl ⟨m', hm, w10⟩
  subst hs3
  have l := loop _ rfl
  exact codeAny_compStart_list l (T.self _ 0 _ _ _ st4 l)
theorem ZjH {pins:List (Addr × Obj)}{σ:L2.St}{H:Hp}{s:Shared}(I:Inv X pins σ H s)(CO:ZcJ X.N X.env.scope sc x):∀ y ∈ sc.names,y.2=.free→∃ c,X.env.cells.lookup y.1=some c:=fun y hy e =>
 I.ok.has y.1 (CO.free y hy e)
theorem Zjs (nox:∀ e s,X.xe e s→False)(hc:X.calm=true)(nd:X.N.Nodup)(CO:ZcJ X.N X.env.scope sc x)(hi:X.N[i]?=some x)(hI:L2.PI X (.Name x px) iter wi)
  (hT:∀ cs C s0 H0 fp pn,Zco (blk X X.env.scope sc cs C s0 H0 fp pn) ifs tc) (hE:∀ cs C s0 H0 fp pn,PE (blk X X.env.scope sc cs C s0 H0 fp pn) elt te)
  (hs:∀ x,foldedSetIterable iter X.env x=pure x):PE X (.ListComp elt [⟨.Name x px,iter,ifs,0⟩] sc pos) (Zj5 wi i tc te):=by
 intro pins s σ H Q I h
 obtain ⟨cl,hcl,c1,c2,c3⟩:=Zf4 (ZjH I CO)
 rw [eval_ListComp]
 refine wpAny_comprehension_free (use:=none) rfl hs hcl CO.kind CO.loc (L2.thn (hI pins s σ H _ I h) fun v s1 h1=>L2.thn h1 fun itv s2 h2=>?_)
 obtain ⟨it,fp,tn,J,H2,rfl,I2,T,st,hf,hq⟩:=h2
 refine Zgk (RR:=fun acc C=>compPost (model X.prog X.w) X.A X.xe none (L2.EP X pins σ Q) acc C) nox hc nd CO hi hT hE I2 T st hf hq c1 c2 c3 ?_
 intro p C Hb m s1' I' q hns hC hL hsz hcell hpin hfs
 refine ⟨m,hns,fun h' hs'=>?_⟩
 have I'':=I'.turned (h':=h') (t':=s1'.toks) (it:=C) (fun b o hb e=>hs'.extBut b o hb e) hC hL (.inr hsz) hcell hpin
 exact ⟨.ref p,Hb,I'',rfl,q⟩
theorem ZdE {j:Nat}{y:Str}{py spos:Pos}(nox:∀ e s,X.xe e s→False)(hc:X.calm=true)(nd:X.N.Nodup)(CO:ZcJ X.N X.env.scope sc x)(hi:X.N[i]?=some x)(hI:L2.PI X (.Name x px) iter wi)
  (hT:∀ cs C s0 H0 fp pn,Zco (blk X X.env.scope sc cs C s0 H0 fp pn) ifs tc) (hE:∀ cs C s0 H0 fp pn,PE (blk X X.env.scope sc cs C s0 H0 fp pn) elt te)
  (hs:∀ x,foldedSetIterable iter X.env x=pure x) (hj:X.N[j]?=some y) (hy:L2.Loc X.env.scope y) (hfn:X.fn y=true∨X.env.scope.names.lookup y=some .local)
  (hsw:swapsWith (.ListComp elt [⟨.Name x px,iter,ifs,0⟩] sc pos) (some (.Name y py)) spos.line X.env=pure true) :
  PS X (.Assign [.Name y py] (.ListComp elt [⟨.Name x px,iter,ifs,0⟩] sc pos) spos) (L2.tAsg (Zj5 wi i tc te) (L2.Zgl j)):=by
 intro pins s σ H D0 I h
 obtain ⟨cl,hcl,c1,c2,c3⟩:=Zf4 (ZjH I CO)
 rw [exec_Assign_Name_used _ _ _ _ hsw]
 refine wpAny_bind (wpAny_standAt (wpAny_bind ?_))
 show wpAny _ X.A (do let _ ← comprehension (.ListComp elt [⟨.Name x px,iter,ifs,0⟩] sc pos) sc X.env _ (newList []) false (eval iter X.env) (some (assign (.Name y py) X.env))) _ _ s
 refine wpAny_bind (wpAny_mono (wpAny_comprehension_free (use:=some (assign (.Name y py) X.env)) (Q:=fun _ s'=>L2.SP X pins D0 .next s') rfl hs hcl CO.kind CO.loc
  (L2.thn (hI pins s σ H _ I h) fun v s1 h1=>L2.thn h1 fun itv s2 h2=>?_)) (fun _ s' hq=>wpAny_pure (wpAny_pure hq)) fun _ _ e=>e)
 obtain ⟨it,fp,tn,J,H2,rfl,I2,T,st,hf,hq⟩:=h2
 refine Zgk (RR:=fun acc C=>compPost (model X.prog X.w) X.A X.xe (some (assign (.Name y py) X.env)) (fun _ s'=>L2.SP X pins D0 .next s') acc C) nox hc nd CO hi hT hE I2 T st hf hq c1 c2 c3 ?_
 intro p C Hb m s1' I' q hns hC hL hsz hcell hpin hfs
 show wpAny _ X.A (assign (.Name y py) X.env (.ref p)) _ _ _
 obtain ⟨oC,es,ep,hoC,hdC,rest⟩:=id hns
 have Ip:Inv X (pins++[(C,oC)]) σ Hb s1':=I'.Zgx fun q hq'=>(List.mem_append.mp hq').elim (fun z=>I'.pin q (List.mem_append_right _ z)) fun z=>by
  have e:q=(C,oC):=by simpa using z
  subst e
  exact ⟨hoC,hC,hL,hfs,fun v e=>by rw [hdC] at e;cases e⟩
 refine wpAny_assign_Name (L2.ZdD Ip nd hj hy (v:=.ref p) rfl (fun s2' I2'=>?_) hfn)
 have hC2:=(I2'.pin (C,oC) (List.mem_append_right _ (List.mem_append_right _ (by simp)))).1
 refine ⟨m,⟨oC,es,ep,hC2,hdC,rest⟩,fun h' hs'=>?_⟩
 have I3':Inv X pins (σ.set j (some (.ref p))) Hb s2':=I2'.Zcs
 have I4':=I3'.turned (h':=h') (t':=s2'.toks) (it:=C) (fun b o hb e=>hs'.extBut b o hb e) hC hL (.inr hsz) hcell hpin
 exact ⟨_,Hb,I4',q⟩
end
end PV
set_option linter.all false
set_option Elab.async false
set_option maxRecDepth 100000
set_option maxHeartbeats 4000000
namespace PV
open PySem PySem.Spec PyProof.Rows
open L2 (V Hp HO Vals SqL SqT Same upd Cx PE PT PW PA PS PSs TE TT TA TS Inv RelV Yc Jd Zd Un)
section
variable {X:Cx} {sc:Scope} {x:Str} {i:Nat} {px pos:Pos} {iter elt c:Expr} {lx:Lx} {t:Tx} {f:Ex} {m:Md} {r:RetP}
theorem Ext.ZjI {F H F2 H2 F5 H5:Hp}(e:Ext F H F2 H2)(e5:Ext F2 H2 F5 H5){p:Addr}(hp:H p=none)(f2:F2 p=none)(h2:H2 p≠none)(o:HO):Ext F H F5 (upd H5 p o)∧F5 p=none:=by
 have f5:F5 p=none:=by
  cases z:F5 p with
  | none=>rfl
  | some u =>
   rcases e5.dm p u z with y | y
   ·rw [f2] at y;cases y
   ·exact absurd y h2
 have e':=e.trans e5
 refine ⟨⟨fun b u h=>by rw [Jd (Zd h hp)];exact e'.hh b u h,e'.ff,e'.dm,fun b u h=>by rw [Jd (Zd h f5)];exact e'.fh b u h⟩,f5⟩
theorem Znz {BH F H:Hp}{p:Addr}{o:HO}(hm:m≠.r):Same (hpM BH F H m) (hpM BH F (upd H p o) m):=by
 cases m with
 | r=>exact absurd rfl hm
 | k=>exact .refl _
 | f=>exact .refl _
theorem ZjZ {K:PySem.W.Frag}{tc:TT}(htc:∀ σ H Q,tTst K t σ H Q→tc σ H Q)(hm:m≠.r){BF BH F F1 H H1:Hp}{σ:L2.St}{env:Env}{L:Nat→List Addr}{ds xs:List D}{J:L2.It}{p:Addr}{Q:L2.VK}(S:SOk K BF BH F H σ env L)(z1:Ext F H F1 H1)(J1:ItOk K J F1 ds)
  (hl:ds.length≤lim) (hx:Z7 i t f env ds=some xs) (hp:H1 p=none) (q:∀ vs F' H',Ext F H F' H'→H p=none→H' p=some (.lst vs)→F' p=none→Reps K (hpM BH F' H' m) xs vs→Q (.ref p) H') :
  ZcP J i tc (tD K m f) σ p Q H1:=by
 have hp0:H p=none:=z1.hh.free hp
 have hpF:F1 p=none:=z1.fh.free hp
 refine ⟨fun k mm H2 acc=>mm=ds.length - k∧k≤ds.length∧H2 p=some (.lst acc)∧∃ F2 ys zs,Ext F H F2 H2∧Same F1 F2∧F2 p=none∧ys.length≤k∧Reps K (hpM BH F2 H2 m) ys acc∧Z7 i t f env (ds.drop k)=some zs∧xs=ys++zs,
  ⟨ds.length,by simp,Nat.zero_le _,Yc,F1,[],xs,z1.trans (Ext.own z1.fh hp),.refl _,hpF,Nat.zero_le _,Reps.nil,hx,rfl⟩,?_⟩
 rintro k mm H2 acc ⟨rfl,hk,hacc,F2,ys,zs,z2,s12,f2,hy,ra,hz,hxs⟩
 have hal:acc.length≤lim:=by rw [← ra.length];omega
 refine ⟨hacc,Nat.lt_of_le_of_lt hal Zlw,?_⟩
 by_cases hlt:k < ds.length
 ·refine .inr ⟨J1.go k H2 (s12.trans z2.fh) hlt,fun v H3 hy3=>?_⟩
  obtain ⟨d,F3,hd,z3,r3⟩:=J1.yld k H2 v H3 F2 s12 z2.fh hlt hy3
  have hd':ds[k]=d:=by rw [List.getElem?_eq_getElem hlt] at hd;exact Option.some.inj hd
  rw [List.drop_eq_getElem_cons hlt,hd'] at hz
  simp only [Z7] at hz
  have z13:=z2.trans z3
  have S3:=(S.ext z13).Zdw i r3
  have h2p:H2 p≠none:=by rw [hacc];simp
  split at hz
  ·rename_i ht
   refine htc _ _ _ ⟨BF,BH,F3,_,_,true,S3,ht,fun F4 H4 z4=>L2.iteT ?_⟩
   split at hz
   ·rename_i e1 zs' he hz'
    cases hz
    refine ⟨BF,BH,F4,_,_,e1,S3.ext z4,he,fun w F5 H5 z5 r5=>?_⟩
    have z25:=(z3.trans z4).trans z5
    obtain ⟨zz,f5⟩:=z2.ZjI z25 hp0 f2 h2p (.lst (acc++[w]))
    refine ⟨z25.hh _ _ hacc,ds.length - (k + 1),by omega,rfl,hlt,Yc,F5,ys++[e1],zs',zz,s12.trans z25.ff,f5,by rw [List.length_append,List.length_singleton];omega,?_,hz',by rw [hxs,List.append_assoc];rfl⟩
    exact Reps.mono (Znz hm) _ _ ((Reps.mono (ZbR z25 m) _ _ ra).append (Reps.cons r5 Reps.nil))
   ·cases hz
  ·rename_i ht
   refine htc _ _ _ ⟨BF,BH,F3,_,_,false,S3,ht,fun F4 H4 z4=>L2.iteF ?_⟩
   have z24:=z3.trans z4
   have f4:F4 p=none:=by
    cases q4:F4 p with
    | none=>rfl
    | some u =>
     rcases z24.dm p u q4 with y | y
     ·rw [f2] at y;cases y
     ·exact absurd y h2p
   exact ⟨ds.length - (k + 1),by omega,rfl,hlt,z24.hh _ _ hacc,F4,ys,zs,z2.trans z24,s12.trans z24.ff,f4,by omega,Reps.mono (ZbR z24 m) _ _ ra,hz,hxs⟩
  ·cases hz
 ·have ek:k=ds.length:=by omega
  subst ek
  rw [List.drop_length] at hz
  have hz0:zs=[]:=by simp only [Z7] at hz;exact (Option.some.inj hz).symm
  subst hz0
  rw [List.append_nil] at hxs
  subst hxs
  exact .inl ⟨J1.stop H2 (s12.trans z2.fh),q acc F2 H2 z2 hp0 hacc f2 ra⟩
theorem Zbq {env:Env}{d:D}(h:Ji i lx t f env=some d):∃ ds xs,lx env=some ds∧ds.length≤lim∧Z7 i t f env ds=some xs∧d=.lst xs:=by
 unfold Ji at h
 split at h
 ·rename_i ds h1
  split at h
  ·rename_i hl
   split at h
   ·rename_i xs h2
    cases h
    exact ⟨ds,xs,h1,hl,h2,rfl⟩
   ·cases h
  ·cases h
 ·cases h
theorem ZeU {tc:TT}(htc:∀ σ H Q,tTst X.K t σ H Q→tc σ H Q)(hm:m≠.r)(σ:L2.St)(H:Hp)(Q:L2.VK)(h:tO X.K m (Ji i lx t f) σ H Q):Zj5 (tIt X.K lx) i tc (tD X.K m f) σ H Q:=by
 obtain ⟨BF,BH,F,env,L,ds0,S,e,q⟩:=h
 obtain ⟨ds,xs,h1,hl,h2,e2⟩:=Zbq e
 cases e2
 exact ⟨BF,BH,F,env,L,ds,S,h1,fun J F1 H1 z1 J1 p hp=>ZjZ htc hm S z1 J1 hl h2 hp fun vs F' H' z a b c d=>q p vs F' H' z a b c d⟩
theorem Zlh {K:PySem.W.Frag}:∀ σ H Q,tTst K Jm σ H Q→(fun (_:L2.St) (H:Hp) (Q:Bool→Hp→Prop)=>Q true H) σ H Q:=fun σ H Q hh_=>el9 hh_ fun BF BH F env L b S e q=>by
 cases e;exact q F H (.refl S.fh)
variable (nox:∀ e s,X.xe e s→False) (nd:X.N.Nodup)
include nox nd
theorem ZeQ (i:Nat)(hI:PId X (.Name x px) iter lx)(hE:∀ cs C s0 H0 fp pn,PD (blk X X.env.scope sc cs C s0 H0 fp pn) m elt f)(hm:m≠.r:=by exact fun h=>nomatch h)(hc:X.calm=true:=by rfl)(hco:Zci X.N X.env.scope sc x=true:=by kernel_rfl)(hi:X.N[i]?=some x:=by kernel_rfl)
  (hs:∀ x,foldedSetIterable iter X.env x=pure x:=by intro _;rfl):PDo X m (.ListComp elt [⟨.Name x px,iter,[],0⟩] sc pos) (Ji i lx Jm f) :=
 PE.of (Zjs (te:=tD X.K m f) nox hc nd (ZcI hco) hi hI (fun _ _ _ _ _ _=>Zek) (fun cs C s0 H0 fp pn=>(hE cs C s0 H0 fp pn).h) hs) fun σ H Q h=>ZeU Zlh hm σ H Q h
theorem Zmj (i:Nat)(hI:PId X (.Name x px) iter lx)(hT:∀ cs C s0 H0 fp pn,PTd (blk X X.env.scope sc cs C s0 H0 fp pn) c t)(hE:∀ cs C s0 H0 fp pn,PD (blk X X.env.scope sc cs C s0 H0 fp pn) m elt f)(hm:m≠.r:=by exact fun h=>nomatch h)(hc:X.calm=true:=by rfl)
  (hco:Zci X.N X.env.scope sc x=true:=by kernel_rfl) (hi:X.N[i]?=some x:=by kernel_rfl) (hs:∀ x,foldedSetIterable iter X.env x=pure x:=by intro _;rfl):PDo X m (.ListComp elt [⟨.Name x px,iter,[c],0⟩] sc pos) (Ji i lx t f) :=
 PE.of (Zjs (tc:=tTst X.K t) (te:=tD X.K m f) nox hc nd (ZcI hco) hi hI (fun cs C s0 H0 fp pn=>ZgV (hT cs C s0 H0 fp pn)) (fun cs C s0 H0 fp pn=>(hE cs C s0 H0 fp pn).h) hs) fun σ H Q h=>ZeU (fun _ _ _ q=>q) hm σ H Q h
theorem YH (i:Nat)(hI:PId X (.Name x px) iter lx)(hE:∀ cs C s0 H0 fp pn,PD (blk X X.env.scope sc cs C s0 H0 fp pn) m elt f)(hm:m≠.r:=by exact fun h=>nomatch h)(hc:X.calm=true:=by rfl)(hco:Zci X.N X.env.scope sc x=true:=by kernel_rfl)(hi:X.N[i]?=some x:=by kernel_rfl)
  (hs:∀ x,foldedSetIterable iter X.env x=pure x:=by intro _;rfl):PD X m (.ListComp elt [⟨.Name x px,iter,[],0⟩] sc pos) (Ji i lx Jm f) :=
 (ZeQ nox nd i hI hE hm hc hco hi hs).d fun env d h=>by obtain ⟨_,xs,_,_,_,e⟩:=Zbq h;exact ⟨xs,e⟩
theorem ZbY (i:Nat)(hI:PId X (.Name x px) iter lx)(hT:∀ cs C s0 H0 fp pn,PTd (blk X X.env.scope sc cs C s0 H0 fp pn) c t)(hE:∀ cs C s0 H0 fp pn,PD (blk X X.env.scope sc cs C s0 H0 fp pn) m elt f)(hm:m≠.r:=by exact fun h=>nomatch h)(hc:X.calm=true:=by rfl)
  (hco:Zci X.N X.env.scope sc x=true:=by kernel_rfl) (hi:X.N[i]?=some x:=by kernel_rfl) (hs:∀ x,foldedSetIterable iter X.env x=pure x:=by intro _;rfl):PD X m (.ListComp elt [⟨.Name x px,iter,[c],0⟩] sc pos) (Ji i lx t f) :=
 (Zmj nox nd i hI hT hE hm hc hco hi hs).d fun env d h=>by obtain ⟨_,xs,_,_,_,e⟩:=Zbq h;exact ⟨xs,e⟩
omit nox nd
theorem Zjp {te:TE}{j:Nat}(D0:L2.Ends)(σ:L2.St)(H:Hp)(h:tS X.K r (sSet j f) D0 σ H)(hf:∀ env d,f env=some d→∃ ds,d=.lst ds)(hte:∀ Q,tO X.K .k f σ H Q→te σ H Q):L2.tAsg te (L2.Zgl j) D0 σ H:=by
 obtain ⟨BF,BH,F,env,L,o,env',S,e,k⟩:=h
 unfold sSet at e
 split at e
 ·rename_i d h1
  cases e
  obtain ⟨ds,rfl⟩:=hf env d h1
  refine hte _ ⟨BF,BH,F,env,L,ds,S,h1,fun p vs F' H' z h0 h2 h3 rr=>?_⟩
  have z':=z.frz h0 h2 h3
  have rp:Rep X.K (upd F' p (.lst vs)) (.lst ds) (.ref p):=by
   simp only [Rep]
   exact ⟨p,vs,rfl,.inl (.inl Yc),Reps.mono (fun b u e=>by rw [Jd (Zd e h3)];exact e) _ _ rr⟩
  exact k _ H' _ _ ((S.ext z').Zdw j rp) z'.ff
 ·cases e
include nox nd
theorem Zh2 (j i:Nat){y:Str}{py spos:Pos}(hI:PId X (.Name x px) iter lx)(hE:∀ cs C s0 H0 fp pn,PD (blk X X.env.scope sc cs C s0 H0 fp pn) .k elt f)(hc:X.calm=true:=by rfl)(hco:Zci X.N X.env.scope sc x=true:=by kernel_rfl)(hi:X.N[i]?=some x:=by kernel_rfl)
  (hs:∀ x,foldedSetIterable iter X.env x=pure x:=by intro _;rfl) (hj:X.N[j]?=some y:=by kernel_rfl) (hy:locB X.env.scope y=true:=by kernel_rfl) (hfn:fnB X y=true:=by kernel_rfl)
  (hsw:swapsWith (.ListComp elt [⟨.Name x px,iter,[],0⟩] sc pos) (some (.Name y py)) spos.line X.env=pure true:=by rfl):PS1 X r (.Assign [.Name y py] (.ListComp elt [⟨.Name x px,iter,[],0⟩] sc pos) spos) (sSet j (Ji i lx Jm f)) :=
 PS1.mk <| PS.of (ZdE (te:=tD X.K .k f) nox hc nd (ZcI hco) hi hI (fun _ _ _ _ _ _=>Zek) (fun cs C s0 H0 fp pn=>(hE cs C s0 H0 fp pn).h) hs hj (ZV hy) (Zaj hfn) hsw) fun D0 σ H h=>Zjp D0 σ H h (fun env d h=>by obtain ⟨_,xs,_,_,_,e⟩:=Zbq h;exact ⟨xs,e⟩) fun Q q=>ZeU (m:=.k) Zlh (fun h=>nomatch h) σ H Q q
theorem Zlm (j i:Nat){y:Str}{py spos:Pos}(hI:PId X (.Name x px) iter lx)(hT:∀ cs C s0 H0 fp pn,PTd (blk X X.env.scope sc cs C s0 H0 fp pn) c t)(hE:∀ cs C s0 H0 fp pn,PD (blk X X.env.scope sc cs C s0 H0 fp pn) .k elt f)(hc:X.calm=true:=by rfl)(hco:Zci X.N X.env.scope sc x=true:=by kernel_rfl)(hi:X.N[i]?=some x:=by kernel_rfl)
  (hs:∀ x,foldedSetIterable iter X.env x=pure x:=by intro _;rfl) (hj:X.N[j]?=some y:=by kernel_rfl) (hy:locB X.env.scope y=true:=by kernel_rfl) (hfn:fnB X y=true:=by kernel_rfl)
  (hsw:swapsWith (.ListComp elt [⟨.Name x px,iter,[c],0⟩] sc pos) (some (.Name y py)) spos.line X.env=pure true:=by rfl):PS1 X r (.Assign [.Name y py] (.ListComp elt [⟨.Name x px,iter,[c],0⟩] sc pos) spos) (sSet j (Ji i lx t f)) :=
 PS1.mk <| PS.of (ZdE (tc:=tTst X.K t) (te:=tD X.K .k f) nox hc nd (ZcI hco) hi hI (fun cs C s0 H0 fp pn=>ZgV (hT cs C s0 H0 fp pn)) (fun cs C s0 H0 fp pn=>(hE cs C s0 H0 fp pn).h) hs hj (ZV hy) (Zaj hfn) hsw) fun D0 σ H h=>Zjp D0 σ H h (fun env d h=>by obtain ⟨_,xs,_,_,_,e⟩:=Zbq h;exact ⟨xs,e⟩) fun Q q=>ZeU (m:=.k) (fun _ _ _ q=>q) (fun h=>nomatch h) σ H Q q
omit nox nd
theorem Zfn {K:PySem.W.Frag}{F H:Hp}:∀ {rs:List (List D)} {as:List Addr},Zq K F H rs as→∀ b ∈ as,H b≠none
 | [],as,h,b,hb=>by have e:as=[]:=h;subst e;cases hb
 | r::rs,as,h,b,hb=>by
  obtain ⟨c,t,vs,rfl,h1,_,h3⟩:=h
  rcases List.mem_cons.mp hb with rfl | hb
  ·rw [h1];simp
  ·exact Zfn h3 b hb
theorem Zg4 {K:PySem.W.Frag}{F H:Hp}{a:Addr}{vs:List V}{r:List D}(h1:H a=some (.lst vs))(h2:Reps K F r vs):∀ {rs:List (List D)} {as:List Addr},Zq K F H rs as→Zq K F H (rs++[r]) (as++[a])
 | [],as,h=>by have e:as=[]:=h;subst e;exact ⟨a,[],vs,rfl,h1,h2,rfl⟩
 | r0::rs,as,h=>by obtain ⟨b,t,ws,rfl,k1,k2,k3⟩:=h;exact ⟨b,t++[a],ws,rfl,k1,k2,Zg4 h1 h2 k3⟩
theorem ZiK {K : PySem.W.Frag}{BF BH F F1 H H1 : Hp}{σ : L2.St}{env : Env}{L : Nat → List Addr}{ds xs : List D}{J : L2.It}{p : Addr}{Q : L2.VK}(S : SOk K BF BH F H σ env L)(z1 : Ext F H F1 H1)(J1 : ItOk K J F1 ds)
    (hl : ds.length ≤ lim) (hx : Z7 i Jm f env ds = some xs) (hf : ∀ env d, f env = some d → ∃ ds, d = .lst ds) (hp : H1 p = none) (q : ∀ v F' H', Ext F H F' H' → rT K H F' H' (.lst xs) v → Q v H') :
    ZcP J i (fun _ H Q => Q true H) (tO K .k f) σ p Q H1 := by
  have hp0 : H p = none := z1.hh.free hp
  have hpF : F1 p = none := z1.fh.free hp
  refine ⟨fun k mm H2 acc => mm = ds.length - k ∧ k ≤ ds.length ∧ H2 p = some (.lst acc) ∧ ∃ F2 ys zs as, Ext F H F2 H2 ∧ Same F1 F2 ∧ (∀ b ∈ p :: as, H b = none ∧ F2 b = none) ∧ (p :: as).Nodup ∧ ys.length ≤ k ∧ acc = as.map .ref ∧ Zq K F2 H2 ys as ∧ Z7 i Jm f env (ds.drop k) = some zs ∧ xs = ys.map .lst ++ zs,
    ⟨ds.length, by simp, Nat.zero_le _, Yc, F1, [], xs, [], z1.trans (Ext.own z1.fh hp), .refl _, fun b hb => by
      rw [List.mem_singleton] at hb; subst hb; exact ⟨hp0, hpF⟩, by simp, Nat.zero_le _, rfl, rfl, hx, rfl⟩, ?_⟩
  rintro k mm H2 acc ⟨rfl, hk, hacc, F2, ys, zs, as, z2, s12, hown, nd, hy, rfl, hrows, hz, hxs⟩
  have hal : (as.map V.ref).length ≤ lim := by rw [List.length_map, ← hrows.length]; omega
  refine ⟨hacc, Nat.lt_of_le_of_lt hal Zlw, ?_⟩
  by_cases hlt : k < ds.length
  · refine .inr ⟨J1.go k H2 (s12.trans z2.fh) hlt, fun v H3 hy3 => L2.iteT ?_⟩
    obtain ⟨d, F3, hd, z3, r3⟩ := J1.yld k H2 v H3 F2 s12 z2.fh hlt hy3
    have hd' : ds[k] = d := by rw [List.getElem?_eq_getElem hlt] at hd; exact Option.some.inj hd
    rw [List.drop_eq_getElem_cons hlt, hd'] at hz
    simp only [Z7, Jm] at hz
    have z13 := z2.trans z3
    have S3 := (S.ext z13).Zdw i r3
    split at hz
    · rename_i e1 zs' he hz'
      cases hz
      obtain ⟨row, rfl⟩ := hf _ _ he
      refine ⟨BF, BH, F3, _, _, row, S3, he, fun a vs F5 H5 z5 ha0 ha1 ha2 rr => ?_⟩
      have z25 := z3.trans z5
      have h2p : H2 p ≠ none := by rw [hacc]; simp
      have ha2' : H2 a = none := z3.hh.free ha0
      have hpa : p ≠ a := fun e => by subst e; exact h2p ha2'
      have haas : a ∉ as := fun z => Zfn hrows a z ha2'
      obtain ⟨zz, f5⟩ := z2.ZjI z25 hp0 (hown p List.mem_cons_self).2 h2p (.lst (as.map V.ref ++ [V.ref a]))
      have hpas : p ∉ as := (List.nodup_cons.mp nd).1
      have hrows5 : Zq K F5 (upd H5 p (.lst (as.map V.ref ++ [V.ref a]))) ys as := hrows.mono z25.ff fun b hb o e => by
        rw [Jd (fun q => hpas (by rw [← q]; exact hb))]; exact z25.hh _ _ e
      refine ⟨z25.hh _ _ hacc, ds.length - (k + 1), by omega, rfl, hlt, Yc, F5, ys ++ [row], zs', as ++ [a], zz, s12.trans z25.ff, fun b hb => ?_, ?_, by rw [List.length_append, List.length_singleton]; omega, by rw [List.map_append]; rfl, ?_, hz', by rw [hxs, List.map_append, List.append_assoc]; rfl⟩
      · have own5 : ∀ b, b ∈ p :: as → F5 b = none := fun b hb => by
          cases q5 : F5 b with
          | none => rfl
          | some u =>
            rcases z25.dm b u q5 with y | y
            · rw [(hown b hb).2] at y; cases y
            · rcases List.mem_cons.mp hb with e | e
              · rw [e] at y; exact absurd y h2p
              · exact absurd y (Zfn hrows b e)
        rcases List.mem_cons.mp hb with e | e
        · rw [e]; exact ⟨hp0, f5⟩
        · rcases List.mem_append.mp e with e | e
          · exact ⟨(hown b (List.mem_cons_of_mem _ e)).1, own5 b (List.mem_cons_of_mem _ e)⟩
          · rw [List.mem_singleton] at e; subst e; exact ⟨z2.hh.free ha2', ha2⟩
      · obtain ⟨n1, n2⟩ := List.nodup_cons.mp nd
        refine List.nodup_cons.mpr ⟨fun z => ?_, ?_⟩
        · rcases List.mem_append.mp z with e | e
          · exact n1 e
          · rw [List.mem_singleton] at e; exact hpa e
        · rw [List.nodup_append]
          exact ⟨n2, by simp, fun b hb c hc e => by rw [List.mem_singleton] at hc; subst hc; subst e; exact haas hb⟩
      · exact Zg4 (by rw [Jd (Ne.symm hpa)]; exact ha1) rr hrows5
    · cases hz
  · have ek : k = ds.length := by omega
    subst ek
    rw [List.drop_length] at hz
    have hz0 : zs = [] := by simp only [Z7] at hz; exact (Option.some.inj hz).symm
    subst hz0
    rw [List.append_nil] at hxs
    subst hxs
    exact .inl ⟨J1.stop H2 (s12.trans z2.fh), q _ F2 H2 z2 ⟨p, as, ys, rfl, rfl, hacc, hrows, nd, hown⟩⟩
include nox nd
theorem ZnY (j i:Nat){y:Str}{py spos:Pos}(hI:PId X (.Name x px) iter lx)(hE:∀ cs C s0 H0 fp pn,PDo (blk X X.env.scope sc cs C s0 H0 fp pn) .k elt f)(hf:∀ env d,f env=some d→∃ ds,d=.lst ds)(hc:X.calm=true:=by rfl)(hco:Zci X.N X.env.scope sc x=true:=by kernel_rfl)(hi:X.N[i]?=some x:=by kernel_rfl)
  (hs:∀ x,foldedSetIterable iter X.env x=pure x:=by intro _;rfl) (hj:X.N[j]?=some y:=by kernel_rfl) (hy:locB X.env.scope y=true:=by kernel_rfl) (hfn:fnB X y=true:=by kernel_rfl)
  (hsw:swapsWith (.ListComp elt [⟨.Name x px,iter,[],0⟩] sc pos) (some (.Name y py)) spos.line X.env=pure true:=by rfl):PS1 X r (.Assign [.Name y py] (.ListComp elt [⟨.Name x px,iter,[],0⟩] sc pos) spos) (sTab j (Ji i lx Jm f)) :=
 PS1.mk <| PS.of (ZdE (te:=tO X.K .k f) nox hc nd (ZcI hco) hi hI (fun _ _ _ _ _ _=>Zek) hE hs hj (ZV hy) (Zaj hfn) hsw) fun D0 σ H hh_=>el10 hh_ fun BF BH F env L o env' S e k=>by
  unfold sTab at e
  split at e
  ·rename_i xs h1
   split at e
   ·rename_i rs hrs
    cases e
    obtain ⟨ds,xs',h2,hl,h3,e2⟩:=Zbq h1
    cases e2
    refine ⟨BF,BH,F,env,L,ds,S,h2,fun J F1 H1 z1 J1 p hp=>ZiK S z1 J1 hl h3 hf hp fun v F' H' z rr=>?_⟩
    obtain ⟨a,as,rs',hd,rfl,h4,h5,h6,h7⟩:=rr
    injection hd with hd
    rw [hd,ZhD] at hrs
    cases hrs
    exact k F' H' _ _ (ZnD S z j h4 h5 h6 h7) z.ff
   ·cases e
  ·cases e
end
end PV
set_option linter.all false
set_option Elab.async false
set_option maxRecDepth 100000
set_option maxHeartbeats 4000000
namespace PV
open PySem PySem.Spec PyProof.Rows
open L2 (V Hp HO Vals SqL SqT Same upd Cx PE PT PW PA PS PSs TE TT TA TS Inv RelV Yc Jd Zd Un)
section
variable {X:Cx} {m m1 m2:Md} {a b:Expr} {f g:Ex} {pos p p2:Pos}
theorem ZiN:L2.Zaq X (.type "range") (fun xs H Q=>∃ j:Int,xs=[.int j]∧∀ q,H q=none→Q (.ref q) (upd H q (.rng 0 j))):=by
 intro pins s σ H xs us Q I r h
 obtain ⟨j,rfl,q⟩:=h
 obtain ⟨u,rfl,ru⟩:=r.one
 obtain ⟨t,rfl⟩:=ru
 refine call_range_1 ⟨.ref s.heap.objs.size,_,I.laid (o:=.rng 0 j) (fun b ob q=>Heap.get?_push_of_some _ q) (Nat.le_refl _) ⟨_,_,_,Heap.get?_push_size _ rfl⟩,rfl,q _ I.fresh⟩
theorem Zif (hc:X.calm=true):L2.Zaq X (.type "list") (fun xs H Q=>∃ (q:Addr) (j:Int),xs=[.ref q]∧H q=some (.rng 0 j)∧-(lim:Int)≤j∧j≤lim∧∀ l,H l=none→Q (.ref l) (upd H l (.lst ((List.range j.toNat).map fun k=>V.int (0 + (k:Nat)))))):=by
 intro pins s σ H xs us Q I r h
 obtain ⟨q,j,rfl,hq,j0,j1,k⟩:=h
 obtain ⟨u,rfl,ru⟩:=r.one
 cases ru
 obtain ⟨t,u,v,e⟩:=(show L2.Zw X.prog X.w H s.heap q (.rng 0 j) from I.hok q _ hq)
 have hl:(lim:Int)=100000:=rfl
 have hn:Builtin.Range.rangeSize 0 j 1=((j.toNat:Nat):Int):=by rw [rangeSize_one];split <;> omega
 refine call_list_range (n:=j.toNat) (I.ok.hd hc) e (small_one (by decide) (by decide) (by omega) (by omega)) hn (by omega) fun h' tk acc' c' hk hS' hacc=>?_
 have hv:Vals ((List.range j.toNat).map fun k=>V.int (0 + (k:Nat))) acc'.toList:=by
  have hlen:acc'.toList.length=j.toNat:=by rw [Array.length_toList];exact hacc.1
  have go:∀ (n:Nat) (l:List Value) (st:Nat),l.length=n→(∀ (i:Nat) (w:Value),l[i]?=some w→∃ t,w=.int (0 + ((st + i:Nat):Int)) t)→Vals ((List.range' st n).map fun k=>V.int (0 + (k:Nat))) l:=by
   intro n
   induction n with
   | zero=>intro l st hl _;rw [List.length_eq_zero_iff.mp hl];exact .nil
   | succ n ih =>
    intro l st hl hw
    cases l with
    | nil=>simp at hl
    | cons w l =>
     rw [List.range'_succ,List.map_cons]
     obtain ⟨t,e⟩:=hw 0 w rfl
     refine .cons ⟨t,by simpa using e⟩ (ih l (st + 1) (by simpa using hl) fun i w' e'=>?_)
     obtain ⟨t',e''⟩:=hw (i + 1) w' (by simpa using e')
     exact ⟨t',by rw [e''];congr 2;omega⟩
  rw [List.range_eq_range']
  refine go j.toNat acc'.toList 0 hlen fun i w e'=>?_
  obtain ⟨t,rfl⟩:=hacc.2 i w (by simpa using e')
  exact ⟨t,by rw [Int.mul_one,Nat.zero_add]⟩
 refine ⟨.ref s.heap.objs.size,_,I.laid (o:=.lst ((List.range j.toNat).map fun k=>V.int (0 + (k:Nat)))) hk (Nat.le_refl _) ?_,rfl,k _ I.fresh⟩
 refine ⟨by rw [List.length_map,List.length_range,sizeLine_eq];omega,acc'.toList,c',hv,?_⟩
 simpa using hS'
theorem Zh7 {p3 p4:Pos} (T:Bt X.mg) (ha:PD X m1 a f) (hc:X.calm=true:=by rfl) (hg:X.env.kindOf "list"=some .globalImplicit:=by kernel_rfl) (hg2:X.env.kindOf "range"=some .globalImplicit:=by kernel_rfl) (hs:nst a=true:=by rfl) :
  PDo X m (.Call (.Name "list" p) [.Call (.Name "range" p3) [a] [] p4] [] pos) (eF1 Y4 f) :=
 PE.of (L2.ZdZ (Zif hc) hg T.list (by decide +kernel) (L2.Ym (L2.ZdZ ZiN hg2 T.range boot_range (L2.Ym ha.h L2.Yv (Yn hs)) (by decide) (by decide) (Jh hs) rfl) L2.Yv (Yn rfl)) (by decide) (by decide) (Jh rfl) rfl) fun σ H Q hh_=>el9 hh_ fun BF BH F env L ds S e q=>by
  unfold eF1 at e
  split at e
  ·rename_i y h1
   refine ⟨BF,BH,F,env,L,y,S,h1,fun v F' H' z r1=>?_⟩
   unfold Y4 at e
   split at e
   ·rename_i j
    split at e
    ·rename_i hj
     cases e
     refine ⟨j,by rw [Jr r1],fun q1 hq1=>⟨q1,j,rfl,Yc,hj.1,hj.2,fun l hl=>?_⟩⟩
     have hlq:l≠q1:=fun e=>by rw [e,Yc] at hl;cases hl
     rw [Jd hlq] at hl
     have y1:=z.trans (Ext.own (o:=HO.rng 0 j) z.fh hq1)
     have hl':upd H' q1 (.rng 0 j) l=none:=by rw [Jd hlq];exact hl
     obtain ⟨y2,h0,h2,s⟩:=ZbQ (m:=m) S y1 hl' (HO.lst ((List.range j.toNat).map fun k=>V.int (0 + (k:Nat))))
     refine q l _ F' _ y2 h0 Yc h2 ?_
     have e:Yg 0 j.toNat=((List.range j.toNat).map fun k=>(0 + (k:Nat):Int)).map D.int:=by simp [Yg]
     have e2:((List.range j.toNat).map fun k=>V.int (0 + (k:Nat)))=((List.range j.toNat).map fun k=>(0 + (k:Nat):Int)).map V.int:=by simp
     rw [e,e2]
     exact Reps.ints _
    ·cases e
   ·cases e
  ·cases e
theorem Znp {env:Env}{d:D}(h:eF1 Y4 f env=some d):∃ ds,d=.lst ds:=by
 unfold eF1 at h
 split at h
 ·unfold Y4 at h
  split at h
  ·split at h
   ·cases h;exact ⟨_,rfl⟩
   ·cases h
  ·cases h
 ·cases h
theorem Zh9 {p3 p4:Pos} (T:Bt X.mg) (ha:PD X m1 a f) (hc:X.calm=true:=by rfl) (hg:X.env.kindOf "list"=some .globalImplicit:=by kernel_rfl) (hg2:X.env.kindOf "range"=some .globalImplicit:=by kernel_rfl) (hs:nst a=true:=by rfl) :
  PD X m (.Call (.Name "list" p) [.Call (.Name "range" p3) [a] [] p4] [] pos) (eF1 Y4 f):=(Zh7 T ha hc hg hg2 hs).d fun env d h=>Znp h
theorem Zic (hu:X.A.units + 64 < cLine){p3:Pos}(ha:PD X m1 a f)(hb:PD X m2 b g)(hst:nst b=true:=by rfl)
  (hbase:attributeBase a "index" X.env (eval a X.env)=eval a X.env:=by rfl) (hline:(p2.endLine == p3.line)=true:=by rfl) :
  PD X m (.Call (.Attribute a "index" p2) [b] [] p3) (eF2 ZfM f g) :=
 PD.mk <| PE.of (L2.Zdy PySem.F.plainAttrs_list PySem.F.slot_list_index PySem.F.type_list_index (Zk8 hu) ha.r.h (L2.Ym hb.r.h L2.Yv (Yn hst)) hbase (by rw [ZaM (Zbf hst)];rfl) hline (Jh hst) rfl) fun σ H Q hh_=>el9 hh_ fun BF BH F env L d S e q=>by
  unfold eF2 at e
  split at e
  ·rename_i x y h1 h2
   unfold ZfM at e
   split at e
   ·rename_i ys
    split at e
    ·rename_i hd
     split at e
     ·rename_i j hj
      cases e
      refine ⟨BF,BH,F,env,L,_,S,h1,fun v F1 H1 z1 r1=>⟨?_,BF,BH,F1,env,L,y,S.ext z1,h2,fun w F2 H2 z2 r2=>⟨y,w,ys,j,rfl,Rep.mono z2.hh _ _ r1,r2,hd,hj,q _ F2 H2 (z1.trans z2) (by simp [Rep])⟩⟩⟩
      have r1':=r1
      simp only [Rep,hpM] at r1'
      obtain ⟨p,vs,rfl,hs,_⟩:=r1'
      exact .inl ⟨rfl,vs,hs⟩
     ·cases e
    ·cases e
   ·cases e
  ·cases e
end
end PV
set_option linter.all false
set_option Elab.async false
set_option maxRecDepth 100000
set_option maxHeartbeats 4000000
namespace PV
open PySem
noncomputable def Ris (xs:Array Nat):Prop:=∀ i j (hi:i < xs.size) (hj:j < xs.size),i < j→xs[i] < xs[j]
theorem Zl6 {xs:Array Nat}{j:Nat}(hr:Ris xs):∀ (fuel lo hi:Nat),hi≤xs.size→hi - lo < 2 ^ fuel→lo≤hi →
  (∀ i (h:i < xs.size),i < lo→xs[i] < j)→(∀ i (h:i < xs.size),hi≤i→j≤xs[i]) →
  SetTable.below.go xs j fuel lo hi≤xs.size∧(∀ i (h:i < xs.size),i < SetTable.below.go xs j fuel lo hi→xs[i] < j)∧(∀ i (h:i < xs.size),SetTable.below.go xs j fuel lo hi≤i→j≤xs[i]):=by
 intro fuel
 induction fuel with
 | zero =>
  intro lo hi h1 h2 h3 a b
  have:hi=lo:=by simp at h2;omega
  subst this
  unfold SetTable.below.go
  exact ⟨h1,a,b⟩
 | succ fuel ih =>
  intro lo hi h1 h2 h3 a b
  unfold SetTable.below.go
  by_cases hlt:lo < hi
  ·rw [if_pos hlt]
   have hm:(lo + hi) / 2 < xs.size:=by omega
   have e:xs.getD ((lo + hi) / 2) j=xs[(lo + hi) / 2]:=by simp [Array.getD,hm]
   dsimp only
   rw [e]
   have hp:2 ^ (fuel + 1)=2 ^ fuel * 2:=Nat.pow_succ ..
   by_cases hc:xs[(lo + hi) / 2] < j
   ·rw [if_pos hc]
    refine ih _ hi h1 (by omega) (by omega) (fun i h hi'=>?_) b
    rcases Nat.lt_or_ge i ((lo + hi) / 2) with h5 | h5
    ·exact Nat.lt_trans (hr i _ h hm h5) hc
    ·have:i=(lo + hi) / 2:=by omega
     subst this;exact hc
   ·rw [if_neg hc]
    refine ih lo _ (by omega) (by omega) (by omega) a (fun i h hi'=>?_)
    rcases Nat.lt_or_ge ((lo + hi) / 2) i with h5 | h5
    ·have:=hr _ i hm h h5;omega
    ·have:i=(lo + hi) / 2:=by omega
     subst this;omega
  ·rw [if_neg hlt]
   have:lo=hi:=by omega
   subst this
   exact ⟨h1,a,b⟩
theorem Zfw {xs:Array Nat}(hr:Ris xs)(j:Nat):SetTable.below xs j≤xs.size∧(∀ i (h:i < xs.size),i < SetTable.below xs j→xs[i] < j)∧(∀ i (h:i < xs.size),SetTable.below xs j≤i→j≤xs[i]):=by
 unfold SetTable.below
 refine Zl6 hr xs.size 0 xs.size (Nat.le_refl _) ?_ (Nat.zero_le _) (fun i h h'=>by omega) (fun i h h'=>by omega)
 have:=Nat.lt_two_pow_self (n:=xs.size)
 omega
theorem Zj2 {xs:Array Nat}(hr:Ris xs){k:Nat}(hk:k < xs.size):SetTable.below xs (xs[k] + 1)=k + 1:=by
 obtain ⟨h1,h2,h3⟩:=Zfw hr (xs[k] + 1)
 generalize SetTable.below xs (xs[k] + 1)=p at h1 h2 h3
 rcases Nat.lt_trichotomy p (k + 1) with h | h | h
 ·have:=h3 k hk (by omega);omega
 ·exact h
 ·have h4:=h2 (k + 1) (by omega) h
  have:=hr k (k + 1) hk (by omega) (by omega)
  omega
theorem Zkd {xs:Array Nat}(hr:Ris xs):SetTable.below xs 0=0:=by
 obtain ⟨h1,h2,h3⟩:=Zfw hr 0
 generalize SetTable.below xs 0=p at h1 h2 h3
 rcases Nat.eq_zero_or_pos p with h | h
 ·exact h
 ·have:=h2 0 (by omega) h;omega
theorem Zkq {xs:Array Nat}(hr:Ris xs){j:Nat}(hj:xs[SetTable.below xs j]?≠some j):Ris (SetTable.insertAt xs (SetTable.below xs j) j):=by
 obtain ⟨h1,h2,h3⟩:=Zfw hr j
 generalize SetTable.below xs j=p at h1 h2 h3 hj
 have h4:∀ i (h:i < xs.size),p≤i→j < xs[i]:=fun i h hp=>by
  rcases Nat.lt_or_ge p i with h5 | h5
  ·have h6:=h3 p (by omega) (Nat.le_refl _)
   have:=hr p i (by omega) h h5
   omega
  ·have e:i=p:=by omega
   subst e
   have:=h3 i h (Nat.le_refl _)
   rw [Array.getElem?_eq_getElem h] at hj
   have:xs[i]≠j:=fun e=>hj (by rw [e])
   omega
 have sz:(SetTable.insertAt xs p j).size=xs.size + 1:=by unfold SetTable.insertAt;simp;omega
 have ent:∀ i (h:i < xs.size + 1),(SetTable.insertAt xs p j)[i]'(by rw [sz];exact h)=if hh:i < p then xs[i] else if h':i=p then j else xs[i - 1]:=by
  intro i h
  unfold SetTable.insertAt
  simp only [Array.getElem_append,Array.size_push,Array.size_extract,Array.getElem_push,Array.getElem_extract]
  split
  ·rename_i ha
   split
   ·rename_i hb
    rw [dif_pos (by omega)]
    simp
   ·rename_i hb
    rw [dif_neg (by omega),dif_pos (by omega)]
  ·rename_i ha
   rw [dif_neg (by omega),dif_neg (by omega)]
   congr 1
   omega
 intro a b ha hb hab
 rw [sz] at ha hb
 rw [ent a ha,ent b hb]
 by_cases a1:a < p
 ·rw [dif_pos a1]
  by_cases b1:b < p
  ·rw [dif_pos b1];exact hr a b (by omega) (by omega) hab
  ·rw [dif_neg b1]
   by_cases b2:b=p
   ·rw [dif_pos b2];exact h2 a (by omega) a1
   ·rw [dif_neg b2];exact hr a (b - 1) (by omega) (by omega) (by omega)
 ·rw [dif_neg a1,dif_neg (show ¬ b < p by omega),dif_neg (show ¬ b=p by omega)]
  by_cases a2:a=p
  ·rw [dif_pos a2];exact h4 (b - 1) (by omega) (by omega)
  ·rw [dif_neg a2];exact hr (a - 1) (b - 1) (by omega) (by omega) (by omega)
theorem Ziu {t:SetTable}{j:Nat}(h:t.slot j=.empty∨t.slot j=.dummy):t.place[SetTable.below t.place j]?≠some j:=fun e=>by
 unfold SetTable.slot at h
 dsimp only at h
 rw [e] at h
 simp at h
theorem Zly {t:SetTable}{hashAt:Nat→Int}{h:Int}:∀ (fuel:Nat) (p:SetTable.Probe) (j:Nat) (d:Option Nat),(∀ x,p.dummy=some x→t.slot x=.dummy)→SetTable.probe.go t hashAt h fuel p=some (.empty j d) →
  t.place[SetTable.below t.place (d.getD j)]?≠some (d.getD j):=by
 intro fuel
 induction fuel with
 | zero=>intro p j d hd e;unfold SetTable.probe.go at e;cases e
 | succ fuel ih =>
  intro p j d hd e
  unfold SetTable.probe.go at e
  have adv:∀ q:SetTable.Probe,(t.advance q).dummy=q.dummy:=fun q=>by unfold SetTable.advance;split <;> rfl
  split at e
  ·rename_i hs
   injection e with e
   injection e with e1 e2
   subst e1;subst e2
   cases hq:p.dummy with
   | none=>exact Ziu (.inl hs)
   | some x=>exact Ziu (.inr (hd x hq))
  ·rename_i hs
   refine ih _ _ _ (fun x hx=>?_) e
   rw [adv] at hx
   injection hx with hx
   subst hx;exact hs
  ·split at e
   ·injection e with e;cases e
   ·refine ih _ _ _ (fun x hx=>?_) e
    rw [adv] at hx
    exact hd x hx
theorem ZmO {t:SetTable}{h:Int}{j:Nat}{b:Bool}(e:t.freeSlot h=some (j,b)):t.place[SetTable.below t.place j]?≠some j:=by
 unfold SetTable.freeSlot at e
 split at e
 ·rename_i j' d hp
  injection e with e
  injection e with e1 e2
  subst e1
  exact Zly _ _ _ _ (fun x hx=>by simp [SetTable.probeStart] at hx) hp
 ·cases e
structure TabOk (led:Bool)(t:SetTable):Prop where
 led:t.led=led
 ris:t.plain=true→Ris t.place
theorem ZiP (led:Bool)(a b:Nat):TabOk led (.fresh a b led):=⟨rfl,fun _ i j hi hj _=>by simp [SetTable.fresh] at hi⟩
theorem TabOk.stand {led:Bool}{t:SetTable}(h:TabOk led t)(n:Nat):TabOk led (t.standIn n):=⟨h.led,fun e=>by simp [SetTable.standIn] at e⟩
theorem TabOk.lay {led:Bool}{t:SetTable}(h:TabOk led t)(es:Array (Int × Value))(k:Int)(x:Value):TabOk led (layNew t es k x).2.1:=by
 unfold layNew
 split
 ·rename_i slot wd he
  have:TabOk led (t.put slot).1:=⟨h.led,fun e=>Zkq (h.ris e) (ZmO he)⟩
  dsimp only
  unfold SetTable.orStandIn
  split
  ·exact this
  ·exact this.stand _
 ·exact h.stand _
theorem Zl7 {l:List Nat}(h:l.Pairwise (· < ·)):Ris l.toArray:=fun i j hi hj hij=>by
 simp only [List.size_toArray] at hi hj
 simp only [List.getElem_toArray]
 exact List.pairwise_iff_getElem.mp h i j hi hj hij
theorem TabOk.ZpU {led:Bool}{t:SetTable}(h:TabOk led t)(es:Array (Int × Value))(n:Nat):TabOk led (relayAll t es n).2.1:=by
 unfold relayAll
 split
 ·rename_i t' order he
  dsimp only
  split
  ·unfold SetTable.relaid SetTable.laid at he
   cases ho:SetTable.layClean (SetTable.sizeAbove n - 1) (es.map (·.1)) with
   | none=>rw [ho] at he;cases he
   | some owner =>
    rw [ho] at he
    injection he with he
    injection he with h1 h2
    subst h1
    refine ⟨h.led,fun _=>Zl7 ?_⟩
    rw [List.map_filterMap]
    refine (List.pairwise_lt_range (n:=SetTable.sizeAbove n - 1 + 1)).filterMap _ fun a a' haa b hb b' hb'=>?_
    simp only [Option.map_map,Option.mem_def,Option.map_eq_some_iff] at hb hb'
    obtain ⟨_,_,rfl⟩:=hb
    obtain ⟨_,_,rfl⟩:=hb'
    exact haa
  ·exact h.stand _
 ·exact h.stand _
end PV
set_option linter.all false
set_option Elab.async false
set_option maxRecDepth 100000
set_option maxHeartbeats 4000000
namespace PV
open PySem PyProof.Rows
noncomputable def valI:Value→Int
 | .int i _=>i
 | _=>0
noncomputable def isI:Value→Prop
 | .int _ _=>True
 | _=>False
theorem Zau {vs:List Value}{ns:List Int}:IntsAre vs ns↔(∀ v ∈ vs,isI v)∧ns=vs.map valI:=by
 constructor
 ·intro h
  induction h with
  | nil=>simp
  | cons n t _ ih=>exact ⟨fun v hv=>(List.mem_cons.mp hv).elim (fun e=>e ▸ trivial) (ih.1 v),by simp [valI,ih.2]⟩
 ·rintro ⟨h,rfl⟩
  induction vs with
  | nil=>exact .nil
  | cons v vs ih =>
   have h1:=h v List.mem_cons_self
   cases v with
   | int i t=>exact .cons i t (ih fun v hv=>h v (List.mem_cons_of_mem _ hv))
   | _=>exact h1.elim
theorem Zey {vs vs':List Value}{ns:List Int}(p:vs'.Perm vs)(h:IntsAre vs ns):∃ ns',IntsAre vs' ns'∧ns'.Perm ns:=by
 rw [Zau] at h
 exact ⟨vs'.map valI,Zau.mpr ⟨fun v hv=>h.1 v (p.mem_iff.mp hv),rfl⟩,h.2 ▸ p.map _⟩
theorem ZmS {vs:List Value}{ns:List Int}(h:IntsAre vs ns){k:Int}:k ∈ ns↔∃ v ∈ vs,Value.isInt k v=true:=by
 rw [Zau] at h
 rw [h.2,List.mem_map]
 constructor
 ·rintro ⟨v,hv,e⟩
  have:=h.1 v hv
  cases v with
  | int i t=>exact ⟨_,hv,by simp [valI] at e;simp [Value.isInt,e]⟩
  | _=>exact this.elim
 ·rintro ⟨v,hv,e⟩
  obtain ⟨t,rfl⟩:=Value.isInt_shape e
  exact ⟨_,hv,rfl⟩
section
variable {prog:Program} {w:World} {A:Around} {E:Value→Shared→Prop} {s:Shared}
structure SetO (prog:Program)(w:World)(led:Bool)(ks:List Int)(o:Obj)(es:Array (Int × Value))(ep:Nat)(t:SetTable):Prop where
 ex:o.ExactSet
 dat:o.data=.set es ep t
 el:ElemsOf (intKind prog w) es.toList
 ks:∃ js,IntsAre (es.toList.map (·.2)) js∧js.Perm ks
 few:es.size < scanBound
 fit:t.fits es.size=true
 ok:TabOk led t
noncomputable def SetX (prog:Program) (w:World) (h:Heap) (a:Addr) (led:Bool) (ks:List Int):Prop:=∃ o es ep t,h.get? a=some o∧SetO prog w led ks o es ep t
theorem SetO.len {led:Bool}{ks:List Int}{o:Obj}{es:Array (Int × Value)}{ep:Nat}{t:SetTable}(h:SetO prog w led ks o es ep t):es.size=ks.length:=by
 obtain ⟨js,h1,h2⟩:=h.ks
 have:=(Zau.mp h1).2
 rw [← h2.length_eq,this];simp
theorem SetO.mem {led:Bool}{ks:List Int}{o:Obj}{es:Array (Int × Value)}{ep:Nat}{t:SetTable}(h:SetO prog w led ks o es ep t){k:Int}:k ∈ ks↔∃ e ∈ es.toList,(intKind prog w).is k e.2=true:=by
 obtain ⟨js,h1,h2⟩:=h.ks
 rw [← h2.mem_iff,ZmS h1]
 constructor
 ·rintro ⟨v,hv,e⟩
  obtain ⟨p,hp,rfl⟩:=List.mem_map.mp hv
  exact ⟨p,hp,e⟩
 ·rintro ⟨p,hp,e⟩
  exact ⟨p.2,List.mem_map.mpr ⟨p,hp,rfl⟩,e⟩
theorem ZjN {a:Addr}{led:Bool}{ks ks':List Int}{o:Obj}{es es':Array (Int × Value)}{ep:Nat}{t t':SetTable}{Q:Unit→Shared→Prop}(ho:s.heap.get? a=some o)(h:SetO prog w led ks o es ep t)
  (el:ElemsOf (intKind prog w) es'.toList) (hk:∃ js,IntsAre (es'.toList.map (·.2)) js∧js.Perm ks') (few:es'.size < scanBound) (fit:t'.fits es'.size=true) (ok:TabOk led t')
  (k:∀ h' o',Heap.SameBut a s.heap h'→h'.get? a=some o'→SetO prog w led ks' o' es' (ep + 1) t'→Q () { s with heap:=h' }):wpAny (model prog w) A (storeSet a es' t') Q E s:=by
 refine wpAny_storeSet_of ho h.dat ?_ (fits_of_scanBound few)
 have hg:(s.heap.update a (Obj.putSet es' t')).get? a=some { o with data:=.set es' (ep + 1) t' }:=by
  have:=Heap.get?_update_self (Obj.putSet es' t') ho (by rw [putSet_of es' t' h.dat];rfl)
  rw [putSet_of es' t' h.dat] at this
  exact this
 exact k _ _ (Heap.SameBut.update s.heap a _) hg ⟨h.ex,rfl,el,hk,few,fit,ok⟩
theorem Zp5 {a : Addr}{led : Bool}{ks : List Int}{k : Int}{tk : Tok}{Q : Bool → Shared → Prop}(hS : SetX prog w s.heap a led ks)(room : ks.length + 1 < scanBound)
    (h : ∀ h' b, Heap.SameBut a s.heap h' → SetX prog w h' a led (addv ks k) → Q b { s with heap := h' }) : wpAny (model prog w) A (setAddHashed a (.int k tk) ((intKind prog w).hash k)) Q E s := by
  obtain ⟨o, es, ep, t, ho, S⟩ := hS
  have hkey : (intKind prog w).is k (.int k tk) = true := intKind_is _ _ _ _
  have same : s = { s with heap := s.heap } := by cases s; rfl
  unfold setAddHashed setAddHashedIn
  refine wpAny_holding (wpAny_bind (wpAny_setState_of ho S.dat S.fit ?_))
  dsimp only
  rw [byScan_of (x := .int k tk) rfl S.few S.el]
  simp only [↓reduceIte]
  unfold setAddByScan
  refine wpAny_bind (wpAny_bind (wpAny_rule (wpAny_bind (wpAny_setScan_of hkey ho S.dat S.fit S.el ?_))))
  cases hr : List.findIdx? (fun e => (intKind prog w).is k e.2) es.toList with
  | some j =>
    obtain ⟨hj, hpj, _⟩ := List.findIdx?_eq_some_iff_getElem.mp hr
    have hm : k ∈ ks := S.mem.mpr ⟨_, List.getElem_mem hj, hpj⟩
    refine wpAny_pure (wpAny_pure ?_)
    rw [same]
    exact h s.heap _ (Heap.SameBut.refl a s.heap) ⟨o, es, ep, t, ho, by unfold addv; rw [if_pos hm]; exact S⟩
  | none =>
    have hm : k ∉ ks := fun hm => by
      obtain ⟨e, he, hp⟩ := S.mem.mp hm
      have := List.findIdx?_eq_none_iff.mp hr e he
      rw [hp] at this; cases this
    dsimp only
    have p1 := layNew_perm t es ((intKind prog w).hash k) (.int k tk)
    have f1 := layNew_fits t es ((intKind prog w).hash k) (.int k tk)
    have o1 := S.ok.lay es ((intKind prog w).hash k) (.int k tk)
    generalize layNew t es ((intKind prog w).hash k) (.int k tk) = Z at p1 f1 o1 ⊢
    obtain ⟨es1, t1, wd, gv⟩ := Z
    dsimp only at p1 f1 o1 ⊢
    rw [Array.toList_push] at p1
    have el1 : ElemsOf (intKind prog w) es1.toList := (S.el.push hkey rfl).perm p1
    have k1 : ∃ js, IntsAre (es1.toList.map (·.2)) js ∧ js.Perm (addv ks k) := by
      obtain ⟨js, j1, j2⟩ := S.ks
      have q1 : IntsAre ((es.toList ++ [((intKind prog w).hash k, Value.int k tk)]).map (·.2)) (js ++ [k]) := by
        rw [Zau] at j1 ⊢
        refine ⟨fun v hv => ?_, by rw [j1.2]; simp [valI]⟩
        rw [List.map_append, List.mem_append] at hv
        rcases hv with hv | hv
        · exact j1.1 v hv
        · simp at hv; subst hv; trivial
      obtain ⟨js', r1, r2⟩ := Zey (p1.map (·.2)) q1
      refine ⟨js', r1, r2.trans ?_⟩
      unfold addv; rw [if_neg hm]
      exact j2.append_right _
    have sz1 : es1.size = es.size + 1 := by rw [← Array.length_toList, p1.length_eq, List.length_append, Array.length_toList]; rfl
    have few1 : es1.size < scanBound := by rw [sz1, S.len]; exact room
    have gw : ∀ (b : Bool) {s₁ : Shared} {Q' : Unit → Shared → Prop}, Q' () s₁ → wpAny (model prog w) A (match b with | true => rule "set.scan.the-table-gave-way" | false => pure ()) Q' E s₁ :=
      fun b _ _ hq => by cases b <;> first | exact wpAny_pure hq | exact wpAny_rule hq
    refine wpAny_bind (gw _ ?_)
    have last : ∀ t2 : SetTable, t2.fits es1.size = true → TabOk led t2 → ∀ wd : Bool, wpAny (model prog w) A (do
        storeSet a es1 t2
        if (!wd && t2.tooFull) = true then do
            (match (relayAll t2 es1 (SetTable.grown es1.size)).2.2 with | true => rule "set.scan.the-table-gave-way" | false => pure ())
            storeSet a (relayAll t2 es1 (SetTable.grown es1.size)).1 (relayAll t2 es1 (SetTable.grown es1.size)).2.1
            pure (some true)
          else pure (some true)) (fun r s' => wpAny (model prog w) A (match r with | some added => pure added | none => setAddHashedIn a (.int k tk) ((intKind prog w).hash k) 99999) Q E s') E s := by
      intro t2 f2 o2 wd
      refine wpAny_bind (ZjN ho S el1 k1 few1 f2 o2 fun h' o' sb g' S' => ?_)
      split
      · have p2 := relayAll_perm t2 es1 (SetTable.grown es1.size)
        have f3 := relayAll_fits t2 es1 (SetTable.grown es1.size)
        have o3 := o2.ZpU es1 (SetTable.grown es1.size)
        generalize relayAll t2 es1 (SetTable.grown es1.size) = Z at p2 f3 o3 ⊢
        obtain ⟨es2, t3, gv2⟩ := Z
        dsimp only at p2 f3 o3 ⊢
        have sz2 : es2.size = es1.size := by rw [← Array.length_toList, p2.length_eq, Array.length_toList]
        refine wpAny_bind (gw _ ?_)
        refine wpAny_bind (ZjN (ks' := addv ks k) g' S' (el1.perm p2) ?_ (by rw [sz2]; exact few1) f3 o3 fun h2 o2 sb2 g2 S2 => ?_)
        · obtain ⟨js, j1, j2⟩ := k1
          obtain ⟨js', r1, r2⟩ := Zey (p2.map (·.2)) j1
          exact ⟨js', r1, r2.trans j2⟩
        · exact wpAny_pure (wpAny_pure (h _ _ (sb.trans sb2) ⟨_, _, _, _, g2, S2⟩))
      · exact wpAny_pure (wpAny_pure (h _ _ sb ⟨_, _, _, _, g', S'⟩))
    split
    · refine wpAny_bind ?_
      rw [hashByValue_scannable 8 (x := .int k tk) rfl]
      refine wpAny_pure ?_
      exact last _ (by simp only [plainKind, ↓reduceIte]; exact f1) (by simp only [plainKind, ↓reduceIte]; exact o1) wd
    · refine wpAny_bind (wpAny_pure ?_)
      simp only [↓reduceIte]
      exact last _ f1 o1 wd
end
end PV
set_option linter.all false
set_option Elab.async false
set_option maxRecDepth 100000
set_option maxHeartbeats 4000000
namespace PV
open PySem PyProof.Rows
theorem Zbm:Slot "set_iterator" "__next__" "set_iterator.__next__":=.of (owner:="set_iterator") (n:="__next__") (by rw [typeLookup_type,builtinLookup_eq_fast];kernel_rfl) (by decide +kernel) (by decide +kernel) (by decide +kernel) (by first | exact .inl (by decide +kernel) | exact .inr (by decide +kernel)) (by rw [isSubtype_type];kernel_rfl)
theorem Zg3:Slot "set_iterator" "__iter__" "set_iterator.__iter__":=.of (owner:="set_iterator") (n:="__iter__") (by rw [typeLookup_type,builtinLookup_eq_fast];kernel_rfl) (by decide +kernel) (by decide +kernel) (by decide +kernel) (by first | exact .inl (by decide +kernel) | exact .inr (by decide +kernel)) (by rw [isSubtype_type];kernel_rfl)
theorem ZfI:entryFor table "set_iterator.__next__"=some Builtin.«set_iterator.__next__»:=entryFor_of_tree (by kernel_rfl)
theorem Zkb:entryFor table "set_iterator.__iter__"=some Builtin.«dict_keyiterator.__iter__»:=entryFor_alias (id':="dict_keyiterator.__iter__") (by kernel_rfl) rfl (by decide +kernel) (by kernel_rfl)
theorem Zg7 (a:Value):argsOk "set_iterator.__next__" ⟨[a],[]⟩:=by unfold argsOk;kernel_rfl
theorem Zlo (a:Value):argsOk "set_iterator.__iter__" ⟨[a],[]⟩:=by unfold argsOk;kernel_rfl
theorem Zj3:entryFor table "set.__iter__"=some Builtin.«frozenset.__iter__»:=entryFor_alias (id':="frozenset.__iter__") (by kernel_rfl) rfl (by decide +kernel) (by kernel_rfl)
theorem ZfB {α:Type}:∀ (l:List α) (i:Nat) (h:i < l.length),(l[i]::l.eraseIdx i).Perm l
 | [],i,h=>by simp at h
 | x::l,0,_=>by simp
 | x::l,i + 1,h=>by
  have h':i < l.length:=by simpa using h
  simp only [List.getElem_cons_succ,List.eraseIdx_cons_succ]
  exact (List.Perm.swap _ _ _).trans ((ZfB l i h').cons _)
noncomputable def byT (w:World):Bool:=w.params.followText "set-order"
theorem Zlq {M:Model}{A:Around}{E:Value→Shared→Prop}{s:Shared}{src:Source}{n:Nat}{Q:Nat→Shared→Prop}(hn:n≠0)(h:∀ i dr,i < n→Q i { s with drawn:=dr }):wpAny M A (choose src n) Q E s :=
 fun _ _ _=>⟨hn,h _ _ (Nat.mod_lt _ (by omega))⟩
theorem Zqb {α:Type}{M:Model}{A:Around}{E:Value→Shared→Prop}:∀ (n:Nat) (xs:List α) (s:Shared) (Q:List α→Shared→Prop),n=xs.length→(∀ ys dr,ys.Perm xs→Q ys { s with drawn:=dr })→wpAny M A (drawOrder n xs) Q E s:=by
 intro n
 induction n with
 | zero =>
  intro xs s Q hn h
  have:xs=[]:=List.length_eq_zero_iff.mp hn.symm
  subst this
  unfold drawOrder
  exact wpAny_pure (h [] s.drawn (.refl _))
 | succ n ih =>
  intro xs s Q hn h
  cases xs with
  | nil=>cases hn
  | cons x xs =>
   unfold drawOrder
   refine wpAny_bind (Zlq (by simp) fun i dr hi=>?_)
   rw [List.getElem?_eq_getElem hi]
   refine wpAny_bind (ih _ _ _ (by rw [List.length_eraseIdx,if_pos hi];omega) fun ys dr' hp=>wpAny_pure (h _ _ ?_))
   exact (hp.cons _).trans (ZfB _ _ hi)
theorem ZnF {α:Type}(next:Nat→Nat):∀ (fuel k:Nat) (left:List α) (out:Array α),fuel=left.length→(pickOrder.go next fuel k left out).toList.Perm (out.toList++left):=by
 intro fuel
 induction fuel with
 | zero =>
  intro k left out h
  have:left=[]:=List.length_eq_zero_iff.mp h.symm
  subst this
  unfold pickOrder.go
  simp
 | succ fuel ih =>
  intro k left out h
  unfold pickOrder.go
  have hl:next k % left.length < left.length:=Nat.mod_lt _ (by omega)
  rw [List.getElem?_eq_getElem hl]
  refine (ih _ _ _ (by rw [List.length_eraseIdx,if_pos hl];omega)).trans ?_
  rw [Array.toList_push,List.append_assoc]
  exact List.Perm.append_left _ (ZfB _ _ hl)
theorem Zlz {α:Type}(next:Nat→Nat)(xs:Array α):(pickOrder next xs).toList.Perm xs.toList:=by
 unfold pickOrder
 simpa using ZnF next xs.size 0 xs.toList #[] (by simp)
inductive Wk (w : World) (h : Heap) (a : Addr) (es : Array (Int × Value)) (ep : Nat) (t : SetTable) : List Value → (Nat → Value) → List Addr → Prop
  | text (hb : byT w = true) : Wk w h a es ep t ((pickOrder (w.params.setOrder a ep) es).toList.map (·.2)) (fun _ => rawInt 0) []
  | plain (hb : byT w = false) (hd : (!t.plain && decide (es.size > 1)) = false) (hl : t.led = true) (hr : Ris t.place) : Wk w h a es ep t (es.toList.map (·.2)) (fun i => rawInt (((if i = 0 then 0 else t.place.getD (i - 1) 0 + 1) : Nat) : Int)) []
  | drawn (hb : byT w = false) (p : Addr) (c : Nat) (pl : List Nat) (hp : pl.Perm (List.range es.size)) (o : Obj) (ho : h.get? p = some o) (hd : o.data = .seq (pl.map fun (j : Nat) => rawInt j).toArray c) :
      Wk w h a es ep t (pl.map fun j => (es.getD j (0, .none)).2) (fun _ => .ref p) [p]
theorem Wk.perm {w:World}{h:Heap}{a:Addr}{es:Array (Int × Value)}{ep:Nat}{t:SetTable}{ord:List Value}{fst:Nat→Value}{ps:List Addr}(k:Wk w h a es ep t ord fst ps):ord.Perm (es.toList.map (·.2)):=by
 cases k with
 | text hb=>exact (Zlz _ _).map _
 | plain hb hd hl hr=>exact .refl _
 | drawn hb p c pl hp o ho hd =>
  refine (hp.map _).trans ?_
  have:(List.range es.size).map (fun j=>(es.getD j (0,.none)).2)=es.toList.map (·.2):=by
   apply List.ext_getElem
   ·simp
   ·intro i h1 h2
    simp at h1
    simp [Array.getD,h1]
  rw [this]
theorem Wk.mono {w:World}{h h':Heap}{a:Addr}{es:Array (Int × Value)}{ep:Nat}{t:SetTable}{ord:List Value}{fst:Nat→Value}{ps:List Addr}(k:Wk w h a es ep t ord fst ps)(hk:∀ b ∈ ps,∀ o,h.get? b=some o→h'.get? b=some o):Wk w h' a es ep t ord fst ps:=by
 cases k with
 | text hb=>exact .text hb
 | plain hb hd hl hr=>exact .plain hb hd hl hr
 | drawn hb p c pl hp o ho hd=>exact .drawn hb p c pl hp o (hk p (by simp) o ho) hd
noncomputable def SIt (h:Heap) (I a:Addr) (f:Value) (i n ep:Nat):Prop:=∃ o,h.get? I=some o∧o.cls=.type "set_iterator"∧o.data=.fields #[f,rawInt (i:Nat),.ref a,rawInt (n:Nat),rawInt (ep:Nat)]
theorem SIt.ty {s:Shared}{I a:Addr}{f:Value}{i n ep:Nat}(h:SIt s.heap I a f i n ep):s.TypeIs (.ref I) "set_iterator":=let ⟨o,ho,hc,_⟩:=h;⟨o,ho,hc⟩
section
variable {prog:Program} {w:World} {A:Around} {E:Value→Shared→Prop} {s:Shared}
theorem Wk.next {a:Addr}{es:Array (Int × Value)}{ep:Nat}{t:SetTable}{ord:List Value}{o:Obj}{i:Nat}{zi:Nat}
  (ho:s.heap.get? a=some o) (hd:o.data=.set es ep t) (hf:t.fits es.size=true) {Q:Option (Value × Nat)→Shared→Prop} (fst:Nat→Value) (k:Wk w s.heap a es ep t ord fst []) (hz:fst i=rawInt (zi:Nat)) (hi:i≤es.size)
  (h:∀ zn:Nat,(i < es.size→rawInt zn=fst (i + 1))→Q (ord[i]?.map fun v=>(v,zn)) s):wpAny (model prog w) A (setNext a zi i ep) Q E s:=by
 have hfit:t.place.size=es.size:=by simp only [SetTable.fits,Bool.and_eq_true,beq_iff_eq] at hf;exact hf.1
 unfold setNext
 refine wpAny_bind (wpAny_setState_of ho hd hf ?_)
 dsimp only
 cases k with
 | text hb =>
  refine wpAny_bind (m:=setsByText) (wpAny_bind (wpAny_askSetting (wpAny_pure ?_)))
  rw [if_pos (show (model prog w).w.params.followText "set-order"=true from hb)]
  rw [if_neg (by simp)]
  unfold setWalk
  refine wpAny_bind (wpAny_bind (wpAny_setState_of ho hd hf ?_))
  dsimp only
  refine wpAny_bind (m:=setsByText) (wpAny_bind (wpAny_askSetting (wpAny_pure ?_)))
  rw [if_pos (show (model prog w).w.params.followText "set-order"=true from hb)]
  refine wpAny_bind (wpAny_askSetting (wpAny_pure (wpAny_pure ?_)))
  have:=h zi fun _=>hz.symm
  rw [List.getElem?_map] at this
  show Q (Option.map (fun e=>(e.snd,zi)) (pickOrder (w.params.setOrder a ep) es)[i]?) s
  simpa [Option.map_map,Function.comp_def] using this
 | plain hb hdr hl hr =>
  refine wpAny_bind (m:=setsByText) (wpAny_bind (wpAny_askSetting (wpAny_pure ?_)))
  rw [if_neg (show ¬ (model prog w).w.params.followText "set-order"=true from by rw [show (model prog w).w.params.followText "set-order"=false from hb];simp)]
  show wpAny _ _ (if (!t.plain && decide (es.size > 1))=true then _ else _) _ _ _
  rw [if_neg (by rw [hdr];simp)]
  refine wpAny_bind (m:=_) (show wpAny _ _ (if (!t.led && !es.isEmpty)=true then _ else _) _ _ _ from ?_)
  rw [if_neg (by rw [hl];simp)]
  refine wpAny_pure ?_
  have hz':zi=if i=0 then 0 else t.place.getD (i - 1) 0 + 1:=by
   have:((if i=0 then 0 else t.place.getD (i - 1) 0 + 1:Nat):Int)=zi:=by simpa [rawInt] using hz
   omega
  have hbl:SetTable.below t.place zi=i:=by
   rw [hz']
   by_cases h0:i=0
   ·subst h0;simpa using Zkd hr
   ·have hlt:i - 1 < t.place.size:=by omega
    rw [if_neg h0,show t.place.getD (i - 1) 0=t.place[i - 1] by simp [Array.getD,hlt],Zj2 hr hlt]
    omega
  rw [hbl]
  rcases Nat.lt_or_ge i es.size with hlt | hge
  ·have hlt':i < t.place.size:=by omega
   rw [Array.getElem?_eq_getElem hlt,Array.getElem?_eq_getElem hlt']
   have:=h (t.place[i] + 1) fun _=>by simp [rawInt,Array.getD,hlt']
   rw [List.getElem?_map,List.getElem?_eq_getElem (by simpa using hlt)] at this
   exact wpAny_pure (by simpa using this)
  ·rw [Array.getElem?_eq_none hge]
   have:=h 0 fun hh=>by omega
   rw [List.getElem?_eq_none (by simpa using hge)] at this
   exact wpAny_pure (by simpa using this)
end
end PV
set_option linter.all false
set_option Elab.async false
set_option maxRecDepth 100000
set_option maxHeartbeats 4000000
namespace PV
open PySem PyProof.Rows
section
variable {prog:Program} {w:World} {A:Around} {E:Value→Shared→Prop} {s:Shared}
theorem ZeV {h:Heap}{I a:Addr}{f:Value}{i n ep:Nat}(x:SIt h I a f i n ep)(j:Nat)(v:Value){f':Value}{i':Nat}(e:(#[f,rawInt (i:Nat),.ref a,rawInt (n:Nat),rawInt (ep:Nat)]:Array Value).setIfInBounds j v=#[f',rawInt (i':Nat),.ref a,rawInt (n:Nat),rawInt (ep:Nat)]) :
  SIt (h.update I (Obj.mapFields (·.setIfInBounds j v))) I a f' i' n ep:=by
 obtain ⟨o,ho,hc,hd⟩:=x
 exact ⟨_,Heap.get?_update_self _ ho (Obj.isFreed_of_fields (Obj.data_mapFields hd _)),(Obj.cls_mapFields ..).trans hc,by rw [Obj.data_mapFields hd,e]⟩
theorem ZmM {I a : Addr}{es : Array (Int × Value)}{ep : Nat}{t : SetTable}{ord : List Value}{fst : Nat → Value}{ps : List Addr}{o : Obj}{i : Nat}{Q : Option Value → Shared → Prop}
    (hit : SIt s.heap I a (fst i) i es.size ep) (ho : s.heap.get? a = some o) (hd : o.data = .set es ep t) (hf : t.fits es.size = true) (hne : a ≠ I) (k : Wk w s.heap a es ep t ord fst ps) (hps : I ∉ ps) (hi : i < es.size)
    (hQ : ∀ v h', ord[i]? = some v → SIt h' I a (fst (i + 1)) (i + 1) es.size ep → Heap.SameBut I s.heap h' → Q (some v) { s with heap := h' }) : wpAny (model prog w) A (pyNext (.ref I)) Q E s := by
  obtain ⟨oi, hoi, hci, hdi⟩ := id hit
  have hol : ord.length = es.size := by rw [k.perm.length_eq]; simp
  unfold pyNext
  refine wpAny_bind (wpAny_attempt (wpAny_callSpecial?_slot (name := Str.ofString "__next__") hit.ty Zbm (wpAny_call_entry Zbm hit.ty ZfI ?_ (Zg7 _))))
  show wpAny _ _ (fieldsOf (.ref I) >>= _) _ _ s
  refine wpAny_bind (wpAny_fieldsOf hoi hdi ?_)
  dsimp only
  show wpAny _ _ (setEntries a >>= _) _ _ s
  refine wpAny_bind (wpAny_setEntries_of ho hd hf ?_)
  rw [if_neg (by simp)]
  have main : ∀ (E' : Value → Shared → Prop) (zi : Nat), fst i = rawInt (zi : Nat) → Wk w s.heap a es ep t ord fst [] → wpAny (model prog w) A.in1 (do
      match ← setNext a zi i ep with
      | some (x, next) =>
        setField (.ref I) 0 (rawInt next)
        setField (.ref I) 1 (rawInt ((i : Int) + 1))
        ret x
      | none => setField (.ref I) 2 .none; raiseNew (← newExc (.type "StopIteration") [])) (fun fin s' => ∃ v, fin = .done (.ret v) ∧ wpAny (model prog w) A (pure (some v)) Q E s') E' s := by
    intro E' zi hz k0
    refine wpAny_bind (Wk.next ho hd hf fst k0 hz (by omega) fun zn hzn => ?_)
    rw [List.getElem?_eq_getElem (by omega)]
    show wpAny _ _ (setField (.ref I) 0 (rawInt zn) >>= _) _ _ s
    refine wpAny_bind (wpAny_setField hoi hdi (by simp) ?_)
    have h1 := ZeV (i' := i) hit 0 (rawInt (zn : Nat)) (f' := rawInt (zn : Nat)) (by simp)
    obtain ⟨o1, g1, c1, d1⟩ := id h1
    refine wpAny_bind (wpAny_setField g1 d1 (by simp) (wpAny_pure ⟨_, rfl, wpAny_pure (hQ _ _ (by rw [List.getElem?_eq_getElem (by omega)]) ?_ ((Heap.SameBut.update ..).trans (Heap.SameBut.update ..)))⟩))
    rw [← hzn hi]
    exact ZeV h1 1 _ (by simp [rawInt])
  cases k with
  | text hb => exact main _ 0 rfl (.text hb)
  | plain hb hdr hl hr => exact main _ _ rfl (.plain hb hdr hl hr)
  | drawn hb p c pl hp op hop hdp =>
    show wpAny _ _ (seqItems? (.ref p) >>= _) _ _ s
    refine wpAny_bind (wpAny_seqItems hop hdp ?_)
    have hpl : pl.length = es.size := by rw [hp.length_eq]; simp
    have hj : pl[i]'(by omega) < es.size := by have := hp.mem_iff.mp (List.getElem_mem (l := pl) (n := i) (by omega)); simpa using this
    have e1 : ((pl.map fun (j : Nat) => rawInt j).toArray)[(i : Int).toNat]? = some (.int (pl[i]'(by omega) : Nat) 0) := by simp [rawInt, hpl, hi]
    dsimp only
    rw [e1]
    dsimp only
    unfold setNextDrawn
    refine wpAny_bind (wpAny_bind (wpAny_setState_of ho hd hf ?_))
    dsimp only
    rw [if_neg (by simp)]
    rw [show ((pl[i]'(by omega) : Nat) : Int).toNat = pl[i]'(by omega) by simp, Array.getElem?_eq_getElem hj]
    refine wpAny_pure ?_
    refine wpAny_bind (wpAny_setField hoi hdi (by simp) (wpAny_pure ⟨_, rfl, wpAny_pure (hQ _ _ ?_ ?_ (Heap.SameBut.update ..))⟩))
    · simp [hpl, hi, Array.getD, hj]
    · exact ZeV hit 1 _ (by simp [rawInt])
theorem Zle {Q:Option Value→Shared→Prop}(hh:A.handled=none)(h:∀ h',(∀ b o,s.heap.get? b=some o→h'.get? b=some o)→Q none { s with heap:=h' }) :
  wpAny (model prog w) A.in1 (do raiseNew (← newExc (.type "StopIteration") []):Sem PySem.Fin) (fun fin s'=>∃ v,fin=.done (.ret v)∧wpAny (model prog w) A (pure (some v)) Q E s')
   (fun e s'=>wpAny (model prog w) A (do if ← isInstance e (.type "StopIteration") then pure none else throw e) Q E s') s:=by
 refine wpAny_bind ?_
 simp only [newExc,newTuple]
 refine wpAny_bind (wpAny_newObj_type ?_ (by size_fits))
 refine wpAny_bind (m:=firstArgMember _ _) (wpAny_of_eq (a:=Value.none) (by first | rfl | (simp only [firstArgMember];rfl)) (wpAny_newObj_type ?_ (by size_fits)))
 simp only [raiseNew]
 refine wpAny_bind (wpAny_handled ?_)
 rw [show A.in1.handled=none from hh]
 refine wpAny_bind (wpAny_pure (wpAny_throw ?_))
 refine wpAny_bind (wpAny_isInstance (b:=true) (T:="StopIteration") ⟨_,Heap.get?_push_size _ rfl,rfl⟩ isSubtype_stop ?_)
 exact wpAny_pure (h _ fun b o e=>Heap.get?_push_of_some _ (Heap.get?_push_of_some _ e))
theorem Zok {I a : Addr}{es : Array (Int × Value)}{ep : Nat}{t : SetTable}{ord : List Value}{fst : Nat → Value}{ps : List Addr}{o : Obj}{Q : Option Value → Shared → Prop}(hh : A.handled = none)
    (hit : SIt s.heap I a (fst es.size) es.size es.size ep) (ho : s.heap.get? a = some o) (hd : o.data = .set es ep t) (hf : t.fits es.size = true) (k : Wk w s.heap a es ep t ord fst ps)
    (hQ : ∀ h', Heap.ExtBut I s.heap h' → Q none { s with heap := h' }) : wpAny (model prog w) A (pyNext (.ref I)) Q E s := by
  obtain ⟨oi, hoi, hci, hdi⟩ := id hit
  have hol : ord.length = es.size := by rw [k.perm.length_eq]; simp
  unfold pyNext
  refine wpAny_bind (wpAny_attempt (wpAny_callSpecial?_slot (name := Str.ofString "__next__") hit.ty Zbm (wpAny_call_entry Zbm hit.ty ZfI ?_ (Zg7 _))))
  show wpAny _ _ (fieldsOf (.ref I) >>= _) _ _ s
  refine wpAny_bind (wpAny_fieldsOf hoi hdi ?_)
  dsimp only
  show wpAny _ _ (setEntries a >>= _) _ _ s
  refine wpAny_bind (wpAny_setEntries_of ho hd hf ?_)
  rw [if_neg (by simp)]
  have main : ∀ (zi : Nat), fst es.size = rawInt (zi : Nat) → Wk w s.heap a es ep t ord fst [] → wpAny (model prog w) A.in1 (do
      match ← setNext a zi es.size ep with
      | some (x, next) =>
        setField (.ref I) 0 (rawInt next)
        setField (.ref I) 1 (rawInt ((es.size : Int) + 1))
        ret x
      | none => setField (.ref I) 2 .none; raiseNew (← newExc (.type "StopIteration") [])) (fun fin s' => ∃ v, fin = .done (.ret v) ∧ wpAny (model prog w) A (pure (some v)) Q E s')
        (fun e s' => wpAny (model prog w) A (do if ← isInstance e (.type "StopIteration") then pure none else throw e) Q E s') s := by
    intro zi hz k0
    refine wpAny_bind (Wk.next ho hd hf fst k0 hz (Nat.le_refl _) fun zn hzn => ?_)
    rw [List.getElem?_eq_none (by omega)]
    show wpAny _ _ (setField (.ref I) 2 .none >>= _) _ _ s
    refine wpAny_bind (wpAny_setField hoi hdi (by simp) ?_)
    exact Zle hh fun h' hk => hQ h' fun b o hb e => hk b o ((Heap.SameBut.update s.heap I _).extBut b o hb e)
  cases k with
  | text hb => exact main 0 rfl (.text hb)
  | plain hb hdr hl hr => exact main _ rfl (.plain hb hdr hl hr)
  | drawn hb p c pl hp op hop hdp =>
    show wpAny _ _ (seqItems? (.ref p) >>= _) _ _ s
    refine wpAny_bind (wpAny_seqItems hop hdp ?_)
    have hpl : pl.length = es.size := by rw [hp.length_eq]; simp
    have e1 : ((pl.map fun (j : Nat) => rawInt j).toArray)[(es.size : Int).toNat]? = none := by simp [hpl]
    dsimp only
    rw [e1]
    dsimp only
    refine wpAny_bind (wpAny_setField hoi hdi (by simp) ?_)
    have h1 := ZeV (i' := es.size) hit 0 (rawInt 0) (f' := rawInt 0) (by simp)
    obtain ⟨o1, g1, c1, d1⟩ := id h1
    refine wpAny_bind (wpAny_setField g1 d1 (by simp) ?_)
    exact Zle hh fun h' hk => hQ h' fun b o hb e => hk b o (((Heap.SameBut.update s.heap I _).trans (Heap.SameBut.update _ I _)).extBut b o hb e)
theorem Zmq {I a:Addr}{f:Value}{i n ep:Nat}{Q:Value→Shared→Prop}(hit:SIt s.heap I a f i n ep)(h:Q (.ref I) s):wpAny (model prog w) A (pyIter (.ref I)) Q E s:=by
 refine wpAny_pyIter_slot hit.ty Zg3 (wpAny_call_entry Zg3 hit.ty Zkb ?_ (Zlo _))
 show wpAny _ _ (ret (.ref I)) _ _ s
 exact wpAny_pure ⟨_,rfl,"set_iterator",_,hit.ty,Zbm.lookup,h⟩
end
end PV
set_option linter.all false
set_option Elab.async false
set_option maxRecDepth 100000
set_option maxHeartbeats 4000000
namespace PV
open PySem PyProof.Rows
section
variable {prog:Program} {w:World} {A:Around} {E:Value→Shared→Prop} {s:Shared}
theorem Zmy (hh:A.handled=none){I a:Addr}(hne:a≠I){es:Array (Int × Value)}{ep:Nat}{t:SetTable}{ord:List Value}{fst:Nat→Value}{ps:List Addr}(hps:I ∉ ps){o:Obj}(hd:o.data=.set es ep t)(hf:t.fits es.size=true) :
  WalksS prog w A I (I::a::ps) [I] (fun a b=>b=a) es.size (fun i v=>ord[i]?=some v) (fun i s=>SIt s.heap I a (fst i) i es.size ep∧s.heap.get? a=some o∧Wk w s.heap a es ep t ord fst ps) where
 sub:=fun b hb=>by simp at hb;simp [hb]
 grefl:=fun _=>rfl
 gtrans:=fun _ _ _ h1 h2=>h2.trans h1
 frame:=fun i s h' tk st _ hk=>⟨let ⟨oi,h1,h2⟩:=st.1;⟨oi,hk I (by simp) _ h1,h2⟩,hk a (by simp) _ st.2.1,st.2.2.mono fun b hb=>hk b (by simp [hb])⟩
 item:=fun i s Q E hi st hQ=>ZmM st.1 st.2.1 hd hf hne st.2.2 hps hi fun v h' hv hit' sb =>
  hQ v _ hv ⟨hit',sb.extBut a _ hne st.2.1,st.2.2.mono fun b hb o e=>sb.extBut b o (fun e=>hps (e ▸ hb)) e⟩ ⟨fun b o hb e=>sb.extBut b o (fun h=>hb (by simp [h])) e,rfl,rfl,rfl,Nat.le_refl _⟩
 done:=fun s Q E st hQ=>Zok hh st.1 st.2.1 hd hf st.2.2 fun h' he=>hQ _ ⟨fun b o hb e=>he b o (fun h=>hb (by simp [h])) e,rfl,rfl,rfl,Nat.le_refl _⟩
 self:=fun i s Q E st hQ=>Zmq st.1 hQ
theorem ZlO {xs:Array Nat}(h:xs.size≤1):Ris xs:=fun i j hi hj hij=>by omega
theorem Zom {a:Addr}{led:Bool}{ks:List Int}{o:Obj}{es:Array (Int × Value)}{ep:Nat}{t:SetTable}(ho:s.heap.get? a=some o)(S:SetO prog w led ks o es ep t):s.TypeIs (.ref a) "set":=⟨o,ho,S.ex.1⟩
theorem ZmC {a : Addr}{ks : List Int}{o : Obj}{es : Array (Int × Value)}{ep : Nat}{t : SetTable}{Q : Value → Shared → Prop}(ho : s.heap.get? a = some o)(S : SetO prog w (!byT w) ks o es ep t)
    (h : ∀ h' dr I ord fst ps, (∀ b o, s.heap.get? b = some o → h'.get? b = some o) → (∀ b ∈ I :: ps, s.heap.objs.size ≤ b) → I ∉ ps → SIt h' I a (fst 0) 0 es.size ep → Wk w h' a es ep t ord fst ps → Q (.ref I) { s with heap := h', drawn := dr }) :
    wpAny (model prog w) A (pyIter (.ref a)) Q E s := by
  have hT := Zom ho S
  have hsz : es.size ≤ sizeLine := fits_of_scanBound S.few
  have hfit : t.place.size = es.size := by have := S.fit; simp only [SetTable.fits, Bool.and_eq_true, beq_iff_eq] at this; exact this.1
  refine wpAny_pyIter_slot hT F.slot_set_iter (wpAny_call_entry F.slot_set_iter hT Zj3 ?_ (F.args_set_iter_1 _))
  show wpAny _ _ (Builtin.Frozenset.sizeOf a >>= _) _ _ s
  unfold Builtin.Frozenset.sizeOf
  refine wpAny_bind (wpAny_bind (wpAny_setEntries_of ho S.dat S.fit (wpAny_pure ?_)))
  unfold setDrawn
  refine wpAny_bind (wpAny_bind (wpAny_setState_of ho S.dat S.fit ?_))
  dsimp only
  refine wpAny_bind (m := setsByText) (wpAny_bind (wpAny_askSetting (wpAny_pure (wpAny_pure ?_))))
  show wpAny _ _ (if (!byT w && (!t.plain && decide (es.size > 1))) = true then _ else _) _ _ s
  have fin : ∀ (f : Value) (s1 : Shared) (dr) (ord fst ps), s1 = { s with heap := s1.heap, drawn := dr } → (∀ b o, s.heap.get? b = some o → s1.heap.get? b = some o) → s.heap.objs.size ≤ s1.heap.objs.size → (∀ b ∈ ps, s.heap.objs.size ≤ b ∧ b < s1.heap.objs.size) →
      Wk w s1.heap a es ep t ord fst ps → f = fst 0 → wpAny (model prog w) A.in1 (do
        let __do_lift ← setEpoch a
        let __do_lift ← newFields "set_iterator" [f, rawInt 0, .ref a, rawInt (es.size : Nat), rawInt (__do_lift : Nat)]
        ret __do_lift) (fun fin s' => ∃ v, fin = .done (.ret v) ∧ ∃ T' r, s'.TypeIs v T' ∧ typeLookup (.type T') "__next__" = pure (some r) ∧ Q v s') E s1 := by
    intro f s1 dr ord fst ps es1 hk hle hps k hf
    refine wpAny_bind (wpAny_setEpoch_of (hk _ _ ho) S.dat S.fit ?_)
    unfold newFields
    refine wpAny_bind (wpAny_newObj_type ?_ (by show sizeOk _; simp [sizeOk, sizeLine_eq]))
    refine wpAny_pure ⟨_, rfl, "set_iterator", _, ⟨_, Heap.get?_push_size _ rfl, rfl⟩, Zbm.lookup, ?_⟩
    rw [es1]
    refine h _ dr _ ord fst ps (fun b o e => Heap.get?_push_of_some _ (hk b o e)) (fun b hb => ?_) (fun hI => ?_) ?_ (k.mono fun b hb o e => Heap.get?_push_of_some _ e)
    · rcases List.mem_cons.mp hb with rfl | hb
      · exact hle
      · exact (hps b hb).1
    · exact Nat.lt_irrefl _ (hps _ hI).2
    · subst hf; exact ⟨_, Heap.get?_push_size _ rfl, rfl, rfl⟩
  have same : s = { s with heap := s.heap, drawn := s.drawn } := by cases s; rfl
  cases hb : byT w with
  | true =>
    rw [if_neg (by simp)]
    refine wpAny_bind (wpAny_pure ?_)
    exact fin (rawInt 0) s s.drawn _ _ [] same (fun _ _ e => e) (Nat.le_refl _) (by simp) (.text hb) rfl
  | false =>
    by_cases hdr : (!t.plain && decide (es.size > 1)) = true
    · rw [if_pos (by rw [hdr]; rfl)]
      refine wpAny_bind (Zqb es.size (List.range es.size) s _ (by simp) fun ys dr hp => ?_)
      refine wpAny_bind (wpAny_newTuple ?_ (by rw [List.length_map, hp.length_eq, List.length_range]; exact hsz))
      refine fin _ _ dr _ _ [s.heap.objs.size] rfl (fun b o e => Heap.get?_push_of_some _ e) (by show s.heap.objs.size ≤ (s.heap.push _).objs.size; rw [Heap.size_push]; omega) (fun b hb => by
        simp at hb; subst hb; refine ⟨Nat.le_refl _, ?_⟩; show _ < (s.heap.push _).objs.size; rw [Heap.size_push]; omega) (.drawn hb s.heap.objs.size 0 ys hp _ (Heap.get?_push_size _ rfl) rfl) rfl
    · rw [if_neg (by simp at hdr ⊢; exact hdr)]
      refine wpAny_bind (wpAny_pure ?_)
      refine fin (rawInt 0) s s.drawn _ _ [] same (fun _ _ e => e) (Nat.le_refl _) (by simp) (.plain hb (by simpa using hdr) (by rw [S.ok.led, hb]; rfl) ?_) rfl
      cases hp : t.plain with
      | true => exact S.ok.ris hp
      | false => exact ZlO (by rw [hp] at hdr; simp at hdr; omega)
end
end PV
set_option linter.all false
set_option Elab.async false
set_option maxRecDepth 100000
set_option maxHeartbeats 4000000
namespace PV
open PySem PyProof.Rows
section
variable {prog:Program} {w:World} {A:Around} {E:Value→Shared→Prop} {s:Shared}
theorem ZiZ {a:Addr}{ks:List Int}{Q:List Value→Shared→Prop}(hh:A.handled=none)(hS:SetX prog w s.heap a (!byT w) ks)
  (h:∀ h' dr tk vs js,(∀ b o,s.heap.get? b=some o→h'.get? b=some o)→s.heap.objs.size < h'.objs.size→IntsAre vs js→js.Perm ks→Q vs { s with heap:=h',drawn:=dr,toks:=tk }):wpAny (model prog w) A (collect (.ref a)) Q E s:=by
 obtain ⟨o,es,ep,t,ho,S⟩:=hS
 have hn:es.size≤sizeLine:=fits_of_scanBound S.few
 have ha:a < s.heap.objs.size:=Heap.lt_size ho
 unfold collect
 refine wpAny_bind (wpAny_runValue (codeAny_builtin F.entry_proto_collect ?_))
 rw [Around.under_plainId F.plain_proto_collect _]
 show wpAny _ A.in1 (newList [] >>= fun l=>again (.builtin "list.__iadd__" ⟨[l,.ref a],[]⟩)) _ _ s
 refine wpAny_bind (wpAny_newObj_type (wpAny_pure ⟨plainId_quiet F.plain_list_iadd _,codeAny_builtin F.entry_list_iadd ?_⟩))
 rw [Around.under_plainId F.plain_list_iadd _]
 generalize hP:s.heap.push { cls:=.type "list",data:=.seq ([]:List Value).toArray }=hp1
 have hL1:hp1.get? s.heap.objs.size=some { cls:=.type "list",data:=.seq ([]:List Value).toArray }:=hP ▸ Heap.get?_push_size _ rfl
 have up1:∀ b o,s.heap.get? b=some o→hp1.get? b=some o:=fun b o e=>hP ▸ Heap.get?_push_of_some _ e
 have sz1:s.heap.objs.size < hp1.objs.size:=Heap.lt_size hL1
 have hT:Shared.TypeIs { s with heap:=hp1 } (.ref a) "set":=⟨o,up1 _ _ ho,S.ex.1⟩
 show wpAny _ A.in1 (Builtin.List.listExtendWith (.ref s.heap.objs.size) (.ref a) (.ref s.heap.objs.size)) _ _ { s with heap:=hp1 }
 unfold Builtin.List.listExtendWith
 refine wpAny_bind (wpAny_typeOf hT ?_)
 have c1:Builtin.List.listSameRef (.ref s.heap.objs.size) (.ref a)=false:=by simp only [Builtin.List.listSameRef,beq_eq_false_iff_ne,ne_eq];exact Nat.ne_of_gt ha
 have c2:(Value.type "set" == Value.type "list")=false:=by decide
 have c3:(Value.type "set" == Value.type "tuple")=false:=by decide
 simp only [c1,c2,c3,Bool.or_false,Bool.false_eq_true,if_false]
 refine wpAny_bind (ZmC (s:={ s with heap:=hp1 }) (up1 _ _ ho) S fun h2 dr I ord fst ps up2 new hI hit k=>?_)
 have hT2:Shared.TypeIs { s with heap:=h2,drawn:=dr } (.ref a) "set":=⟨o,up2 _ _ (up1 _ _ ho),S.ex.1⟩
 refine wpAny_bind (wpAny_holding ?_)
 unfold Builtin.List.listLengthHint
 refine wpAny_bind (wpAny_specialOf hT2 F.slot_set_len.lookup ?_)
 have sp:splitId "set.__len__"=some ("set","__len__"):=by decide +kernel
 dsimp only
 rw [sp]
 dsimp only
 refine wpAny_bind (wpAny_isInstance (b:=true) hT2 sub_set_self ?_)
 rw [if_neg (by simp),if_pos (by decide +kernel)]
 refine wpAny_bind (wpAny_typeOf hT2 (wpAny_pure ?_))
 rw [if_pos (by decide +kernel)]
 refine wpAny_bind (wpAny_rule (wpAny_bind ?_))
 show wpAny _ A.in1 (updateSeq s.heap.objs.size (·.push .none) >>= fun _=>updateSeq s.heap.objs.size (·.pop)) _ _ _
 have g1:=up2 _ _ hL1
 refine wpAny_bind (wpAny_updateSeq g1 rfl ?_)
 have g2:=Heap.get?_update_self (Obj.mapSeq (·.push Value.none)) g1 rfl
 refine wpAny_updateSeq g2 rfl ?_
 have g3:=Heap.get?_update_self (Obj.mapSeq (·.pop)) g2 rfl
 have oth0:∀ b o,b≠s.heap.objs.size→h2.get? b=some o→((h2.update s.heap.objs.size (Obj.mapSeq (·.push Value.none))).update s.heap.objs.size (Obj.mapSeq (·.pop))).get? b=some o :=
  fun b o hb e=>(Heap.get?_update_other _ _ (Ne.symm hb)).trans ((Heap.get?_update_other _ _ (Ne.symm hb)).trans e)
 obtain ⟨h4,e4⟩:∃ h4,h4=(h2.update s.heap.objs.size (Obj.mapSeq (·.push Value.none))).update s.heap.objs.size (Obj.mapSeq (·.pop)):=⟨_,rfl⟩
 have oth:∀ b o,b≠s.heap.objs.size→h2.get? b=some o→h4.get? b=some o:=by rw [e4];exact oth0
 have g4:∃ c,h4.get? s.heap.objs.size=some { cls:=.type "list",dict:=none,data:=.seq #[] c,slots:=#[] }:=⟨_,by rw [e4];exact g3⟩
 obtain ⟨c4,g4⟩:=g4
 show wpAny _ A.in1 _ _ _ { s with heap:=(h2.update s.heap.objs.size (Obj.mapSeq (·.push Value.none))).update s.heap.objs.size (Obj.mapSeq (·.pop)),drawn:=dr }
 rw [← e4]
 clear e4 oth0 g3 g2
 have out:∀ b ∈ I::a::ps,b≠s.heap.objs.size:=fun b hb=>by
  rcases List.mem_cons.mp hb with rfl | hb
  ·have:=new b (by simp);simp only at this;omega
  ·rcases List.mem_cons.mp hb with rfl | hb
   ·exact Nat.ne_of_lt ha
   ·have:=new b (by simp [hb]);simp only at this;omega
 have hne:a≠I:=Nat.ne_of_lt (Nat.lt_of_lt_of_le (Nat.lt_trans ha sz1) (new I (by simp)))
 have W:=Zmy (prog:=prog) (w:=w) (A:=A.in1) (by simpa using hh) hne (ord:=ord) (fst:=fst) hI (o:=o) S.dat S.fit
 have st:SIt h4 I a (fst 0) 0 es.size ep:=by
  obtain ⟨oi,h1,h3⟩:=hit
  exact ⟨oi,oth I _ (out I (by simp)) h1,h3⟩
 have st2:h4.get? a=some o:=oth _ _ (out a (by simp)) (up2 _ _ (up1 _ _ ho))
 have st3:Wk w h4 a es ep t ord fst ps:=k.mono fun b hb o e=>oth b o (out b (by simp [hb])) e
 refine wpAny_pure ⟨plainId_quiet F.plain_extend_loop _,codeAny_extend_loopS W hn s.heap.objs.size (fun hm=>out _ hm rfl) (.ref s.heap.objs.size) es.size 0 { s with heap:=h4,drawn:=dr } #[] c4 rfl (Nat.zero_le _) ⟨st,st2,st3⟩ g4 (ItemsOf.nil _) fun s' acc' c' hm hS' hacc=>?_⟩
 show wpAny _ A (load s.heap.objs.size >>= _) _ _ s'
 refine wpAny_bind (wpAny_load hS' (wpAny_pure ?_))
 have e1:acc'.toList=ord:=by
  have hol:ord.length=es.size:=by rw [k.perm.length_eq];simp
  apply List.ext_getElem?
  intro j
  rcases Nat.lt_or_ge j acc'.size with hj | hj
  ·have:=hacc.2 j acc'[j] (by simp [hj])
   rw [this];simp [hj]
  ·rw [List.getElem?_eq_none (by simpa using hj),List.getElem?_eq_none (by rw [hol,← hacc.1];exact hj)]
 obtain ⟨js,j1,j2⟩:=S.ks
 obtain ⟨js',r1,r2⟩:=Zey (e1 ▸ k.perm) j1
 obtain ⟨h9,g9,d9,t9,o9⟩:=s'
 have eg:g9=s.gens:=hm.gens
 have ed:d9=dr:=hm.drawn
 have eo:o9=s.os:=hm.os
 subst eg;subst ed;subst eo
 refine h h9 d9 t9 acc'.toList js' (fun b ob e=>?_) (Heap.lt_size hS') r1 (r2.trans j2)
 have hb:b≠s.heap.objs.size:=Nat.ne_of_lt (Heap.lt_size e)
 have hbI:b≠I:=Nat.ne_of_lt (Nat.lt_of_lt_of_le (Heap.lt_size (up1 _ _ e)) (new I (by simp)))
 exact hm.heap b ob (by simp [hb,hbI]) (oth b ob hb (up2 _ _ (up1 _ _ e)))
theorem Zj0 {a:Addr}{ks:List Int}{Q:Value→Shared→Prop}(hh:A.handled=none)(hS:SetX prog w s.heap a (!byT w) ks)(h64:ks.length < 64)
  (h:∀ h' dr tk D vs js c,(∀ b o,s.heap.get? b=some o→h'.get? b=some o)→s.heap.objs.size≤D→h'.get? D=some (seqObj "list" vs.toArray c)→IntsAre vs js→js.Perm ks→js.Pairwise (·≤·)→Q (.ref D) { s with heap:=h',drawn:=dr,toks:=tk }) :
  wpAny (model prog w) A (call (.builtin "sorted") [.ref a]) Q E s:=by
 refine Calls.call_function_entry kind_sorted plain_sorted entry_sorted (args_sorted1 _) ?_
 unfold Builtin.«sorted»
 refine wpAny_bind (m:=checkCount "sorted" 1 1 _) (wpAny_pure (wpAny_bind (ZiZ (by simpa using hh) hS fun h1 dr tk vs js up1 sz1 hv hj=>?_)))
 have hlen:vs.length=ks.length:=by rw [← hj.length_eq,(Zau.mp hv).2];simp
 refine wpAny_bind (wpAny_newList ?_ (by rw [sizeLine_eq];omega))
 generalize hP:h1.push { cls:=.type "list",data:=.seq vs.toArray }=h2
 have g2:h2.get? h1.objs.size=some (seqObj "list" vs.toArray 0):=hP ▸ Heap.get?_push_size _ rfl
 have up2:∀ b o,h1.get? b=some o→h2.get? b=some o:=fun b o e=>hP ▸ Heap.get?_push_of_some _ e
 show wpAny _ _ _ _ _ { s with heap:=h2,drawn:=dr,toks:=tk }
 refine wpAny_bind (wpAny_holding (wpAny_call_entry slot_list_sort ⟨_,g2,rfl⟩ entry_list_sort (list_sort_tree g2 hv (by omega) fun out ns' a1 a2 a3=>⟨_,rfl,wpAny_pure ⟨_,rfl,?_⟩⟩) (args_list_sort _)))
 have hlt:h1.objs.size < h2.objs.size:=Heap.lt_size g2
 have key:∃ c,(sortedHeap h2 h1.objs.size vs out).get? h1.objs.size=some (seqObj "list" out c):=by
  unfold sortedHeap
  obtain ⟨e1,q1⟩:∃ e1,(h2.update h1.objs.size (Obj.mapSeq fun _=>#[])).get? h1.objs.size=some (seqObj "list" #[] e1):=⟨_,get?_update_seq g2 (fun _=>#[])⟩
  exact ⟨_,get?_update_seq (c:="list") (n:=e1) (xs:=#[]) (Heap.get?_push_of_some _ (Heap.get?_push_of_some _ q1)) (fun _=>out)⟩
 obtain ⟨c,hc⟩:=key
 refine h _ dr tk h1.objs.size out.toList ns' c (fun b ob e=>?_) (by omega) (by simpa using hc) a1 (a2.trans hj) a3
 have hb:b≠h1.objs.size:=Nat.ne_of_lt (Heap.lt_size (up1 _ _ e))
 unfold sortedHeap
 rw [Heap.get?_update_other _ _ (Ne.symm hb)]
 refine Heap.get?_push_of_some _ (Heap.get?_push_of_some _ ?_)
 rw [Heap.get?_update_other _ _ (Ne.symm hb)]
 exact up2 _ _ (up1 _ _ e)
end
end PV
set_option linter.all false
set_option Elab.async false
set_option maxRecDepth 100000
set_option maxHeartbeats 4000000
namespace PV
open PySem PyProof.Rows PySem.Spec
section
variable {prog:Program} {w:World} {A:Around} {E:Value→Shared→Prop} {s:Shared}
theorem SetX.keep {h h':Heap}{a:Addr}{led:Bool}{ks:List Int}(x:SetX prog w h a led ks)(hk:∀ o,h.get? a=some o→h'.get? a=some o):SetX prog w h' a led ks:=by
 obtain ⟨o,es,ep,t,ho,S⟩:=x
 exact ⟨o,es,ep,t,hk o ho,S⟩
theorem Zj7 {h:Heap} {a:Addr} {led:Bool} (ho:h.get? a=some { cls:=.type "set",dict:=none,data:=.set #[] 0 (.fresh 0 0 led) }):SetX prog w h a led [] :=
 ⟨_,#[],0,_,ho,⟨rfl,rfl,rfl⟩,rfl,fun e he=>by simp at he,⟨[],.nil,.refl _⟩,by decide,rfl,ZiP _ _ _⟩
theorem ZmG {R:Result→Shared→Prop}{I:Addr}{fp wr:List Addr}{G:Array GenState→Array GenState→Prop}{P:Nat→Value→Prop}{St:Nat→Shared→Prop}{ns:List Int}{led:Bool}
  (W:WalksS prog w A.in1 I fp wr G ns.length P St) (a:Addr) (ha:a ∉ fp) (hv:∀ i v,P i v→∃ t,v=.int (ns.getD i 0) t) (hb:ns.length + 1 < scanBound) :
  ∀ (k i:Nat) (s:Shared),ns.length - i=k→i≤ns.length→St i s→SetX prog w s.heap a led (seen (ns.take i)) →
   (∀ s',Moved (a::wr) G s s'→SetX prog w s'.heap a led (seen ns)→R (.ok (.ret .none)) s')→codeAny (model prog w) A (.builtin "set.update.loop" ⟨[.ref a,.ref I],[]⟩) R s:=by
 have haw:a ∉ wr:=fun h=>ha (W.sub _ h)
 have sub:∀ b ∈ wr,b ∈ a::wr:=fun b hb=>List.mem_cons_of_mem _ hb
 intro k
 induction k with
 | zero =>
  intro i s hk hi st hS hR
  have e:i=ns.length:=by omega
  subst e
  rw [List.take_length] at hS
  refine codeAny_builtin F.entry_set_update_loop ?_
  rw [Around.under_plainId F.plain_set_update_loop _]
  show wpAny _ A.in1 (pyNext (.ref I) >>= _) _ _ s
  exact wpAny_bind (W.done s _ _ st fun s' hm=>wpAny_pure (hR s' (hm.mono sub) (hS.keep fun o e=>hm.heap a o haw e)))
 | succ k ih =>
  intro i s hk hi st hS hR
  have hlt:i < ns.length:=by omega
  refine codeAny_builtin F.entry_set_update_loop ?_
  rw [Around.under_plainId F.plain_set_update_loop _]
  show wpAny _ A.in1 (pyNext (.ref I) >>= _) _ _ s
  refine wpAny_bind (W.item i s _ _ hlt st fun v s' hP st' hm=>?_)
  obtain ⟨t,rfl⟩:=hv i v hP
  have hS':=hS.keep fun o e=>hm.heap a o haw e
  show wpAny _ A.in1 (holding [Value.int (ns.getD i 0) t] (setAdd a (.int (ns.getD i 0) t)) >>= _) _ _ s'
  refine wpAny_bind (wpAny_holding ?_)
  unfold setAdd
  refine wpAny_holding (wpAny_bind ((intKind prog w).pyHash (k:=ns.getD i 0) (intKind_is _ _ _ _) ?_))
  have room:(seen (ns.take i)).length + 1 < scanBound:=by have:=Zmw (ns.take i);rw [List.length_take] at this;omega
  refine Zp5 (s:={ s' with toks:=s'.toks + 1 }) hS' room fun h' b sb hS2=>?_
  have e2:addv (seen (ns.take i)) (ns.getD i 0)=seen (ns.take (i + 1)):=by rw [← ZkV,List.take_add_one,List.getElem?_eq_getElem hlt,List.getD_eq_getElem?_getD,List.getElem?_eq_getElem hlt];rfl
  rw [e2] at hS2
  refine wpAny_pure ⟨plainId_quiet F.plain_set_update_loop _,ih (i + 1) _ (by omega) hlt (W.frame _ s' _ _ st' (Nat.le_succ _) fun b hb o e=>?_) hS2 fun s2 hm2 hS3=>?_⟩
  ·rw [sb.2 b fun h=>ha (h ▸ hb)];exact e
  ·refine hR s2 (Moved.trans W.gtrans ((hm.mono sub).then_heap (Nat.le_succ _) fun b o hb e=>?_) hm2) hS3
   rw [sb.2 b fun h=>hb (h ▸ List.mem_cons_self)];exact e
theorem ZnJ (x:Value) {Q:Value→Shared→Prop} (h:Q (.ref s.heap.objs.size) { s with heap:=s.heap.push { cls:=.type "set",dict:=none,data:=.set #[] 0 (.fresh 0 0 (!byT w)) } }) :
  codeAny (model prog w) A (.call (.builtin "set.__new__") ⟨[.type "set",x],[]⟩) (wants Q E) s:=by
 refine codeAny_of_tree ?_
 show wpAny _ A.in1 (do checkBuiltinCall "set.__new__" ⟨[.type "set",x],[]⟩;again (.builtin "set.__new__" ⟨[.type "set",x],[]⟩)) _ _ s
 refine wpAny_bind (wpAny_of_eq (PySem.F.newCall_set_1 x) (wpAny_pure ⟨plainId_quiet F.plain_set_new _,codeAny_builtin F.entry_set_new ?_⟩))
 rw [Around.under_plainId F.plain_set_new _]
 unfold Builtin.«set.__new__» Builtin.Frozenset.newClass
 have hsub:=sub_set_self
 obtain ⟨hp,g,d,tk,os⟩:=s
 dsimp only
 wp_walk
 refine wpAny_askSetting (wpAny_pure ?_)
 dsimp only
 simp only [newObj]
 exact wpAny_bind (wpAny_alloc (wpAny_pure (wpAny_pure h)))
set_option maxHeartbeats 3200000 in
theorem ZmD {l:Addr}{its:Array Value}{ns:List Int}{Q:Value→Shared→Prop}(hh:A.handled=none)(hl:s.heap.IsList l its)(hi:IntsAre its.toList ns)(hb:ns.length + 1 < scanBound)
  (h:∀ (h':Heap) (tk:Nat),SetX prog w h' s.heap.objs.size (!byT w) (seen ns)→(∀ b o,b < s.heap.objs.size→s.heap.get? b=some o→h'.get? b=some o)→Q (.ref s.heap.objs.size) { s with heap:=h',toks:=tk }) :
  wpAny (model prog w) A (call (.type "set") [.ref l]) Q E s:=by
 have hlen:its.size=ns.length:=by rw [(Zau.mp hi).2];simp
 obtain ⟨c,tl,hmro⟩:=F.called_set.mro
 have hmade:=F.called_set.made
 have hsub:=F.called_set.sub
 refine wpAny_call (codeAny_of_tree ?_)
 show wpAny _ _ (callAny (.type "set") _) _ _ _
 refine wpAny_pure ⟨Code.quiet_builtin _ (by decide +kernel),codeAny_builtin F.entry_type_call ?_⟩
 rw [Around.under_plain (weight_type_call_type "set" [.ref l] []) rfl]
 have h1:=F.called_set.notType
 have h2:=F.called_set.canCreate
 have hct:=PySem.F.typeCall_set_1 (.ref l)
 repeat (any_goals (first | assumption | wp_step))
 refine codeAny_mono (ZnJ (.ref l) (E:=E) (Q:=fun obj s₁=>obj=.ref s.heap.objs.size∧s₁={ s with heap:=s.heap.push { cls:=.type "set",dict:=none,data:=.set #[] 0 (.fresh 0 0 (!byT w)) } }) ⟨rfl,rfl⟩) fun r s₁ hr=>?_
 cases r with
 | error e=>exact hr
 | ok fl =>
  cases fl with
  | ret obj =>
   obtain ⟨rfl,rfl⟩:=hr
   have g0:(s.heap.push { cls:=.type "set",dict:=none,data:=.set #[] 0 (.fresh 0 0 (!byT w)) }).get? s.heap.objs.size=some { cls:=.type "set",dict:=none,data:=.set #[] 0 (.fresh 0 0 (!byT w)) }:=Heap.get?_push_size _ rfl
   have hT:Shared.TypeIs { s with heap:=s.heap.push { cls:=.type "set",dict:=none,data:=.set #[] 0 (.fresh 0 0 (!byT w)) } } (.ref s.heap.objs.size) "set":=⟨_,g0,rfl⟩
   have hli:=F.called_set.init.lookup
   have hbi:=F.called_set.init.bind (.ref s.heap.objs.size)
   repeat (any_goals (first | assumption | wp_step))
   refine codeAny_mono (codeAny_call_builtin (R:=wants (fun r s₂=>r=.none∧∃ h' tk,s₂={ s with heap:=h',toks:=tk }∧SetX prog w h' s.heap.objs.size (!byT w) (seen ns)∧(∀ b o,b < s.heap.objs.size→s.heap.get? b=some o→h'.get? b=some o)) E)
    F.called_set.init.plain F.entry_set_init (check_set_init_1 hT ?_)) fun r₂ s₂ hr₂=>?_
   ·obtain ⟨ol,hol,hcl,nl,hdl⟩:=hl
    obtain ⟨ocls,odict,odata,oslots⟩:=ol
    simp only at hcl hdl
    subst hcl;subst hdl
    have hol':(s.heap.push { cls:=.type "set",dict:=none,data:=.set #[] 0 (.fresh 0 0 (!byT w)) }).get? l=some { cls:=.type "list",dict:=odict,data:=.seq its nl,slots:=oslots }:=Heap.get?_push_of_some _ hol
    have hsls:=PySem.F.sub_list_set
    have hslf:=PySem.F.sub_list_frozenset
    have hne:(Value.type "list" == Value.type "dict")=false:=by decide
    have hl1:(s.heap.push { cls:=.type "set",dict:=none,data:=.set #[] 0 (.fresh 0 0 (!byT w)) }).IsList l its:=⟨_,hol',rfl,nl,rfl⟩
    unfold Builtin.«set.__init__» noKeywords Builtin.Frozenset.updateFrom
    generalize hPI:pyIter=PI
    wp_walk
    subst hPI
    refine wpAny_pyIter_list hl1 (wpAny_bind (wpAny_runValue ?_))
    have hlS:l < s.heap.objs.size:=Heap.lt_size hol
    have sz:(s.heap.push { cls:=.type "set",dict:=none,data:=.set #[] 0 (.fresh 0 0 (!byT w)) }).objs.size=s.heap.objs.size + 1:=Heap.size_push ..
    have hneI:l≠(s.heap.push { cls:=.type "set",dict:=none,data:=.set #[] 0 (.fresh 0 0 (!byT w)) }).objs.size:=by
     rw [sz];exact Nat.ne_of_lt (Nat.lt_succ_of_lt hlS)
    have W:=(Walks.list (prog:=prog) (w:=w) (A:=A.in1.in1.in1) (by simpa using hh) _ l hneI its).toS
    rw [hlen] at W
    refine ZmG W s.heap.objs.size ?_ (fun i v hv=>IntsAre.int_at hi i v (by rw [Array.getElem?_toList];exact hv)) hb (ns.length - 0) 0 _ rfl (Nat.zero_le _) ⟨⟨_,Heap.get?_push_size _ rfl,rfl,rfl⟩,hl1.push _⟩ (Zj7 (led:=!byT w) (Heap.get?_push_of_some _ g0)) ?_
    ·rw [sz];simp only [List.mem_cons,List.not_mem_nil,or_false,not_or]
     exact ⟨Nat.ne_of_lt (Nat.lt_succ_self _),Nat.ne_of_gt hlS⟩
    ·intro s' hm hS'
     obtain ⟨h',g',d',tk',os'⟩:=s'
     have eg:g'=s.gens:=hm.gens
     have ed:d'=s.drawn:=hm.drawn
     have eo:os'=s.os:=hm.os
     subst eg;subst ed;subst eo
     show wpAny _ _ _ _ _ _
     refine wpAny_pure ?_
     show wpAny _ _ (ret Value.none) _ _ _
     refine wpAny_pure ⟨rfl,h',tk',rfl,hS',fun b o hb e=>hm.heap b o ?_ (Heap.get?_push_of_some _ (Heap.get?_push_of_some _ e))⟩
     rw [sz]
     simp only [List.mem_cons,List.not_mem_nil,or_false,not_or]
     exact ⟨Nat.ne_of_lt hb,Nat.ne_of_lt (Nat.lt_succ_of_lt hb)⟩
   ·cases r₂ with
    | error e=>exact hr₂
    | ok fl₂ =>
     cases fl₂ with
     | ret r =>
      obtain ⟨rfl,h',tk,rfl,hS',hk'⟩:=hr₂
      repeat (any_goals (first | assumption | wp_step))
      exact h _ _ hS' hk'
     | _=>exact hr₂.elim
  | _=>exact hr.elim
end
end PV
set_option linter.all false
set_option Elab.async false
set_option maxRecDepth 100000
set_option maxHeartbeats 4000000
namespace PV
open PySem PySem.Spec PyProof.Rows
open L2 (V Hp HO Vals SqL SqT Same upd Cx PE PT PW PA PS PSs TE TT TA TS Inv RelV Yc Jd Zd Un)
theorem Zir {F A B:Hp}(s:Same A B):Same (cut F B) (cut F A):=fun b o h=>by
 unfold cut at h ⊢
 split at h
 ·rename_i hn;rw [s.free hn];exact h
 ·cases h
theorem ZgS {K:PySem.W.Frag}{H H':Hp}:∀ {ds:List D} {vs:List V},ds.all YQ=true→Reps K H ds vs→Yh H' ds vs
 | [],vs,_,h=>by simp only [Reps,Yh] at h ⊢;exact h
 | d::ds,vs,hs,h=>by
  simp only [Reps,Yh] at h ⊢
  rw [List.all_cons,Bool.and_eq_true] at hs
  obtain ⟨v,r,rfl,h2,h3⟩:=h
  refine ⟨v,r,rfl,?_,ZgS hs.2 h3⟩
  have h1:=hs.1
  cases d <;> simp_all [Rep,RepN,YQ]
noncomputable def tN (K:PySem.W.Frag) (f:Ex):TE:=fun σ H Q=>∃ BF BH F env L d,SOk K BF BH F H σ env L∧f env=some d∧∀ v F' H',Ext F H F' H'→RepN (cut F' BH) d v→Q v H'
noncomputable def tW (K:PySem.W.Frag) (f:Ex):TE:=fun σ H Q=>∃ BF BH F env L d,SOk K BF BH F H σ env L∧f env=some d∧∀ v F' H',Ext F H F' H'→RepN (cut F' H) d v→Q v H'
structure PDn (X:Cx)(e:Expr)(f:Ex):Prop where
 h:PE X e (tN X.K f)
structure PDw (X:Cx)(e:Expr)(f:Ex):Prop where
 h:PE X e (tW X.K f)
noncomputable def rN:RetP:=fun BH F' H' d v=>RepN (cut F' BH) d v
theorem ZbC:∀ BH F' H',rN BH F' H' .non .non:=fun _ _ _=>by simp [rN,RepN]
section
variable {X:Cx} {m m1 m2:Md} {r:RetP} {a b e:Expr} {es:List Expr} {f g:Ex} {fs:List Ex} {pos pos' p p2:Pos}
theorem PDw.n (h:PDw X e f):PDn X e f:=⟨PE.of h.h fun σ H Q ⟨BF,BH,F,env,L,d,S,e,q⟩=>⟨BF,BH,F,env,L,d,S,e,fun v F' H' z r=>q v F' H' z (RepN.mono (Zir S.s0) _ _ r)⟩⟩
theorem PDn.d (h:PDn X e f):PD X .k e f:=PD.mk <| PE.of h.h fun σ H Q ⟨BF,BH,F,env,L,d,S,e,q⟩=>⟨BF,BH,F,env,L,d,S,e,fun v F' H' z r=>q v F' H' z (RepN.rep _ _ (RepN.mono ZbO _ _ r))⟩
theorem PDo.w (h:PDo X m e f)(hf:∀ env d,f env=some d→∃ ds,d=.lst ds∧ds.all YQ=true):PDw X e f:=⟨PE.of h fun σ H Q hh_=>el9 hh_ fun BF BH F env L d S e q=>by
 obtain ⟨ds,rfl,hs⟩:=hf env d e
 refine ⟨BF,BH,F,env,L,ds,S,e,fun a vs F' H' z h0 h1 h2 r=>?_⟩
 have y:Ext F H (upd F' a (.lst vs)) H':=z.frz h0 h1 h2
 refine q _ _ H' y ?_
 simp only [RepN]
 exact ⟨a,vs,rfl,by rw [ZbP h0];exact Yc,ZgS hs r⟩⟩
theorem Zeb (i:Nat) {x:Str} (hN:X.N[i]?=some x:=by kernel_rfl) (hv:visB X.env.scope x=true:=by kernel_rfl) (hd:(x == ("__debug__":Str))=false:=by kernel_rfl)
  (hcd:(x == ("__classdict__":Str))=false:=by kernel_rfl):PDn X (.Name x pos) (ZdC i):=⟨PE.of (L2.JN hN (ZD hv) hd hcd) fun σ H Q hh_=>el9 hh_ fun BF BH F env L d S e q=>by
 unfold ZdC at e
 cases he:env[i]? with
 | none=>rw [he] at e;cases e
 | some s =>
  rw [he] at e
  obtain ⟨ov,h1,h2⟩:=S.sl i s he
  cases s with
  | fr d'=>cases e;obtain ⟨v,rfl,r⟩:=h2;exact ⟨v,h1,q v F H (.refl S.fh) r⟩
  | sh d'=>cases e
  | un=>cases e
  | ow _=>cases e
  | tab _=>cases e
  | dc _=>cases e
  | nw _=>cases e
  | jk _=>cases e
  | jl _=>cases e
  | xc _=>cases e⟩
theorem Zc1 (nd:X.N.Nodup)(i:Nat){x:Str}(ha:PDn X e f)(hi:X.N[i]?=some x:=by kernel_rfl)(hx:locB X.env.scope x=true:=by kernel_rfl)(hs:swapsWith e (some (.Name x pos')) pos.line X.env=pure false:=by rfl)
  (hf:fnB X x=true:=by kernel_rfl):PS1 X r (.Assign [.Name x pos'] e pos) (Zcg i f) :=
 PS1.mk <| PS.of (L2.Zdo nd hi (ZV hx) ha.h hs (Zaj hf)) fun D0 σ H hh_=>el10 hh_ fun BF BH F env L o env' S e k=>by
  unfold Zcg at e
  split at e
  ·rename_i d h1
   cases e
   exact ⟨BF,BH,F,env,L,d,S,h1,fun v F' H' z r=>k F' H' _ _ ((S.ext z).set (l:=[]) i ⟨v,rfl,r⟩ (fun a h=>by cases h) (fun a h=>by cases h)) z.ff⟩
  ·cases e
theorem Zbk (ha:PDn X e f):PS1 X rN (.Return (some e) pos) (sRet f):=PS1.mk <| PS.of (L2.ZfR ha.h) fun D0 σ H hh_=>el10 hh_ fun BF BH F env L o env' S e k=>by
 unfold sRet at e
 split at e
 ·rename_i d h1
  cases e
  exact ⟨BF,BH,F,env,L,d,S,h1,fun v F' H' z r=>k F' H' σ L (S.ext z) z.ff v r⟩
 ·cases e
theorem Zak {k:Nat} {x:Str} {φ:List D→Option D} (G:Cal X.prog X.w X.K X.mg X.base k x rN φ) (hr:L2.Room k X.A) (ha:PAd X .k (e::es) fs) (hg:X.env.kindOf x=some .globalImplicit:=by kernel_rfl) (hdb:(x == ("__debug__":Str))=false:=by kernel_rfl)
  (hn:nst e=true:=by rfl) (hns:nsts es=true:=by rfl):PDw X (.Call (.Name x p) (e::es) [] pos) (Ye φ fs) :=
 ⟨PE.of (ZfA G hr ha hg hdb (Jh hn) (Zbg hns)) fun σ H Q ⟨BF,BH,F,env,L,d,S,e,q⟩ =>
  ⟨BF,BH,F,env,L,d,S,e,fun v F' H' H0 s0 s1 z r=>q v F' H' z (RepN.mono (Zir s1) _ _ r)⟩⟩
theorem ZoM (i:Nat) {x:Str} {p1 p2 p3 p4:Pos} (ha:PDo X .k e f) (hN:X.N[i]?=some x:=by kernel_rfl) (hv:visB X.env.scope x=true:=by kernel_rfl) (hd:(x == ("__debug__":Str))=false:=by kernel_rfl)
  (hcd:(x == ("__classdict__":Str))=false:=by kernel_rfl) (hst:nst e=true:=by rfl)
  (hbase:attributeBase (.Name x p1) "extend" X.env (eval (.Name x p1) X.env)=eval (.Name x p1) X.env:=by rfl)
  (hline:(p2.endLine == p3.line)=true:=by rfl)
  (hsw:swapsWith (.Call (.Attribute (.Name x p1) "extend" p2) [e] [] p3) none p4.line X.env=pure false:=by rfl) :
  PS1 X r (.Expr (.Call (.Attribute (.Name x p1) "extend" p2) [e] [] p3) p4) (sExt i f) :=
 PS1.mk <| PS.of (L2.Zcp (L2.Zdy PySem.F.plainAttrs_list PySem.F.slot_list_extend PySem.F.type_list_extend L2.ZkK (L2.JN hN (ZD hv) hd hcd) (L2.Ym ha L2.Yv (Yn hst)) hbase (by rw [ZaM (Zbf hst)];rfl) hline (Jh hst) rfl) hsw) fun D0 σ H hh_=>el10 hh_ fun BF BH F env L o env' S e k=>by
  unfold sExt at e
  split at e
  ·rename_i ds xs he h1
   split at e
   ·rename_i hlen
    cases e
    obtain ⟨p,vs,hσ,hl,hp,r⟩:=Zhw S he
    refine ⟨_,hσ,Zei hp,BF,BH,F,env,L,xs,S,h1,fun q zs F' H' z h0 hq fq rz=>?_⟩
    have S':=S.ext z
    have r':Reps X.K F' (ds++xs) (vs++zs):=(Reps.mono z.ff _ _ r).append rz
    refine ⟨p,q,vs,zs,rfl,rfl,z.hh _ _ hp,hq,by rw [← r.length,← rz.length];exact Nat.le_trans hlen Zdc,?_⟩
    exact k F' _ σ L (Zgo S' he hl hσ r') z.ff
   ·cases e
  ·cases e
theorem ZaK:∀ {ns:List Int} {us:List Value},Vals (ns.map V.int) us→IntsAre us ns
 | [],_,h=>by cases h;exact .nil
 | n::ns,_,h=>by
  cases h with
  | cons h1 h2=>obtain ⟨t,rfl⟩:=h1;exact .cons n t (ZaK h2)
theorem ZdU:∀ {ns:List Int} {us:List Value},IntsAre us ns→Vals (ns.map V.int) us
 | [],_,h=>by cases h;exact .nil
 | n::ns,_,h=>by
  cases h with
  | cons _ t h2=>exact .cons ⟨t,rfl⟩ (ZdU h2)
theorem ZpE {pins:List (Addr × Obj)}{σ:L2.St}{H:Hp}{s:Shared}(I:Inv X pins σ H s)(dr:Drawn):Inv X pins σ H { s with drawn:=dr }:=⟨I.ok,I.os,I.bare,I.base,I.loc,I.cell,I.free,I.freeC,I.pin,I.hok,I.len⟩
noncomputable def tSS (ta:TE):TE:=fun σ H Q=>ta σ H fun x H1=>∃ y,[x]=[y]∧∃ (l:Addr) (ns:List Int),y=.ref l∧SqL X.K H1 l (ns.map V.int)∧ns.length≤3000∧(seen ns).length < 64∧∀ p,H1 p=none→Q (.ref p) (upd H1 p (.lst ((srt (seen ns)).map V.int)))
theorem Zko {p3 p4 : Pos} {ta : TE} (T : Bt X.mg) (ha : PE X a ta) (hc : X.calm = true) (hg : X.env.kindOf "sorted" = some .globalImplicit) (hg2 : X.env.kindOf "set" = some .globalImplicit) (hs : nst a = true) :
    PE X (.Call (.Name "sorted" p) [.Call (.Name "set" p3) [a] [] p4] [] pos) (tSS (X := X) ta) := by
  intro pins s σ H Q I h
  refine wpAny_Call_Name_kw (L2.Zb5 I hg T.sorted boot_sorted ?_ (by decide) (by decide))
  refine PyProof.Rows.callWith_builtin1 ?_ (Jh rfl) rfl
  rw [Yn (env := X.env) (e := .Call (.Name "set" p3) [a] [] p4) rfl]
  show wpAny _ _ (spliced ((false, eval (.Call (.Name "set" p3) [a] [] p4) X.env) :: [])) _ _ s
  refine Calls.spliced_cons (L2.thn (Q := fun u s1 => ∃ (q : Addr) (ns : List Int) (H1 : Hp) (s0 : Shared) (h' : Heap) (tk : Nat), u = .ref q ∧ s1 = { s0 with heap := h', toks := tk } ∧ Inv X pins σ H1 s0 ∧ (∀ b o, s0.heap.get? b = some o → h'.get? b = some o) ∧ s0.heap.objs.size ≤ h'.objs.size ∧
      SetX X.prog X.w h' q (!byT X.w) (seen ns) ∧ (seen ns).length < 64 ∧ ∀ p, H1 p = none → Q (.ref p) (upd H1 p (.lst ((srt (seen ns)).map V.int)))) ?inner fun u s1 hu => Calls.spliced_nil ?outer)
  case inner =>
    refine wpAny_Call_Name_kw (L2.Zb5 I hg2 T.set PyProof.Rows.boot_set ?_ (by decide) (by decide))
    refine PyProof.Rows.callWith_type1 (L2.thn (L2.Ym ha L2.Yv (Yn hs) p4 pins s σ H (fun xs H1 => ∃ x, xs = [x] ∧ ∃ (l : Addr) (ns : List Int), x = .ref l ∧ SqL X.K H1 l (ns.map V.int) ∧ ns.length ≤ 3000 ∧ (seen ns).length < 64 ∧ ∀ p, H1 p = none → Q (.ref p) (upd H1 p (.lst ((srt (seen ns)).map V.int)))) I h) fun us s1 ⟨vs, H1, I1, r1, q1⟩ => ?_) (Jh hs) rfl
    obtain ⟨x, rfl, l, ns, rfl, hS, h3, h64, q⟩ := q1
    obtain ⟨u, rfl, ru⟩ := r1.one
    cases ru
    obtain ⟨its, r, p, z⟩ := I1.list hS
    have hi := ZaK r
    refine ZmD (I1.ok.hd hc) p.isList (by simpa using hi) (by rw [show scanBound = 4096 from rfl]; omega) fun h' tk hX hk => ?_
    obtain ⟨o, es, ep, t, ho, _⟩ := id hX
    have hlt : s1.heap.objs.size < h'.objs.size := Heap.lt_size ho
    exact ⟨_, ns, H1, s1, h', tk, rfl, rfl, I1, fun b o e => hk b o (Heap.lt_size e) e, Nat.le_of_lt hlt, hX, h64, q⟩
  case outer =>
    obtain ⟨q, ns, H1, s0, h', tk, rfl, rfl, I1, hk, hsz, hX, h64, k⟩ := hu
    refine Zj0 (s := { s0 with heap := h', toks := tk }) (I1.ok.hd hc) hX h64 fun h2 dr tk2 D vs js c up hD hg hv hj hle => ?_
    have ej : js = srt (seen ns) := Zie hj hle
    have I2 := (ZpE I1 dr).laid (a := D) (o := .lst ((srt (seen ns)).map V.int)) (h' := h2) (t' := tk2) (fun b u e => up b u (hk b u e)) (Nat.le_trans hsz hD) ⟨by rw [List.length_map, (Yu _).length_eq, sizeLine_eq]; omega, vs, c, ej ▸ ZdU hv, hg⟩
    exact ⟨.ref D, _, I2, rfl, k D (I1.hok.fresh (Nat.le_trans hsz hD))⟩
theorem ints_of:∀ {xs:List D} {ns:List Int},Jv xs=some ns→xs=ns.map D.int
 | [],ns,h=>by simp only [Jv] at h;cases h;rfl
 | .int i::xs,ns,h=>by
  simp only [Jv] at h
  split at h
  ·rename_i r hr;cases h;rw [ints_of hr];rfl
  ·cases h
 | .non::_,_,h=>by simp [Jv] at h
 | .bl _::_,_,h=>by simp [Jv] at h
 | .str _::_,_,h=>by simp [Jv] at h
 | .lst _::_,_,h=>by simp [Jv] at h
 | .tup _::_,_,h=>by simp [Jv] at h
 | .dct _::_,_,h=>by simp [Jv] at h
theorem Zcl {K:PySem.W.Frag}{H:Hp}:∀ {ns:List Int} {vs:List V},Reps K H (ns.map D.int) vs→vs=ns.map V.int
 | [],vs,h=>by simpa [Reps] using h
 | n::ns,vs,h=>by
  simp only [List.map_cons,Reps] at h
  obtain ⟨v,r,rfl,h2,h3⟩:=h
  rw [Jr h2,Zcl h3,List.map_cons]
theorem Zjq {x d:D}(h:Zar x=some d):∃ ns,x=.lst (ns.map D.int)∧ns.length≤3000∧(seen ns).length < 64∧d=.lst ((srt (seen ns)).map D.int):=by
 unfold Zar at h
 split at h
 ·rename_i xs
  split at h
  ·rename_i ns hn
   split at h
   ·rename_i hl;cases h;exact ⟨ns,by rw [ints_of hn],hl.1,hl.2,rfl⟩
   ·cases h
  ·cases h
 ·cases h
theorem Zj1 {p3 p4:Pos} (T:Bt X.mg) (ha:PD X m1 a f) (hc:X.calm=true:=by rfl) (hg:X.env.kindOf "sorted"=some .globalImplicit:=by kernel_rfl) (hg2:X.env.kindOf "set"=some .globalImplicit:=by kernel_rfl) (hs:nst a=true:=by rfl) :
  PDo X m (.Call (.Name "sorted" p) [.Call (.Name "set" p3) [a] [] p4] [] pos) (eF1 Zar f) :=
 PE.of (Zko T ha.h hc hg hg2 hs) fun σ H Q hh_=>el9 hh_ fun BF BH F env L ds S e q=>by
  unfold eF1 at e
  split at e
  ·rename_i x hx
   obtain ⟨ns,rfl,h3,h64,e2⟩:=Zjq e
   refine ⟨BF,BH,F,env,L,_,S,hx,fun v F' H' z rx=>?_⟩
   simp only [Rep] at rx
   obtain ⟨l,vs,rfl,hS,hr⟩:=rx
   have ev:=Zcl hr
   subst ev
   refine ⟨_,rfl,l,ns,rfl,?_,h3,h64,fun p hp=>?_⟩
   ·cases m1 with
    | r=>exact hS
    | k=>exact z.fh.seq hS
    | f=>exact (ZbO.trans z.fh).seq hS
   ·obtain ⟨y2,h0,h2,s⟩:=ZbQ (m:=m) S z hp (HO.lst ((srt (seen ns)).map V.int))
    cases e2
    refine q p _ F' _ y2 h0 Yc h2 ?_
    exact Reps.ints _
  ·cases e
theorem Zmx {env:Env}{d:D}(h:eF1 Zar f env=some d):∃ ds,d=.lst ds∧ds.all YQ=true:=by
 unfold eF1 at h
 split at h
 ·obtain ⟨ns,_,_,_,rfl⟩:=Zjq h
  exact ⟨_,rfl,by simp [List.all_map,YQ,Function.comp_def]⟩
 ·cases h
theorem Zf1 {p3 p4:Pos} (T:Bt X.mg) (ha:PD X m1 a f) (hc:X.calm=true:=by rfl) (hg:X.env.kindOf "sorted"=some .globalImplicit:=by kernel_rfl) (hg2:X.env.kindOf "set"=some .globalImplicit:=by kernel_rfl) (hs:nst a=true:=by rfl) :
  PDw X (.Call (.Name "sorted" p) [.Call (.Name "set" p3) [a] [] p4] [] pos) (eF1 Zar f):=PDo.w (m:=.k) (Zj1 T ha hc hg hg2 hs) fun env d h=>Zmx h
end
end PV
set_option linter.all false
set_option Elab.async false
set_option maxRecDepth 100000
set_option maxHeartbeats 4000000
namespace PV
open PySem PySem.W PyProof.Rows
section
variable {n:Nat} {key:Nat→List Int}
noncomputable def Kp (key:Nat→List Int) (p:Array Nat) (i:Nat):List Int:=key (p.getD i 0)
noncomputable def Upp (key:Nat→List Int) (p:Array Nat) (m:Nat):Prop:=∀ i j,i≤j→j < m→leL (Kp key p i) (Kp key p j)
noncomputable def Dwn (key:Nat→List Int) (p:Array Nat) (m:Nat):Prop:=∀ i j,i≤j→j < m→leL (Kp key p j) (Kp key p i)
structure Val (n:Nat)(p:Array Nat):Prop where
 sz:p.size=n
 pm:p.toList.Perm (List.range n)
theorem Val.lt (h:Val n p){i:Nat}(hi:i < n):p.getD i 0 < n:=by
 have hs:i < p.size:=by rw [h.sz];exact hi
 rw [show p.getD i 0=p[i] by simp [Array.getD,hs]]
 have:=h.pm.mem_iff.mp (Array.getElem_mem_toList hs)
 simpa using this
theorem Val.rev (h:Val n p)(i j:Nat):Val n (kas_rev p i j):=⟨(mirror_size _ _ _ _).trans h.sz,(Array.perm_iff_toList_perm.mp (mirror_perm _ _ _ _)).trans h.pm⟩
theorem Val.bub (h:Val n p)(i j:Nat):Val n (bubble p i j):=⟨(bubble_size _ _ _).trans h.sz,(Array.perm_iff_toList_perm.mp (bubble_perm _ _ _)).trans h.pm⟩
theorem getD_eq {p:Array Nat}{i:Nat}:p.getD i 0=(p[i]?).getD 0:=by simp [Array.getD];split <;> simp_all
theorem Zec (h:Val n p){i j k:Nat}(hj:j≤n):Kp key (kas_rev p i j) k=if i≤k∧k < j then Kp key p (i + j - 1 - k) else Kp key p k:=by
 unfold Kp kas_rev
 rw [getD_eq,getElem?_mirror_all (by rw [h.sz];exact hj)]
 split
 ·rw [getD_eq]
 ·rw [getD_eq]
theorem ZkJ (h:Val n p){src d k:Nat}(hs:src < n)(hd:d≤src):Kp key (bubble p src d) k=if k=src - d then Kp key p src else if src - d < k∧k≤src then Kp key p (k - 1) else Kp key p k:=by
 unfold Kp
 rw [getD_eq,getElem?_bubble (by rw [h.sz];exact hs) d hd]
 split
 ·rw [getD_eq]
 ·split
  ·rw [getD_eq]
  ·rw [getD_eq]
theorem Upp.snoc {p:Array Nat}{m:Nat}(hm:1≤m)(h:Upp key p m)(k:leL (Kp key p (m - 1)) (Kp key p m)):Upp key p (m + 1):=fun i j hij hj=>by
 rcases Nat.lt_or_ge j m with h1 | h1
 ·exact h i j hij h1
 ·have:j=m:=by omega
  subst this
  rcases Nat.lt_or_ge i j with h2 | h2
  ·exact (h i (j - 1) (by omega) (by omega)).trans k
  ·have:i=j:=by omega
   subst this;exact leL.refl _
theorem Dwn.snoc {p:Array Nat}{m:Nat}(hm:1≤m)(h:Dwn key p m)(k:leL (Kp key p m) (Kp key p (m - 1))):Dwn key p (m + 1):=fun i j hij hj=>by
 rcases Nat.lt_or_ge j m with h1 | h1
 ·exact h i j hij h1
 ·have:j=m:=by omega
  subst this
  rcases Nat.lt_or_ge i j with h2 | h2
  ·exact k.trans (h i (j - 1) (by omega) (by omega))
  ·have:i=j:=by omega
   subst this;exact leL.refl _
noncomputable def Alk (key:Nat→List Int) (p:Array Nat) (m q:Nat):Prop:=∀ i,m - (q + 1)≤i→i < m→Kp key p i=Kp key p (m - 1)
theorem Dwn.rev (hv:Val n p){m q:Nat}(hq:q + 1≤m)(hm:m≤n)(h:Dwn key p m)(a:Alk key p m q):Dwn key (kas_rev p (m - (q + 1)) m) m∧(∀ k,k < m→Kp key (kas_rev p (m - (q + 1)) m) k=Kp key p k)∧∀ k,m≤k→Kp key (kas_rev p (m - (q + 1)) m) k=Kp key p k:=by
 have e:∀ k,k < m→Kp key (kas_rev p (m - (q + 1)) m) k=Kp key p k:=fun k hk=>by
  rw [Zec hv hm]
  split
  ·rename_i hc
   rw [a _ (by omega) (by omega),a k hc.1 hc.2]
  ·rfl
 refine ⟨fun i j hij hj=>?_,e,fun k hk=>?_⟩
 ·rw [e i (by omega),e j hj];exact h i j hij hj
 ·rw [Zec hv hm,if_neg (by omega)]
theorem Dwn.up (hv:Val n p){m:Nat}(hm:m≤n)(h:Dwn key p m):Upp key (kas_rev p 0 m) m:=fun i j hij hj=>by
 rw [Zec hv hm,Zec hv hm,if_pos (by omega),if_pos (by omega)]
 exact h _ _ (by omega) (by omega)
end
section
variable {n:Nat} {key:Nat→List Int} {cmp:Nat→Nat→(Bool→Shared→Prop)→Shared→Prop} {P:Shared→Prop}
variable (hc:∀ i j,i < n→j < n→∀ (C:Bool→Shared→Prop) s,P s→(∀ s',P s'→C (ltL (key i) (key j)) s')→cmp i j C s)
include hc
theorem Zm1 {p:Array Nat}(hv:Val n p){Q:Nat→Shared→Prop}:∀ (f m:Nat) (s:Shared),1≤m→m + f≤n→Upp key p m→P s →
  (∀ m' s',m≤m'→m'≤m + f→Upp key p m'→(m' < m + f→ltL (Kp key p m') (Kp key p (m' - 1))=true)→P s'→Q m' s')→(kas_asc p f m).kasWp cmp Q s:=by
 intro f
 induction f with
 | zero=>intro m s h1 h2 hu hp hQ;exact hQ m s (Nat.le_refl _) (Nat.le_refl _) hu (fun h=>by omega) hp
 | succ f ih =>
  intro m s h1 h2 hu hp hQ
  unfold kas_asc
  refine hc _ _ (hv.lt (by omega)) (hv.lt (by omega)) _ s hp fun s' hp'=>?_
  cases hl:ltL (Kp key p m) (Kp key p (m - 1)) with
  | true =>
   have hl':ltL (key (p.getD m 0)) (key (p.getD (m - 1) 0))=true:=hl
   simp only [hl',↓reduceIte]
   exact hQ m s' (Nat.le_refl _) (by omega) hu (fun _=>hl) hp'
  | false =>
   have hl':ltL (key (p.getD m 0)) (key (p.getD (m - 1) 0))=false:=hl
   simp only [hl',Bool.false_eq_true,↓reduceIte]
   exact ih (m + 1) s' (by omega) (by omega) (hu.snoc h1 hl) hp' fun m' s2 a b c d e=>hQ m' s2 (by omega) (by omega) c (fun h=>d (by omega)) e
theorem Zo5 {Q:Array Nat × Nat × Nat→Shared→Prop}:∀ (f:Nat) (p:Array Nat) (m q:Nat) (s:Shared),Val n p→m + f≤n→q + 1≤m→Dwn key p m→Alk key p m q→P s →
  (∀ p' m' q' s',Val n p'→m≤m'→m'≤n→q' + 1≤m'→Dwn key p' m'→Alk key p' m' q'→P s'→Q (p',m',q') s')→(kas_desc f p m q).kasWp cmp Q s:=by
 intro f
 induction f with
 | zero=>intro p m q s hv h2 hq hd ha hp hQ;exact hQ p m q s hv (Nat.le_refl _) (by omega) hq hd ha hp
 | succ f ih =>
  intro p m q s hv h2 hq hd ha hp hQ
  unfold kas_desc
  refine hc _ _ (hv.lt (by omega)) (hv.lt (by omega)) _ s hp fun s' hp'=>?_
  cases hl:ltL (Kp key p m) (Kp key p (m - 1)) with
  | true =>
   have hl':ltL (key (p.getD m 0)) (key (p.getD (m - 1) 0))=true:=hl
   simp only [hl',↓reduceIte]
   have one:∀ p',Alk key p' (m + 1) 0:=fun p' i h3 h4=>by rw [show i=m + 1 - 1 by omega]
   by_cases hq0:q > 0
   ·rw [if_pos hq0]
    obtain ⟨r1,r2,r3⟩:=hd.rev hv hq (by omega) ha
    refine ih _ (m + 1) 0 s' (hv.rev _ _) (by omega) (by omega) (r1.snoc (by omega) ?_) (one _) hp' fun p' m' q' s2 a b c d e g k=>hQ p' m' q' s2 a (by omega) c d e g k
    rw [r3 m (Nat.le_refl _),r2 (m - 1) (by omega)]
    exact leL.of hl
   ·rw [if_neg hq0]
    exact ih p (m + 1) 0 s' hv (by omega) (by omega) (hd.snoc (by omega) (leL.of hl)) (one _) hp' fun p' m' q' s2 a b c d e g k=>hQ p' m' q' s2 a (by omega) c d e g k
  | false =>
   have hl':ltL (key (p.getD m 0)) (key (p.getD (m - 1) 0))=false:=hl
   simp only [hl',Bool.false_eq_true,↓reduceIte]
   refine hc _ _ (hv.lt (by omega)) (hv.lt (by omega)) _ s' hp' fun s2 hp2=>?_
   cases hk:ltL (Kp key p (m - 1)) (Kp key p m) with
   | true =>
    have hk':ltL (key (p.getD (m - 1) 0)) (key (p.getD m 0))=true:=hk
    simp only [hk',↓reduceIte]
    exact hQ p m q s2 hv (Nat.le_refl _) (by omega) hq hd ha hp2
   | false =>
    have hk':ltL (key (p.getD (m - 1) 0)) (key (p.getD m 0))=false:=hk
    simp only [hk',Bool.false_eq_true,↓reduceIte]
    have e:Kp key p m=Kp key p (m - 1):=ZeI _ _ hl hk
    refine ih p (m + 1) (q + 1) s2 hv (by omega) (by omega) (hd.snoc (by omega) (by rw [e];exact leL.refl _)) (fun i h3 h4=>?_) hp2 fun p' m' q' s3 a b c d e g k=>hQ p' m' q' s3 a (by omega) c d e g k
    rw [show m + 1 - 1=m by omega,e]
    rcases Nat.lt_or_ge i m with h5 | h5
    ·exact ha i (by omega) h5
    ·rw [show i=m by omega,e]
theorem Zlg {p:Array Nat}(hv:Val n p){Q:Nat × Array Nat→Shared→Prop}{m:Nat}{s:Shared}(h1:1≤m)(hm:m≤n)(hd:Dwn key p m)(hp:P s)(hQ:∀ m' p' s',Val n p'→1≤m'→m'≤n→Upp key p' m'→P s'→Q (m',p') s'):(kas_tail3 m n p).kasWp cmp Q s:=by
 unfold kas_tail3
 rw [KasT.kasWp_bind]
 exact Zm1 hc (hv.rev 0 m) (n - m) m s h1 (by omega) (hd.up hv hm) hp fun m' s' a b c d e=>hQ m' _ s' (hv.rev 0 m) (by omega) (by omega) c e
theorem ZlK {p:Array Nat}(hv:Val n p){Q:Nat × Array Nat→Shared→Prop}{m:Nat}{s:Shared}(h1:1≤m)(hm:m + 1≤n)(hd:Dwn key p (m + 1))(hp:P s)(hQ:∀ m' p' s',Val n p'→1≤m'→m'≤n→Upp key p' m'→P s'→Q (m',p') s'):(kas_descPart m n p).kasWp cmp Q s:=by
 unfold kas_descPart
 rw [KasT.kasWp_bind]
 refine Zo5 hc (n - (m + 1)) p (m + 1) 0 s hv (by omega) (by omega) hd (fun i h3 h4=>by rw [show i=m + 1 - 1 by omega]) hp fun p' m' q' s' a b c d e g k=>?_
 by_cases hq:q' > 0
 ·dsimp only
  rw [if_pos hq]
  exact Zlg hc (a.rev _ _) (by omega) c (e.rev a d c g).1 k hQ
 ·dsimp only
  rw [if_neg hq]
  exact Zlg hc a (by omega) c e k hQ
theorem ZnR {p:Array Nat}(hv:Val n p)(h2:2≤n){Q:Nat × Array Nat→Shared→Prop}{s:Shared}(hp:P s)(hQ:∀ m' p' s',Val n p'→1≤m'→m'≤n→Upp key p' m'→P s'→Q (m',p') s'):(kas_count n p).kasWp cmp Q s:=by
 unfold kas_count
 rw [KasT.kasWp_bind]
 refine Zm1 hc hv (n - 1) 1 s (Nat.le_refl _) (by omega) (fun i j hij hj=>by rw [show i=j by omega];exact leL.refl _) hp fun m s' a b c d e=>?_
 by_cases hm:(m == n)=true
 ·rw [if_pos hm]
  exact hQ m p s' hv a (by omega) c e
 ·rw [if_neg hm]
  have hm':m≠n:=by simpa using hm
  have hlt:=d (by omega)
  by_cases h3:m > 1
  ·rw [if_pos h3]
   refine hc _ _ (hv.lt (by omega)) (hv.lt (by omega)) _ s' e fun s2 hp2=>?_
   cases hl:ltL (Kp key p 0) (Kp key p (m - 1)) with
   | true =>
    have hl':ltL (key (p.getD 0 0)) (key (p.getD (m - 1) 0))=true:=hl
    simp only [hl',↓reduceIte]
    exact hQ m p s2 hv a (by omega) c hp2
   | false =>
    have hl':ltL (key (p.getD 0 0)) (key (p.getD (m - 1) 0))=false:=hl
    simp only [hl',Bool.false_eq_true,↓reduceIte]
    have same:∀ i,i < m→Kp key p i=Kp key p (m - 1):=fun i hi=>leL.anti (c i (m - 1) (by omega) (by omega)) (leL.trans (show leL (Kp key p (m - 1)) (Kp key p 0) from hl) (c 0 i (by omega) hi))
    have hr:∀ k,Kp key (kas_rev p 0 m) k=Kp key p k:=fun k=>by
     rw [Zec hv (by omega)]
     split
     ·rename_i hk;rw [same _ (by omega),same k (by omega)]
     ·rfl
    refine ZlK hc (hv.rev 0 m) a (by omega) (fun i j hij hj=>?_) hp2 hQ
    rw [hr,hr]
    rcases Nat.lt_or_ge j m with h5 | h5
    ·rw [same i (by omega),same j h5];exact leL.refl _
    ·rw [show j=m by omega]
     rcases Nat.lt_or_ge i m with h6 | h6
     ·rw [same i h6];exact leL.of hlt
     ·rw [show i=m by omega];exact leL.refl _
  ·rw [if_neg h3]
   have e1:m=1:=by omega
   subst e1
   refine ZlK hc hv (by omega) (by omega) (fun i j hij hj=>?_) e hQ
   rcases Nat.lt_or_ge j 1 with h5 | h5
   ·rw [show i=j by omega];exact leL.refl _
   ·rcases Nat.lt_or_ge i 1 with h6 | h6
    ·rw [show i=0 by omega,show j=1 by omega];exact leL.of hlt
    ·rw [show i=j by omega];exact leL.refl _
theorem Zox {p:Array Nat}(hv:Val n p){k:Nat}(hk:k < n){Q:Nat→Shared→Prop}(hu:Upp key p k):∀ (f l r:Nat) (s:Shared),r - l≤f→l≤r→r≤k→(∀ i,i < l→leL (Kp key p i) (Kp key p k))→(∀ i,r≤i→i < k→leL (Kp key p k) (Kp key p i))→P s →
  (∀ l' s',l'≤k→(∀ i,i < l'→leL (Kp key p i) (Kp key p k))→(∀ i,l'≤i→i < k→leL (Kp key p k) (Kp key p i))→P s'→Q l' s')→(kas_place p k f l r).kasWp cmp Q s:=by
 intro f
 induction f with
 | zero =>
  intro l r s h1 h2 h3 ha hb hp hQ
  have:l=r:=by omega
  subst this
  exact hQ l s h3 ha hb hp
 | succ f ih =>
  intro l r s h1 h2 h3 ha hb hp hQ
  unfold kas_place
  by_cases hlr:l ≥ r
  ·rw [if_pos hlr]
   have:l=r:=by omega
   subst this
   exact hQ l s h3 ha hb hp
  ·rw [if_neg hlr]
   refine hc _ _ (hv.lt hk) (hv.lt (by omega)) _ s hp fun s' hp'=>?_
   cases hl:ltL (Kp key p k) (Kp key p ((l + r) / 2)) with
   | true =>
    have hl':ltL (key (p.getD k 0)) (key (p.getD ((l + r) / 2) 0))=true:=hl
    simp only [hl',↓reduceIte]
    exact ih l ((l + r) / 2) s' (by omega) (by omega) (by omega) ha (fun i h5 h6=>(leL.of hl).trans (hu _ i h5 h6)) hp' hQ
   | false =>
    have hl':ltL (key (p.getD k 0)) (key (p.getD ((l + r) / 2) 0))=false:=hl
    simp only [hl',Bool.false_eq_true,↓reduceIte]
    refine ih ((l + r) / 2 + 1) r s' (by omega) (by omega) h3 (fun i h5=>?_) hb hp' hQ
    exact (hu i ((l + r) / 2) (by omega) (by omega)).trans hl
theorem ZpS {Q : Array Nat → Shared → Prop} : ∀ (f : Nat) (p : Array Nat) (k : Nat) (s : Shared), Val n p → k + f = n → Upp key p k → P s → (∀ p' s', Val n p' → Upp key p' n → P s' → Q p' s') → (kas_bin f p k).kasWp cmp Q s := by
  intro f
  induction f with
  | zero => intro p k s hv h1 hu hp hQ; have : k = n := by omega
            subst this; exact hQ p s hv hu hp
  | succ f ih =>
    intro p k s hv h1 hu hp hQ
    unfold kas_bin
    rw [KasT.kasWp_bind]
    refine Zox hc hv (by omega) hu k 0 k s (by omega) (by omega) (Nat.le_refl _) (fun i h => by omega) (fun i h h' => by omega) hp fun l s' hl ha hb hp' => ?_
    refine ih _ (k + 1) s' (hv.bub _ _) (by omega) (fun i j hij hj => ?_) hp' hQ
    rw [ZkJ hv (by omega) (by omega), ZkJ hv (by omega) (by omega)]
    have e : k - (k - l) = l := by omega
    rw [e]
    by_cases i1 : i = l
    · rw [if_pos i1]
      by_cases j1 : j = l
      · rw [if_pos j1]; exact leL.refl _
      · rw [if_neg j1, if_pos (by omega)]
        exact hb (j - 1) (by omega) (by omega)
    · rw [if_neg i1]
      by_cases i2 : l < i ∧ i ≤ k
      · rw [if_pos i2, if_neg (by omega), if_pos (by omega)]
        exact hu _ _ (by omega) (by omega)
      · rw [if_neg i2]
        by_cases j1 : j = l
        · rw [if_pos j1]; exact ha i (by omega)
        · rw [if_neg j1]
          by_cases j2 : l < j ∧ j ≤ k
          · rw [if_pos j2]; exact hu _ _ (by omega) (by omega)
          · rw [if_neg j2]; exact hu _ _ hij (by omega)
theorem ZoA (h2:2≤n){Q:Array Nat→Shared→Prop}{s:Shared}(hp:P s)(hQ:∀ p' s',Val n p'→Upp key p' n→P s'→Q p' s'):(kas_sort n).kasWp cmp Q s:=by
 unfold kas_sort
 rw [KasT.kasWp_bind]
 have v0:Val n (List.toArray (List.range n)):=⟨by simp,by simp⟩
 refine ZnR hc v0 h2 hp fun m p s' hv h1 hm hu hp'=>?_
 dsimp only
 by_cases h:m < n
 ·rw [if_pos h]
  exact ZpS hc _ p (max m 1) s' hv (by omega) (by rw [show max m 1=m by omega];exact hu) hp' hQ
 ·rw [if_neg h]
  exact hQ p s' hv (by rw [show n=m by omega];exact hu) hp'
end
end PV
set_option linter.all false
set_option Elab.async false
set_option maxRecDepth 100000
set_option maxHeartbeats 4000000
namespace PV
open PySem PySem.W PyProof.Rows PySem.MeetsSeq PySem.MeetsSeq3
theorem Zi7 {vs:List Value}{ns:List Int}(h:IntsAre vs ns){i:Nat}(hi:i < vs.length):∃ t,vs[i]=.int (ns.getD i 0) t∧i < ns.length:=by
 obtain ⟨h1,rfl⟩:=Zau.mp h
 have:=h1 _ (List.getElem_mem hi)
 cases e:vs[i] with
 | int k t=>exact ⟨t,by simp [List.getD,hi,e,valI],by simpa using hi⟩
 | _=>rw [e] at this;exact this.elim
theorem Zfu {vs:List Value}{ns:List Int}(h:IntsAre vs ns):vs.length=ns.length:=by rw [(Zau.mp h).2];simp
theorem Zcf {ns:List Int}{i:Nat}(hi:i < ns.length):ns.drop i=ns.getD i 0::ns.drop (i + 1):=by
 rw [List.drop_eq_getElem_cons hi,List.getD_eq_getElem?_getD,List.getElem?_eq_getElem hi];rfl
theorem ZmN (l b:Addr)(xs ys:Array Value)(n n2:Nat)(dd dd2:Option Addr)(sl sl2:Array (Option Value))(nx ny:List Int)(hx:IntsAre xs.toList nx)(hy:IntsAre ys.toList ny)(k:Nat) :
  ∀ i:Nat,xs.size - i=k→i≤xs.size→i≤ys.size→Meets (Builtin.«list.__eq__.loop» ⟨[.ref l,.ref b,rawInt i,rawInt 0],[]⟩)
   (fun A R s=>s.heap.get? l=some { cls:=.type "list",dict:=dd,data:=.seq xs n,slots:=sl }∧s.heap.get? b=some { cls:=.type "list",dict:=dd2,data:=.seq ys n2,slots:=sl2 } ∧
    R (.ok (.ret (.bool (ltL (nx.drop i) (ny.drop i))))) s):=by
 have lx:xs.size=nx.length:=by simpa using Zfu hx
 have ly:ys.size=ny.length:=by simpa using Zfu hy
 induction k with
 | zero =>
  intro i hk h1 h2 prog w A R s h
  obtain ⟨hp,g,d,tk,os⟩:=s;obtain ⟨hl,hb,h⟩:=h
  wp_walk using wpAny_loadPart' hl,wpAny_loadPart' hb
  have hi1:xs[((i:Nat):Int).toNat]?=none:=by simp;omega
  rw [hi1]
  have e0:nx.drop i=[]:=by simp;omega
  rw [e0] at h
  have fin:ltL [] (ny.drop i)=decide (xs.size < ys.size):=by
   rcases Nat.lt_or_ge i ys.size with h5 | h5
   ·rw [Zcf (by omega)];simp only [ltL];exact (decide_eq_true (by omega)).symm
   ·rw [List.drop_of_length_le (by omega)];simp only [ltL];exact (decide_eq_false (by omega)).symm
  rw [fin] at h
  wp_walk using wpAny_loadPart' hl,wpAny_loadPart' hb
  exact h
 | succ k ih =>
  intro i hk h1 h2 prog w A R s h
  obtain ⟨hp,g,d,tk,os⟩:=s;obtain ⟨hl,hb,h⟩:=h
  wp_walk using wpAny_loadPart' hl,wpAny_loadPart' hb
  have hlt:i < xs.size:=by omega
  have hi1:xs[((i:Nat):Int).toNat]?=some xs[i]:=by simp [hlt]
  obtain ⟨t1,q1,_⟩:=Zi7 hx (i:=i) (by simpa using hlt)
  rcases Nat.lt_or_ge i ys.size with hlt2 | hge
  ·have hi2:ys[((i:Nat):Int).toNat]?=some ys[i]:=by simp [hlt2]
   obtain ⟨t2,q2,_⟩:=Zi7 hy (i:=i) (by simpa using hlt2)
   have q1':xs[i]=.int (nx.getD i 0) t1:=by simpa using q1
   have q2':ys[i]=.int (ny.getD i 0) t2:=by simpa using q2
   have hc:((i:Int) + 1)=((i + 1:Nat):Int):=by push_cast;rfl
   rw [Zcf (ns:=nx) (by omega),Zcf (ns:=ny) (by omega)] at h
   rw [hi1,hi2,q1',q2']
   refine wpAny_bind (wpAny_eqBool_int ?_)
   by_cases e:nx.getD i 0=ny.getD i 0
   ·rw [if_pos (by simpa using e)]
    simp only [ltL,if_pos e] at h
    wp_walk
    rw [hc]
    exact ⟨plainId_quiet plain_eq_loop _,codeAny_builtin entry_eq_loop (by
     rw [Around.under_plainId plain_eq_loop _]
     exact ih (i + 1) (by omega) (by omega) (by omega) prog w A R _ ⟨hl,hb,h⟩)⟩
   ·rw [if_neg (by simpa using e)]
    simp only [ltL,if_neg e] at h
    wp_walk using wpAny_loadPart' hl,wpAny_loadPart' hb
    rw [hi1,hi2,q1',q2']
    refine wpAny_bind (m:=richCompare .Lt _ _) (wpAny_lt_int (wpAny_pure h))
  ·have hi2:ys[((i:Nat):Int).toNat]?=none:=Array.getElem?_eq_none (by rw [Int.toNat_natCast];exact hge)
   rw [Zcf (ns:=nx) (by omega),List.drop_of_length_le (l:=ny) (by omega)] at h
   rw [hi1,hi2]
   simp only [ltL] at h
   wp_walk using wpAny_loadPart' hl,wpAny_loadPart' hb
   rw [show false=decide (xs.size < ys.size) from (decide_eq_false (by omega)).symm] at h
   exact h
section
variable {prog:Program} {w:World} {A:Around} {E:Value→Shared→Prop} {s:Shared}
noncomputable def Zb2 (h:Heap) (a:Addr) (ns:List Int):Prop:=∃ vs,h.IsList a vs∧IntsAre vs.toList ns
theorem Zb2.keep {h h':Heap}{a:Addr}{ns:List Int}(x:Zb2 h a ns)(k:∀ o,h.get? a=some o→h'.get? a=some o):Zb2 h' a ns:=by
 obtain ⟨vs,⟨o,ho,r⟩,hi⟩:=x
 exact ⟨vs,⟨o,k o ho,r⟩,hi⟩
theorem ZnZ {l b:Addr}{nx ny:List Int}{Q:Value→Shared→Prop}(hx:Zb2 s.heap l nx)(hy:Zb2 s.heap b ny)(h:Q (.bool (ltL nx ny)) s):wpAny (model prog w) A (call (.builtin "list.__lt__") [.ref l,.ref b]) Q E s:=by
 obtain ⟨xs,⟨⟨cx,dx,datx,slx⟩,hox,hcx,n,hdx⟩,ix⟩:=hx
 obtain ⟨ys,⟨⟨cy,dy,daty,sly⟩,hoy,hcy,n2,hdy⟩,iy⟩:=hy
 simp only at hcx hdx hcy hdy
 subst hcx hdx hcy hdy
 refine wpAny_call (codeAny_call_builtin (F.slot_list_lt).plain F.entry_list_lt ((F.slot_list_lt).check _ _ _ _ _ _ _ _ ⟨_,hox,rfl⟩ (F.args_list_lt_2 _ _) ?_))
 have f3:=AutoSeq1.sub_list_list
 obtain ⟨hp,g,d,tk,os⟩:=s
 wp_walk using AutoSeq1.wpAny_loadPart' hox,AutoSeq1.wpAny_loadPart' hoy
 exact ⟨plainId_quiet plain_eq_loop _,codeAny_builtin entry_eq_loop (by
  rw [Around.under_plainId plain_eq_loop _]
  exact ZmN l b xs ys n n2 dx dy slx sly nx ny ix iy _ 0 rfl (Nat.zero_le _) (Nat.zero_le _) prog w A (wants Q E) _ ⟨hox,hoy,h⟩)⟩
theorem ZlE {l b:Addr}{nx ny:List Int}{Q:Bool→Shared→Prop}{t:Bool}(hu:A.units < cLine)(hx:Zb2 s.heap l nx)(hy:Zb2 s.heap b ny)(h:Q (ltL nx ny) s):wpAny (model prog w) A (oneLt' true (.ref l) (.ref b)) Q E s:=by
 rw [oneLt'_eq]
 simp only [if_true]
 have hT:s.TypeIs (.ref l) "list":=by obtain ⟨vs,⟨o,ho,hc,_⟩,_⟩:=hx;exact ⟨o,ho,hc⟩
 refine wpAny_bind (wpAny_cRoomFor hu ?_)
 refine wpAny_bind (wpAny_callSpecialIfBound?_slot hT F.slot_list_lt (ZnZ hx hy ?_))
 exact wpAny_truthy_bool h
end
end PV
set_option linter.all false
set_option Elab.async false
set_option maxRecDepth 100000
set_option maxHeartbeats 4000000
namespace PV
open PySem PySem.W PyProof.Rows
section
variable {prog:Program} {w:World} {A:Around} {E:Value→Shared→Prop} {s:Shared}
noncomputable def Zct (h:Heap) (vs:List Value) (rs:List (List Int)):Prop:=vs.length=rs.length∧∀ i,i < vs.length→∃ b,vs.getD i .none=.ref b∧Zb2 h b (rs.getD i [])
theorem Zct.keep {h h':Heap}{vs:List Value}{rs:List (List Int)}(x:Zct h vs rs)(k:∀ b r,Zb2 h b r→∀ o,h.get? b=some o→h'.get? b=some o):Zct h' vs rs :=
 ⟨x.1,fun i hi=>let ⟨b,e,r⟩:=x.2 i hi;⟨b,e,r.keep (k b _ r)⟩⟩
theorem Zkl {M:Model}{h:Heap}{a:Addr}{ns:List Int}(x:Zb2 h a ns):Looks M h (typeOf (.ref a)) (.type "list"):=by
 obtain ⟨vs,⟨o,ho,hc,_⟩,_⟩:=x
 exact fun A Q E s k q=>wpAny_typeOf (T:="list") ⟨o,k _ _ ho,hc⟩ q
theorem getD_mem' {vs:List Value}{v:Value}(h:v ∈ vs):∃ i,i < vs.length∧vs.getD i .none=v:=by
 obtain ⟨i,hi,e⟩:=List.getElem_of_mem h
 exact ⟨i,hi,by rw [List.getD_eq_getElem?_getD,List.getElem?_eq_getElem hi];exact e⟩
structure Ord (n:Nat)(key:Nat→List Int)(p:List Nat):Prop where
 pm:p.Perm (List.range n)
 up:∀ i j,i≤j→j < n→leL (key (p.getD i 0)) (key (p.getD j 0))
theorem ZpB {n:Nat}{key:Nat→List Int}{p:Array Nat}(hv:Val n p)(hu:Upp key p n):Ord n key p.toList :=
 ⟨hv.pm,fun i j hij hj=>by
  have e:∀ k,p.toList.getD k 0=p.getD k 0:=fun k=>by rw [getD_eq,List.getD_eq_getElem?_getD,Array.getElem?_toList]
  rw [e,e];exact hu i j hij hj⟩
theorem ZkC {n:Nat}{key:Nat→List Int}(h:n < 2):Ord n key (List.range n):=⟨.refl _,fun i j hij hj=>by rw [show i=j by omega];exact leL.refl _⟩
theorem Zlu {a : Addr} {vs : List Value} {rs : List (List Int)} {n : Nat} {P : PySem.Fin → Shared → Prop} (hu : A.units < cLine) (ho : s.heap.get? a = some (seqObj "list" vs.toArray n)) (hr : Zct s.heap vs rs) (hne : ∀ v ∈ vs, v ≠ .ref a) (h64 : vs.length < 64)
    (h : ∀ p h' c, Ord vs.length (fun i => rs.getD i []) p → h'.get? a = some (seqObj "list" (p.map fun i => vs.getD i .none).toArray c) → (∀ b o, b ≠ a → s.heap.get? b = some o → h'.get? b = some o) → P (.done (.ret .none)) { s with heap := h' }) :
    wpAny (model prog w) A (Builtin.«list.sort» ⟨[.ref a], []⟩) P E s := by
  have hsl := sizeLine_eq
  rw [list_sort_plain]
  refine wpAny_bind (listItems_at ho rfl ?_)
  refine wpAny_bind (listUpdate_at ho rfl ?_ (by rw [List.size_toArray]; omega) (Nat.zero_le _))
  obtain ⟨e1, ho1⟩ : ∃ e1, (s.heap.update a (Obj.mapSeq fun _ => (#[] : Array Value))).get? a = some (seqObj "list" #[] e1) := ⟨_, get?_update_seq ho fun _ => #[]⟩
  refine wpAny_bind (seqEpoch_at ho1 rfl (wpAny_bind (wpAny_newTuple ?_ (by show vs.length ≤ _; omega))))
  refine wpAny_bind (wpAny_newList (wpAny_holding ?_) (Nat.zero_le _))
  obtain ⟨h3, e3⟩ : ∃ h3, h3 = ((s.heap.update a (Obj.mapSeq fun _ => (#[] : Array Value))).push (seqObj "tuple" vs.toArray 0)).push (seqObj "list" #[] 0) := ⟨_, rfl⟩
  have ho3 : h3.get? a = some (seqObj "list" #[] e1) := by rw [e3]; exact Heap.get?_push_of_some _ (Heap.get?_push_of_some _ ho1)
  have oth : ∀ b o, b ≠ a → s.heap.get? b = some o → h3.get? b = some o := fun b o hb e => by
    rw [e3]
    refine Heap.get?_push_of_some _ (Heap.get?_push_of_some _ ?_)
    rw [Heap.get?_update_other _ _ (Ne.symm hb)]; exact e
  show wpAny _ _ _ _ _ { s with heap := ((s.heap.update a (Obj.mapSeq fun _ => (#[] : Array Value))).push (seqObj "tuple" vs.toArray 0)).push (seqObj "list" #[] 0) }
  rw [← e3]
  have hr3 : Zct h3 vs rs := ⟨hr.1, fun i hi => by
    obtain ⟨b, e, r⟩ := hr.2 i hi
    refine ⟨b, e, r.keep fun o q => oth b o (fun hb => ?_) q⟩
    subst hb
    refine hne (.ref b) ?_ rfl
    rw [← e, List.getD_eq_getElem?_getD, List.getElem?_eq_getElem hi]; exact List.getElem_mem hi⟩
  have fin : ∀ (st : SortSt) (p : List Nat), (arrOf st).map (·.2) = (p.map fun i => vs.getD i .none).toArray → failedOf st = none → Ord vs.length (fun i => rs.getD i []) p → wpAny (model prog w) A (do
      let touched := (← seqEpoch a) != e1
      Builtin.List.listUpdate (.ref a) fun _ => (arrOf st).map (·.2)
      if let some e := failedOf st then rule "list.sort.comparison-raised"; throw e
      if touched then rule "list.sort.modified"; raiseError "ValueError" "list modified during sort"
      ret .none) P E { s with heap := h3 } := by
    intro st p hout hf hord
    have hlen : p.length = vs.length := by rw [hord.pm.length_eq]; simp
    refine wpAny_bind (seqEpoch_at ho3 rfl ?_)
    rw [hout]
    refine wpAny_bind (listUpdate_at ho3 rfl ?_ (Nat.zero_le _) (by rw [List.size_toArray, List.length_map]; omega))
    rw [hf]
    simp only [bne_self_eq_false, Bool.false_eq_true, if_false]
    refine wpAny_pure (h p _ _ hord (get?_update_seq ho3 (fun _ => (p.map fun i => vs.getD i .none).toArray)) fun b o hb e => ?_)
    rw [Heap.get?_update_other _ _ (Ne.symm hb)]; exact oth b o hb e
  by_cases h2 : vs.toArray.size < 2
  · rw [if_pos h2, if_pos h2]
    refine wpAny_bind (wpAny_pure ?_)
    dsimp only
    rw [StateT.run_pure]
    refine wpAny_bind (wpAny_pure ?_)
    have hz : vs.length < 2 := by simpa using h2
    refine fin (SortSt.mk' general' (vs.toArray.zip vs.toArray) #[] 7 none) (List.range vs.length) ?_ rfl (ZkC hz)
    show (vs.toArray.zip vs.toArray).map (·.2) = _
    match vs, hz with
    | [], _ => simp
    | [v], _ => simp
  · rw [if_neg h2, if_neg h2]
    have hz : 2 ≤ vs.length := by simp at h2; exact h2
    refine wpAny_bind (kas_kind (T := .type "list") hz (fun v hv => ?_) (by decide) (by decide) ?_)
    · obtain ⟨i, hi, rfl⟩ := getD_mem' hv
      obtain ⟨b, e, r⟩ := hr3.2 i hi
      rw [e]; exact Zkl r
    have est : SortSt.mk' oneType' (vs.toArray.zip vs.toArray) #[] 7 none = kas_st oneType' (pairsOf vs) (List.toArray (List.range vs.length)) := by
      have e := kas_range (pairsOf vs)
      rw [pairsOf_size] at e
      show SortSt.mk' oneType' (pairsOf vs) #[] 7 none = SortSt.mk' oneType' ((List.toArray (List.range vs.length)).map (kas_item (pairsOf vs))) #[] 7 none
      rw [e]
    have run := kas_runs (prog := prog) (w := w) (A := A) (E := E) (κ := oneType') (it := pairsOf vs) (s := { s with heap := h3 }) (Q := fun _ st' s' => s' = { s with heap := h3 } ∧ ∃ p : List Nat, (arrOf st').map (·.2) = (p.map fun i => vs.getD i .none).toArray ∧ failedOf st' = none ∧ Ord vs.length (fun i => rs.getD i []) p)
      (G := fun p s' => s' = { s with heap := h3 } ∧ Ord vs.length (fun i => rs.getD i []) p.toList) hz h64 (fun p' st' s' a1 a2 a3 a4 => ⟨a4.1, p'.toList, ?_, a3, a4.2⟩)
      (ZoA (P := fun s' => s' = { s with heap := h3 }) (key := fun i => rs.getD i []) (fun i j hi hj C s' hs' hC => ?_) hz rfl fun p' s' hv hu hs' => ⟨hs', ZpB hv hu⟩)
    · rw [← est] at run
      refine wpAny_bind (wpAny_mono run ?_ fun _ _ e => e)
      rintro ⟨⟨⟩, st'⟩ s' ⟨rfl, p, hp, hf, hord⟩
      exact fin st' p hp hf hord
    · apply Array.toList_inj.mp
      rw [a2, Array.map_map, Array.toList_map]
      exact List.map_congr_left fun i _ => by show (kas_item (pairsOf vs) i).2 = _; rw [kas_item_eq]
    · subst hs'
      obtain ⟨b1, q1, r1⟩ := hr3.2 i hi
      obtain ⟨b2, q2, r2⟩ := hr3.2 j hj
      show wpAny (model prog w) A (keyLt' oneType' (kas_item (pairsOf vs) i).1 (kas_item (pairsOf vs) j).1) C (fun _ _ => False) _
      rw [kas_item_eq, kas_item_eq, keyLt'_oneType]
      show wpAny (model prog w) A (oneLt' true (vs.getD i .none) (vs.getD j .none)) C (fun _ _ => False) _
      rw [q1, q2]
      exact ZlE (t := true) hu r1 r2 (hC _ rfl)
theorem ZiO {l:Addr}{vs:List Value}{rs:List (List Int)}{Q:Value→Shared→Prop}(hu:A.units + 4 < cLine)(hl:s.heap.IsList l vs.toArray)(hr:Zct s.heap vs rs)(h64:vs.length < 64)
  (h:∀ p h' c D,Ord vs.length (fun i=>rs.getD i []) p→s.heap.objs.size≤D→h'.get? D=some (seqObj "list" (p.map fun i=>vs.getD i .none).toArray c)→(∀ b o,s.heap.get? b=some o→h'.get? b=some o)→Q (.ref D) { s with heap:=h' }) :
  wpAny (model prog w) A (call (.builtin "sorted") [.ref l]) Q E s:=by
 have hsl:=sizeLine_eq
 refine Calls.call_function_entry kind_sorted plain_sorted entry_sorted (args_sorted1 _) ?_
 unfold Builtin.«sorted»
 refine wpAny_bind (m:=checkCount "sorted" 1 1 _) (wpAny_pure (wpAny_bind (collect_list hl ?_ (by omega))))
 refine wpAny_bind (wpAny_newList ?_ (by omega))
 obtain ⟨h2,e2⟩:∃ h2,h2=(s.heap.push (seqObj "list" #[] 0)).update s.heap.objs.size (Obj.mapSeq (·++vs.toArray)):=⟨_,rfl⟩
 have sz2:h2.objs.size=s.heap.objs.size + 1:=by rw [e2,Heap.size_update,size_push']
 have up2:∀ b o,s.heap.get? b=some o→h2.get? b=some o:=fun b o e=>by
  rw [e2,Heap.get?_update_other _ _ (Nat.ne_of_gt (Heap.lt_size e))]
  exact Heap.get?_push_of_some _ e
 show wpAny _ _ _ _ _ { s with heap:=((s.heap.push (seqObj "list" #[] 0)).update s.heap.objs.size (Obj.mapSeq (·++vs.toArray))).push (seqObj "list" vs.toArray 0) }
 rw [← e2]
 have g3:(h2.push (seqObj "list" vs.toArray 0)).get? h2.objs.size=some (seqObj "list" vs.toArray 0):=Heap.get?_push_size _ rfl
 have up3:∀ b o,s.heap.get? b=some o→(h2.push (seqObj "list" vs.toArray 0)).get? b=some o:=fun b o e=>Heap.get?_push_of_some _ (up2 b o e)
 refine wpAny_bind (wpAny_holding (wpAny_call_entry slot_list_sort ⟨_,g3,rfl⟩ entry_list_sort ?_ (args_list_sort _)))
 have hu2:A.in1.in1.units < cLine:=by
  have:A.in1.in1.units≤A.units + 4:=by simp [Around.in1]
  omega
 refine Zlu (s:={ s with heap:=h2.push (seqObj "list" vs.toArray 0) }) hu2 g3 (hr.keep fun b r _ o e=>up3 b o e) (fun v hv e=>?_) h64 fun p h' c hp hg hk=>⟨_,rfl,wpAny_pure ⟨_,rfl,h p h' c _ hp (by show s.heap.objs.size≤h2.objs.size;omega) hg fun b o e=>hk b o ?_ (up3 b o e)⟩⟩
 ·obtain ⟨i,hi,q⟩:=getD_mem' hv
  obtain ⟨b,e',vs',⟨o,ho,_⟩,_⟩:=hr.2 i hi
  rw [q,e] at e'
  injection e' with e'
  have h9:b < s.heap.objs.size:=Heap.lt_size ho
  rw [← e'] at h9
  exact Nat.lt_irrefl _ (Nat.lt_of_lt_of_le h9 (by show s.heap.objs.size≤h2.objs.size;omega))
 ·have:=Heap.lt_size e
  exact Nat.ne_of_lt (by rw [sz2];exact Nat.lt_succ_of_lt this)
end
end PV
set_option linter.all false
set_option Elab.async false
set_option maxRecDepth 100000
set_option maxHeartbeats 4000000
namespace PV
open PySem PySem.Spec PyProof.Rows
open L2 (V Hp HO Vals SqL SqT Same upd Cx PE PT PW PA PS PSs TE TT TA TS Inv RelV Yc Jd Zd Un)
noncomputable def tNL (K:PySem.W.Frag) (f:Ex):TE:=fun σ H Q=>∃ BF BH F env L ds,SOk K BF BH F H σ env L∧f env=some (.lst ds) ∧
 ∀ a vs F' H',Ext F H F' H'→H a=none→H' a=some (.lst vs)→F' a=none→Yh (cut F' BH) ds vs→Q (.ref a) H'
structure PDl (X:Cx)(e:Expr)(f:Ex):Prop where
 h:PE X e (tNL X.K f)
theorem Zoc {f:Ex}{env:Env}{d:D}(h:eFl f env=some d):∃ ds,f env=some (.lst ds)∧d=.lst ds∧ds.all YQ=true:=by
 unfold eFl at h
 split at h
 ·rename_i ds e
  split at h
  ·rename_i hs;cases h;exact ⟨ds,e,rfl,hs⟩
  ·cases h
 ·cases h
theorem ZbW {H:Hp}{l:List Addr}{b:Addr}{o:HO}(q:hpL H l b=some o):b ∈ l:=by
 unfold hpL at q
 split at q
 ·assumption
 ·cases q
section
variable {X:Cx} {m m1 m2:Md} {r:RetP} {a b e:Expr} {es:List Expr} {f g:Ex} {fs:List Ex} {t:Tx} {pos pos' p p2:Pos}
theorem PDo.fl (h:PDo X m e f):PDw X e (eFl f):=⟨PE.of h fun σ H Q hh_=>el9 hh_ fun BF BH F env L d S e q=>by
 obtain ⟨ds,e1,rfl,hs⟩:=Zoc e
 refine ⟨BF,BH,F,env,L,ds,S,e1,fun a vs F' H' z h0 h1 h2 r=>?_⟩
 have y:Ext F H (upd F' a (.lst vs)) H':=z.frz h0 h1 h2
 refine q _ _ H' y ?_
 simp only [RepN]
 exact ⟨a,vs,rfl,by rw [ZbP h0];exact Yc,ZgS hs r⟩⟩
theorem Zk6:PDl X (.List [] pos) (eLst []):=⟨PE.of (ZaY (m:=.k) (pos:=pos) (X:=X) Yd) fun σ H Q hh_=>el9 hh_ fun BF BH F env L ds S e q=>by
 refine ⟨BF,BH,F,env,L,ds,S,e,fun a vs F' H' z h0 h1 h2 r=>q a vs F' H' z h0 h1 h2 ?_⟩
 cases e
 simp only [Reps,Yh] at r ⊢
 exact r⟩
theorem PDl.n (h:PDl X e f)(hf:∀ env d,f env=some d→∃ ds,d=.lst ds):PDn X e f:=⟨PE.of h.h fun σ H Q hh_=>el9 hh_ fun BF BH F env L d S e q=>by
 obtain ⟨ds,rfl⟩:=hf env d e
 refine ⟨BF,BH,F,env,L,ds,S,e,fun a vs F' H' z h0 h1 h2 r=>?_⟩
 have y:Ext F H (upd F' a (.lst vs)) H':=z.frz h0 h1 h2
 refine q _ _ H' y ?_
 simp only [RepN]
 refine ⟨a,vs,rfl,by rw [ZbP (S.s0.free h0)];exact Yc,Yh.mono (Zbd fun b o hb=>?_) _ _ r⟩
 have hne:b≠a:=fun e=>by rw [e,h2] at hb;cases hb
 rw [Jd hne];exact hb⟩
theorem Zpp {K:PySem.W.Frag}{BF BH F F' H H':Hp}{σ:L2.St}{env:Env}{L:Nat→List Addr}(S:SOk K BF BH F H σ env L)(z:Ext F H F' H')(i:Nat){p:Addr}{vs:List V}{ds:List D}(h0:H p=none)(h1:H' p=some (.lst vs))(h2:F' p=none)(r:Yh (cut F' BH) ds vs) :
  SOk K BF BH F' H' (σ.set i (some (.ref p))) (env.set i (.nw ds)) (putL L i [p]) :=
 (S.ext z).set i ⟨p,vs,rfl,rfl,h1,r⟩ (fun a h=>by
  rw [List.mem_singleton] at h;subst h
  exact ⟨h2,S.s0.free h0,by rw [h1];simp⟩) (fun a h j hj hm=>by
  rw [List.mem_singleton] at h;subst h
  exact (S.ow j a hm).2.2 h0)
theorem ZkM (nd:X.N.Nodup)(i:Nat){x:Str}(ha:PDl X e f)(hi:X.N[i]?=some x:=by kernel_rfl)(hx:locB X.env.scope x=true:=by kernel_rfl)(hs:swapsWith e (some (.Name x pos')) pos.line X.env=pure false:=by rfl)
  (hf:fnB X x=true:=by kernel_rfl):PS1 X r (.Assign [.Name x pos'] e pos) (sNew i f) :=
 PS1.mk <| PS.of (L2.Zdo nd hi (ZV hx) ha.h hs (Zaj hf)) fun D0 σ H hh_=>el10 hh_ fun BF BH F env L o env' S e k=>by
  unfold sNew at e
  split at e
  ·rename_i ds h1
   cases e
   exact ⟨BF,BH,F,env,L,ds,S,h1,fun p vs F' H' z h0 h2 h3 r=>k F' H' _ _ (Zpp S z i h0 h2 h3 r) z.ff⟩
  ·cases e
theorem Zqe {K:PySem.W.Frag}{BF BH F H:Hp}{σ:L2.St}{env:Env}{L:Nat→List Addr}(S:SOk K BF BH F H σ env L){i:Nat}{ds:List D}(h:env[i]?=some (.nw ds)):∃ p vs,σ[i]?=some (some (.ref p))∧L i=[p]∧H p=some (.lst vs)∧Yh (cut F BH) ds vs:=by
 obtain ⟨ov,h1,h2⟩:=S.sl i _ h
 obtain ⟨p,vs,rfl,h3,h4,h5⟩:=h2
 exact ⟨p,vs,h1,h3,h4,h5⟩
theorem Zg1 {H:Hp}:∀ {ds es:List D} {vs ws:List V},Yh H ds vs→Yh H es ws→Yh H (ds++es) (vs++ws)
 | [],es,vs,ws,h,k=>by simp only [Yh] at h;subst h;exact k
 | d::ds,es,vs,ws,h,k=>by
  simp only [Yh] at h
  obtain ⟨v,r,rfl,h2,h3⟩:=h
  show Yh H (d::(ds++es)) (v::(r++ws))
  simp only [Yh]
  exact ⟨v,_,rfl,h2,Zg1 h3 k⟩
theorem Yh.len {H:Hp}:∀ {ds:List D} {vs:List V},Yh H ds vs→ds.length=vs.length
 | [],vs,h=>by simp only [Yh] at h;subst h;rfl
 | d::ds,vs,h=>by
  simp only [Yh] at h
  obtain ⟨v,r,rfl,h2,h3⟩:=h
  simp [h3.len]
theorem Zjn (i:Nat) {x:Str} {p1 p2 p3 p4:Pos} (ha:PDn X e f) (hN:X.N[i]?=some x:=by kernel_rfl) (hv:visB X.env.scope x=true:=by kernel_rfl) (hd:(x == ("__debug__":Str))=false:=by kernel_rfl)
  (hcd:(x == ("__classdict__":Str))=false:=by kernel_rfl) (hst:nst e=true:=by rfl)
  (hbase:attributeBase (.Name x p1) "append" X.env (eval (.Name x p1) X.env)=eval (.Name x p1) X.env:=by rfl)
  (hline:(p2.endLine == p3.line)=true:=by rfl)
  (hsw:swapsWith (.Call (.Attribute (.Name x p1) "append" p2) [e] [] p3) none p4.line X.env=pure false:=by rfl) :
  PS1 X r (.Expr (.Call (.Attribute (.Name x p1) "append" p2) [e] [] p3) p4) (ZeG i f) :=
 PS1.mk <| PS.of (L2.Zcp (L2.Zdy PySem.F.plainAttrs_list PySem.F.slot_list_append PySem.F.type_list_append L2.ZcU (L2.JN hN (ZD hv) hd hcd) (L2.Ym ha.h L2.Yv (Yn hst)) hbase (by rw [ZaM (Zbf hst)];rfl) hline (Jh hst) rfl) hsw) fun D0 σ H hh_=>el10 hh_ fun BF BH F env L o env' S e k=>by
  unfold ZeG at e
  split at e
  ·rename_i ds d he h1
   split at e
   ·rename_i hlen
    cases e
    obtain ⟨p,vs,hσ,hl,hp,rr⟩:=Zqe S he
    refine ⟨_,hσ,Zei hp,BF,BH,F,env,L,d,S,h1,fun v F' H' z rv=>?_⟩
    have S':=S.ext z
    have r':Yh (cut F' BH) (ds++[d]) (vs++[v]):=Zg1 (Yh.mono (Zbd z.ff) _ _ rr) (by simp only [Yh];exact ⟨v,[],rfl,rv,rfl⟩)
    refine ⟨p,vs,v,rfl,rfl,z.hh _ _ hp,by rw [← rr.len];exact Nat.lt_of_lt_of_le hlen Zdc,?_⟩
    refine k F' _ σ L (S'.own (i:=i) (a:=p) (by rw [hl];simp) _ fun s ov h1 h2 h3=>?_) z.ff
    rw [hσ] at h2;cases h2
    exact ⟨p,_,rfl,hl,Yc,r'⟩
   ·cases e
  ·cases e
mutual
theorem Zf3 {H:Hp}:∀ (d:D) (v:V),RepN H d v→∃ l:List Addr,RepN (hpL H l) d v∧∀ x ∈ l,H x≠none
 | .non,v,h=>⟨[],by simp only [RepN] at h ⊢;exact h,by simp⟩
 | .bl _,v,h=>⟨[],by simp only [RepN] at h ⊢;exact h,by simp⟩
 | .int _,v,h=>⟨[],by simp only [RepN] at h ⊢;exact h,by simp⟩
 | .str _,v,h=>⟨[],by simp only [RepN] at h ⊢;exact h,by simp⟩
 | .lst ds,v,h=>by
  simp only [RepN] at h
  obtain ⟨a,vs,rfl,h2,h3⟩:=h
  obtain ⟨l,h4,h5⟩:=ZcY ds vs h3
  refine ⟨a::l,?_,fun x hx=>?_⟩
  ·simp only [RepN]
   exact ⟨a,vs,rfl,by rw [Zcw List.mem_cons_self];exact h2,Yh.mono (fun b o q=>by
    have hb:b ∈ l:=ZbW q
    rw [Zcw (List.mem_cons_of_mem _ hb)];exact ZbU b o q) _ _ h4⟩
  ·rcases List.mem_cons.mp hx with rfl | hx
   ·rw [h2];simp
   ·exact h5 x hx
 | .tup ds,v,h=>by
  simp only [RepN] at h
  obtain ⟨a,vs,rfl,h2,h3⟩:=h
  obtain ⟨l,h4,h5⟩:=ZcY ds vs h3
  refine ⟨a::l,?_,fun x hx=>?_⟩
  ·simp only [RepN]
   exact ⟨a,vs,rfl,by rw [Zcw List.mem_cons_self];exact h2,Yh.mono (fun b o q=>by
    have hb:b ∈ l:=ZbW q
    rw [Zcw (List.mem_cons_of_mem _ hb)];exact ZbU b o q) _ _ h4⟩
  ·rcases List.mem_cons.mp hx with rfl | hx
   ·rw [h2];simp
   ·exact h5 x hx
 | .dct kvs,v,h=>by
  simp only [RepN] at h
  obtain ⟨a,o,rfl,h2⟩:=h
  refine ⟨[a],?_,fun x hx=>?_⟩
  ·simp only [RepN]
   exact ⟨a,o,rfl,by rw [Zcw List.mem_cons_self];exact h2⟩
  ·rw [List.mem_singleton] at hx;subst hx;rw [h2];simp
theorem ZcY {H:Hp}:∀ (ds:List D) (vs:List V),Yh H ds vs→∃ l:List Addr,Yh (hpL H l) ds vs∧∀ x ∈ l,H x≠none
 | [],vs,h=>⟨[],by simp only [Yh] at h ⊢;exact h,by simp⟩
 | d::ds,vs,h=>by
  simp only [Yh] at h
  obtain ⟨v,r,rfl,h2,h3⟩:=h
  obtain ⟨l1,a1,b1⟩:=Zf3 d v h2
  obtain ⟨l2,a2,b2⟩:=ZcY ds r h3
  have up:∀ l,(∀ x ∈ l,x ∈ l1++l2)→Same (hpL H l) (hpL H (l1++l2)):=fun l hl b o q=>by
   have hb:b ∈ l:=ZbW q
   rw [Zcw (hl b hb)];exact ZbU b o q
  refine ⟨l1++l2,?_,fun x hx=>(List.mem_append.mp hx).elim (b1 x) (b2 x)⟩
  simp only [Yh]
  exact ⟨v,r,rfl,RepN.mono (up l1 fun x hx=>List.mem_append_left _ hx) _ _ a1,Yh.mono (up l2 fun x hx=>List.mem_append_right _ hx) _ _ a2⟩
end
theorem Zm5 (nd:X.N.Nodup)(i:Nat){x:Str}(ha:PDw X e f)(hi:X.N[i]?=some x:=by kernel_rfl)(hx:locB X.env.scope x=true:=by kernel_rfl)(hs:swapsWith e (some (.Name x pos')) pos.line X.env=pure false:=by rfl)
  (hf:fnB X x=true:=by kernel_rfl):PS1 X r (.Assign [.Name x pos'] e pos) (sJk i f) :=
 PS1.mk <| PS.of (L2.Zdo nd hi (ZV hx) ha.h hs (Zaj hf)) fun D0 σ H hh_=>el10 hh_ fun BF BH F env L o env' S e k=>by
  unfold sJk at e
  split at e
  ·rename_i d h1
   cases e
   refine ⟨BF,BH,F,env,L,d,S,h1,fun v F' H' z rv=>?_⟩
   obtain ⟨l,rl,hl⟩:=Zf3 d v rv
   have cut':∀ a ∈ l,H a=none∧F' a≠none:=fun a ha=>by
    have:=hl a ha
    unfold cut at this
    cases hq:H a with
    | none=>rw [hq] at this;exact ⟨rfl,this⟩
    | some o=>rw [hq] at this;exact absurd rfl this
   let F2:Hp:=fun b=>if b ∈ l then none else F' b
   have sub:∀ b o,F2 b=some o→F' b=some o:=fun b o hb=>by
    have hb':(if b ∈ l then none else F' b)=some o:=hb
    split at hb'
    ·cases hb'
    ·exact hb'
   have fsame:Same F F2:=fun b o hb=>by
    have hne:b ∉ l:=fun hm=>by rw [S.fh.free (cut' b hm).1] at hb;cases hb
    show (if b ∈ l then none else F' b)=some o
    rw [if_neg hne];exact z.ff b o hb
   have z2:Ext F H F2 H':=⟨z.hh,fsame,fun b o hb=>z.dm b o (sub b o hb),fun b o hb=>z.fh b o (sub b o hb)⟩
   refine k F2 H' _ _ ((S.ext z2).set (l:=l) i ⟨v,rfl,RepN.mono (fun b o q=>?_) _ _ rl⟩ (fun a ha=>⟨if_pos ha,S.s0.free (cut' a ha).1,fun hn=>?_⟩) (fun a ha j hj hm=>(S.ow j a hm).2.2 (cut' a ha).1)) fsame
   ·have hb:b ∈ l:=ZbW q
    rw [Zcw hb]
    exact z.fh b o (ZbO b o (ZbU b o q))
   ·cases hq:F' a with
    | none=>exact (cut' a ha).2 hq
    | some o=>have:=z.fh a o hq;rw [hn] at this;cases this
  ·cases e
theorem Zio (i:Nat)(h:PTd X e t):PTd X e (tFrz i t):=PT.of h fun σ H Q hh_=>el9 hh_ fun BF BH F env L b S e q=>by
 unfold tFrz at e
 split at e
 ·rename_i d he
  have S':=S.frz i (s':=.sh d) he fun ov _ h ff=>by
   obtain ⟨v,rfl,r⟩:=h
   refine ⟨v,rfl,RepN.rep _ _ (RepN.mono (fun b o q=>?_) _ _ r)⟩
   have hb:b ∈ L i:=ZbW q
   rw [Za2 hb];exact ZbU b o q
  exact ⟨BF,BH,_,_,_,b,S',e,fun F' H' z=>q F H' ⟨z.hh,.refl _,fun _ _ h=>.inl h,S.fh.trans z.hh⟩⟩
 ·cases e
end
end PV
set_option linter.all false
set_option Elab.async false
set_option maxRecDepth 100000
set_option maxHeartbeats 4000000
namespace PV
open PySem PySem.Spec PyProof.Rows
open L2 (V Hp HO Vals SqL SqT Same upd Cx PE PT PW PA PS PSs TE TT TA TS Inv RelV Yc Jd Zd Un)
theorem Zm2 {H:Hp}:∀ {ds:List D} {vs:List V},ds.all YQ=true→Yh H ds vs→∀ v ∈ vs,∀ p,v≠.ref p
 | [],vs,_,h,v,hv,p=>by simp only [Yh] at h;subst h;simp at hv
 | d::ds,vs,hs,h,v,hv,p=>by
  simp only [Yh] at h
  obtain ⟨w,r,rfl,h2,h3⟩:=h
  rw [List.all_cons,Bool.and_eq_true] at hs
  rcases List.mem_cons.mp hv with rfl | hv
  ·have h1:=hs.1
   intro e
   subst e
   cases d <;> simp_all [RepN,YQ]
  ·exact Zm2 hs.2 h3 v hv p
theorem Zk3 {d:D}(h:ZeX d=true):∃ r,d=.lst r∧r.all YQ=true∧r.length < lim:=by
 cases d with
 | lst r=>simp only [ZeX,Bool.and_eq_true,decide_eq_true_eq] at h;exact ⟨r,rfl,h.1,h.2⟩
 | _=>simp [ZeX] at h
section
variable {X:Cx} {m m1 m2:Md} {r:RetP} {a b e:Expr} {es:List Expr} {f g:Ex} {fs:List Ex} {t:Tx} {pos pos' p p2:Pos}
theorem Zp7 {K:PySem.W.Frag}{BF BH F H:Hp}{σ:L2.St}{env:Env}{L:Nat→List Addr}(S:SOk K BF BH F H σ env L){i:Nat}{ds:List D}(h:env[i]?=some (.jk (.lst ds))):∃ p vs,σ[i]?=some (some (.ref p))∧p ∈ L i∧H p=some (.lst vs)∧Yh (hpL H (L i)) ds vs:=by
 obtain ⟨ov,h1,h2⟩:=S.sl i _ h
 obtain ⟨v,rfl,h3⟩:=h2
 simp only [RepN] at h3
 obtain ⟨a,vs,rfl,h4,h5⟩:=h3
 exact ⟨a,vs,h1,ZbW h4,ZbU _ _ h4,h5⟩
theorem Zh4 (i:Nat) {x:Str} {k:Int} {j1 j2} {p1 p2 p3 p4 p5 p6 p7:Pos} (hN:X.N[i]?=some x:=by kernel_rfl) (hv:visB X.env.scope x=true:=by kernel_rfl) (hd:(x == ("__debug__":Str))=false:=by kernel_rfl)
  (hcd:(x == ("__classdict__":Str))=false:=by kernel_rfl)
  (hbase:attributeBase (.Subscript (.Name x p1) (.Constant (.int 0) j1 p5) p6) "append" X.env (eval (.Subscript (.Name x p1) (.Constant (.int 0) j1 p5) p6) X.env)=eval (.Subscript (.Name x p1) (.Constant (.int 0) j1 p5) p6) X.env:=by rfl)
  (hline:(p2.endLine == p3.line)=true:=by rfl)
  (hsw:swapsWith (.Call (.Attribute (.Subscript (.Name x p1) (.Constant (.int 0) j1 p5) p6) "append" p2) [.Constant (.int k) j2 p7] [] p3) none p4.line X.env=pure false:=by rfl) :
  PS1 X r (.Expr (.Call (.Attribute (.Subscript (.Name x p1) (.Constant (.int 0) j1 p5) p6) "append" p2) [.Constant (.int k) j2 p7] [] p3) p4) (ZcB i k) :=
 PS1.mk <| PS.of (L2.Zcp (L2.Zdy PySem.F.plainAttrs_list PySem.F.slot_list_append PySem.F.type_list_append L2.ZcU (L2.ZjV L2.ZlJ (L2.JN hN (ZD hv) hd hcd) L2.ZfZ (fun _ _=>rfl)) (L2.Ym L2.ZfZ L2.Yv (Yn rfl)) hbase (by rw [ZaM (Zbf rfl)];rfl) hline (Jh rfl) rfl) hsw) fun D0 σ H hh_=>el10 hh_ fun BF BH F env L o env' S e kk=>by
  unfold ZcB at e
  split at e
  ·rename_i r0 ds he
   split at e
   ·rename_i hc
    cases e
    obtain ⟨p,vs,hσ,hm,hp,rr⟩:=Zp7 S he
    simp only [Yh] at rr
    obtain ⟨v0,vr,rfl,h0,hr⟩:=rr
    obtain ⟨r1,rfl,hsc,hlen⟩:=Zk3 hc.1
    simp only [RepN] at h0
    obtain ⟨p0,w0,rfl,hp0,rw0⟩:=h0
    have hp0':=ZbU _ _ hp0
    have hm0:=ZbW hp0
    have hne:p≠p0:=fun e=>by
     rw [← e,hp] at hp0'
     cases hp0'
     exact Zm2 hsc rw0 (.ref p0) List.mem_cons_self p0 rfl
    have l0:w0.length < sizeLine:=by rw [← rw0.len];exact Nat.lt_of_lt_of_le hlen Zdc
    have S':=S.own (i:=i) (a:=p0) hm0 (HO.lst (w0++[.int k])) (s':=.jl (ds.length + 1)) fun s ov h1 h2 h3=>by
     rw [hσ] at h2;cases h2
     exact ⟨p,_,rfl,hm,by rw [Jd hne];exact hp,by rw [List.length_cons,← hr.len];exact Nat.le_refl _⟩
    refine ⟨_,hσ,.inl ⟨p,_,0,.ref p0,rfl,rfl,.inl (.inl hp),by simp [L2.atI,L2.ixN],?_⟩⟩
    exact ⟨Zei hp0',p0,w0,.int k,rfl,rfl,hp0',l0,kk F _ σ L S' (.refl _)⟩
   ·cases e
  ·cases e
theorem ZnB {pins:List (Addr × Obj)}{σ:L2.St}{H:Hp}{s:Shared}(I:Inv X pins σ H s):∀ {vs:List V} {us:List Value} {rs:List (List Int)},Vals vs us→(vs.length=rs.length∧∀ i,i < vs.length→∃ b,vs[i]?=some (.ref b)∧SqL X.K H b ((rs.getD i []).map V.int))→Zct s.heap us rs:=by
 intro vs us rs hv ⟨h1,h2⟩
 have hl:=hv.length
 refine ⟨by rw [← hl];exact h1,fun i hi=>?_⟩
 obtain ⟨b,e,hS⟩:=h2 i (by omega)
 obtain ⟨u,hu,ru⟩:=hv.get e
 cases ru
 refine ⟨b,by rw [List.getD_eq_getElem?_getD,hu];rfl,?_⟩
 obtain ⟨its,r,p,z⟩:=I.list hS
 exact ⟨_,p.isList,by simpa using ZaK r⟩
noncomputable def Zqc (K:PySem.W.Frag):List V→Hp→L2.VK→Prop:=fun xs H Q =>
 (∃ (l:Addr) (ns:List Int),xs=[.ref l]∧SqL K H l (ns.map V.int)∧ns.length < 64∧∀ q,H q=none→Q (.ref q) (upd H q (.lst ((srt ns).map V.int)))) ∨
 (∃ (l:Addr) (vs:List V) (rs:List (List Int)),xs=[.ref l]∧SqL K H l vs∧(vs.length=rs.length∧∀ i,i < vs.length→∃ b,vs[i]?=some (.ref b)∧SqL K H b ((rs.getD i []).map V.int))∧vs.length < 64 ∧
  ∀ q p,H q=none→Ord vs.length (fun i=>rs.getD i []) p→Q (.ref q) (upd H q (.lst (p.map fun i=>vs.getD i .non))))
theorem Zhh {vs:List V}{us:List Value}(h:Vals vs us):∀ (p:List Nat),(∀ i ∈ p,i < vs.length)→Vals (p.map fun i=>vs.getD i .non) (p.map fun i=>us.getD i .none)
 | [],_=>.nil
 | i::p,hp=>by
  have hi:=hp i List.mem_cons_self
  obtain ⟨u,hu,ru⟩:=h.get (i:=i) (x:=vs.getD i .non) (by simp [List.getD,hi])
  refine .cons ?_ (Zhh h p fun j hj=>hp j (List.mem_cons_of_mem _ hj))
  show L2.RelV (vs.getD i .non) (us.getD i .none)
  rw [List.getD_eq_getElem?_getD (l:=us),hu];exact ru
theorem Zlf (hu:X.A.units + 64 < cLine):L2.Zaq X (.builtin "sorted") (Zqc X.K):=by
 intro pins s σ H xs us Q I r h
 rcases h with ⟨l,ns,rfl,hS,h64,k⟩ | ⟨l,vs,rs,rfl,hS,hR,h64,k⟩
 ·obtain ⟨u,rfl,ru⟩:=r.one
  cases ru
  obtain ⟨its,rv,pl,z⟩:=I.list hS
  have hi:=ZaK rv
  have hl:=Zfu hi
  refine sorted_ints pl.isList hi (by omega) fun out ns' a1 a2 a3=>?_
  have ej:ns'=srt ns:=Zie a2 a3
  obtain ⟨c,hc⟩:=sortedAll_at s.heap its out
  have I2:=I.laid (a:=s.heap.objs.size + 1) (o:=.lst ((srt ns).map V.int)) (h':=sortedAll s.heap its out) (t':=s.toks) (fun b u e=>sortedAll_old e) (Nat.le_succ _) ⟨by rw [List.length_map,(Yu _).length_eq,sizeLine_eq];omega,out.toList,c,ej ▸ ZdU a1,by simpa using hc⟩
  exact ⟨.ref _,_,I2,rfl,k _ (I.hok.fresh (Nat.le_succ _))⟩
 ·obtain ⟨u,rfl,ru⟩:=r.one
  cases ru
  obtain ⟨its,rv,pl,z⟩:=I.list hS
  have hl:=rv.length
  refine ZiO (by omega) pl.isList (ZnB I rv hR) (by omega) fun p h' c D hp hD hg hk=>?_
  rw [← hl] at hp
  have hlt:∀ i ∈ p,i < vs.length:=fun i hi=>by simpa using hp.pm.mem_iff.mp hi
  have I2:=I.laid (a:=D) (o:=.lst (p.map fun i=>vs.getD i .non)) (h':=h') (t':=s.toks) hk hD ⟨by rw [List.length_map,hp.pm.length_eq,List.length_range,sizeLine_eq];omega,_,c,Zhh rv p hlt,hg⟩
  exact ⟨.ref D,_,I2,rfl,k D p (I.hok.fresh hD) hp⟩
theorem ZlD {α:Type}(l:List α)(d:α):(List.range l.length).map (fun i=>l.getD i d)=l:=by
 apply List.ext_getElem
 ·simp
 ·intro i h1 h2
  simp at h1
  simp [List.getD,h1]
theorem ZnH {rs:List (List Int)}{p:List Nat}(h:Ord rs.length (fun i=>rs.getD i []) p):p.map (fun i=>rs.getD i [])=srtB (fun r=>r) rs:=by
 have hlen:p.length=rs.length:=by rw [h.pm.length_eq];simp
 have p1:(p.map fun i=>rs.getD i []).Perm rs:=by
  have:=h.pm.map fun i=>rs.getD i []
  rwa [ZlD] at this
 refine (p1.trans (ZR _ rs).symm).eq_of_pairwise (fun x y _ _ h1 h2=>leL.anti h1 h2) ?_ (ZeO (fun r=>r) rs)
 rw [List.pairwise_iff_getElem]
 intro i j hi hj hij
 simp only [List.length_map] at hi hj
 have:=h.up i j (Nat.le_of_lt hij) (by omega)
 simpa [List.getD,hi,hj] using this
theorem ZmB {d:D}{r:List Int}(h:Zas d=some r):d=rowD r:=by
 cases d with
 | lst xs=>simp only [Zas] at h;rw [ints_of h];rfl
 | _=>simp [Zas] at h
theorem Zhf:∀ {xs:List D} {rs:List (List Int)},ZcL xs=some rs→xs=rs.map rowD
 | [],rs,h=>by simp only [ZcL] at h;cases h;rfl
 | x::xs,rs,h=>by
  simp only [ZcL] at h
  split at h
  ·rename_i r q h1 h2;cases h;rw [ZmB h1,Zhf h2];rfl
  ·cases h
theorem ZgW {K:PySem.W.Frag}{H:Hp}{ds:List D}{vs:List V}(h:Reps K H ds vs):∀ (p:List Nat),(∀ i ∈ p,i < vs.length)→Reps K H (p.map fun i=>ds.getD i .non) (p.map fun i=>vs.getD i .non)
 | [],_=>Reps.nil
 | i::p,hp=>by
  have hi:=hp i List.mem_cons_self
  obtain ⟨d,hd,rd⟩:=h.getV (i:=i) (v:=vs.getD i .non) (by simp [List.getD,hi])
  refine Reps.cons ?_ (ZgW h p fun j hj=>hp j (List.mem_cons_of_mem _ hj))
  show Rep K H (ds.getD i .non) (vs.getD i .non)
  rw [List.getD_eq_getElem?_getD (l:=ds),hd];exact rd
theorem ZgH {p:Pos} (T:Bt X.mg) (hu:X.A.units + 64 < cLine) (ha:PD X m a f) (hg:X.env.kindOf "sorted"=some .globalImplicit:=by kernel_rfl) (hs:nst a=true:=by rfl):PDo X m (.Call (.Name "sorted" p) [a] [] pos) (eF1 Z4 f) :=
 PE.of (L2.ZcK (Zlf hu) hg T.sorted boot_sorted (L2.Ym ha.h L2.Yv (Yn hs)) (by decide) (by decide) (Jh hs) rfl) fun σ H Q hh_=>el9 hh_ fun BF BH F env L ds S e q=>by
  unfold eF1 at e
  split at e
  ·rename_i x hx
   refine ⟨BF,BH,F,env,L,x,S,hx,fun v F' H' z rx=>?_⟩
   have hm:=Zf6 (BH:=BH) z.fh m
   unfold Z4 at e
   split at e
   ·rename_i xs
    simp only [Rep] at rx
    obtain ⟨l,vs,rfl,hS,hr⟩:=rx
    split at e
    ·rename_i ns hn
     split at e
     ·rename_i h64
      cases e
      have ex:=ints_of hn
      subst ex
      have ev:=Zcl hr
      subst ev
      refine .inl ⟨l,ns,rfl,hm.seq hS,h64,fun p hp=>?_⟩
      obtain ⟨y2,h0,h2,s⟩:=ZbQ (m:=m) S z hp (HO.lst ((srt ns).map V.int))
      exact q p _ F' _ y2 h0 Yc h2 (Reps.ints _)
     ·cases e
    ·split at e
     ·rename_i rs hrs
      split at e
      ·rename_i h64
       cases e
       have ex:=Zhf hrs
       subst ex
       have hl:vs.length=rs.length:=by rw [← hr.length];simp
       refine .inr ⟨l,vs,rs,rfl,hm.seq hS,⟨hl,fun i hi=>?_⟩,by omega,fun p ps hp hord=>?_⟩
       ·obtain ⟨v,hv,rv⟩:=hr.get (i:=i) (d:=rowD (rs.getD i [])) (by simp [List.getD,show i < rs.length by omega])
        simp only [rowD,Rep] at rv
        obtain ⟨b,ws,rfl,hS2,hr2⟩:=rv
        have ew:=Zcl hr2
        subst ew
        exact ⟨b,hv,hm.seq hS2⟩
       ·have hlt:∀ i ∈ ps,i < vs.length:=fun i hi=>by simpa using hord.pm.mem_iff.mp hi
        obtain ⟨y2,h0,h2,s⟩:=ZbQ (m:=m) S z hp (HO.lst (ps.map fun i=>vs.getD i .non))
        refine q p _ F' _ y2 h0 Yc h2 ?_
        have e3:(srtB (fun r=>r) rs).map (fun r=>D.lst (r.map .int))=ps.map fun i=>(rs.map rowD).getD i .non:=by
         rw [← ZnH (by rw [← hl];exact hord),List.map_map]
         refine List.map_congr_left fun i hi=>?_
         have hi':i < rs.length:=by rw [← hl];exact hlt i hi
         simp [List.getD,hi',rowD]
        rw [e3]
        exact Reps.mono s _ _ (ZgW hr ps hlt)
      ·cases e
     ·cases e
   ·cases e
  ·cases e
theorem Zk9 {env:Env}{d:D}(h:eF1 Z4 f env=some d):∃ ds,d=.lst ds:=by
 unfold eF1 at h
 split at h
 ·unfold Z4 at h
  split at h
  ·split at h
   ·split at h
    ·cases h;exact ⟨_,rfl⟩
    ·cases h
   ·split at h
    ·split at h
     ·cases h;exact ⟨_,rfl⟩
     ·cases h
    ·cases h
  ·cases h
 ·cases h
theorem Zb7 {p:Pos} (T:Bt X.mg) (hu:X.A.units + 64 < cLine) (ha:PD X m a f) (hg:X.env.kindOf "sorted"=some .globalImplicit:=by kernel_rfl) (hs:nst a=true:=by rfl):PD X m (.Call (.Name "sorted" p) [a] [] pos) (eF1 Z4 f):=(ZgH T hu ha hg hs).d fun env d h=>Zk9 h
end
end PV
set_option Elab.async false
set_option linter.all false
set_option maxRecDepth 100000
namespace L2
open PySem PySem.Spec PyProof.Rows
section
variable {κ:Type} [DecidableEq κ]
noncomputable def valV (kvs:List (κ × V)) (k:κ):Option V:=(kvs.find? fun kv=>decide (kv.1=k)).map (·.2)
noncomputable def putK (kvs:List (κ × V)) (k:κ) (v:V):List (κ × V) :=
 if (kvs.any fun kv=>decide (kv.1=k))=true then kvs.map (fun kv=>if kv.1=k then (kv.1,v) else kv) else kvs++[(k,v)]
noncomputable def Zm0 (kvs:List (κ × V)) (k:κ):List (κ × V):=kvs.filter fun kv=>decide (kv.1≠k)
theorem Zft {p:κ × V}{r:List (κ × V)}{k:κ}(e:p.1=k):valV (p::r) k=some p.2:=by simp [valV,List.find?_cons,e]
theorem Zfy {p:κ × V}{r:List (κ × V)}{k:κ}(e:¬ p.1=k):valV (p::r) k=valV r k:=by simp [valV,List.find?_cons,e]
theorem Ziz (k:κ):∀ kvs:List (κ × V),(kvs.any fun kv=>decide (kv.1=k))=(valV kvs k).isSome
 | []=>rfl
 | p::r=>by
  rw [List.any_cons]
  by_cases e:p.1=k
  ·simp only [Zft e,decide_eq_true e,Bool.true_or,Option.isSome_some]
  ·rw [Zfy e,decide_eq_false e,Bool.false_or];exact Ziz k r
theorem Zfl (kvs:List (κ × V))(k:κ)(v:V):(putK kvs k v).length≤kvs.length + 1:=by
 unfold putK
 split
 ·rw [List.length_map];omega
 ·rw [List.length_append,List.length_cons,List.length_nil];omega
theorem RelO.ZkI {o:Option V}{u:Option Value}(r:RelO o u):o.isSome=u.isSome:=by
 cases o with
 | none=>cases u with
  | none=>rfl
  | some _=>exact (show False from r).elim
 | some _=>cases u with
  | none=>exact (show False from r).elim
  | some _=>rfl
theorem RelO.getD {o:Option V}{u:Option Value}{d:V}{d':Value}(r:RelO o u)(rd:RelV d d'):RelV (o.getD d) (u.getD d'):=by
 cases o with
 | none=>cases u with
  | none=>exact rd
  | some _=>exact (show False from r).elim
 | some _=>cases u with
  | none=>exact (show False from r).elim
  | some _=>exact r
theorem KV.val {kvs:List (κ × V)}{vs:List (κ × Value)}(r:KV kvs vs)(k:κ):RelO (valV kvs k) (valueAt vs k):=by
 unfold KV at r
 induction r with
 | nil=>exact True.intro
 | @cons p q ps qs h t ih =>
  obtain ⟨h1,h2⟩:=h
  by_cases e:p.1=k
  ·have e':q.1=k:=h1.symm.trans e
   have b:valueAt (q::qs) k=some q.2:=by simp [valueAt,List.find?_cons,e']
   rw [Zft e,b];exact h2
  ·have e':¬ q.1=k:=fun z=>e (h1.trans z)
   have b:valueAt (q::qs) k=valueAt qs k:=by simp [valueAt,List.find?_cons,e']
   rw [Zfy e,b];exact ih
theorem KV.any {kvs:List (κ × V)}{vs:List (κ × Value)}(r:KV kvs vs)(k:κ):(kvs.any fun kv=>decide (kv.1=k))=vs.any fun kv=>decide (kv.1=k):=by
 unfold KV at r
 induction r with
 | nil=>rfl
 | cons h t ih=>rw [List.any_cons,List.any_cons,ih,h.1]
theorem KV.repl {kvs:List (κ × V)}{vs:List (κ × Value)}(r:KV kvs vs)(k:κ){y:V}{u:Value}(ry:RelV y u) :
  KV (kvs.map fun kv=>if kv.1=k then (kv.1,y) else kv) (vs.map fun kv=>if kv.1=k then (kv.1,u) else kv):=by
 unfold KV at r ⊢
 induction r with
 | nil=>exact .nil
 | @cons p q ps qs h t ih =>
  rw [List.map_cons,List.map_cons]
  refine .cons ?_ ih
  obtain ⟨h1,h2⟩:=h
  by_cases e:p.1=k
  ·rw [if_pos e,if_pos (h1.symm.trans e)];exact ⟨h1,ry⟩
  ·rw [if_neg e,if_neg (fun z=>e (h1.trans z))];exact ⟨h1,h2⟩
theorem KV.put {kvs:List (κ × V)}{vs:List (κ × Value)}(r:KV kvs vs)(k:κ){y:V}{u:Value}(ry:RelV y u):KV (putK kvs k y) (stored vs k u):=by
 unfold putK stored
 rw [r.any k]
 by_cases e:(vs.any fun kv=>decide (kv.1=k))=true
 ·rw [if_pos e,if_pos e];exact r.repl k ry
 ·rw [if_neg e,if_neg e];exact Paired.snoc r ⟨rfl,ry⟩
theorem KV.drop {kvs:List (κ × V)}{vs:List (κ × Value)}(r:KV kvs vs)(k:κ):KV (Zm0 kvs k) (without vs k):=by
 unfold KV at r ⊢
 unfold Zm0 without
 induction r with
 | nil=>exact .nil
 | @cons p q ps qs h t ih =>
  obtain ⟨h1,h2⟩:=h
  rw [List.filter_cons,List.filter_cons]
  by_cases e:p.1=k
  ·have a:¬ decide (p.1≠k)=true:=by simp [e]
   have b:¬ decide (q.1≠k)=true:=by simp [h1.symm.trans e]
   rw [if_neg a,if_neg b];exact ih
  ·have e':¬ q.1=k:=fun z=>e (h1.trans z)
   have a:decide (p.1≠k)=true:=by simp [e]
   have b:decide (q.1≠k)=true:=by simp [e']
   rw [if_pos a,if_pos b];exact .cons ⟨h1,h2⟩ ih
theorem KV.length {kvs:List (κ × V)}{vs:List (κ × Value)}(r:KV kvs vs):kvs.length=vs.length:=Paired.length r
end
theorem Zkh {P:Program}{w:World}{k:Key}{u:Value}(r:RelV (kV k) u):(ZS P w).is k u=true:=by
 cases k with
 | inl i=>obtain ⟨t,e⟩:=(show ∃ t,u=Value.int i t from r);subst e;exact ZiJ P w i t
 | inr x=>obtain ⟨t,e⟩:=(show ∃ t,u=Value.str x t from r);subst e;exact ZiY P w x t
theorem Zhd {P:Program}{w:World}:∀ {ks:List Key} {us:List Value},Vals (ks.map kV) us→ItemsAre (ZS P w) ks us
 | [],_,r=>by rw [List.map_nil] at r;cases r;exact .nil
 | k::ks,_,r=>by
  rw [List.map_cons] at r
  cases r with
  | cons h t=>exact .cons (Zkh h) (Zhd t)
noncomputable abbrev KT (H:Hp):List (List Key × V)→List (List Key × Addr × Value)→Prop:=Paired fun p q=>p.1=q.1∧H q.2.1=some (.tup (p.1.map kV))∧RelV p.2 q.2.2
theorem KT.val {H:Hp}{kvs:List (List Key × V)}{xs:List (List Key × Addr × Value)}(r:KT H kvs xs)(k:List Key):RelO (valV kvs k) ((atKey xs k).map (·.2)):=by
 induction r with
 | nil=>exact True.intro
 | @cons p q ps qs h t ih =>
  obtain ⟨h1,_,h2⟩:=h
  by_cases e:p.1=k
  ·have e':q.1=k:=h1.symm.trans e
   have b:atKey (q::qs) k=some q.2:=by simp [atKey,List.find?_cons,e']
   rw [Zft e,b];exact h2
  ·have e':¬ q.1=k:=fun z=>e (h1.trans z)
   have b:atKey (q::qs) k=atKey qs k:=by simp [atKey,List.find?_cons,e']
   rw [Zfy e,b];exact ih
theorem KT.repl {H:Hp}{kvs:List (List Key × V)}{xs:List (List Key × Addr × Value)}(r:KT H kvs xs)(k:List Key){y:V}{u:Value}(ry:RelV y u) :
  KT H (kvs.map fun kv=>if kv.1=k then (kv.1,y) else kv) (xs.map (putAt k u)):=by
 induction r with
 | nil=>exact .nil
 | @cons p q ps qs h t ih =>
  rw [List.map_cons,List.map_cons]
  refine .cons ?_ ih
  obtain ⟨h1,h2,h3⟩:=h
  unfold putAt
  by_cases e:p.1=k
  ·rw [if_pos e,if_pos (h1.symm.trans e)];exact ⟨h1,h2,ry⟩
  ·rw [if_neg e,if_neg (fun z=>e (h1.trans z))];exact ⟨h1,h2,h3⟩
theorem KT.put {H:Hp}{kvs:List (List Key × V)}{xs:List (List Key × Addr × Value)}(r:KT H kvs xs)(k:List Key){b:Addr}{y:V}{u:Value}(hb:H b=some (.tup (k.map kV)))(ry:RelV y u) :
  KT H (putK kvs k y) (storedH xs k b u):=by
 have e:(kvs.any fun kv=>decide (kv.1=k))=(atKey xs k).isSome:=by
  rw [Ziz,(r.val k).ZkI,Option.isSome_map]
 unfold putK storedH
 rw [e]
 by_cases q:(atKey xs k).isSome=true
 ·rw [if_pos q,if_pos q];exact r.repl k ry
 ·rw [if_neg q,if_neg q];exact Paired.snoc r ⟨rfl,hb,ry⟩
theorem KT.keeps {H H':Hp}{kvs:List (List Key × V)}{xs:List (List Key × Addr × Value)}(r:KT H kvs xs)(ht:∀ b ys,H b=some (.tup ys)→H' b=some (.tup ys)):KT H' kvs xs :=
 Paired.mapP r fun _ _ z=>⟨z.1,ht _ _ z.2.1,z.2.2⟩
section
variable {P:Program} {w:World} {H:Hp} {h:Heap} {a:Addr}
theorem ZmZ {u:HO}(ok:HOk P w H h)(e:Rd H a u):Zw P w H h a u:=e.ok ok
theorem Zj6 {kvs:List (Key × V)}(ok:HOk P w H h)(e:Rd H a (.dK kvs)):kvs.length≤sizeLine∧(a == sysModules)=false∧∃ vs,KV kvs vs∧h.DictOf (ZS P w) a vs :=
 show Zw P w H h a (.dK kvs) from ZmZ ok e
theorem Zp9 {kvs:List (Key × V)}(ok:HOk P w H h)(e:H a=some (.dK kvs)):kvs.length≤sizeLine∧(a == sysModules)=false∧∃ vs,KV kvs vs∧h.DictOf (ZS P w) a vs:=Zj6 ok (.inl e)
theorem ZhL {ks:List Key}(ok:HOk P w H h)(e:H a=some (.tup (ks.map kV))):(tupleKind (ZS P w)).is h ks a:=by
 obtain ⟨_,its,r,o,h1,h2,n,h3⟩:=(show Zw P w H h a (.tup (ks.map kV)) from ok a _ e)
 exact ⟨o,its.toArray,n,h1,h2,h3,by simpa using Zhd r⟩
theorem ZjS {kvs:List (List Key × V)}(ok:HOk P w H h)(e:Rd H a (.dT kvs)):kvs.length≤sizeLine∧(a == sysModules)=false ∧
  ∃ xs,KT H kvs xs∧h.DictOfH (tupleKind (ZS P w)) a xs:=by
 obtain ⟨z,y,xs,r,o,es,ep,h1,h2,h3,h4,h5⟩:=(show Zw P w H h a (.dT kvs) from ZmZ ok e)
 refine ⟨z,y,xs,r,o,es,ep,h1,h2,h3,h4,fun x hx=>?_,h5⟩
 have all:∀ {l:List (List Key × V)} {m:List (List Key × Addr × Value)},KT H l m→∀ x ∈ m,(tupleKind (ZS P w)).is h x.1 x.2.1:=by
  intro l m q
  induction q with
  | nil=>intro x hx;exact nomatch hx
  | @cons p q ps qs hq t ih =>
   intro x hx
   rcases List.mem_cons.mp hx with e | hx
   ·subst e
    exact ZhL ok (by rw [← hq.1];exact hq.2.1)
   ·exact ih x hx
 exact all r x hx
theorem ZpL {kvs:List (List Key × V)}(ok:HOk P w H h)(e:H a=some (.dT kvs)):kvs.length≤sizeLine∧(a == sysModules)=false ∧
  ∃ xs,KT H kvs xs∧h.DictOfH (tupleKind (ZS P w)) a xs:=ZjS ok (.inl e)
end
noncomputable def DGet (H:Hp) (a:Addr) (y:V) (r:Option V):Prop :=
 (∃ kvs k,Rd H a (.dK kvs)∧y=kV k∧r=valV kvs k)∨∃ kvs k b,Rd H a (.dT kvs)∧y=.ref b∧H b=some (.tup (k.map kV))∧r=valV kvs k
noncomputable def DPut (H:Hp) (a:Addr) (y v:V) (H':Hp):Prop :=
 (∃ kvs k,H a=some (.dK kvs)∧y=kV k∧kvs.length < sizeLine∧H'=upd H a (.dK (putK kvs k v))) ∨
 ∃ kvs k b,H a=some (.dT kvs)∧y=.ref b∧H b=some (.tup (k.map kV))∧kvs.length < sizeLine∧H'=upd H a (.dT (putK kvs k v))
theorem DGet.k {H:Hp}{a:Addr}{kvs:List (Key × V)}{k:Key}(e:H a=some (.dK kvs)):DGet H a (kV k) (valV kvs k):=.inl ⟨kvs,k,.inl e,rfl,rfl⟩
theorem DPut.k {H:Hp}{a:Addr}{kvs:List (Key × V)}{k:Key}{v:V}(e:H a=some (.dK kvs))(hl:kvs.length < sizeLine):DPut H a (kV k) v (upd H a (.dK (putK kvs k v))):=.inl ⟨kvs,k,e,rfl,hl,rfl⟩
section
variable {X:Cx} {pins:List (Addr × Obj)} {σ:St} {H:Hp} {s:Shared} {a:Addr} {y v:V} {u r:Value} {o:Option V} {A:Around} {E:Value→Shared→Prop}
theorem Inv.big (I:Inv X pins σ H s):sysModules < s.heap.objs.size:=by
 have h:mainGlobals < s.heap.objs.size:=(I.mod.glob.keeps I.bk).lt
 exact Nat.lt_trans (by decide) h
theorem ZlS {Q:Value→Shared→Prop}(hu:A.units + 1 < cLine)(I:Inv X pins σ H s)(g:DGet H a y (some v))(ry:RelV y u)(h:∀ w' s',Inv X pins σ H s'→RelV v w'→Q w' s') :
  wpAny (model X.prog X.w) A (getItem (.ref a) u) Q E s:=by
 rcases g with ⟨kvs,k,e,ey,l⟩ | ⟨kvs,k,b,e,ey,eb,l⟩
 ·subst ey
  obtain ⟨z,hd,vs,rel,dd⟩:=Zj6 I.hok e
  obtain ⟨w',hw,rw'⟩:=RelO.some_of (v:=v) (o:=valueAt vs k) (by rw [l];exact rel.val k)
  exact wpAny_getItem_of (Zkh ry) dd.mapOf hw (h w' _ (I.tok _) rw')
 ·subst ey
  cases (show u=Value.ref b from ry)
  obtain ⟨z,hd,xs,rel,dd⟩:=ZjS I.hok e
  obtain ⟨w',hw,rw'⟩:=RelO.some_of (v:=v) (o:=(atKey xs k).map (·.2)) (by rw [l];exact rel.val k)
  obtain ⟨p,hp,hp2⟩:=Option.map_eq_some_iff.mp hw
  refine wpAny_getItem_heap (tupleKind_room_in1 hu) (ZhL I.hok eb) dd hp ?_
  rw [hp2]
  exact h w' _ (I.tok _) rw'
theorem Zjj {h':Heap}{t':Nat}{ob:HO}(I:Inv X pins σ H s)(mu:Mut (H a))(hs:Heap.SameBut a s.heap h')(he:∃ q,h'.get? a=some q)(new:Zw X.prog X.w (upd H a ob) h' a ob) :
  Inv X pins σ (upd H a ob) { s with heap:=h',toks:=t' } :=
 I.write (x:=a) (e:=a) mu (.inl rfl) (fun b q hb z=>(hs.2 b hb).trans z) he new
theorem Zpe {P:Program}{w:World}{H':Hp}{h':Heap}{kvs:List (Key × V)}{vs:List (Key × Value)}(z:kvs.length≤sizeLine)(hd:(a == sysModules)=false)(rel:KV kvs vs)(dd:h'.DictOf (ZS P w) a vs) :
  Zw P w H' h' a (.dK kvs):=⟨z,hd,vs,rel,dd⟩
theorem Zk0 {H':Hp}{Q:Unit→Shared→Prop}(hu:A.units + 1 < cLine)(I:Inv X pins σ H s)(g:DPut H a y v H')(ry:RelV y u)(rv:RelV v r)(h:∀ s',Inv X pins σ H' s'→Q () s') :
  wpAny (model X.prog X.w) A (setItem (.ref a) u r) Q E s:=by
 rcases g with ⟨kvs,k,e,ey,l,eH⟩ | ⟨kvs,k,b,e,ey,eb,l,eH⟩
 ·subst ey eH
  obtain ⟨z,hd,vs,rel,dd⟩:=Zp9 I.hok e
  have hz:vs.length≤sizeLine:=by rw [← rel.length];exact z
  have hl:(putK kvs k v).length≤sizeLine:=by have:=Zfl kvs k v;omega
  refine wpAny_setItem_pairs (hsz:=hz) (Zkh ry) dd fun h' dd' hs=>h _ ?_
  have he:∃ q,h'.get? a=some q:=let ⟨q,_,_,hq,_⟩:=dd';⟨q,hq⟩
  exact Zjj I (by rw [e];exact True.intro) hs he (Zpe hl hd (rel.put k rv) dd')
 ·subst ey eH
  cases (show u=Value.ref b from ry)
  obtain ⟨z,hd,xs,rel,dd⟩:=ZpL I.hok e
  have hz:xs.length≤sizeLine:=by rw [← Paired.length rel];exact z
  have hl:(putK kvs k v).length≤sizeLine:=by have:=Zfl kvs k v;omega
  refine wpAny_setItem_heap (hsz:=hz) (tupleKind_room_in1 hu) (ZhL I.hok eb) dd fun h' dd' hs=>h _ ?_
  obtain ⟨q,es,ep,hq,h2,h3,h4,_,h5⟩:=dd'
  refine Zjj I (by rw [e];exact True.intro) hs ⟨q,hq⟩ ⟨hl,hd,_,(rel.put k eb rv).keeps fun c ys ec=>?_,q,es,ep,hq,h2,h3,h4,h5⟩
  rw [Jd (ZpY ec e (fun z=>nomatch z))]
  exact ec
end
section
variable {X:Cx} {pins:List (Addr × Obj)} {σ:St} {H:Hp} {s:Shared} {a:Addr} {kvs:List (Key × V)} {k:Key} {u:Value} {A:Around} {E:Value→Shared→Prop}
end
noncomputable def NoSl (i:Expr):Prop:=∀ ov iv,subscripted i false ov iv=operate [ov,iv] (getItem ov iv)
theorem Zon {prog:Program}{w:World}{A:Around}{E:Value→Shared→Prop}{s:Shared}{env:Env}{value slice:Expr}{pos:Pos}{T id:String}{Q:Value→Shared→Prop}
  (hl:typeLookup (.type T) "__getitem__"=pure (some (.builtin id))) (hs:NoSl slice)
  (h:wpAny (model prog w) A (eval value env) (fun o s₁=>wpAny (model prog w) A (eval slice env) (fun i s₂=>s₂.TypeIs o T∧wpAny (model prog w) A (getItem o i) Q E s₂) E s₁) E s) :
  wpAny (model prog w) A (eval (.Subscript value slice pos) env) Q E s:=by
 refine Subscript_ (wpAny_mono h (fun o s₁ h₁=>wpAny_mono h₁ (fun i s₂ h₂=>?_) fun _ _ x=>x) fun _ _ x=>x)
 obtain ⟨hT,h₂⟩:=h₂
 unfold subscriptTail
 refine wpAny_bind ?_
 rw [getitemInPython_of_ne hT.not_modules]
 refine wpAny_bind (wpAny_specialOf hT hl ?_)
 have fin:wpAny (model prog w) A (subscripted slice false o i) (fun r s₃=>wpAny (model prog w) A (letTemporaryGo value o r >>= fun _=>pure r) Q E s₃) E s₂:=by
  rw [hs o i]
  exact wpAny_operating (wpAny_mono h₂ (fun r s₃ h₃=>wpAny_bind (wpAny_letTemporaryGo (wpAny_pure h₃))) fun _ _ x=>x)
 first
  | exact wpAny_pure (wpAny_bind fin)
  | exact wpAny_bind (wpAny_pure (wpAny_bind fin))
  | exact wpAny_bind fin
theorem ZiU {X:Cx}{pins:List (Addr × Obj)}{σ:St}{H:Hp}{s:Shared}{a:Addr}{y:V}{o:Option V}(I:Inv X pins σ H s)(g:DGet H a y o):s.TypeIs (.ref a) "dict":=by
 rcases g with ⟨kvs,k,e,_,_⟩ | ⟨kvs,k,b,e,_,_,_⟩
 ·obtain ⟨_,_,vs,_,dd⟩:=Zj6 I.hok e
  exact dd.typeIs
 ·obtain ⟨_,_,xs,_,dd⟩:=ZjS I.hok e
  exact dd.typeIs
noncomputable def Zp8 (td ty:TE):TE:=fun σ H Q=>td σ H fun x H1=>ty σ H1 fun y H2=>∃ a v,x=.ref a∧DGet H2 a y (some v)∧Q v H2
noncomputable def ZdG (td ty tv:TE):TS:=fun D σ H=>tv σ H fun v H1=>td σ H1 fun x H2=>ty σ H2 fun y H3=>∃ a H4,x=.ref a∧DPut H3 a y v H4∧D.nx σ H4
section
variable {X:Cx} {o i e value:Expr} {pos pos' tpos:Pos} {td ty tv:TE}
theorem Zoe (hu:X.A.units + 1 < cLine)(ho:PE X o td)(hi:PE X i ty)(hs:NoSl i):PE X (.Subscript o i pos) (Zp8 td ty):=by
 intro pins s σ H Q I h
 refine Zon PySem.F.slot_dict_getitem.lookup hs (thn (ho pins s σ H _ I h) fun u s1 ⟨x,H1,I1,rx,q1⟩=>thn (hi pins s1 σ H1 _ I1 q1) fun iv s2 ⟨y,H2,I2,ry,a,v,ex,g,q2⟩=>?_)
 subst ex
 obtain rfl:u=Value.ref a:=rx
 exact ⟨ZiU I2 g,ZlS hu I2 g ry fun w' s3 I3 rw'=>⟨v,H2,I3,rw',q2⟩⟩
theorem ZgC (hu:X.A.units + 1 < cLine)(ho:PE X o td)(hi:PE X i ty)(hv:PE X value tv)(hs:swapsWith value (some (.Subscript o i pos')) pos.line X.env=pure false) :
  PS X (.Assign [.Subscript o i pos'] value pos) (ZdG td ty tv):=by
 intro pins s σ H D I h
 refine wpAny_Assign_Subscript (thn (hv pins s σ H _ I h) fun r s1 ⟨v,H1,I1,rv,q1⟩=>thn (ho pins s1 σ H1 _ I1 q1) fun u s2 ⟨x,H2,I2,rx,q2⟩=>thn (hi pins s2 σ H2 _ I2 q2) fun iv s3 ⟨y,H3,I3,ry,a,H4,ex,g,q3⟩=>?_) hs
 subst ex
 obtain rfl:u=Value.ref a:=rx
 exact Zk0 hu I3 g ry rv fun s4 I4=>⟨σ,H4,I4,q3⟩
end
theorem Zml {P:Program}{w:World}{H:Hp}(h:Heap)(hb:sysModules < h.objs.size):Zw P w H (h.push { cls:=.type "dict",data:=.dict #[] }) h.objs.size (.dK []) :=
 ⟨Nat.zero_le _,beq_eq_false_iff_ne.mpr (Ne.symm (Nat.ne_of_lt hb)),[],.nil,Heap.DictOf.new h⟩
noncomputable def Zpg:TE:=fun _ H Q=>∀ p,H p=none→Q (.ref p) (upd H p (.dK []))
section
variable {X:Cx} {pos:Pos}
theorem Zmt:PE X (.Dict [] [] pos) Zpg:=fun pins s σ H Q I h =>
 wpAny_Dict_empty ⟨.ref s.heap.objs.size,_,I.laid (a:=s.heap.objs.size) (o:=.dK []) (t':=s.toks) (fun _ _ q=>Heap.get?_push_of_some _ q) (Nat.le_refl _) (Zml s.heap I.big),rfl,h _ (I.hok.fresh (Nat.le_refl _))⟩
end
section
variable {X:Cx} {pins:List (Addr × Obj)} {σ:St} {H:Hp} {s:Shared} {a:Addr} {y d:V} {u r:Value} {o:Option V} {A:Around} {E:Value→Shared→Prop}
end
section
variable {X:Cx} {o e f:Expr} {apos cpos:Pos} {td ty tx:TE}
end
section
variable {X:Cx} {pins:List (Addr × Obj)} {σ:St} {H:Hp} {s:Shared} {a:Addr} {kvs:List (Key × V)} {A:Around} {E:Value→Shared→Prop}
end
section
variable {X:Cx} {pins:List (Addr × Obj)} {σ:St} {H:Hp} {s:Shared} {a:Addr} {y:V} {u:Value} {A:Around} {E:Value→Shared→Prop}
end
end L2
namespace L2
open PySem PySem.Spec PyProof.Rows
section
variable {X:Cx}
end
end L2
set_option linter.all false
set_option Elab.async false
namespace PV
open PySem (Str)
noncomputable def dget (kvs:List (Int × Int)) (k:Int):Option Int:=(kvs.find? fun p=>decide (p.1=k)).map (·.2)
noncomputable def dput (kvs:List (Int × Int)) (k v:Int):List (Int × Int) :=
 if (kvs.any fun p=>decide (p.1=k))=true then kvs.map (fun p=>if p.1=k then (p.1,v) else p) else kvs++[(k,v)]
noncomputable def Zkk:D→D→Option D
 | .dct kvs,.int k=>match dget kvs k with
  | some v=>some (.int v)
  | none=>none
 | _,_=>none
noncomputable def Zf5 (a b:Ex):Ex:=eF2 Zkk a b
noncomputable def Zks (i:Nat):St:=fun env=>some (.nx,env.set i (.dc []))
noncomputable def ZdG (i:Nat) (a e:Ex):St:=fun env=>match env[i]?,e env,a env with
 | some (.dc kvs),some (.int v),some (.int k)=>if kvs.length < lim then some (.nx,env.set i (.dc (dput kvs k v))) else none
 | _,_,_=>none
end PV
namespace PV
end PV
namespace PV
noncomputable def Zag:Nat→List D→List D
 | _,[]=>[]
 | k,d::ds=>.tup [.int k,d]::Zag (k + 1) ds
noncomputable def ZfH (a:Ex):Lx:=fun env=>match a env with
 | some (.lst xs)=>some (Zag 0 xs)
 | _=>none
end PV
set_option linter.all false
set_option Elab.async false
set_option maxRecDepth 100000
set_option maxHeartbeats 4000000
namespace PV
open PySem PySem.Spec PyProof.Rows
open L2 (V Hp HO Vals SqL SqT Same upd Cx PE PT PW PA PS PSs TE TT TA TS Inv RelV Yc Jd Zd Un)
theorem Zo8 (kvs:List (Int × Int))(k:Int):L2.valV (kvV kvs) (Sum.inl k:L2.Key)=(dget kvs k).map V.int:=by
 unfold L2.valV kvV dget
 rw [List.find?_map]
 have e:((fun kv:L2.Key × V=>decide (kv.1=(Sum.inl k:L2.Key))) ∘ fun p:Int × Int=>((Sum.inl p.1:L2.Key),V.int p.2))=fun p:Int × Int=>decide (p.1=k):=by
  funext p
  simp
 rw [e]
 cases kvs.find? fun p=>decide (p.1=k) <;> rfl
theorem Zph (kvs:List (Int × Int))(k v:Int):L2.putK (kvV kvs) (Sum.inl k:L2.Key) (V.int v)=kvV (dput kvs k v):=by
 unfold L2.putK dput
 have e:((kvV kvs).any fun kv=>decide (kv.1=(Sum.inl k:L2.Key)))=kvs.any fun p=>decide (p.1=k):=by
  unfold kvV
  rw [List.any_map]
  congr 1
  funext p
  simp
 rw [e]
 split
 ·unfold kvV
  rw [List.map_map,List.map_map]
  refine List.map_congr_left fun p _=>?_
  simp only [Function.comp]
  by_cases h:p.1=k
  ·rw [if_pos h,if_pos (by rw [h])]
  ·rw [if_neg h,if_neg (fun e=>h (Sum.inl.inj e))]
 ·unfold kvV
  rw [List.map_append]
  rfl
theorem Znf {K:PySem.W.Frag}{H:Hp}{kvs:List (Int × Int)}{v:V}(h:Rep K H (.dct kvs) v):∃ a o,v=.ref a∧H a=some (.frz o (.dK (kvV kvs))):=by simpa [Rep] using h
theorem Zmp {H:Hp}{a:Addr}{o:Obj}{kvs:List (L2.Key × V)}{k:L2.Key}(e:H a=some (.frz o (.dK kvs))):L2.DGet H a (L2.kV k) (L2.valV kvs k):=.inl ⟨kvs,k,.inr ⟨o,e⟩,rfl,rfl⟩
section
variable {X:Cx} {m m1 m2 m3:Md} {r:RetP} {a b c e:Expr} {f g h:Ex} {pos p p2 pos':Pos}
theorem ZnG (hu:X.A.units + 64 < cLine)(ha:PD X m1 a f)(hb:PD X m2 b g)(hs:L2.NoSl b:=by exact fun _ _=>rfl):PD X m (.Subscript a b pos) (Zf5 f g) :=
 PD.mk <| PE.of (L2.Zoe (by omega) ha.r.h hb.r.h hs) fun σ H Q hh_=>el9 hh_ fun BF BH F env L d S e q=>by
  unfold Zf5 eF2 at e
  split at e
  ·rename_i x y h1 h2
   unfold Zkk at e
   split at e
   ·split at e
    ·rename_i kvs k _ v hv
     cases e
     refine two S h1 h2 fun v' w F' H' z r1 r2=>?_
     obtain ⟨p,o,rfl,hp⟩:=Znf r1
     refine ⟨p,.int v,rfl,?_,q _ F' H' z (by simp [Rep])⟩
     rw [Jr r2]
     have:=Zmp (k:=(Sum.inl k:L2.Key)) hp
     rw [Zo8,hv] at this
     exact this
    ·cases e
   ·cases e
  ·cases e
theorem Zpu {K:PySem.W.Frag}{BF BH F F' H H':Hp}{σ:L2.St}{env:Env}{L:Nat→List Addr}(S:SOk K BF BH F H σ env L)(z:Ext F H F' H')(i:Nat){p:Addr}{kvs:List (Int × Int)}(h0:H p=none)(h1:H' p=some (.dK (kvV kvs)))(h2:F' p=none) :
  SOk K BF BH F' H' (σ.set i (some (.ref p))) (env.set i (.dc kvs)) (putL L i [p]) :=
 (S.ext z).set i ⟨p,rfl,rfl,h1⟩ (fun a h=>by
  rw [List.mem_singleton] at h;subst h
  exact ⟨h2,S.s0.free h0,by rw [h1];simp⟩) (fun a h j hj hm=>by
  rw [List.mem_singleton] at h;subst h
  exact (S.ow j a hm).2.2 h0)
theorem ZnW (nd:X.N.Nodup)(i:Nat){x:Str}{p3:Pos}(hi:X.N[i]?=some x:=by kernel_rfl)(hx:locB X.env.scope x=true:=by kernel_rfl)(hs:swapsWith (.Dict [] [] p3) (some (.Name x pos')) pos.line X.env=pure false:=by rfl)
  (hf:fnB X x=true:=by kernel_rfl):PS1 X r (.Assign [.Name x pos'] (.Dict [] [] p3) pos) (Zks i) :=
 PS1.mk <| PS.of (L2.Zdo nd hi (ZV hx) L2.Zmt hs (Zaj hf)) fun D0 σ H hh_=>el10 hh_ fun BF BH F env L o env' S e k=>by
  cases e
  exact fun q hq=>k F _ _ _ (Zpu S (Ext.own S.fh hq) i hq Yc (S.fh.free hq)) (.refl _)
theorem ZgC (hu:X.A.units + 64 < cLine) (i:Nat) {x:Str} {p1:Pos} (hb:PD X m1 b g) (ha:PD X m2 e f) (hN:X.N[i]?=some x:=by kernel_rfl) (hv:visB X.env.scope x=true:=by kernel_rfl) (hd:(x == ("__debug__":Str))=false:=by kernel_rfl)
  (hcd:(x == ("__classdict__":Str))=false:=by kernel_rfl) (hs:swapsWith e (some (.Subscript (.Name x p1) b pos')) pos.line X.env=pure false:=by rfl):PS1 X r (.Assign [.Subscript (.Name x p1) b pos'] e pos) (ZdG i g f) :=
 PS1.mk <| PS.of (L2.ZgC (by omega) (L2.JN hN (ZD hv) hd hcd) hb.r.h ha.r.h hs) fun D0 σ H hh_=>el10 hh_ fun BF BH F env L o env' S e k=>by
  unfold ZdG at e
  split at e
  ·rename_i kvs v kk he h1 h2
   split at e
   ·rename_i hlen
    cases e
    obtain ⟨ov,hσ,hso⟩:=S.sl i _ he
    obtain ⟨p,rfl,hl,hp⟩:=hso
    refine ⟨BF,BH,F,env,L,_,S,h1,fun v1 F1 H1 z1 r1=>⟨_,hσ,BF,BH,F1,env,L,_,S.ext z1,h2,fun v2 F2 H2 z2 r2=>?_⟩⟩
    have z:=z1.trans z2
    have hp2:H2 p=some (.dK (kvV kvs)):=z.hh _ _ hp
    refine ⟨p,_,rfl,by rw [Jr r1,Jr r2];exact L2.DPut.k (k:=(Sum.inl kk:L2.Key)) hp2 (by unfold kvV;rw [List.length_map];exact Nat.lt_of_lt_of_le hlen Zdc),?_⟩
    rw [Zph]
    refine k F2 _ σ L ((S.ext z).own (i:=i) (a:=p) (by rw [hl];simp) _ fun s ov e1 e2 e3=>?_) z.ff
    rw [hσ] at e2;cases e2
    exact ⟨p,rfl,hl,Yc⟩
   ·cases e
  ·cases e
end
end PV
set_option linter.all false
set_option Elab.async false
set_option maxRecDepth 100000
set_option maxHeartbeats 4000000
namespace PV
open PySem PySem.Spec PyProof.Rows
open L2 (V Hp HO Vals SqL SqT Same upd Cx PE PT PW PA PS PSs TE TT TA TS Inv RelV Yc Jd Zd Un)
section
variable {X:Cx} {m m1:Md} {a e:Expr} {f:Ex} {tg:Expr}
end
end PV
set_option linter.all false
set_option Elab.async false
set_option maxRecDepth 100000
set_option maxHeartbeats 4000000
namespace PV
open PySem PySem.Spec PyProof.Rows
open L2 (V Hp HO Vals SqL SqT Same upd Cx PE PT PW PA PS PSs TE TT TA TS Inv RelV Yc Jd Zd Un)
section
variable {X:Cx} {m m1 m2:Md} {r:RetP} {a b e:Expr} {f g:Ex} {pos p p2 pos':Pos}
end
end PV
set_option linter.all false
set_option Elab.async false
set_option maxRecDepth 100000
set_option maxHeartbeats 4000000
namespace PV
open PySem PySem.Spec PyProof.Rows
open L2 (V Hp HO Vals SqL SqT Same upd Cx PE PT PW PA PS PSs TE TT TA TS Inv RelV Yc Jd Zd Un)
section
variable {X:Cx} {m m1 m2:Md} {r:RetP} {a b e:Expr} {f g:Ex} {pos p p2 pos':Pos}
end
end PV
set_option linter.all false
set_option Elab.async false
set_option maxRecDepth 100000
set_option maxHeartbeats 4000000
namespace PV
open PySem PySem.Spec PyProof.Rows
open L2 (V Hp HO Vals SqL SqT Same upd Cx PE PT PW PA PS PSs TE TT TA TS Inv RelV Yc Jd Zd Un)
theorem Zez (xs:List D):(Zag 0 xs).length=xs.length:=by
 have:∀ (k:Nat) (xs:List D),(Zag k xs).length=xs.length:=by
  intro k xs
  induction xs generalizing k with
  | nil=>rfl
  | cons x xs ih=>simp [Zag,ih]
 exact this 0 xs
theorem ZlB {xs:List D}{i:Nat}{d:D}(h:xs[i]?=some d):(Zag 0 xs)[i]?=some (.tup [.int i,d]):=by
 have:∀ (k i:Nat) (xs:List D),xs[i]?=some d→(Zag k xs)[i]?=some (.tup [.int ((k + i:Nat):Int),d]):=by
  intro k i xs
  induction xs generalizing k i with
  | nil=>intro h;simp at h
  | cons x xs ih =>
   intro h
   cases i with
   | zero=>simp at h;subst h;simp [Zag]
   | succ i=>simp at h;simp only [Zag,List.getElem?_cons_succ];rw [ih (k + 1) i h];congr 4;omega
 have:=this 0 i xs h
 simpa using this
noncomputable def Ite (K:PySem.W.Frag) (a:Addr):L2.It :=
 ⟨fun i H=>∃ xs x,SqL K H a xs∧xs[i]?=some x,fun i H v H'=>∃ p x,H p=none∧v=.ref p∧H'=upd H p (.tup [.int i,x])∧∀ xs,SqL K H a xs→xs[i]?=some x,fun i H=>∃ xs,SqL K H a xs∧xs.length≤i⟩
theorem Zoq {X:Cx}{pins:List (Addr × Obj)}{σ:L2.St}{H:Hp}{s:Shared}{e it p:Addr}{h':Heap}{t':Nat}{xs:List V}(I:Inv X pins σ H s)(fe:L2.FpOk X pins H e)(fi:L2.FpOk X pins H it)
  (hp:s.heap.objs.size≤p) (k:∀ b o,b≠e→b≠it→s.heap.get? b=some o→h'.get? b=some o) (ke:∃ o,h'.get? e=some o) (ki:∃ o,h'.get? it=some o) (new:L2.Zw X.prog X.w (upd H p (.tup xs)) h' p (.tup xs)) :
  Inv X pins σ (upd H p (.tup xs)) { s with heap:=h',toks:=t' }:=by
 have hn:=I.hok.fresh hp
 refine I.step (g':=s.gens) (d':=s.drawn) (ch:=[e,it]) (fun b hb=>?_) (fun b o _ _ hc q _=>k b o (fun z=>hc (by simp [z])) (fun z=>hc (by simp [z])) q) (fun b o _ _ hc q _=>⟨o.slots,k b o (fun z=>hc (by simp [z])) (fun z=>hc (by simp [z])) q⟩) (fun b o hc q n=>?_)
  (fun b o hc q=>⟨o,k b o (fun z=>hc (by simp [z])) (fun z=>hc (by simp [z])) q⟩) (fun b ys q=>?_) (fun b o u q=>?_) (fun b ps q=>⟨#[],?_⟩) (fun m hm=>?_) (fun b u q=>?_) I.bare
 ·simp at hb
  rcases hb with rfl | rfl
  ·exact ⟨fe.2.2.2.1,fe.2.1,fe.2.2.2.2.1,fe.2.2.2.2.2⟩
  ·exact ⟨fi.2.2.2.1,fi.2.1,fi.2.2.2.2.1,fi.2.2.2.2.2⟩
 ·have:b≠p:=fun z=>by subst z;exact absurd (Nat.lt_of_lt_of_le (Heap.lt_size q) hp) (Nat.lt_irrefl _)
  rw [Jd this];exact n
 ·rw [Jd (Zd q hn)];exact q
 ·rw [Jd (Zd q hn)];exact q
 ·rw [Jd (Zd q hn),q];simp
 ·obtain ⟨o,es,ep,ho,r⟩:=hm
  exact ⟨o,es,ep,k _ o (Ne.symm fe.2.1) (Ne.symm fi.2.1) ho,r⟩
 ·by_cases hb:b=p
  ·subst hb
   rw [Yc] at q
   cases q
   exact new
  ·rw [Jd hb] at q
   refine (I.hok b u q).stay (fun c v hc z=>k c v ?_ ?_ z) (fun c z=>by rw [Jd (Zd z hn)];exact z) fun c ys z=>by rw [Jd (Zd z hn)];exact z
   ·rcases hc with z' | z'
    ·rw [z'];exact Zd q fe.1
    ·exact Zd z' fe.1
   ·rcases hc with z' | z'
    ·rw [z'];exact Zd q fi.1
    ·exact Zd z' fi.1
theorem ZkU {P:Program}{w:World}{K:PySem.W.Frag}{elts:List Expr}{x1}{tp:Pos}(a e it:Addr)(hne:e≠it):L2.Turn P w K (.Tuple elts x1 tp) (Ite K a) [e,it] e (fun i h=>(∃ old,IsEnum h e it i old)∧h.IsListIter it a i) where
 mem:=by simp
 obj:=fun i h st b hb=>by
  obtain ⟨⟨old,h1⟩,o,h2,c,d⟩:=st
  simp at hb
  rcases hb with rfl | rfl
  ·exact ⟨_,h1,fun v z=>by cases z⟩
  ·exact ⟨o,h2,fun v z=>by rw [d] at z;cases z⟩
 keep:=fun i h h' st k=>⟨let ⟨old,h1⟩:=st.1;⟨old,k e (by simp) _ h1⟩,st.2.at fun o q=>k it (by simp) o q⟩
 item:=by
  intro X hP hw hK hc i pins s σ H E I hf st hg
  subst hP hw hK
  obtain ⟨xs,x,hq,hx⟩:=hg
  obtain ⟨its,rv,p,hz⟩:=I.list hq
  obtain ⟨u,hu,ru⟩:=rv.get hx
  obtain ⟨⟨old,st1⟩,st2⟩:=st
  refine wpAny_pyNext_enum_item st1 st2 p.isList (x:=u) (by simpa using hu) hne fun h' b1 b2 b3 b4 b5=>?_
  refine ⟨_,rfl,wpAny_letOwnedTupleGo_enum (s:={ s with heap:=h',toks:=s.toks + 1 }) b1 fun h2 c1 c2=>?_⟩
  have hep:e≠s.heap.objs.size:=Nat.ne_of_lt (Heap.lt_size st1)
  have hl2:h2.IsListIter it a (i + 1):=b2.at fun o q=>(c2.2 it (Ne.symm hne)).trans q
  have kk:∀ b o,b≠e→b≠it→s.heap.get? b=some o→h2.get? b=some o:=fun b o h1 h3 q=>(c2.2 b h1).trans (b5 b o h1 h3 q)
  have tup:h2.get? s.heap.objs.size=some { cls:=.type "tuple",data:=.seq #[.int i s.toks,u] }:=(c2.2 _ (Ne.symm hep)).trans b3
  have I2:Inv X pins σ (upd H s.heap.objs.size (.tup [.int i,x])) { s with heap:=h2,toks:=s.toks + 1 }:=Zoq I (hf e (by simp)) (hf it (by simp)) (Nat.le_refl _) kk ⟨_,c1⟩ (let ⟨o,q,_⟩:=hl2;⟨o,q⟩) ⟨by rw [sizeLine_eq];simp,[.int i s.toks,u],.cons ⟨_,rfl⟩ (.cons ru .nil),⟨_,tup,rfl,_,rfl⟩⟩
  refine ⟨.ref s.heap.objs.size,_,I2,rfl,⟨_,x,I.hok.fresh (Nat.le_refl _),rfl,rfl,fun ys hy=>by rw [I.ZhC hy hq];exact hx⟩,⟨⟨u,by simpa using c1⟩,hl2⟩,fun b hb=>?_⟩
  have hb':b≠s.heap.objs.size:=by
   simp at hb
   rcases hb with rfl | rfl
   ·exact hep
   ·obtain ⟨o,q,_⟩:=st2;exact Nat.ne_of_lt (Heap.lt_size q)
  rw [Jd hb'];exact (hf b hb).1
 done:=by
  intro X hP hw hK hc i pins s σ H E I hf st hg
  subst hP hw hK
  obtain ⟨xs,hq,hx⟩:=hg
  obtain ⟨its,rv,p,hz⟩:=I.list hq
  obtain ⟨⟨old,st1⟩,st2⟩:=st
  have hl:=rv.length
  obtain ⟨f0,f1,f2,f3,f4,f5⟩:=hf it (by simp)
  exact wpAny_pyNext_enum_end (I.ok.hd hc) st1 st2 p.isList (by simp;omega) fun h' eb=>⟨rfl,I.turned (t':=s.toks) (fun b o hb q=>eb b o hb q) f0 f1 f3 f4 f5⟩
 self:=fun _ _ _ _ _ st h=>let ⟨_,he⟩:=st.1;wpAny_pyIter_enum he h
section
variable {X:Cx} {m m1:Md} {a e:Expr} {f:Ex} {p pos:Pos}
noncomputable def iEn (K:PySem.W.Frag) (tl:TE):L2.TI:=fun σ H R=>tl σ H fun x H1=>∃ y,[x]=[y]∧∃ a,y=.ref a∧(∃ xs,SqL K H1 a xs)∧R (Ite K a) H1
theorem Zqa {elts:List Expr} {x1} {tp:Pos} {tl:TE} (T:Bt X.mg) (ha:PE X a tl) (hg:X.env.kindOf "enumerate"=some .globalImplicit) (hs:nst a=true):L2.PI X (.Tuple elts x1 tp) (.Call (.Name "enumerate" p) [a] [] pos) (iEn X.K tl):=by
 intro pins s σ H R I h
 refine wpAny_Call_Name_kw (L2.Zb5 (u:=.type "enumerate") I hg T.enumerate (by decide +kernel) ?_ (by decide) (by decide))
 refine PyProof.Rows.callWith_type1 (L2.thn (L2.Ym ha L2.Yv (Yn hs) pos pins s σ H (fun xs H1=>∃ x,xs=[x]∧∃ a,x=.ref a∧(∃ ys,SqL X.K H1 a ys)∧R (Ite X.K a) H1) I h) fun us s1 ⟨xs,H1,I1,r1,q1⟩=>?_) (Jh hs) rfl
 obtain ⟨x,rfl,l,rfl,⟨ys,hq⟩,q⟩:=q1
 obtain ⟨u,rfl,ru⟩:=r1.one
 cases ru
 obtain ⟨its,rv,pl,hz⟩:=I1.list hq
 refine call_enumerate_list pl.isList fun h' he hi hsz hk=>?_
 refine wpAny_pyIter_enum (s:={ s1 with heap:=h' }) he ?_
 refine ⟨s1.heap.objs.size + 1,[s1.heap.objs.size + 1,s1.heap.objs.size],_,_,H1,rfl,I1.kept (t':=s1.toks) hk,ZkU l _ _ (Nat.succ_ne_self _),⟨⟨_,he⟩,hi⟩,fun b hb=>?_,q⟩
 simp at hb
 rcases hb with rfl | rfl
 ·exact I1.fpOk (Nat.le_succ _) (I1.hok.fresh (Nat.le_succ _))
 ·exact I1.fpOk (Nat.le_refl _) (I1.hok.fresh (Nat.le_refl _))
theorem Zn9 {elts:List Expr} {x1} {tp:Pos} (T:Bt X.mg) (ha:PD X .k a f) (hg:X.env.kindOf "enumerate"=some .globalImplicit:=by kernel_rfl) (hs:nst a=true:=by rfl):PId X (.Tuple elts x1 tp) (.Call (.Name "enumerate" p) [a] [] pos) (ZfH f):=PI.of (Zqa T ha.h hg hs) fun σ H R hh_=>el9 hh_ fun BF BH F env L ds S e q=>by
 unfold ZfH at e
 split at e
 ·rename_i xs h1
  cases e
  refine ⟨BF,BH,F,env,L,_,S,h1,fun v F' H' z r=>?_⟩
  have r':Rep X.K F' (.lst xs) v:=r
  simp only [Rep] at r'
  obtain ⟨p,vs,rfl,hs,t⟩:=r'
  have hlen:=t.length
  refine ⟨_,rfl,p,rfl,⟨vs,z.fh.seq hs⟩,q _ F' H' z ⟨fun H2 s2=>⟨vs,s2.seq hs,by rw [Zez,hlen];exact Nat.le_refl _⟩,fun i H2 s2 hi=>?_,fun i H2 x H3 F0 s1 s2 hi hy=>?_⟩⟩
  ·rw [Zez] at hi
   exact ⟨vs,vs[i]'(by omega),s2.seq hs,by simp⟩
  ·rw [Zez] at hi
   obtain ⟨pp,y,hpp,rfl,rfl,hx⟩:=hy
   have hxi:=hx vs ((s1.trans s2).seq hs)
   obtain ⟨d,k1,k2⟩:=t.getV hxi
   refine ⟨.tup [.int i,d],upd F0 pp (.tup [.int i,y]),ZlB k1,Ext.laid s2 hpp,?_⟩
   simp only [Rep,Reps]
   exact ⟨pp,_,rfl,.inl (.inl Yc),_,_,rfl,rfl,_,_,rfl,Rep.mono (fun b o hb=>by rw [Jd (Zd (s2 _ _ (s1 _ _ hb)) hpp)];exact s1 _ _ hb) _ _ k2,rfl⟩
 ·cases e
theorem pg_2 (nd:X.N.Nodup)(i j:Nat){x y:Str}{p1 p2 p3:Pos}{k:Nat}(hc:X.calm=true:=by rfl)(hi:X.N[i]?=some x:=by kernel_rfl)(hx:locB X.env.scope x=true:=by kernel_rfl)(hf:fnB X x=true:=by kernel_rfl)
  (hj:X.N[j]?=some y:=by kernel_rfl) (hy:locB X.env.scope y=true:=by kernel_rfl) (hf2:fnB X y=true:=by kernel_rfl)
  (h2:(assignEach [.Name x p1,.Name y p2] X.env).map (·.2)=assign (.Name x p1) X.env::(assignEach [.Name y p2] X.env).map (·.2):=by rfl)
  (h3:(assignEach [.Name y p2] X.env).map (·.2)=assign (.Name y p2) X.env::(assignEach [] X.env).map (·.2):=by rfl)
  (h4:(assignEach [.Name x p1,.Name y p2] X.env).length=2:=by rfl) (h5:(assignEach [.Name x p1,.Name y p2] X.env).findIdx? (·.1)=none:=by rfl) :
  PGd X (.Tuple [.Name x p1,.Name y p2] k p3) (g2 i j) :=
 fun pins s σ H v u Q I r ⟨BF,BH,F,env,L,d,env1,S,rd,e,kk⟩=>L2.ZoT hc (L2.ZhE (L2.ZeN nd hi (ZV hx) (Zaj hf)) (L2.ZhE (L2.ZeN nd hj (ZV hy) (Zaj hf2)) L2.Zn1 h3) h2) h4 h5 pins s σ H v u Q I r (by
  unfold g2 at e
  split at e
  ·rename_i d1 d2
   cases e
   simp only [Rep,Reps] at rd
   obtain ⟨a,vs,rfl,hS,v1,r1,rfl,e1,v2,r2,rfl,e2,rfl⟩:=rd
   exact ⟨a,_,rfl,seqT S.fh hS,rfl,v1,[v2],rfl,v2,[],rfl,rfl,kk F H _ _ ((S.Zdw i e1).Zdw j e2) (.refl _)⟩
  ·cases e)
end
end PV
set_option linter.all false
set_option Elab.async false
namespace PV
open PySem (Str)
inductive XO where
 | ok (o:Out) | ex (c:Nat)
noncomputable abbrev Sx:=Env→Option (XO × Env)
noncomputable abbrev Fx:=List D→Option (D ⊕ Nat)
noncomputable def xOf (g:St):Sx:=fun env=>match g env with
 | some (o,e)=>some (.ok o,e)
 | none=>none
noncomputable def xSeq (a b:Sx):Sx:=fun env=>match a env with
 | some (.ok .nx,e)=>b e
 | r=>r
noncomputable def xIf (t:Tx) (a b:Sx):Sx:=fun env=>match t env with
 | some true=>a env
 | some false=>b env
 | none=>none
noncomputable def ZlI (c:Nat):Sx:=fun env=>some (.ex c,env)
noncomputable def ZfX (φ:Fx) (es:List Ex):Env→Option (D ⊕ Nat):=fun env=>match evs es env with
 | some ds=>φ ds
 | none=>none
noncomputable def xRet (φ:Fx) (es:List Ex):Sx:=fun env=>match ZfX φ es env with
 | some (.inl d)=>some (.ok (.rt d),env)
 | some (.inr c)=>some (.ex c,env)
 | none=>none
noncomputable def runX (p n:Nat) (g:Sx):Fx:=fun ds=>if ds.length=p then (match g (enter n ds) with
  | some (.ok (.rt d),_)=>some (.inl d)
  | some (.ok .nx,_)=>some (.inl .non)
  | some (.ex c,_)=>some (.inr c)
  | _=>none) else none
noncomputable def eIsX (cs:List Nat) (i c':Nat):Ex:=fun env=>match env[i]? with
 | some (.xc c)=>if c ∈ cs then some (.bl (decide (c=c'))) else none
 | _=>none
noncomputable def eIsV (cs:List Nat) (i:Nat):Ex:=fun env=>match env[i]? with
 | some (.xc c)=>if c ∈ cs then some (.bl true) else none
 | _=>none
noncomputable def runW (n:Nat) (g:St) (c:Nat):Option D:=match g (.xc c::List.replicate (n - 1) .un) with
 | some (.rt d,_)=>some d
 | _=>none
noncomputable def sTry (g:Sx) (φ:Nat→Option D):St:=fun env=>match g env with
 | some (.ok o,e)=>some (o,e)
 | some (.ex c,e)=>match φ c with
  | some (.str w)=>some (.rt (.str w),e.map fun _=>.un)
  | _=>none
 | none=>none
noncomputable def ZhV:D→D→Option D
 | .lst ys,x=>if D.deps ys≤8∧x.dep≤8 then some (.int ((ys.countP fun y=>eqD y x:Nat))) else none
 | _,_=>none
end PV
set_option linter.all false
set_option Elab.async false
set_option maxRecDepth 100000
set_option maxHeartbeats 4000000
namespace PV
open PySem PySem.Spec PyProof.Rows
section
variable {M:Model} {A:Around} {E:Value→Shared→Prop} {s:Shared} {B h h':Heap} {env:PySem.Env} {outer l:List PySem.Env} {L e C:Addr} {fl:Value}
noncomputable def Tr (B h:Heap) (e C:Addr) (fl:Value):Prop :=
 ∃ xo ws T to tw,(h.get? e=some xo∧xo.cls=.ref C∧xo.dict=none∧xo.data=.fields ws)∧ws[1]?=some (.ref T)∧B.get? T=none∧T≠e∧h.get? T=some to∧to.data=.fields tw∧tw[3]?=some fl
structure Fl (B:Heap)(l:List PySem.Env)(e C:Addr)(fl:Value)(h:Heap):Prop where
 st:B.StaysIn h
 no:B.get? e=none
 ff:h.FunFrames B l
 tr:Tr B h e C fl
theorem Zj9 (x:h.UpToSlots h')(f:h.FunFrames B l):h'.FunFrames B l:=f.of_keeps fun b o q n=>let ⟨sl,z⟩:=x b o q n;⟨_,z,rfl⟩
theorem Zol (o:Obj)(g:Array Value→Array Value):(Obj.mapFields g o).dict=o.dict:=by
 obtain ⟨_,_,dt,_⟩:=o
 cases dt <;> rfl
theorem Zd0 {xo:Obj}{ws:Array Value}{hd:Value}{nx:Bool}{Q:Unit→Shared→Prop}(fr:A.frames=some (env::outer))(ff:s.heap.FunFrames B (env::outer))(hf:env.frame=some L)
  (st:B.StaysIn s.heap) (no:B.get? e=none) (xe:s.heap.get? e=some xo) (xc:xo.cls=.ref C) (xd:xo.dict=none) (xw:xo.data=.fields ws) (x1:1 < ws.size)
  (k:∀ g,Fl B (env::outer) e C (rawInt L) g→s.heap.UpToSlots g→Q () { s with heap:=g }) :
  wpAny M A (do let a ← frameOf env;let pl ← entryPlaceOf L nx;let b ← EntryCells.newEntry hd a .none (rawInt L) .none pl;setField (.ref e) 1 b) Q E s:=by
 have nfr:e ∉ (env::outer).filterMap (·.frame):=fun z=>by
  obtain ⟨-,o,q,n⟩:=ff.mem z
  rw [xe] at q;cases q;exact n ws xw
 refine wpAny_bind (wpAny_frameOf_fun fr ff hf fun g so=>wpAny_bind (wpAny_entryPlaceOf fun pl ip=>?_))
 unfold EntryCells.newEntry newFields
 refine wpAny_bind (wpAny_newObj_type ?_ (ip.sizeOk5 _ _ _ _ _))
 have ge:g.get? e=some xo:=(so.2.1 e nfr).trans xe
 have gB:B.StaysIn g:=fun b o q=>(so.2.1 b fun z=>by rw [(ff.mem z).1] at q;cases q).trans (st b o q)
 generalize hto:({ cls:=.type "traceback",dict:=none,data:=.fields ([hd,.ref L,.none,rawInt L,.none]++(if pl.isEmpty then List.replicate 6 Value.none else pl)).toArray }:Obj)=to
 have td:to.data=.fields ([hd,.ref L,.none,rawInt L,.none]++(if pl.isEmpty then List.replicate 6 Value.none else pl)).toArray:=by rw [← hto]
 have tf:to.isFreed=false:=Obj.isFreed_of_fields td
 have pe:(g.push to).get? e=some xo:=Heap.get?_push_of_some _ ge
 refine wpAny_setField pe xw x1 ?_
 have Te:g.objs.size≠e:=Nat.ne_of_gt (Heap.lt_size ge)
 have ud:=Obj.data_mapFields xw (·.setIfInBounds 1 (Value.ref g.objs.size))
 have ue:=Heap.get?_update_self (Obj.mapFields (·.setIfInBounds 1 (Value.ref g.objs.size))) pe (Obj.isFreed_of_fields ud)
 have uT:((g.push to).update e (Obj.mapFields (·.setIfInBounds 1 (Value.ref g.objs.size)))).get? g.objs.size=some to:=(Heap.get?_update_other _ _ (Ne.symm Te)).trans (Heap.get?_push_size g tf)
 have kp:∀ b o,b≠e→g.get? b=some o→((g.push to).update e (Obj.mapFields (·.setIfInBounds 1 (Value.ref g.objs.size)))).get? b=some o:=fun b o n q =>
  (Heap.get?_update_other _ _ (Ne.symm n)).trans (Heap.get?_push_of_some _ q)
 have up:s.heap.UpToSlots ((g.push to).update e (Obj.mapFields (·.setIfInBounds 1 (Value.ref g.objs.size)))):=fun b o q n=>by
  obtain ⟨sl,z⟩:=so.2.2 b o q
  exact ⟨sl,kp b _ (fun y=>by subst y;rw [xe] at q;cases q;exact n ws xw) z⟩
 refine k _ ⟨fun b o q=>kp b o (fun y=>by rw [y,no] at q;cases q) (gB b o q),no,Zj9 up ff,?_⟩ up
 refine ⟨_,_,g.objs.size,to,_,⟨ue,(Obj.cls_mapFields _ _).trans xc,(Zol _ _).trans xd,ud⟩,by simp [x1],gB.fresh,Te,uT,td,?_⟩
 simp
theorem land {Q:Unit→Shared→Prop}(f:Fl B l e C fl s.heap)(k:∀ g,Fl B l e C .none g→s.heap.UpToSlots g→Q () { s with heap:=g }):wpAny M A (setFlight (.ref e) none) Q E s:=by
 obtain ⟨st,no,ff,xo,ws,T,to,tw,⟨xe,xc,xd,xw⟩,w1,nT,Te,tg,td,t3⟩:=f
 have t3':=(Array.getElem?_eq_some_iff.mp t3).1
 unfold setFlight
 refine wpAny_bind (wpAny_field xe xw w1 ?_)
 rw [if_pos (by simp)]
 have ot:∀ b,b≠T→(s.heap.update T (Obj.mapFields (·.setIfInBounds 3 Value.none))).get? b=s.heap.get? b:=fun b n=>Heap.get?_update_other _ _ (Ne.symm n)
 have up:s.heap.UpToSlots (s.heap.update T (Obj.mapFields (·.setIfInBounds 3 Value.none))):=fun b o q n=>⟨o.slots,(ot b fun y=>by subst y;rw [tg] at q;cases q;exact n tw td).trans q⟩
 refine wpAny_setField tg td t3' (k _ ⟨fun b o q=>(ot b fun y=>by rw [y,nT] at q;cases q).trans (st b o q),no,Zj9 up ff,?_⟩ up)
 exact ⟨xo,ws,T,_,_,⟨(ot e (Ne.symm Te)).trans xe,xc,xd,xw⟩,w1,nT,Te,Heap.get?_update_self _ tg (Obj.isFreed_of_fields (Obj.data_mapFields td _)),Obj.data_mapFields td _,by simp [t3']⟩
theorem Zjy {Q:Unit→Shared→Prop}(fr:A.frames=some (env::outer))(hf:env.frame=some L)(f:Fl B (env::outer) e C .none s.heap)
  (k:∀ g,Fl B (env::outer) e C (rawInt L) g→s.heap.UpToSlots g→Q () { s with heap:=g }):wpAny M A (noteFrame (.ref e) env) Q E s:=by
 obtain ⟨st,no,ff,xo,ws,T,to,tw,⟨xe,xc,xd,xw⟩,w1,nT,Te,tg,td,t3⟩:=f
 unfold noteFrame
 simp only [hf]
 refine wpAny_bind (wpAny_field xe xw w1 ?_)
 rw [if_pos (by simp)]
 refine wpAny_bind (wpAny_field tg td t3 ?_)
 rw [if_neg (by simp [rawInt])]
 have ot:∀ b,b≠T→(s.heap.update T (Obj.mapFields (·.setIfInBounds 3 Value.none))).get? b=s.heap.get? b:=fun b n=>Heap.get?_update_other _ _ (Ne.symm n)
 have up:s.heap.UpToSlots (s.heap.update T (Obj.mapFields (·.setIfInBounds 3 Value.none))):=fun b o q n=>⟨o.slots,(ot b fun y=>by subst y;rw [tg] at q;cases q;exact n tw td).trans q⟩
 refine wpAny_bind (wpAny_setField tg td (Array.getElem?_eq_some_iff.mp t3).1 ?_)
 exact Zd0 fr (Zj9 up ff) hf (fun b o q=>(ot b fun y=>by rw [y,nT] at q;cases q).trans (st b o q)) no ((ot e (Ne.symm Te)).trans xe) xc xd xw (Array.getElem?_eq_some_iff.mp w1).1 fun g f' u=>k g f' (up.trans u)
theorem ZgZ {Q:Unit→Shared→Prop}(hf:env.frame=some L)(f:Fl B (env::outer) e C (rawInt L) s.heap)(k:Q () s):wpAny M A (noteFrame (.ref e) env) Q E s:=by
 obtain ⟨st,no,ff,xo,ws,T,to,tw,⟨xe,xc,xd,xw⟩,w1,nT,Te,tg,td,t3⟩:=f
 unfold noteFrame
 simp only [hf]
 refine wpAny_bind (wpAny_field xe xw w1 ?_)
 rw [if_pos (by simp)]
 refine wpAny_bind (wpAny_field tg td t3 ?_)
 rw [if_pos (by simp [rawInt])]
 exact wpAny_pure k
theorem leave_new {xo:Obj}{ws:Array Value}{Q:Unit→Shared→Prop}(fr:A.frames=some (env::outer))(hf:env.frame=some L)(ff:s.heap.FunFrames B (env::outer))
  (st:B.StaysIn s.heap) (no:B.get? e=none) (xe:s.heap.get? e=some xo) (xc:xo.cls=.ref C) (xd:xo.dict=none) (xw:xo.data=.fields ws) (x1:ws[1]?=some .none)
  (k:∀ g,Fl B outer e C .none g→s.heap.UpToSlots g→Q () { s with heap:=g }):wpAny M A (leaving env (.ref e)) Q E s:=by
 unfold leaving noteFrame
 simp only [hf]
 refine wpAny_bind (wpAny_bind (wpAny_field xe xw x1 ?_))
 rw [if_neg (by decide)]
 refine Zd0 fr ff hf st no xe xc xd xw (Array.getElem?_eq_some_iff.mp x1).1 fun g f u=>land f fun g2 f2 u2=>k g2 ⟨f2.st,f2.no,f2.ff.2.2,f2.tr⟩ (u.trans u2)
theorem ZmP {Q:Unit→Shared→Prop}(fr:A.frames=some (env::outer))(hf:env.frame=some L)(f:Fl B (env::outer) e C .none s.heap)
  (k:∀ g,Fl B outer e C .none g→s.heap.UpToSlots g→Q () { s with heap:=g }):wpAny M A (leaving env (.ref e)) Q E s:=by
 unfold leaving
 exact wpAny_bind (Zjy fr hf f fun g f1 u=>land f1 fun g2 f2 u2=>k g2 ⟨f2.st,f2.no,f2.ff.2.2,f2.tr⟩ (u.trans u2))
theorem Zkn {Q:Unit→Shared→Prop}(hf:env.frame=some L)(f:Fl B (env::outer) e C (rawInt L) s.heap)
  (k:∀ g,Fl B outer e C .none g→s.heap.UpToSlots g→Q () { s with heap:=g }):wpAny M A (leaving env (.ref e)) Q E s:=by
 unfold leaving
 exact wpAny_bind (ZgZ hf f (land f fun g2 f2 u2=>k g2 ⟨f2.st,f2.no,f2.ff.2.2,f2.tr⟩ u2))
end
end PV
set_option linter.all false
set_option Elab.async false
set_option maxRecDepth 100000
set_option maxHeartbeats 4000000
namespace PV
open PySem PySem.Spec PyProof.Rows
open L2 (V Hp HO Vals SqL SqT Same upd Cx PE PT PW PA PS PSs TE TT TA TS Inv RelV Yc Jd Zd Un HOk frs)
noncomputable def Cov (B:Heap) (fs:List Addr) (h0:Heap) (H:Hp):Prop:=∀ b,b ∉ fs→((∃ o,h0.get? b=some o)∨H b≠none)→∃ o,B.get? b=some o
noncomputable def CXe (P:Program) (w:World):L2.CXT:=fun outer H s E e s'=>∃ a C H' B,e=.ref a∧s'.os=s.os∧AllBare s'.gens∧Un (frs outer) [] H H' s.heap s'.heap∧HOk P w H' s'.heap ∧
 Cov B (frs outer) s.heap H'∧Fl B outer a C .none s'.heap∧E (.ref C) none H'
noncomputable def Ned (X:Cx) (pins:List (Addr × Obj)) (H:Hp) (b:Addr):Prop :=
 ((∃ o,X.s₀.heap.get? b=some o)∧b ∉ X.ex)∨H b≠none∨(∃ p ∈ X.pn++pins,p.1=b)∨∃ x,X.env.cells.lookup x=some b
structure XSt (X:Cx)(pins:List (Addr × Obj))(H:Hp)(s:Shared)(a C:Addr)(B:Heap):Prop where
 st:B.StaysIn s.heap
 no:B.get? a=none
 ff:s.heap.FunFrames B X.stack
 cov:∀ b,b ∉ frs X.stack→Ned X pins H b→∃ o,B.get? b=some o
 it:(∃ xo ws,(s.heap.get? a=some xo∧xo.cls=.ref C∧xo.dict=none∧xo.data=.fields ws)∧ws[1]?=some .none)∨Tr B s.heap a C .none∨Tr B s.heap a C (rawInt X.env.locals)
section
variable {P:Program} {w:World} {X:Cx} {pins:List (Addr × Obj)} {σ:L2.St} {H H':Hp} {s s':Shared} {a C:Addr} {B g h:Heap}
theorem Zkt {o:HO}(x:L2.Zw P w H h a o):∃ v,h.get? a=some v:=by
 cases o with
 | lst xs=>obtain ⟨_,_,_,_,e⟩:=x;exact ⟨_,e⟩
 | tup xs=>obtain ⟨_,_,_,o,e,_⟩:=x;exact ⟨_,e⟩
 | dK kvs=>obtain ⟨_,_,_,_,o,_,_,e,_⟩:=x;exact ⟨_,e⟩
 | dT kvs=>obtain ⟨_,_,_,_,o,_,_,e,_⟩:=x;exact ⟨_,e⟩
 | set S n=>obtain ⟨o,_,_,_,e,_⟩:=x;exact ⟨_,e⟩
 | ins C dx fs=>obtain ⟨_,_,_,e,_⟩:=x;exact ⟨_,e⟩
 | own y=>obtain ⟨_,e⟩:=x;exact ⟨_,e⟩
 | xd fs=>obtain ⟨_,⟨_,_,_,e,_⟩,_⟩:=x;exact ⟨_,e⟩
 | rng lo hi=>obtain ⟨_,_,_,e⟩:=x;exact ⟨_,e⟩
 | frz ob u=>obtain ⟨e,_⟩:=x;exact ⟨_,e⟩
 | tbl ps=>exact ⟨_,x⟩
 | met f y=>exact ⟨_,x⟩
 | ext φ=>obtain ⟨_,⟨_,e⟩,_⟩:=x;exact ⟨_,e⟩
theorem ZjF (I:Inv X pins σ H s)(cov:∀ b,b ∉ frs X.stack→H b≠none→∃ o,B.get? b=some o)(st:B.StaysIn s.heap)(sg:B.StaysIn g):HOk X.prog X.w H g:=fun b u q=>by
 refine (I.hok b u q).stay (fun c v hc z=>?_) (fun _ z=>z) fun _ _ z=>z
 have ht:H c≠none:=by
  rcases hc with rfl | hc
  ·rw [q];simp
  ·rw [hc];simp
 obtain ⟨o,ho⟩:=cov c (fun m=>ht (I.Zgv c m)) ht
 have:=st c o ho
 rw [z] at this
 cases this
 exact sg c v ho
theorem ZfC (hs:X.stack=X.env::X.outer)(hf:X.env.frame=some X.env.locals):frs X.stack=X.env.locals::frs X.outer:=by
 rw [hs];unfold frs;rw [List.filterMap_cons,hf]
theorem leaves {E:L2.XK}(hs:X.stack=X.env::X.outer)(hf:X.env.frame=some X.env.locals)(hex:X.ex=[])(I:Inv X pins σ H s)(x:XSt X pins H s a C B)(hE:E (.ref C) none H) :
  wpAny (model X.prog X.w) X.A (leaving X.env (.ref a)) (fun _ s''=>CXe X.prog X.w X.outer X.H₀ X.s₀ E (.ref a) s'') (fun e' s''=>CXe X.prog X.w X.outer X.H₀ X.s₀ E e' s'') s:=by
 have fc:=ZfC hs hf
 have neL:∀ b o,X.s₀.heap.get? b=some o→b≠X.env.locals:=fun b o e=>Nat.ne_of_lt (Nat.lt_of_lt_of_le (Heap.lt_size e) I.ok.above)
 have inB:∀ b o,X.s₀.heap.get? b=some o→b ∉ frs X.outer→∃ u,B.get? b=some u:=fun b o e n=>x.cov b (fun m=>by
  rw [fc] at m
  rcases List.mem_cons.mp m with m | m
  ·exact neL b o e m
  ·exact n m) (.inl ⟨⟨o,e⟩,by rw [hex];simp⟩)
 have key:∀ g,Fl B X.outer a C .none g→s.heap.UpToSlots g→CXe X.prog X.w X.outer X.H₀ X.s₀ E (.ref a) { s with heap:=g }:=fun g f up=>by
  have fru:∀ b o,b ∈ frs X.outer→s.heap.get? b=some o→∃ sl,g.get? b=some { o with slots:=sl }:=fun b o m q=>by
   have mm:b ∈ frs X.stack:=by rw [fc];exact List.mem_cons_of_mem _ m
   obtain ⟨-,o',q',n⟩:=x.ff.mem mm
   rw [q] at q';cases q'
   exact up b o q n
  refine ⟨a,C,H,B,rfl,I.os,I.bare,⟨fun b o e n hb hx=>?_,fun b o e n hb hx=>?_,fun b o e n hx=>?_,fun b o e hx=>?_,I.base.tups,I.base.frzs,I.base.tbls⟩,ZjF I (fun b n t=>x.cov b n (.inr (.inl t))) x.st f.st,fun b n t=>?_,f,hE⟩
  ·have q:=I.base.keep b o e n hb (by rw [hex];simp)
   obtain ⟨u,hu⟩:=inB b o e hb
   have:=x.st b u hu
   rw [q] at this;cases this
   exact f.st b o hu
  ·obtain ⟨sl,q⟩:=I.base.slot b o e n hb (by rw [hex];simp)
   obtain ⟨sl',q'⟩:=fru b _ hb q
   exact ⟨sl',q'⟩
  ·exact I.base.free b o e n (by rw [hex];simp)
  ·obtain ⟨o',q⟩:=I.base.there b o e (by rw [hex];simp)
   by_cases hb:b ∈ frs X.outer
   ·obtain ⟨sl',q'⟩:=fru b _ hb q
    exact ⟨_,q'⟩
   ·obtain ⟨u,hu⟩:=inB b o e hb
    exact ⟨u,f.st b u hu⟩
  ·by_cases hb:b=X.env.locals
   ·subst hb
    rcases t with ⟨o,e⟩ | t
    ·exact absurd rfl (neL _ o e)
    ·exact absurd I.free t
   ·refine x.cov b (fun m=>?_) (t.elim (fun t=>.inl ⟨t,by rw [hex];simp⟩) fun t=>.inr (.inl t))
    rw [fc] at m
    rcases List.mem_cons.mp m with m | m
    ·exact hb m
    ·exact n m
 have fr:X.A.frames=some (X.env::X.outer):=I.ok.frames.trans (congrArg some hs)
 have ff:=x.ff
 rw [hs] at ff
 rcases x.it with ⟨xo,ws,⟨q1,q2,q3,q4⟩,q5⟩ | tr | tr
 ·exact leave_new fr hf ff x.st x.no q1 q2 q3 q4 q5 key
 ·exact ZmP fr hf ⟨x.st,x.no,ff,tr⟩ key
 ·exact Zkn hf ⟨x.st,x.no,ff,tr⟩ key
theorem XSt.ZnX {E:L2.XK}{e:Value}(I:Inv X pins σ H s)(h:CXe X.prog X.w X.stack H s E e s'):∃ a C H' B,e=.ref a∧Inv X pins σ H' s'∧XSt X pins H' s' a C B∧E (.ref C) none H':=by
 obtain ⟨a,C,H',B,rfl,os,bare,un,hok,cov,f,hE⟩:=h
 obtain ⟨hh,gg,d,t,os'⟩:=s'
 obtain rfl:os'=s.os:=os
 have I':Inv X pins σ H' ⟨hh,gg,d,t,s.os⟩:=I.call (h':=hh) (g':=gg) (d':=d) (t':=t) (ch:=[]) un hok bare (fun b z=>absurd z (by simp))
 refine ⟨a,C,H',B,rfl,I',⟨f.st,f.no,f.ff,fun b n t=>?_,.inr (.inl f.tr)⟩,hE⟩
 rcases t with ⟨⟨o,q⟩,hx⟩ | t | ⟨p,hp,rfl⟩ | ⟨x,hx⟩
 ·obtain ⟨o',q'⟩:=I.base.there b o q hx
  exact cov b n (.inl ⟨o',q'⟩)
 ·exact cov b n (.inr t)
 ·exact cov _ n (.inl ⟨_,(I.pin p hp).1⟩)
 ·obtain ⟨v,o,ho,_⟩:=I.cell x b hx
  exact cov b n (.inl ⟨o,ho⟩)
end
end PV
set_option linter.all false
set_option Elab.async false
set_option maxRecDepth 100000
set_option maxHeartbeats 4000000
namespace PV
open PySem PySem.Spec PyProof.Rows
open L2 (V Hp HO Vals SqL SqT Same upd Cx PE PT PW PA PS PSs TE TT TA TS Inv RelV Yc Jd Zd Un HOk frs)
noncomputable def AfX (X:Cx) (pins:List (Addr × Obj)) (D0:L2.Ends) (m:RetP) (BF BH F:Hp) (env':Env):XO→Prop
 | .ok o=>∀ F' H' σ' L',SOk X.K BF BH F' H' σ' env' L'→Same F F'→After D0 m BH F' H' σ' o
 | .ex c=>∀ F' H' σ' L' s' a C B,SOk X.K BF BH F' H' σ' env' L'→Same F F'→Inv X pins σ' H' s'→XSt X pins H' s' a C B→CN X.K c C→X.xe (.ref a) s'
noncomputable def tX (X:Cx) (pins:List (Addr × Obj)) (m:RetP) (g:Sx) (D0:L2.Ends) (σ:L2.St) (H:Hp):Prop :=
 ∃ BF BH F env L o env',SOk X.K BF BH F H σ env L∧g env=some (o,env')∧AfX X pins D0 m BF BH F env' o
structure PX (X:Cx)(m:RetP)(st:List Stmt)(g:Sx):Prop where
 h:∀ pins s σ H D0,Inv X pins σ H s→tX X pins m g D0 σ H→wpAny (model X.prog X.w) X.A (execs st X.env) (L2.SP X pins D0) X.xe s
structure PX1 (X:Cx)(m:RetP)(st:Stmt)(g:Sx):Prop where
 h:∀ pins s σ H D0,Inv X pins σ H s→tX X pins m g D0 σ H→wpAny (model X.prog X.w) X.A (exec st X.env) (L2.SP X pins D0) X.xe s
theorem PS.nox {X:Cx}{st:Stmt}{t:TS}(h:PS X.nox st t):PS X st t:=fun pins s σ H D I hw =>
 wpAny_mono (h pins s σ H D (I.wish _) hw) (fun _ _ q=>q.Y6) fun _ _ z=>False.elim z
theorem PA.nox {X:Cx}{es:List Expr}{t:TA}(h:PA X.nox es t):PA X es t:=fun pos pins s σ H Q I hw =>
 wpAny_mono (h pos pins s σ H Q (I.wish _) hw) (fun _ _ ⟨vs,H',I',r,q⟩=>⟨vs,H',I'.Y6,r,q⟩) fun _ _ z=>False.elim z
section
variable {X:Cx} {m:RetP} {st:Stmt} {rest body orelse:List Stmt} {g:St} {ga gb:Sx} {c:Expr} {t:Tx} {pos:Pos}
theorem ZjB {env env':Env}{o:XO}(h:xOf g env=some (o,env')):∃ o',o=.ok o'∧g env=some (o',env'):=by
 unfold xOf at h
 split at h
 ·rename_i o' e h1;cases h;exact ⟨o',rfl,h1⟩
 ·cases h
theorem Zm3 (h:PSd X.nox m rest g):PX X m rest (xOf g):=⟨fun pins s σ H D0 I hh_=>el10 hh_ fun BF BH F env L o env' S e k=>by
 obtain ⟨o,rfl,e1⟩:=ZjB e
 exact L2.PSs.nox h.h pins s σ H D0 I ⟨BF,BH,F,env,L,o,env',S,e1,k⟩⟩
theorem ZkG (h:PS1 X.nox m st g):PX1 X m st (xOf g):=⟨fun pins s σ H D0 I hh_=>el10 hh_ fun BF BH F env L o env' S e k=>by
 obtain ⟨o,rfl,e1⟩:=ZjB e
 exact PS.nox h.h pins s σ H D0 I ⟨BF,BH,F,env,L,o,env',S,e1,k⟩⟩
theorem AfX.after {pins:List (Addr × Obj)}{D0:L2.Ends}{BF BH F F1:Hp}{env':Env}{o:XO}(k:AfX X pins D0 m BF BH F env' o)(s:Same F F1):AfX X pins D0 m BF BH F1 env' o:=by
 cases o with
 | ok o=>exact fun F' H' σ' L' S z=>k F' H' σ' L' S (s.trans z)
 | ex c=>exact fun F' H' σ' L' s' a C B S z=>k F' H' σ' L' s' a C B S (s.trans z)
theorem ZjE (h:PX1 X m st ga):PX X m [st] ga:=⟨fun pins s σ H D0 I q=>by
 refine wpAny_execs_cons (L2.thn (h.h pins s σ H D0 I q) fun f s1 q=>?_)
 cases f with
 | next=>exact wpAny_execs_nil q
 | ret v=>exact q
 | brk=>exact q
 | cont=>exact q⟩
theorem ZgT (h1 : PX1 X m st ga)(h2 : PX X m rest gb) : PX X m (st :: rest) (xSeq ga gb) := ⟨fun pins s σ H D0 I hh_ => el10 hh_ fun BF BH F env L o env' S e k => by
  unfold xSeq at e
  have go : ∀ (D1 : L2.Ends), tX X pins m ga D1 σ H → (∀ f s1, L2.SP X pins D1 f s1 → match f with | .next => wpAny (model X.prog X.w) X.A (execs rest X.env) (L2.SP X pins D0) X.xe s1 | f => L2.SP X pins D0 f s1) →
      wpAny (model X.prog X.w) X.A (execs (st :: rest) X.env) (L2.SP X pins D0) X.xe s := fun D1 q z => by
    refine wpAny_execs_cons (L2.thn (h1.h pins s σ H D1 I q) fun f s1 q => ?_)
    have := z f s1 q
    cases f <;> exact this
  split at e
  · rename_i e1 h1'
    refine go { D0 with nx := fun σ' H' => ∃ F' L', SOk X.K BF BH F' H' σ' e1 L' ∧ Same F F' } ⟨BF, BH, F, env, L, _, e1, S, h1', fun F' H' σ' L' S' z => ⟨F', L', S', z⟩⟩ fun f s1 q => ?_
    cases f with
    | next =>
      obtain ⟨σ', H', I', F', L', S', z⟩ := q
      exact h2.h pins s1 σ' H' D0 I' ⟨BF, BH, F', e1, L', o, env', S', e, k.after z⟩
    | ret v => exact q
    | brk => exact q
    | cont => exact q
  · rename_i r hne
    cases hr : ga env with
    | none => rw [hr] at e; cases e
    | some p =>
      obtain ⟨o1, e1⟩ := p
      rw [hr] at e
      cases e
      refine go { D0 with nx := fun _ _ => False } ⟨BF, BH, F, env, L, o, env', S, hr, ?_⟩ fun f s1 q => ?_
      · cases o with
        | ex c => exact k
        | ok o =>
          cases o with
          | nx => exact absurd hr (hne _)
          | bk => exact k
          | ct => exact k
          | rt d => exact k
      · cases f with
        | next => obtain ⟨_, _, _, q⟩ := q; exact q.elim
        | ret v => exact q
        | brk => exact q
        | cont => exact q⟩
theorem Zpm:PX X m [] (xOf Zk):=Zm3 Zn
theorem Zpz (hc:PTd X.nox c t)(ha:PX X m body ga)(hb:PX X m orelse gb):PX1 X m (.If c body orelse pos) (xIf t ga gb):=⟨fun pins s σ H D0 I hh_=>el10 hh_ fun BF BH F env L o env' S e k=>by
 unfold xIf at e
 have go:∀ b:Bool,t env=some b→(match b with | true=>ga env | false=>gb env)=some (o,env')→wpAny (model X.prog X.w) X.A (exec (.If c body orelse pos) X.env) (L2.SP X pins D0) X.xe s:=fun b hb' he=>by
  refine wpAny_If (L2.thn (L2.PT.nox hc pins s σ H (fun b' H1=>b'=b∧∃ F1,SOk X.K BF BH F1 H1 σ env L∧Same F F1) I ⟨BF,BH,F,env,L,b,S,hb',fun F' H' z=>⟨rfl,F',S.ext z,z.ff⟩⟩) fun d s1 q=>?_)
  obtain ⟨H1,I1,rfl,F1,S1,z⟩:=q
  cases d with
  | true=>exact ha.h pins s1 σ H1 D0 I1 ⟨BF,BH,F1,env,L,o,env',S1,he,k.after z⟩
  | false=>exact hb.h pins s1 σ H1 D0 I1 ⟨BF,BH,F1,env,L,o,env',S1,he,k.after z⟩
 split at e
 ·rename_i h1;exact go true h1 e
 ·rename_i h1;exact go false h1 e
 ·cases e⟩
theorem Zjo {h h1 base:Heap}{fs:List Addr}(k:∀ b o,h.get? b=some o→h1.get? b=some o):∀ {l:List PySem.Env},(∀ b ∈ frs l,b ∈ fs)→h.FunFrames base l→h1.FunFrames (PySem.W.hideAll h fs) l
 | [],_,_=>trivial
 | env::r,hs,⟨h1,⟨L,o,hf,hn,ho,hd⟩,hr⟩=>by
  have hL:L ∈ frs (env::r):=by unfold frs;rw [List.filterMap_cons,hf];exact List.mem_cons_self
  refine ⟨h1,⟨L,o,hf,PySem.W.hideAll_none _ (hs L hL),k _ _ ho,hd⟩,Zjo k (fun b hb=>hs b ?_) hr⟩
  unfold frs at hb ⊢
  rw [List.filterMap_cons,hf];exact List.mem_cons_of_mem _ hb
theorem XSt.made {pins:List (Addr × Obj)}{σ:L2.St}{H:Hp}{s:Shared}{a C:Addr}{h1:Heap}{vs:List Value}(I:Inv X pins σ H s)(hm:Heap.MadeExcOf s.heap h1 a (.ref C) vs) :
  Inv X pins σ H { s with heap:=h1 }∧XSt X pins H { s with heap:=h1 } a C (PySem.W.hideAll s.heap (frs X.stack)):=by
 have here:∀ b,Ned X pins H b→∃ o,s.heap.get? b=some o:=fun b t=>by
  rcases t with ⟨⟨o,q⟩,hx⟩ | t | ⟨p,hp,rfl⟩ | ⟨x,hx⟩
  ·exact I.base.there b o q hx
  ·cases q:H b with
   | none=>exact absurd q t
   | some o=>exact Zkt (I.hok b o q)
  ·exact ⟨_,(I.pin p hp).1⟩
  ·obtain ⟨v,o,ho,_⟩:=I.cell x b hx
   exact ⟨o,ho⟩
 obtain ⟨t,h2,h3,h4⟩:=hm.there
 refine ⟨I.kept (t':=s.toks) hm.keeps,fun b o q=>hm.keeps b o (PySem.W.of_hideAll _ q),?_,Zjo hm.keeps (fun _ z=>z) I.stack,fun b n t=>?_,.inl ⟨_,_,⟨h2,rfl,rfl,rfl⟩,rfl⟩⟩
 ·cases q:(PySem.W.hideAll s.heap (frs X.stack)).get? a with
  | none=>rfl
  | some o=>have:=PySem.W.of_hideAll _ q;rw [hm.new] at this;cases this
 ·obtain ⟨o,q⟩:=here b t
  exact ⟨o,PySem.W.hideAll_get _ q n⟩
structure XCl (K:PySem.W.Frag)(c:Nat):Prop where
 ex:∃ C,CN K c C∧PySem.W.excIn K C [.type "ValueError",.type "Exception",.type "BaseException",.type "object"] "ValueError.__new__"=true
theorem Zlj {K:PySem.W.Frag}{h:Heap}{C:Addr}{bmB:List Value}{newId:String}(X:K.In h)(q:PySem.W.excIn K C bmB newId=true) :
  ∃ bm N nm qn bs hd sn sub ab col dd k0 k1 k2 k3 k5 mN,h.get? C=some (excClassObj nm qn C N bs bm hd sn sub ab col dd k0 k1 k2 k3 k5 newId)∧h.Ns N mN∧mN "__init__"=none∧OwnTail h bmB bm:=by
 unfold PySem.W.excIn at q
 split at q
 ·rename_i dd cd sl ho
  split at q
  ·rename_i C' bm k0 k1 k2 k3 n k5 hm hs
   simp only [Bool.and_eq_true,beq_iff_eq,Bool.not_eq_true'] at q
   obtain ⟨⟨⟨⟨⟨rfl,rfl⟩,z1⟩,z2⟩,z3⟩,z4⟩:=q
   obtain ⟨nm,bs,mro,ns,qn,hd,sn,sub,ab,col,del⟩:=cd
   dsimp only at hm z1 z3 z4
   subst hm z1
   obtain ⟨l⟩:=sl
   simp only at hs
   subst hs
   exact ⟨bm,ns,nm,qn,bs,hd,sn,sub,ab,col,dd,k0,k1,k2,k3,k5,_,X _ _ ho,.of_isNs (PySem.W.isNs_of_in X z3),PySem.W.nsMap_none_of_in X z3 z4,PySem.W.tail_of_in X z2⟩
  ·cases q
 ·cases q
theorem ZlF (n:Nat) {x msg:Str} {np cp cpos:Pos} {j} (hcl:XCl X.K n) (hc:X.calm=true) (hx:xName n=x) (hg:X.env.kindOf x=some .globalImplicit:=by kernel_rfl) (hdb:(x == ("__debug__":Str))=false:=by kernel_rfl) :
  PX1 X m (.Raise (some (.Call (.Name x np) [.Constant (.str msg) j cp] [] cpos)) none pos) (ZlI n):=⟨fun pins s σ H D0 I hh_=>el10 hh_ fun BF BH F env L o env' S e k=>by
 cases e
 obtain ⟨C,hC,hex⟩:=hcl.ex
 subst hx
 obtain ⟨bm,N,nm,qn,bs,hd,sn,sub,ab,col,dd,k0,k1,k2,k3,k5,mN,c1,c2,c3,c4⟩:=Zlj I.mod.kin hex
 have hmg:X.mg (xName n)=some (.ref C):=PySem.W.mg_of I.mod.kin I.mod.glob hC
 refine wpAny_Raise_call_subT (C:=C) (nm:=nm) (q:=qn) (N:=N) (bs:=bs) (bm:=bm) (hdct:=hd) (sn:=sn) (sub:=sub) (ab:=ab) (col:=col) (dd:=dd) (k0:=k0) (k1:=k1) (k2:=k2) (k3:=k3) (k5:=k5) PySem.F.excBase_ValueError (mN:=mN)
  (c4.hasType PySem.F.excBase_ValueError.hasBase) (I.ok.hd hc) rfl c3 (L2.Zbp I hg hmg ⟨rfl,?_⟩ hdb)
 show wpAny _ _ (evalArgs (.ref C) true ((false,eval (.Constant (.str msg) j cp) X.env)::backTo cpos (starEach [] X.env)) []) _ _ s
 refine Calls.evalArgs_plain ?_
 have pa:PA X [.Constant (.str msg) j cp] _:=L2.Ym L2.Zkw L2.Yv rfl
 refine L2.thn (pa cpos pins s σ H (fun vs H1=>vs=[.str msg]∧H1=H) I ⟨rfl,rfl⟩) fun us s1 q=>?_
 obtain ⟨vs,H1,I1,r,rfl,rfl⟩:=q
 refine ⟨rfl,?_,I1.bk _ _ c1,c2.keeps I1.bk,c4.keeps I1.bk,fun h' a hm=>?_⟩
 ·rw [← r.length];show 1≤sizeLine;decide
 ·obtain ⟨I2,x2⟩:=XSt.made I1 hm
  exact k F _ σ L _ a C _ S (.refl _) I2 x2 hC⟩
end
noncomputable def spX (K:PySem.W.Frag) (m:RetP) (φ:Fx):L2.Sp:=fun vs H Q E=>∃ F ds,Same F H∧Reps K F ds vs ∧
 ((∃ d,φ ds=some (.inl d)∧∀ v F' H',Ext F H F' H'→m H F' H' d v→Q v H')∨∃ c,φ ds=some (.inr c)∧∀ C F' H',CN K c C→Ext F H F' H'→E (.ref C) none H')
structure CalX (P:Program)(w:World)(K:PySem.W.Frag)(mg:Str→Option Value)(base:Heap)(k:Nat)(x:Str)(m:RetP)(φ:Fx):Prop where
 ex:∃ (fa:Addr) (fd:FuncData) (ps:List Str),mg x=some (.ref fa)∧PySem.W.keepIn K (.ref fa)=true∧L2.FnOk P w K mg base (CXe P w) k fa fd ps (spX K m φ)∧L2.Binds K fd ps []
theorem CalX.mono {P:Program}{w:World}{K:PySem.W.Frag}{mg:Str→Option Value}{base:Heap}{j k:Nat}{x:Str}{m:RetP}{φ:Fx}(h:CalX P w K mg base j x m φ)(hk:j≤k):CalX P w K mg base k x m φ:=by
 obtain ⟨fa,fd,ps,h1,h2,h3,h4⟩:=h.ex
 exact ⟨⟨fa,fd,ps,h1,h2,h3.mono hk,h4⟩⟩
section
variable {X:Cx} {m m1:RetP} {e:Expr} {es:List Expr} {fs:List Ex} {x:Str} {p pos pos':Pos} {k:Nat} {φ:Fx}
theorem Zll {pins:List (Addr × Obj)} {σ:L2.St} {H BF BH F:Hp} {s:Shared} {env:Env} {L:Nat→List Addr} {r:D ⊕ Nat} {Q:L2.VK} (G:CalX X.prog X.w X.K X.mg X.base k x m1 φ) (hr:L2.Room k X.A) (ha:PAd X.nox .k (e::es) fs) (hg:L2.Gl X x) (hdb:(x == ("__debug__":Str))=false)
  (he:starEach (e::es) X.env=(false,eval e X.env)::starEach es X.env) (hpl:(backTo pos (starEach es X.env)).any (·.1)=false) (I:Inv X pins σ H s) (S:SOk X.K BF BH F H σ env L) (hφ:ZfX φ fs env=some r)
  (ok:∀ d,r=.inl d→∀ v F' H' H0,Same BH H0→Same H H0→Ext F H F' H'→m1 H0 F' H' d v→Q v H')
  (ex:∀ c,r=.inr c→∀ F' H' s' a C B,Ext F H F' H'→Inv X pins σ H' s'→XSt X pins H' s' a C B→CN X.K c C→X.xe (.ref a) s') :
  wpAny (model X.prog X.w) X.A (eval (.Call (.Name x p) (e::es) [] pos) X.env) (L2.EP X pins σ Q) X.xe s:=by
 obtain ⟨fa,fd,ps,h1,h2,h3,h4⟩:=G.ex
 unfold ZfX at hφ
 split at hφ
 ·rename_i ds h5
  refine wpAny_Call_Name_kw (L2.Zbp I hg h1 ?_ hdb)
  refine PySem.W.callWith_K (h₀:=X.base) I.ok.mod.kin h2 (L2.thn (PA.nox ha.h pos pins s σ H (fun vs H1=>∃ F1,Ext F H F1 H1∧Reps X.K F1 ds vs) I ⟨BF,BH,F,env,L,ds,S,h5,fun vs F' H' z r=>⟨F',z,r⟩⟩) fun us s1 ⟨vs,H1,I1,rv,F1,z,rp⟩=>⟨I1.kIn,?_⟩) he hpl
  have sp:spX X.K m1 φ (vs++[]) H1 Q (fun cls _ H2=>∃ C F2 c,cls=.ref C∧Ext F1 H1 F2 H2∧r=.inr c∧CN X.K c C):=by
   rw [List.append_nil]
   refine ⟨F1,ds,z.fh,rp,?_⟩
   cases r with
   | inl d=>exact .inl ⟨d,hφ,fun v F2 H2 z2 r2=>ok d rfl v F2 H2 H1 (S.s0.trans z.hh) z.hh (z.trans z2) r2⟩
   | inr c=>exact .inr ⟨c,hφ,fun C F2 H2 hc z2=>⟨C,F2,c,rfl,z2,rfl,hc⟩⟩
  have r2:Vals (vs++[]) (us++[]):=rv.append .nil
  have hl:(us++[]).length=ps.length:=by rw [← r2.length];exact h3.len _ _ _ _ sp
  refine wpAny_call (codeAny_mono (h3.run X.A X.stack s1 H1 ⟨us,[]⟩ (us++[]) (vs++[]) Q _ hr I1.env0 (h4 s1 us I1.kIn hl) r2 sp) fun rr s' hq=>?_)
  cases rr with
  | error v =>
   have hq:CXe X.prog X.w X.stack H1 s1 (fun cls _ H2=>∃ C F2 c,cls=.ref C∧Ext F1 H1 F2 H2∧r=.inr c∧CN X.K c C) v s':=hq
   obtain ⟨a,C,H',B,rfl,I',x',C',F2,c,hcc,z2,hc,hcn⟩:=XSt.ZnX I1 hq
   cases hcc
   exact ex c hc F2 H' s' a C B (z.trans z2) I' x' hcn
  | ok fl =>
   cases fl with
   | ret u=>exact I1.after hq
   | next=>exact False.elim hq
   | brk=>exact False.elim hq
   | cont=>exact False.elim hq
 ·cases hφ
theorem Znj (hm:∀ A B F' H' d v,Same A B→m B F' H' d v→m A F' H' d v) (G:CalX X.prog X.w X.K X.mg X.base k x m φ) (hr:L2.Room k X.A) (ha:PAd X.nox .k (e::es) fs) (hg:X.env.kindOf x=some .globalImplicit:=by kernel_rfl) (hdb:(x == ("__debug__":Str))=false:=by kernel_rfl)
  (hn:nst e=true:=by rfl) (hns:nsts es=true:=by rfl):PX1 X m (.Return (some (.Call (.Name x p) (e::es) [] pos)) pos') (xRet φ fs):=⟨fun pins s σ H D0 I hh_=>el10 hh_ fun BF BH F env L o env' S e k=>by
 unfold xRet at e
 refine wpAny_Return_some (L2.thn (Q:=L2.EP X pins σ fun v H'=>D0.rt v H') ?_ fun v s1 ⟨x,H1,I1,r1,q1⟩=>⟨x,σ,H1,I1,r1,q1⟩)
 split at e
 ·rename_i d h1
  cases e
  exact Zll G hr ha hg hdb (Jh hn) (Zbg hns) I S h1 (fun d' hd v F' H' H0 s0 s1 z r=>by cases hd;exact k F' H' σ L (S.ext z) z.ff v (hm _ _ _ _ _ _ s0 r)) (fun c hc=>by cases hc)
 ·rename_i c h1
  cases e
  exact Zll G hr ha hg hdb (Jh hn) (Zbg hns) I S h1 (fun d' hd=>by cases hd) (fun c' hc F' H' s' a C B z I' x' hcn=>by cases hc;exact k F' H' σ L s' a C B (S.ext z) z.ff I' x' hcn)
 ·cases e⟩
end
theorem Zfq {p n:Nat}{g:Sx}{ds:List D}{r:D ⊕ Nat}(h:runX p n g ds=some r):ds.length=p ∧
  ((∃ d env',r=.inl d∧g (enter n ds)=some (.ok (.rt d),env'))∨(r=.inl .non∧∃ env',g (enter n ds)=some (.ok .nx,env'))∨∃ c env',r=.inr c∧g (enter n ds)=some (.ex c,env')):=by
 unfold runX at h
 split at h
 ·rename_i hl
  split at h
  ·rename_i d e1 hg;cases h;exact ⟨hl,.inl ⟨d,e1,rfl,hg⟩⟩
  ·rename_i e1 hg;cases h;exact ⟨hl,.inr (.inl ⟨rfl,e1,hg⟩)⟩
  ·rename_i c e1 hg;cases h;exact ⟨hl,.inr (.inr ⟨c,e1,rfl,hg⟩)⟩
  ·cases h
 ·cases h
theorem Zpr {P : Program}{w : World}{K : PySem.W.Frag}{mg : Str → Option Value}{base : Heap}{x qual : Str}{st : Stmt}{f : Addr}{fd : FuncData}{N ps : List Str}{k : Nat}{m : RetP}{g : Sx}(F : L2.Fun K x qual st f fd)(S : L2.Zh N ps (L2.Yb st))
    (hm : (∀ BH F' H', m BH F' H' .non .non) ∨ ∀ env env', g env ≠ some (.ok .nx, env')) (hb : ∀ (cdv : Value) (A : Around) (outer : List PySem.Env) (s : Shared) (H : Hp) (E : L2.XK), L2.Room k (A.deeper (envOfC qual (L2.Yb st) s.heap.objs.size f cdv)) →
      PX (L2.cxOf (CXe P w) P w K mg base N qual (L2.Yb st) f cdv A outer s H E) m (L2.Zf st) g) : L2.FnOk P w K mg base (CXe P w) (k + 1) f fd ps (spX K m (runX ps.length N.length g)) := by
  have hpl : ps.length ≤ N.length := by have := congrArg List.length S.pre; rw [List.length_take] at this; omega
  obtain ⟨oc, od, kV, doc, pm, an, cdv, ct, osl, rfl, lk, hcd⟩ := F.ex
  refine L2.Zm8 lk hcd S (fun vs H Q E h => ?_) (fun A outer s H vs Q E hr h => ?_)
  · obtain ⟨F0, ds, h1, h2, h3⟩ := h
    rw [← h2.length]
    rcases h3 with ⟨d, h3, _⟩ | ⟨c, h3, _⟩
    · exact (Zfq h3).1
    · exact (Zfq h3).1
  · obtain ⟨F0, ds, h1, h2, h3⟩ := h
    refine ⟨fun D0 σ H => ∀ pins, tX _ pins m g D0 σ H, fun pins s1 σ H1 D0 I q => (hb cdv A outer s H E hr).h pins s1 σ H1 D0 I (q pins), fun pins => ?_⟩
    have fin : ∀ (r : D ⊕ Nat), runX ps.length N.length g ds = some r → (∀ d, r = .inl d → ∀ v F' H', Ext F0 H F' H' → m H F' H' d v → Q v H') → (∀ c, r = .inr c → ∀ C F' H', CN K c C → Ext F0 H F' H' → E (.ref C) none H') →
        tX (L2.cxOf (CXe P w) P w K mg base N qual (L2.Yb st) f cdv A outer s H E) pins m g { nx := fun _ H' => Q .non H', rt := Q } (L2.start N vs) H := fun r hr ok ex => by
      obtain ⟨hl, h3⟩ := Zfq hr
      have S0 := Zg8 (N := N) h1 h2 (by omega)
      rcases h3 with ⟨d, env', rfl, hg⟩ | ⟨rfl, env', hg⟩ | ⟨c, env', rfl, hg⟩
      · exact ⟨F0, H, F0, _, _, _, env', S0, hg, fun F' H' σ' L' S' s' v r => ok d rfl v F' H' S'.ZeW r⟩
      · rcases hm with hm | hm
        · exact ⟨F0, H, F0, _, _, _, env', S0, hg, fun F' H' σ' L' S' s' => ok .non rfl .non F' H' S'.ZeW (hm _ _ _)⟩
        · exact absurd hg (hm _ _)
      · exact ⟨F0, H, F0, _, _, _, env', S0, hg, fun F' H' σ' L' s' a C B S' z I' x' hc => leaves rfl rfl rfl I' x' (ex c rfl C F' H' hc S'.ZeW)⟩
    rcases h3 with ⟨d, h3, h4⟩ | ⟨c, h3, h4⟩
    · exact fin _ h3 (fun d' hd => by cases hd; exact h4) (fun c hc => by cases hc)
    · exact fin _ h3 (fun d' hd => by cases hd) (fun c' hc => by cases hc; exact h4)
end PV
set_option linter.all false
set_option Elab.async false
set_option maxRecDepth 100000
set_option maxHeartbeats 4000000
namespace PV
open PySem PySem.Spec PyProof.Rows
section
variable {prog:Program} {w:World} {A:Around} {E:Value→Shared→Prop} {s:Shared} {K:PySem.W.Frag} {a C:Addr} {o:Obj}
theorem ZfP {tk:Tok} {Q:Fin→Shared→Prop} (X:K.In s.heap) (I:PySem.W.InstAt s.heap a o C none) (hf:PySem.W.findObj K C none "__class__"=some (.bind (.builtin "getset_descriptor.__get__") (.builtin "object.__class__")))
  (hm:PySem.W.mroIn K C (.type "object")=some true) (hq:Q (.done (.ret (.ref C))) s):wpAny (model prog w) A (Builtin.«object.__getattribute__» ⟨[.ref a,.str "__class__" tk],[]⟩) Q E s:=by
 have L0:=I.type (M:=model prog w)
 have L1:=PySem.W.looks_find (M:=model prog w) X I hf
 unfold Builtin.«object.__getattribute__»
 refine wpAny_bind (wpAny_pure ?_)
 refine wpAny_bind (wpAny_pure (wpAny_bind (L0.at (wpAny_bind (L1.at ?_)))))
 show wpAny _ _ (holding [.builtin "object.__class__"] (call (.builtin "getset_descriptor.__get__") [.builtin "object.__class__",.ref a,.ref C]) >>= ret) _ _ _
 exact wpAny_bind (wpAny_holding (wpAny_call (PySem.W.class_get (ox:=o) (od:=none) X I hm (wpAny_pure hq))))
theorem Zlc {tk:Tok} {R:Result→Shared→Prop} (X:K.In s.heap) (I:PySem.W.InstAt s.heap a o C none) (hf:PySem.W.findObj K C none "__class__"=some (.bind (.builtin "getset_descriptor.__get__") (.builtin "object.__class__")))
  (hm:PySem.W.mroIn K C (.type "object")=some true) (hb:PySem.W.mroIn K C (.type "BaseException")=some true) (hq:R (.ok (.ret (.ref C))) s):codeAny (model prog w) A (.call (.builtin "BaseException.__getattribute__") ⟨[.ref a,.str "__class__" tk],[]⟩) R s:=by
 refine codeAny_call_builtin F.excAttr_ValueError.ga.plain F.entry_bexc_ga ?_
 have hk:builtinKind "BaseException.__getattribute__"=some .slot:=by decide +kernel
 have hsplit:splitId "BaseException.__getattribute__"=some ("BaseException","__getattribute__"):=by decide +kernel
 have ha:=F.args_bexc_ga (.ref a) (.str "__class__" tk)
 have L0:=I.type (M:=model prog w)
 have L1:=PySem.W.looks_mroIn (M:=model prog w) X hb
 simp only [checkBuiltinCall,hk,hsplit]
 refine wpAny_bind ?_
 unfold isInstance
 refine wpAny_bind (L0.at ?_)
 refine L1.at ?_
 rw [if_neg (by decide)]
 unfold argsOk at ha
 generalize Manifest.signature? "BaseException.__getattribute__"=sg at ha ⊢
 cases sg with
 | none=>exact wpAny_pure (ZfP X I hf hm hq)
 | some sig =>
  dsimp only at ha ⊢
  rw [ha]
  exact wpAny_pure (ZfP X I hf hm hq)
theorem xcls {Q:Option Value→Shared→Prop} (X:K.In s.heap) (I:PySem.W.InstAt s.heap a o C none) (hga:PySem.W.findIn K (.ref C) "__getattribute__"=some (some (.builtin "BaseException.__getattribute__"))) (hgx:PySem.W.findIn K (.ref C) "__getattr__"=some none)
  (hf:PySem.W.findObj K C none "__class__"=some (.bind (.builtin "getset_descriptor.__get__") (.builtin "object.__class__"))) (hm:PySem.W.mroIn K C (.type "object")=some true) (hb:PySem.W.mroIn K C (.type "BaseException")=some true)
  (h:Q (some (.ref C)) { s with toks:=s.toks + 1 }):wpAny (model prog w) A (getAttr? (.ref a) "__class__") Q E s:=by
 obtain ⟨hh,g,d,t,os⟩:=s
 have L0:=I.type (M:=model prog w)
 have L1:=PySem.W.looks_findIn (M:=model prog w) X hga
 have L2:=PySem.W.looks_findIn (M:=model prog w) X hgx
 unfold getAttr? getAttrBy? getAttrBy
 refine wpAny_bind (wpAny_mkText (wpAny_bind (wpAny_attempt (wpAny_holding (wpAny_bind (L0.at (wpAny_bind (L1.at ?_))))))))
 have hx2:(Value.builtin "BaseException.__getattribute__" == Value.builtin "object.__getattribute__")=false:=by decide +kernel
 dsimp only
 rw [hx2,Bool.and_false,if_neg (by decide)]
 unfold getAttrByItsOwn hookBefore
 rw [if_pos (by rfl)]
 refine wpAny_bind (L2.at ?_)
 refine wpAny_bind (wpAny_attempt (wpAny_holding ?_))
 unfold callGetattribute boundAndCalled
 rw [if_neg (by decide),F.excAttr_ValueError.ga.bind (.ref a)]
 refine wpAny_bind (wpAny_pure ?_)
 refine wpAny_call (Zlc (s:=⟨hh,g,d,t + 1,os⟩) X I hf hm hb ?_)
 exact PySem.W.handed_on rfl (wpAny_pure h)
end
end PV
set_option linter.all false
set_option Elab.async false
set_option maxRecDepth 100000
set_option maxHeartbeats 4000000
namespace PV
open PySem PySem.Spec PyProof.Rows
open L2 (V Hp HO Vals SqL SqT Same upd Cx PE PT PW PA PS PSs TE TT TA TS Inv RelV Yc Jd Zd Un HOk frs)
structure Zhv (K:PySem.W.Frag)(C:Addr):Prop where
 ga:PySem.W.findIn K (.ref C) "__getattribute__"=some (some (.builtin "BaseException.__getattribute__"))
 gx:PySem.W.findIn K (.ref C) "__getattr__"=some none
 mb:PySem.W.mroIn K C (.type "BaseException")=some true
 cl:(PySem.W.clsIn K C).isSome=true
 fi:PySem.W.findIn K (.ref C) "__class__"=some (some (.builtin "object.__class__"))
 sp:PySem.W.specialIn K (.builtin "object.__class__") "__get__"=some (some (.builtin "getset_descriptor.__get__"))
 tk:PySem.W.takesIn K (.builtin "object.__class__")=some true
 mo:PySem.W.mroIn K C (.type "object")=some true
theorem Zf2 {K:PySem.W.Frag}{C:Addr}(h:(PySem.W.clsIn K C).isSome=true):∃ c d cd sl,K.lookup C=some ⟨c,d,.cls cd,sl⟩:=by
 unfold PySem.W.clsIn at h
 split at h
 ·rename_i c d cd sl ho;exact ⟨c,d,cd,sl,ho⟩
 ·cases h
theorem Zld {K:PySem.W.Frag}{a C:Addr}(f:Zhv K C):PySem.W.KitX K (.ref a) (.ref C) (isX a C) where
 ty:=fun M h _ p=>by
  obtain ⟨o,ws,h1,h2,-⟩:=p
  exact h2 ▸ (PySem.W.Looks.ld h1).andThen .now
 it:=fun M h X _=>by
  obtain ⟨c,d,cd,sl,ho⟩:=Zf2 f.cl
  intro A' Q' E' s' k q
  unfold isType loadHead
  exact wpAny_bind (wpAny_loadPart (k _ _ (X _ _ ho)) (wpAny_pure q))
 ne:=fun h tp dd its n sl X htp=>by
  obtain ⟨c,d,cd,sl',ho⟩:=Zf2 f.cl
  refine Bool.eq_false_iff.mpr fun q=>?_
  have e:C=tp:=Value.ref.inj (beq_iff_eq.mp q)
  subst e
  have z:=(X _ _ ho).symm.trans htp
  cases z
 ca:=fun {prog w A E Q s} X p k=>by
  obtain ⟨o,ws,h1,h2,h3,h4⟩:=p
  have I:PySem.W.InstAt s.heap a o C none:=⟨h1,h2,by unfold PySem.W.notCls;rw [h4],by rw [h3];trivial⟩
  have hf:PySem.W.findObj K C none "__class__"=some (.bind (.builtin "getset_descriptor.__get__") (.builtin "object.__class__")):=by
   obtain ⟨cd,hc⟩:=Option.isSome_iff_exists.mp f.cl
   unfold PySem.W.findObj
   rw [hc,Option.bind_some,f.fi,Option.bind_some]
   simp [f.sp,f.tk]
  exact xcls X I f.ga f.gx hf f.mo f.mb k
structure Zcq (K:PySem.W.Frag)(cs:List Nat):Prop where
 cls:∀ c,c < 7→∃ C,CN K c C
 inst:∀ c ∈ cs,∀ C,CN K c C→Zhv K C
 one:∀ c ∈ cs,∀ C,CN K c C→∀ c',c' < 7→∀ C',CN K c' C'→PySem.W.kitOne K (.ref C) (.ref C')=some (decide (c=c'))
 val:∀ c ∈ cs,∀ C,CN K c C→PySem.W.kitOne K (.ref C) (.type "ValueError")=some true
 folk:∃ CF,PySem.W.nsIn K mainGlobals "FolkError"=some (some (.ref CF))∧∀ c ∈ cs,∀ C,CN K c C→PySem.W.exmOne K (.ref C) (.ref CF)=some true
section
variable {X:Cx} {m:Md} {pos:Pos} {cs:List Nat}
theorem Ziw:L2.Zaq X (.builtin "isinstance") (fun xs H Q=>∃ a C v cv b,xs=[.ref a,v]∧(∀ u,RelV v u→u=cv)∧H a=some (.ext (isX a C))∧Zhv X.K C∧PySem.W.kitOne X.K (.ref C) cv=some b∧Q (.bl b) H):=by
 intro pins s σ H xs us Q I r h
 obtain ⟨a,C,v,cv,b,rfl,hv,ha,hi,hk,q⟩:=h
 obtain ⟨u,w,rfl,ru,rw'⟩:=r.two
 obtain rfl:u=Value.ref a:=ru
 obtain rfl:=hv w rw'
 obtain ⟨p,-,-⟩:=(show L2.Zw X.prog X.w H s.heap a (.ext (isX a C)) from I.hok a _ ha)
 exact PySem.W.kia_one (Zld hi) I.kIn p hk (fun z=>nomatch z) fun tk=>⟨.bl b,H,I.tok tk,rfl,q⟩
theorem ZoH {c:Nat} {C:Addr} {y:Str} (hC:CN X.K c C) (hy:xName c=y) (hg:L2.Gl X y) (hd:(y == ("__debug__":Str))=false):PE X (.Name y pos) (L2.tC (.ref C)):=fun _ _ _ H _ I h=>by
 subst hy
 exact L2.Zbp I hg (PySem.W.mg_of I.mod.kin I.mod.glob hC) ⟨.ref C,H,I,rfl,h⟩ hd
theorem ZcH (i c':Nat) {x y:Str} {p p1 p2:Pos} (T:Bt X.mg) (XF:Zcq X.K cs) (hc:c' < 7) (hy:xName c'=y) (hN:X.N[i]?=some x:=by kernel_rfl) (hv:visB X.env.scope x=true:=by kernel_rfl) (hd:(x == ("__debug__":Str))=false:=by kernel_rfl)
  (hcd:(x == ("__classdict__":Str))=false:=by kernel_rfl) (hg:X.env.kindOf "isinstance"=some .globalImplicit:=by kernel_rfl) (hg2:X.env.kindOf y=some .globalImplicit:=by kernel_rfl) (hd2:(y == ("__debug__":Str))=false:=by kernel_rfl) :
  PD X m (.Call (.Name "isinstance" p) [.Name x p1,.Name y p2] [] pos) (eIsX cs i c'):=by
 obtain ⟨C',hC'⟩:=XF.cls c' hc
 exact PD.mk <| PE.of (L2.ZcK Ziw hg T.isinstance boot_isinstance (L2.Ym (L2.JN hN (ZD hv) hd hcd) (L2.Ym (ZoH hC' hy hg2 hd2) L2.Yv (Yn rfl)) (Jh rfl)) (by decide) (by decide) (Jh rfl) rfl) fun σ H Q hh_=>el9 hh_ fun BF BH F env L d S e q=>by
  unfold eIsX at e
  split at e
  ·rename_i c he
   split at e
   ·rename_i hm
    cases e
    obtain ⟨ov,hσ,a,C,rfl,hcn,hF⟩:=S.sl i _ he
    exact ⟨_,hσ,a,C,_,_,_,rfl,fun u r=>r,S.fh _ _ hF,XF.inst c hm C hcn,XF.one c hm C hcn c' hc C' hC',q _ F H (.refl S.fh) (by simp [Rep])⟩
   ·cases e
  ·cases e
theorem ZpA (i:Nat) {x:Str} {p p1 p2:Pos} (T:Bt X.mg) (hxv:X.mg "ValueError"=none) (XF:Zcq X.K cs) (hN:X.N[i]?=some x:=by kernel_rfl) (hv:visB X.env.scope x=true:=by kernel_rfl) (hd:(x == ("__debug__":Str))=false:=by kernel_rfl)
  (hcd:(x == ("__classdict__":Str))=false:=by kernel_rfl) (hg:X.env.kindOf "isinstance"=some .globalImplicit:=by kernel_rfl) (hg2:X.env.kindOf "ValueError"=some .globalImplicit:=by kernel_rfl) :
  PD X m (.Call (.Name "isinstance" p) [.Name x p1,.Name "ValueError" p2] [] pos) (eIsV cs i):=by
 exact PD.mk <| PE.of (L2.ZcK Ziw hg T.isinstance boot_isinstance (L2.Ym (L2.JN hN (ZD hv) hd hcd) (L2.Ym (L2.ZjL (v:=.ty "ValueError") hg2 hxv (by decide +kernel) rfl (by decide) (by decide)) L2.Yv (Yn rfl)) (Jh rfl)) (by decide) (by decide) (Jh rfl) rfl) fun σ H Q hh_=>el9 hh_ fun BF BH F env L d S e q=>by
  unfold eIsV at e
  split at e
  ·rename_i c he
   split at e
   ·rename_i hm
    cases e
    obtain ⟨ov,hσ,a,C,rfl,hcn,hF⟩:=S.sl i _ he
    exact ⟨_,hσ,a,C,_,_,_,rfl,fun u r=>r,S.fh _ _ hF,XF.inst c hm C hcn,XF.val c hm C hcn,q _ F H (.refl S.fh) (by simp [Rep])⟩
   ·cases e
  ·cases e
end
noncomputable abbrev clr (A:Around):Around:={ A with handled:=none }
noncomputable def cxH (P:Program) (w:World) (K:PySem.W.Frag) (mg:Str→Option Value) (base:Heap) (N:List Str) (qual:Str) (scope:Scope) (f:Addr) (cd:Value) (A:Around) (outer:List PySem.Env) (s:Shared) (H:Hp):Cx :=
 { L2.cxOf L2.CX0 P w K mg base N qual scope f cd A outer s H L2.E0 with calm:=false,xe:=fun _ _=>False }
structure FnW (P:Program)(w:World)(K:PySem.W.Frag)(mg:Str→Option Value)(base:Heap)(k:Nat)(f:Addr)(fd:FuncData)(x:Str)(φ:Nat→Option D):Prop where
 run:∀ (A:Around) (outer:List PySem.Env) (s:Shared) (H F:Hp) (args:Args) (a C:Addr) (c:Nat) (d:D) (Q:L2.VK),L2.Room k (clr A)→L2.Env0 P w K mg base A outer s H→BindsTo s fd args [(x,.ref a)]→Same F H→F a=some (.ext (isX a C))→CN K c C→φ c=some d →
  (∀ v F' H',Ext F H F' H'→Rep K F' d v→Q v H')→codeAny (model P w) A (.call (.ref f) args) (L2.CR L2.CX0 outer P w H s Q L2.E0) s
theorem ZpJ {P:Program}{w:World}{K:PySem.W.Frag}{mg:Str→Option Value}{base:Heap}{x qual y:Str}{st:Stmt}{f:Addr}{fd:FuncData}{N:List Str}{k:Nat}{g:St}(F:L2.Fun K x qual st f fd)(S:L2.Zh N [y] (L2.Yb st))
  (hb:∀ (cdv:Value) (A:Around) (outer:List PySem.Env) (s:Shared) (H:Hp),L2.Room k ((clr A).deeper (envOfC qual (L2.Yb st) s.heap.objs.size f cdv)) →
   PSd (cxH P w K mg base N qual (L2.Yb st) f cdv A outer s H) (rk K .k) (L2.Zf st) g):FnW P w K mg base (k + 1) f fd y (runW N.length g):=by
 obtain ⟨oc,od,kV,doc,pm,an,cdv,ct,osl,rfl,lk,hcd⟩:=F.ex
 refine ⟨fun A outer s H F0 args a C c d Q hr e0 hbind fh hF hcn hφ kk=>?_⟩
 have KX:K.In s.heap:=e0.mod.kin.keeps fun b o e=>(e0.bs b o e).1
 have lim:s.heap.NoLimit:=e0.mod.nolimit.keeps fun b o e=>(e0.bs b o e).1
 have hkind:∀ z ∈ [(y,Value.ref a)],(L2.Yb st).names.lookup z.1=some .local∨((L2.Yb st).names.lookup z.1=some .cell∧((cellsFrom (s.heap.objs.size + 1) (L2.Yb st).names []).lookup z.1).isSome=true):=fun z hz=>by
  simp at hz;subst hz
  rcases S.par y (by simp) with q | q
  ·exact .inl q
  ·exact .inr ⟨q,PySem.W.cellsFrom_some _ _ _ (.inl q)⟩
 refine codeAny_call_function (show A.depth < recursionLimit from hr.depth) (KX _ _ lk) rfl S.co S.gen rfl (PySem.W.codeRec_of KX hcd) (hbind _ _ _ _ ?_)
 refine wpAny_newFunctionEnv_cells S.kind hkind fun env he s1 xx=>?_
 subst he
 refine ⟨lim.keeps xx.toInCall.keep,codeAny_func ?_⟩
 have e0':L2.Env0 P w K mg base (clr A) outer s H:=⟨e0.frames,e0.mod,e0.bs,e0.bsz,e0.funs,e0.frf,e0.hok,e0.bare⟩
 have rv:Vals [V.ref a] [Value.ref a]:=.cons rfl .nil
 have I0:Inv (L2.cxOf L2.CX0 P w K mg base N qual (L2.Yb st) f cdv (clr A) outer s H L2.E0) [] (L2.start N [.ref a]) H s1:=L2.ZgX (us:=[Value.ref a]) S rfl e0' rfl rv xx
 have I:Inv (cxH P w K mg base N qual (L2.Yb st) f cdv A outer s H) [] (L2.start N [.ref a]) H s1 :=
  ⟨⟨I0.ok.mod,I0.ok.kind,I0.ok.glob,I0.ok.blt,I0.ok.above,I0.ok.inj,I0.ok.has,I0.ok.cab,fun h=>(nomatch (show false=true from h)),Around.frames_deeper e0.frames,I0.ok.stk,I0.ok.exf,I0.ok.bs,I0.ok.bsz,I0.ok.noex,I0.ok.exfs,I0.ok.funs,I0.ok.frf⟩,I0.os,I0.bare,I0.base,I0.loc,I0.cell,I0.free,I0.freeC,I0.pin,I0.hok,I0.len⟩
 have h1:1≤N.length:=by have:=congrArg List.length S.pre;rw [List.length_take] at this;simp at this;omega
 unfold runW at hφ
 split at hφ
 ·rename_i d' env' hg
  cases hφ
  have S0:SOk K F0 H F0 H (L2.start N [.ref a]) (.xc c::List.replicate (N.length - 1) .un) (fun _=>[]):={
   s0:=.refl _
   f0:=.refl _
   fh:=fh
   fd:=fun a o h=>.inl h
   ow:=fun i a h=>by cases h
   dj:=fun i j a h=>by cases h
   len:=by unfold L2.start;simp
   sl:=fun i sl h=>by
    cases i with
    | zero=>cases h;exact ⟨_,rfl,a,C,rfl,hcn,hF⟩
    | succ i =>
     simp only [List.getElem?_cons_succ,List.getElem?_replicate] at h
     split at h
     ·rename_i hlt
      cases h
      refine ⟨none,?_,trivial⟩
      unfold L2.start
      simp only [List.map_cons,List.map_nil,List.cons_append,List.nil_append,List.getElem?_cons_succ,List.getElem?_replicate,List.length_cons,List.length_nil]
      rw [if_pos (by simpa using hlt)]
     ·cases h }
  refine wpAny_mono ((hb cdv A outer s H (hr.deeper _)).h [] s1 (L2.start N [.ref a]) H { nx:=fun _ _=>False,rt:=Q } I ⟨F0,H,F0,_,_,_,env',S0,hg,fun F' H' σ' L' S' s' v r=>kk v F' H' S'.ZeW r⟩) (fun fl s' hs=>?_) fun e s' hs=>hs.elim
  cases fl with
  | ret u =>
   obtain ⟨v,σ',H',J,rv,q⟩:=hs
   exact ⟨v,H',J.os,J.bare,J.base,J.hok,rv,q⟩
  | next=>obtain ⟨_,_,_,q⟩:=hs;exact q.elim
  | brk=>obtain ⟨_,_,_,q⟩:=hs;exact q.elim
  | cont=>obtain ⟨_,_,_,q⟩:=hs;exact q.elim
 ·cases hφ
end PV
set_option linter.all false
set_option Elab.async false
set_option maxRecDepth 100000
set_option maxHeartbeats 4000000
namespace PV
open PySem PySem.Spec PyProof.Rows
open L2 (V Hp HO Vals SqL SqT Same upd Cx PE PT PW PA PS PSs TE TT TA TS Inv RelV Yc Jd Zd Un HOk frs)
section
variable {X:Cx} {pins:List (Addr × Obj)} {σ:L2.St} {H:Hp} {s:Shared} {a C:Addr} {B g:Heap}
theorem ZjC (hs:X.stack=X.env::X.outer)(hf:X.env.frame=some X.env.locals)(I:Inv X pins σ H s)(x:XSt X pins H s a C B)(sg:B.StaysIn g)(up:s.heap.UpToSlots g):Inv X pins σ H { s with heap:=g }:=by
 have fc:=ZfC hs hf
 have inB:∀ b o,s.heap.get? b=some o→b ∉ frs X.stack→Ned X pins H b→g.get? b=some o:=fun b o q n t=>by
  obtain ⟨u,hu⟩:=x.cov b n t
  have:=x.st b u hu
  rw [q] at this;cases this
  exact sg b o hu
 have fru:∀ b o,b ∈ frs X.stack→s.heap.get? b=some o→∃ sl,g.get? b=some { o with slots:=sl }:=fun b o m q=>by
  obtain ⟨-,o',q',n⟩:=x.ff.mem m
  rw [q] at q';cases q'
  exact up b o q n
 have any:∀ b o,s.heap.get? b=some o→Ned X pins H b→∃ sl,g.get? b=some { o with slots:=sl }:=fun b o q t=>by
  by_cases m:b ∈ frs X.stack
  ·exact fru b o m q
  ·exact ⟨o.slots,inB b o q m t⟩
 have neL:∀ b o,X.s₀.heap.get? b=some o→b≠X.env.locals:=fun b o e=>Nat.ne_of_lt (Nat.lt_of_lt_of_le (Heap.lt_size e) I.ok.above)
 have nst:∀ b,b≠X.env.locals→b ∉ X.fs→b ∉ frs X.stack:=fun b n1 n2 m=>by
  rw [fc] at m
  rcases List.mem_cons.mp m with m | m
  ·exact n1 m
  ·exact n2 m
 have cellK:∀ y c v,X.env.cells.lookup y=some c→s.heap.IsCell c v→g.IsCell c v:=fun y c v e ⟨o,ho,hd⟩=>by
  obtain ⟨sl,q⟩:=any c o ho (.inr (.inr (.inr ⟨y,e⟩)))
  exact ⟨_,q,hd⟩
 refine ⟨I.ok,I.os,I.bare,⟨fun b o e n hb hx=>?_,fun b o e n hb hx=>?_,I.base.free,fun b o e hx=>?_,I.base.tups,I.base.frzs,I.base.tbls⟩,?_,fun y c e=>?_,I.free,I.freeC,fun p hp=>?_,ZjF I (fun b n t=>x.cov b n (.inr (.inl t))) x.st sg,I.len⟩
 ·exact inB b o (I.base.keep b o e n hb hx) (nst b (neL b o e) hb) (.inl ⟨⟨o,e⟩,hx⟩)
 ·obtain ⟨sl,q⟩:=I.base.slot b o e n hb hx
  obtain ⟨sl',q'⟩:=any b _ q (.inl ⟨⟨o,e⟩,hx⟩)
  exact ⟨sl',q'⟩
 ·obtain ⟨o',q⟩:=I.base.there b o e hx
  obtain ⟨sl',q'⟩:=any b _ q (.inl ⟨⟨o,e⟩,hx⟩)
  exact ⟨_,q'⟩
 ·obtain ⟨mm,⟨oL,es,ep,ho,hd,r⟩,hl⟩:=I.loc
  obtain ⟨sl,q⟩:=fru X.env.locals oL (by rw [fc];exact List.mem_cons_self) ho
  refine ⟨mm,⟨_,es,ep,q,hd,r⟩,fun i y v e1 e2 e3=>?_⟩
  obtain ⟨u,ru,l⟩:=hl i y v e1 e2 e3
  refine ⟨u,ru,?_⟩
  rcases l with l | ⟨k,c,e,z⟩
  ·exact .inl l
  ·exact .inr ⟨k,c,e,cellK y c _ e z⟩
 ·obtain ⟨v,z⟩:=I.cell y c e
  exact ⟨v,cellK y c v e z⟩
 ·obtain ⟨e,n,ne,nf,d⟩:=I.pin p hp
  exact ⟨inB p.1 p.2 e (nst _ ne nf) (.inr (.inr (.inl ⟨p,hp,rfl⟩))),n,ne,nf,d⟩
theorem ZlW {fl:Value}{g:Heap}(x:XSt X pins H s a C B)(f:Fl B X.stack a C .none g):XSt X pins H { s with heap:=g } a C B:=⟨f.st,f.no,f.ff,x.cov,.inr (.inl f.tr)⟩
theorem ZmY {A:Around}{E:Value→Shared→Prop}{Q:Unit→Shared→Prop}(hs:X.stack=X.env::X.outer)(hf:X.env.frame=some X.env.locals)(fr:A.frames=some X.stack)(x:XSt X pins H s a C B)
  (k:∀ g,Fl B X.stack a C (rawInt X.env.locals) g→s.heap.UpToSlots g→Q () { s with heap:=g }):wpAny (model X.prog X.w) A (noteFrame (.ref a) X.env) Q E s:=by
 have ff:=x.ff
 rw [hs] at ff fr k
 rcases x.it with ⟨xo,ws,⟨q1,q2,q3,q4⟩,q5⟩ | tr | tr
 ·unfold noteFrame
  simp only [hf]
  refine wpAny_bind (wpAny_field q1 q4 q5 ?_)
  rw [if_neg (by decide)]
  exact Zd0 fr ff hf x.st x.no q1 q2 q3 q4 (Array.getElem?_eq_some_iff.mp q5).1 k
 ·exact Zjy fr hf ⟨x.st,x.no,ff,tr⟩ k
 ·exact ZgZ hf ⟨x.st,x.no,ff,tr⟩ (k s.heap ⟨x.st,x.no,ff,tr⟩ (fun b o q n=>⟨o.slots,q⟩))
theorem ZpF (hs:X.stack=X.env::X.outer)(hf:X.env.frame=some X.env.locals)(I:Inv X pins σ H s)(x:XSt X pins H s a C B)(hp:isX a C s.heap):H a=none∧Inv X pins σ (upd H a (.ext (isX a C))) s:=by
 obtain ⟨o,ws,h1,h2,h3,h4⟩:=id hp
 have nfr:a ∉ frs X.stack:=fun m=>by
  obtain ⟨-,o',q,n⟩:=x.ff.mem m
  rw [h1] at q;cases q;exact n ws h4
 have nn:∀ b,Ned X pins H b→b≠a:=fun b t e=>by
  subst e
  obtain ⟨u,hu⟩:=x.cov b nfr t
  rw [x.no] at hu;cases hu
 have ha:H a=none:=by
  cases q:H a with
  | none=>rfl
  | some u=>exact absurd rfl (nn a (.inr (.inl (by rw [q];simp))))
 have neL:X.env.locals≠a:=fun e=>nfr (by rw [ZfC hs hf,e];exact List.mem_cons_self)
 have keep:∀ b u,H b=some u→upd H a (.ext (isX a C)) b=some u:=fun b u q=>by rw [Jd (Zd q ha)];exact q
 refine ⟨ha,I.ok,I.os,I.bare,⟨I.base.keep,I.base.slot,fun b o e n hx=>?_,I.base.there,fun b xs q=>keep _ _ (I.base.tups b xs q),fun b o u q=>keep _ _ (I.base.frzs b o u q),fun b ps q=>?_⟩,I.loc,I.cell,?_,fun y c e=>?_,fun p hp'=>?_,fun b u q=>?_,I.len⟩
 ·rw [Jd (nn b (.inl ⟨⟨o,e⟩,hx⟩))];exact I.base.free b o e n hx
 ·obtain ⟨more,z⟩:=I.base.tbls b ps q
  exact ⟨more,keep _ _ z⟩
 ·rw [Jd neL];exact I.free
 ·rw [Jd (nn c (.inr (.inr (.inr ⟨y,e⟩))))];exact I.freeC y c e
 ·obtain ⟨e,n,ne,nf,d⟩:=I.pin p hp'
  refine ⟨e,?_,ne,nf,d⟩
  rw [Jd (nn _ (.inr (.inr (.inl ⟨p,hp',rfl⟩))))];exact n
 ·by_cases hb:b=a
  ·subst hb
   rw [Yc] at q
   cases q
   refine ⟨hp,⟨o,h1⟩,fun g1 g2 p k=>?_⟩
   obtain ⟨o',ws',z1,z2,z3,z4⟩:=p
   exact ⟨o',ws',k _ z1,z2,z3,z4⟩
  ·rw [Jd hb] at q
   exact (I.hok b u q).stay (fun _ _ _ z=>z) (fun c z=>keep _ _ z) fun c xs z=>keep _ _ z
end
theorem ZkB {B h:Heap}{a C:Addr}{fl:Value}(t:Tr B h a C fl):isX a C h:=by
 obtain ⟨xo,ws,T,to,tw,⟨q1,q2,q3,q4⟩,-⟩:=t
 exact ⟨xo,ws,q1,q2,q3,q4⟩
theorem Znk {X:Cx}{pins:List (Addr × Obj)}{σ:L2.St}{H:Hp}{s:Shared}{h':Heap}{t:Nat}{mm:Str→Option Value}(I:Inv X pins σ H s)(hn:h'.Ns X.env.locals mm)(sb:Heap.SameBut X.env.locals s.heap h'):Inv X pins (σ.map fun _=>none) H { s with heap:=h',toks:=t }:=by
 have neL:∀ b o,X.s₀.heap.get? b=some o→b≠X.env.locals:=fun b o e=>Nat.ne_of_lt (Nat.lt_of_lt_of_le (Heap.lt_size e) I.ok.above)
 refine ⟨I.ok,I.os,I.bare,⟨fun b o e n hb hx=>(sb.2 b (neL b o e)).trans (I.base.keep b o e n hb hx),fun b o e n hb hx=>?_,I.base.free,fun b o e hx=>?_,I.base.tups,I.base.frzs,I.base.tbls⟩,⟨mm,hn,fun i y v e1 e2 e3=>?_⟩,fun y c e=>?_,I.free,I.freeC,fun p hp=>?_,fun b u e=>?_,by rw [List.length_map];exact I.len⟩
 ·obtain ⟨sl,q⟩:=I.base.slot b o e n hb hx
  exact ⟨sl,(sb.2 b (neL b o e)).trans q⟩
 ·obtain ⟨o',q⟩:=I.base.there b o e hx
  exact ⟨o',(sb.2 b (neL b o e)).trans q⟩
 ·rw [List.getElem?_map] at e2
  cases q:σ[i]? with
  | none=>rw [q] at e2;cases e2
  | some z=>rw [q] at e2;cases e2
 ·obtain ⟨v,o,ho,hd⟩:=I.cell y c e
  exact ⟨v,o,(sb.2 c (I.cne y c e)).trans ho,hd⟩
 ·obtain ⟨e,n,ne,nf,d⟩:=I.pin p hp
  exact ⟨(sb.2 p.1 ne).trans e,n,ne,nf,d⟩
 ·refine (I.hok b u e).stay (fun c v hc q=>(sb.2 c ?_).trans q) (fun _ q=>q) fun _ _ q=>q
  rintro rfl
  rcases hc with rfl | hc
  ·rw [I.free] at e;cases e
  ·rw [I.free] at hc;cases hc
noncomputable def mkH (X:Cx) (a:Addr):Cx:={ X with A:=X.A.mark (some (.ref a)),calm:=false,xe:=fun _ _=>False }
theorem Zlt {X:Cx}{pins:List (Addr × Obj)}{σ:L2.St}{H:Hp}{s:Shared}(a:Addr)(I:Inv X pins σ H s):Inv (mkH X a) pins σ H s :=
 ⟨⟨I.ok.mod,I.ok.kind,I.ok.glob,I.ok.blt,I.ok.above,I.ok.inj,I.ok.has,I.ok.cab,fun h=>(nomatch (show false=true from h)),I.ok.frames,I.ok.stk,I.ok.exf,I.ok.bs,I.ok.bsz,I.ok.noex,I.ok.exfs,I.ok.funs,I.ok.frf⟩,I.os,I.bare,I.base,I.loc,I.cell,I.free,I.freeC,I.pin,I.hok,I.len⟩
theorem ZmQ {X:Cx}{pins:List (Addr × Obj)}{σ:L2.St}{H:Hp}{s:Shared}{a:Addr}(hd:X.calm=true→X.A.handled=none)(I:Inv (mkH X a) pins σ H s):Inv X pins σ H s :=
 ⟨⟨I.ok.mod,I.ok.kind,I.ok.glob,I.ok.blt,I.ok.above,I.ok.inj,I.ok.has,I.ok.cab,hd,I.ok.frames,I.ok.stk,I.ok.exf,I.ok.bs,I.ok.bsz,I.ok.noex,I.ok.exfs,I.ok.funs,I.ok.frf⟩,I.os,I.bare,I.base,I.loc,I.cell,I.free,I.freeC,I.pin,I.hok,I.len⟩
structure CalW (P:Program)(w:World)(K:PySem.W.Frag)(mg:Str→Option Value)(base:Heap)(k:Nat)(x:Str)(φ:Nat→Option D):Prop where
 ex:∃ (fa:Addr) (fd:FuncData) (y:Str),mg x=some (.ref fa)∧PySem.W.keepIn K (.ref fa)=true∧FnW P w K mg base k fa fd y φ∧L2.Binds K fd [y] []
theorem CalW.mono {P:Program}{w:World}{K:PySem.W.Frag}{mg:Str→Option Value}{base:Heap}{j k:Nat}{x:Str}{φ:Nat→Option D}(h:CalW P w K mg base j x φ)(hk:j≤k):CalW P w K mg base k x φ:=by
 obtain ⟨fa,fd,y,h1,h2,h3,h4⟩:=h.ex
 exact ⟨⟨fa,fd,y,h1,h2,⟨fun A outer s H F args a C c d Q hr=>h3.run A outer s H F args a C c d Q (hr.mono hk)⟩,h4⟩⟩
section
variable {X:Cx} {m:RetP} {pos hpos tp p1 p2 p3 p4:Pos} {body:List Stmt} {g:Sx} {φ:Nat→Option D} {cs:List Nat} {k:Nat} {n wn:Str}
theorem ZoE (i:Nat)(hs:X.stack=X.env::X.outer)(hf:X.env.frame=some X.env.locals)(nd:X.N.Nodup)(XF:Zcq X.K cs)(hcs:∀ c d,φ c=some d→c ∈ cs)(hm:∀ BH F' H' w v,Rep X.K F' (.str w) v→m BH F' H' (.str w) v)
  (G:CalW X.prog X.w X.K X.mg X.base k wn φ) (hr:L2.Room k X.A) (hb:∀ E,PX (X.wish E) m body g)
  (hN:X.N[i]?=some n:=by kernel_rfl) (hl:locB X.env.scope n=true:=by kernel_rfl) (hk:X.env.kindOf n=some .local:=by kernel_rfl) (hfn:fnB X n=true:=by kernel_rfl) (hv:visB X.env.scope n=true:=by kernel_rfl) (hd:(n == ("__debug__":Str))=false:=by kernel_rfl) (hcd:(n == ("__classdict__":Str))=false:=by kernel_rfl)
  (hg1:X.env.kindOf "FolkError"=some .globalImplicit:=by kernel_rfl) (hg2:X.env.kindOf wn=some .globalImplicit:=by kernel_rfl) (hdw:(wn == ("__debug__":Str))=false:=by kernel_rfl) :
  PS1 X m (.Try body [.ExceptHandler (some (.Name "FolkError" tp)) (some n) [.Return (some (.Call (.Name wn p1) [.Name n p2] [] p3)) p4] hpos] [] [] pos) (sTry g φ):=PS1.mk fun pins s σ H D0 I hh_=>el10 hh_ fun BF BH F env L o env' S e kk=>by
 obtain ⟨CF,hCF,hexm⟩:=XF.folk
 obtain ⟨fa,fd,y,hmw,hkw,FW,hbw⟩:=G.ex
 have kfin:∀ {s1:Shared} {f:Flow},L2.SP X pins D0 f s1→(match f with | .next=>wpAny (model X.prog X.w) X.A (execs [] X.env) (L2.SP X pins D0) X.xe s1 | f=>L2.SP X pins D0 f s1):=fun {s1 f} q=>by
  cases f with
  | next=>exact wpAny_execs_nil q
  | ret v=>exact q
  | brk=>exact q
  | cont=>exact q
 refine wpAny_Try_except (wpAny_mono ((hb fun e s1=>wpAny (model X.prog X.w) X.A (noteFrame e X.env) (fun _ s2=>wpAny (model X.prog X.w) X.A (setFlight e none) (fun _ s3=>wpAny (model X.prog X.w) X.A (handleBy e X.env [.ExceptHandler (some (.Name "FolkError" tp)) (some n) [.Return (some (.Call (.Name wn p1) [.Name n p2] [] p3)) p4] hpos]) (L2.SP X pins D0) X.xe s3) X.xe s2) X.xe s1).h pins s σ H D0 (I.wish _) ?_) (fun f s1 q=>kfin q.Y6) fun e s1 q=>q)
 unfold sTry at e
 split at e
 ·rename_i o1 e1 hg
  cases e
  exact ⟨BF,BH,F,env,L,.ok o,env',S,hg,kk⟩
 ·rename_i c e1 hg
  split at e
  ·rename_i w hφ
   cases e
   refine ⟨BF,BH,F,env,L,.ex c,e1,S,hg,fun F1 H1 σ1 L1 s1 a C B S1 z1 I1 x1 hcn=>?_⟩
   have hmem:=hcs c _ hφ
   have I1:Inv X pins σ1 H1 s1:=I1.Y6
   have x1:XSt X pins H1 s1 a C B:=⟨x1.st,x1.no,x1.ff,x1.cov,x1.it⟩
   have hhd:=I1.ok.hd
   show wpAny _ _ (noteFrame (.ref a) X.env) _ _ s1
   refine ZmY hs hf I1.ok.frames x1 fun g2 f2 u2=>?_
   refine land (s:={ s1 with heap:=g2 }) f2 fun g3 f3 u3=>?_
   have u13:=u2.trans u3
   have I3:Inv X pins σ1 H1 { s1 with heap:=g3 }:=ZjC hs hf I1 x1 f3.st u13
   have x3:XSt X pins H1 { s1 with heap:=g3 } a C B:=ZlW (fl:=.none) x1 f3
   have J3:=Zlt a I3
   refine wpAny_handleBy_cons (codeAny_handlers_test ?_) (by intro q;cases q)
   refine L2.Zbp (X:=mkH X a) J3 hg1 (PySem.W.mg_of I3.mod.kin I3.mod.glob hCF) ?_ (by decide)
   have LT:=(Zld (XF.inst c hmem C hcn)).ty (model X.prog X.w) g3 I3.kIn (ZkB f3.tr)
   refine PySem.W.exm_one I3.kIn LT (hexm c hmem C hcn) _ _ _ _ (fun _ _ q=>q) ?_
   refine codeAny_handlers_suite_as ?_
   refine land (s:={ s1 with heap:=g3 }) f3 fun g4 f4 u4=>?_
   have I4:Inv X pins σ1 H1 { s1 with heap:=g4 }:=ZjC (s:={ s1 with heap:=g3 }) hs hf I3 x3 f4.st u4
   have x4:XSt X pins H1 { s1 with heap:=g4 } a C B:=ZlW (s:={ s1 with heap:=g3 }) (fl:=.none) x3 f4
   obtain ⟨ha,I4'⟩:=ZpF hs hf I4 x4 (ZkB f4.tr)
   have J4:=Zlt a I4'
   refine L2.ZdD (X:=mkH X a) (v:=.ref a) J4 nd hN (ZV hl) rfl (fun s5 J5=>?_) (Zaj hfn)
   have hi:i < σ1.length:=by rw [I1.len];exact (List.getElem?_eq_some_iff.mp hN).1
   refine wpAny_execs_cons (wpAny_Return_some ?_)
   refine wpAny_Call_Name_kw (L2.Zbp (X:=mkH X a) J5 hg2 hmw ?_ hdw)
   have pa:PA (mkH X a) [.Name n p2] _:=L2.Ym (L2.JN hN (ZD hv) hd hcd) L2.Yv rfl
   refine PySem.W.callWith_K (h₀:=X.base) J5.ok.mod.kin hkw (wpAny_mono (pa p3 pins s5 _ _ (fun vs H6=>vs=[.ref a]∧H6=upd H1 a (.ext (isX a C))) J5 ⟨.ref a,List.getElem?_set_self hi,rfl,rfl⟩) (fun us s6 q=>?_) fun _ _ q=>q.elim) rfl rfl
   obtain ⟨vs,H6,J6,rv,rfl,rfl⟩:=q
   refine ⟨J6.kIn,?_⟩
   obtain ⟨u,us',rfl⟩:∃ u us',us=u::us':=by
    cases us with
    | nil=>cases rv
    | cons u us'=>exact ⟨u,us',rfl⟩
   cases rv with
   | cons r1 r2 =>
    cases r2
    obtain rfl:u=Value.ref a:=r1
    have z0:Ext F1 H1 (upd F1 a (.ext (isX a C))) (upd H1 a (.ext (isX a C))):=Ext.laid S1.fh ha
    have room:L2.Room k (clr (mkH X a).A):=⟨rfl,hr.dp,hr.un⟩
    have key:=FW.run (mkH X a).A (mkH X a).stack s6 _ (upd F1 a (.ext (isX a C))) ⟨[.ref a],[]⟩ a C c (.str w) (fun v H7=>∃ F7,Ext F1 H1 F7 H7∧Rep X.K F7 (.str w) v) room J6.env0 (hbw s6 [.ref a] J6.kIn rfl) z0.fh Yc hcn hφ fun v F' H' z r=>⟨F',z0.trans z,r⟩
    refine wpAny_call (codeAny_mono key fun rr s7 hq=>?_)
    cases rr with
    | error v=>exact (show False from hq).elim
    | ok fl =>
     cases fl with
     | next=>exact False.elim hq
     | brk=>exact False.elim hq
     | cont=>exact False.elim hq
     | ret u =>
      obtain ⟨v,H7,J7,r7,F7,z7,rep⟩:=J6.after hq
      obtain ⟨mm,hns,-⟩:=J7.loc
      have hcl:(X.env.scope.kind == .class || (X.env.scope.kind == .module && X.env.locals != X.env.globals))=false:=by rw [I.ok.kind];rfl
      refine wpAny_nameGoes hk hns hcl fun h8 m8 n8 sb=>?_
      have I8:Inv X pins _ H7 _:=Znk (t:=s7.toks + 1) (ZmQ hhd J7) n8 sb
      have S7:=S1.ext z7
      refine ⟨v,_,H7,I8,r7,kk F7 H7 ((σ1.set i (some (.ref a))).map fun _=>none) L1 ⟨S7.s0,S7.f0,S7.fh,S7.fd,S7.ow,S7.dj,?_,fun j sl hj=>?_⟩ (z1.trans z7.ff) v (hm _ _ _ _ _ rep)⟩
      ·rw [List.length_map,List.length_map,List.length_set];exact S1.len
      ·rw [List.getElem?_map] at hj
       cases q:e1[j]? with
       | none=>rw [q] at hj;cases hj
       | some z =>
        rw [q] at hj
        cases hj
        have hlt:j < σ1.length:=by rw [S1.len];exact (List.getElem?_eq_some_iff.mp q).1
        refine ⟨none,?_,trivial⟩
        rw [List.getElem?_map,List.getElem?_eq_getElem (by rw [List.length_set];exact hlt)];rfl
  ·cases e
 ·cases e
end
end PV
set_option linter.all false
set_option Elab.async false
set_option maxRecDepth 100000
set_option maxHeartbeats 4000000
namespace PV
open PySem PySem.Spec PyProof.Rows
open L2 (V Hp HO Vals SqL SqT Same upd Cx PE PT PW PA PS PSs TE TT TA TS Inv RelV Yc Jd Zd Un HOk frs)
section
variable {X:Cx} {m m1 m2:Md} {a b:Expr} {f g:Ex} {p2 p3:Pos}
theorem Zlv {s:Shared}{dx:D}:∀ {ys:List D} {its:List Value},Hrs s ys its→its.countP (eqH s dx)=ys.countP fun y=>eqD y dx
 | [],its,h=>by simp only [Hrs] at h;subst h;rfl
 | y::ys,its,h=>by
  simp only [Hrs] at h
  obtain ⟨u,r,rfl,h1,h2⟩:=h
  rw [List.countP_cons,List.countP_cons,Zlv h2,Zeg h1]
theorem ZkP (hu:X.A.units + 64 < cLine):L2.MtR X "list.count" (fun x xs H Q=>∃ (dx:D) (y:V) (ys:List D),xs=[y]∧Rep X.K H (.lst ys) x∧Rep X.K H dx y∧(D.deps ys≤8∧dx.dep≤8)∧Q (.int ((ys.countP fun y=>eqD y dx:Nat))) H):=by
 intro pins s σ H x xs v us Q I rx rv h
 obtain ⟨dx,y,ys,rfl,h1,h2,hd,q⟩:=h
 obtain ⟨u,rfl,ru⟩:=rv.one
 have hx:=Zax I _ _ _ (by omega) h2 ru
 have hy:=Zax I _ _ _ (by simp only [D.dep];omega) h1 rx
 simp only [Hr] at hy
 obtain ⟨p,its,rfl,hl,hr⟩:=hy
 have hin:X.A.in1.units + D.deps ys < cLine:=by show X.A.units + 1 + _ < _;omega
 obtain ⟨⟨cls,dd,data,sl⟩,ho,hc,n,hdt⟩:=id hl
 simp only at hc hdt
 subst hc hdt
 refine call_meets PySem.F.slot_list_count ⟨_,ho,rfl⟩ PySem.F.entry_list_count (PySem.F.args_list_count_2 _ _)
  (SeqAt.list_countAt p its.toArray n dd sl u (eqH s dx)) ⟨ho,fun y hy=>Zda hx hin hr y (by simpa using hy),?_⟩
 refine ⟨.int ((ys.countP fun y=>eqD y dx:Nat)),H,I.tok _,⟨s.toks,?_⟩,q⟩
 rw [show (its.toArray.toList)=its from rfl,Zlv hr]
theorem ZlZ (hu:X.A.units + 64 < cLine)(ha:PD X m1 a f)(hb:PD X m2 b g)(hst:nst b=true:=by rfl)
  (hbase:attributeBase a "count" X.env (eval a X.env)=eval a X.env:=by rfl) (hline:(p2.endLine == p3.line)=true:=by rfl) :
  PD X m (.Call (.Attribute a "count" p2) [b] [] p3) (eF2 ZhV f g) :=
 PD.mk <| PE.of (L2.Zdy PySem.F.plainAttrs_list PySem.F.slot_list_count PySem.F.type_list_count (ZkP hu) ha.r.h (L2.Ym hb.r.h L2.Yv (Yn hst)) hbase (by rw [ZaM (Zbf hst)];rfl) hline (Jh hst) rfl) fun σ H Q hh_=>el9 hh_ fun BF BH F env L d S e q=>by
  unfold eF2 at e
  split at e
  ·rename_i x y h1 h2
   unfold ZhV at e
   split at e
   ·rename_i ys
    split at e
    ·rename_i hd
     cases e
     refine ⟨BF,BH,F,env,L,_,S,h1,fun v F1 H1 z1 r1=>⟨?_,BF,BH,F1,env,L,y,S.ext z1,h2,fun w F2 H2 z2 r2=>⟨y,w,ys,rfl,Rep.mono z2.hh _ _ r1,r2,hd,q _ F2 H2 (z1.trans z2) (by simp [Rep])⟩⟩⟩
     have r1':=r1
     simp only [Rep,hpM] at r1'
     obtain ⟨p,vs,rfl,hs,_⟩:=r1'
     exact .inl ⟨rfl,vs,hs⟩
    ·cases e
   ·cases e
  ·cases e
end
theorem Zgb {K:PySem.W.Frag}{c:Nat}{C C':Addr}(h:CN K c C)(h':CN K c C'):C=C':=by
 unfold CN at h h'
 rw [h] at h'
 cases h'
 rfl
theorem ZpW {K:PySem.W.Frag} {Cs:Nat→Addr} {CF:Addr} {cs:List Nat} (n:∀ c,c < 7→CN K c (Cs c)) (nF:PySem.W.nsIn K mainGlobals "FolkError"=some (some (.ref CF))) (hlt:∀ c ∈ cs,c < 7) (inst:∀ c ∈ cs,Zhv K (Cs c))
  (one:∀ c ∈ cs,∀ c',c' < 7→PySem.W.kitOne K (.ref (Cs c)) (.ref (Cs c'))=some (decide (c=c'))) (val:∀ c ∈ cs,PySem.W.kitOne K (.ref (Cs c)) (.type "ValueError")=some true) (folk:∀ c ∈ cs,PySem.W.exmOne K (.ref (Cs c)) (.ref CF)=some true):Zcq K cs where
 cls:=fun c h=>⟨_,n c h⟩
 inst:=fun c h C hC=>Zgb (n c (hlt c h)) hC ▸ inst c h
 one:=fun c h C hC c' h' C' hC'=>Zgb (n c (hlt c h)) hC ▸ Zgb (n c' h') hC' ▸ one c h c' h'
 val:=fun c h C hC=>Zgb (n c (hlt c h)) hC ▸ val c h
 folk:=⟨CF,nF,fun c h C hC=>Zgb (n c (hlt c h)) hC ▸ folk c h⟩
theorem Znv:∀ A B F' H' d v,Same A B→rN B F' H' d v→rN A F' H' d v:=fun A B F' H' d v s r=>RepN.mono (fun b o h=>by
 unfold cut at h ⊢
 split at h
 ·rename_i hn;rw [s.free hn];exact h
 ·cases h) _ _ r
theorem ZoB {K:PySem.W.Frag}:∀ BH F' H' (w:Str) v,Rep K F' (.str w) v→rN BH F' H' (.str w) v:=fun _ _ _ _ _ h=>by
 simp only [Rep] at h;unfold rN;simp only [RepN];exact h
end PV
set_option linter.all false
set_option Elab.async false
namespace PV
open PySem PySem.Spec PyProof.Rows
open L2 (V Hp HO Same Cx)
theorem Zha {K:PySem.W.Frag}{H:Hp}:∀ ns:List Int,Reps K H (ns.map D.int) (ns.map V.int)
 | []=>Reps.nil
 | n::r=>by
  rw [List.map_cons,List.map_cons]
  exact Reps.cons (by simp [Rep]) (Zha r)
theorem ZlR {K:PySem.W.Frag}{H:Hp}{a:Addr}{ns:List Int}{φ:List D→Option D}{z}(h:φ [rowD ns]=some (.bl true))(hS:L2.SqL K H a (ns.map V.int)) :
  spR K (rk K .k) φ [.ref a] H (fun v _=>v=.bl true) z :=
 ⟨H,[rowD ns],.bl true,.refl H,Reps.cons (by unfold rowD;simp only [Rep];exact ⟨a,_,rfl,hS,Zha ns⟩) Reps.nil,h,fun v F' H' _ r=>by
  simp only [rk,Rep] at r
  exact r⟩
end PV
set_option linter.all false
set_option Elab.async false
namespace PV
open PySem (Str)
noncomputable def Zej:St:=(sRet (eB (tAnd (t2I pGe (eVar 1) (eC (.int 0))) (t2I pLt (eVar 1) (eF1 fLen (eVar 0))))))
noncomputable def Zx:List D→Option D:=run 2 2 Zej
noncomputable def Ze4:St:=(sSeq (sSet 1 (eF1 fLen (eVar 0))) (sSeq (sIf (tOr (t2I pLt (eVar 1) (eC (.int 1))) (t2I pGt (eVar 1) (eC (.int 12)))) (ZbK) Zk) (sFor (gN 2) (iOf (eVar 0)) (sSeq (sIf (tNe (eF1 fLen (eVar 2)) (eVar 1)) (ZbK) Zk) (sIf (tNot (tB (eF1 fAll (Ji 3 (iOf (eVar 2)) Jm (Ye Zx [(eVar 0),(eVar 3)]))))) (ZbK) Zk)))))
noncomputable def ZaE:List D→Option D:=run 1 4 Ze4
noncomputable def Zee:St:=(sSeq (sSet 1 (eF1 fLen (eVar 0))) (sSeq (sFor (gN 2) (iRng (eVar 1)) (sFor (gN 3) (iRng (eVar 1)) (sFor (gN 4) (iRng (eVar 1)) (sIf (tNe (eIx (eIx (eVar 0) (eIx (eIx (eVar 0) (eVar 2)) (eVar 3))) (eVar 4)) (eIx (eIx (eVar 0) (eVar 2)) (eIx (eIx (eVar 0) (eVar 3)) (eVar 4)))) (sRet (eTup [(eC (.str "three")),(eVar 2),(eVar 3),(eVar 4)])) Zk)))) (sRet (eC .non))))
noncomputable def Zam:List D→Option D:=run 1 5 Zee
noncomputable def Zfe:St:=(sSeq (sSet 1 (eF1 fLen (eVar 0))) (sSeq (sFor (gN 2) (iRng (eVar 1)) (sIf (tB (eF1 fAll (Ji 3 (iRng (eVar 1)) Jm (eB (tAnd (tEq (eIx (eIx (eVar 0) (eVar 2)) (eVar 3)) (eVar 3)) (tEq (eIx (eIx (eVar 0) (eVar 3)) (eVar 2)) (eVar 3))))))) (sRet (eVar 2)) Zk)) (sRet (eC .non))))
noncomputable def JR:List D→Option D:=run 1 4 Zfe
noncomputable def Ze1:St:=(sSeq (sFor (gN 3) (iRng (eF1 fLen (eVar 0))) (sIf (tAnd (tEq (eIx (eIx (eVar 0) (eVar 2)) (eVar 3)) (eVar 1)) (tEq (eIx (eIx (eVar 0) (eVar 3)) (eVar 2)) (eVar 1))) (sRet (eVar 3)) Zk)) (sRet (eC .non)))
noncomputable def ZaC:List D→Option D:=run 3 4 Ze1
noncomputable def Zfa:St:=(sSeq (sSet 1 (Ye Zam [(eVar 0)])) (sSeq (sIf (tNoN (eVar 1)) (sRet (eVar 1)) Zk) (sSeq (sSet 2 (Ye JR [(eVar 0)])) (sSeq (sIf (tIsN (eVar 2)) (sRet (eTup [(eC (.str "rest"))])) Zk) (sSeq (sFor (gN 3) (iRng (eF1 fLen (eVar 0))) (sIf (tIsN (Ye ZaC [(eVar 0),(eVar 2),(eVar 3)])) (sRet (eTup [(eC (.str "back")),(eVar 3)])) Zk)) (sRet (eC .non)))))))
noncomputable def ZaB:List D→Option D:=run 1 4 Zfa
noncomputable def Zgg:St:=(sSeq (sDo (Ye ZaE [(eVar 0)])) (sIf (tNoN (Ye ZaB [(eVar 0)])) (ZbK) Zk))
noncomputable def ZQ:List D→Option D:=run 1 1 Zgg
noncomputable def ZcR:St:=(sSeq (sOwn 2 (eF1 ZaH (eVar 1))) (sSeq (sFor (gN 3) (iOf (eVar 1)) (sExt 2 (Ji 4 (iOf (eVar 1)) Jm (eIx (eIx (eVar 0) (eVar 3)) (eVar 4))))) (sRet (eF1 Zar (Yq 2)))))
noncomputable def ZJ:List D→Option D:=run 2 5 ZcR
noncomputable def Zcx:St:=(sSeq (Zcg 2 (eF1 Zar (eAdd (eVar 1) (eLst [(Ye JR [(eVar 0)])])))) (sSeq (Zcg 3 (Ye ZJ [(eVar 0),(eVar 2)])) (sSeq (Z5 (tNe (eVar 3) (eVar 2)) (sSeq (Zcg 2 (ZdC 3)) (Zcg 3 (Ye ZJ [(eVar 0),(eVar 2)]))) 1000) (sRet (ZdC 2)))))
noncomputable def ZaJ:List D→Option D:=run 2 4 Zcx
noncomputable def Zga:St:=(sSeq (sIf (tNot (tB (eF1 fAll (Ji 2 (iOf (eVar 1)) Jm (Ye Zx [(eVar 0),(eVar 2)]))))) (ZbK) Zk) (sIf (tNe (Ye ZaJ [(eVar 0),(eVar 1)]) (eVar 1)) (ZbK) Zk))
noncomputable def JQ:List D→Option D:=run 2 3 Zga
noncomputable def ZdK:St:=(sRet (eFl (eF1 Z4 (Ji 3 (iOf (eVar 1)) Jm (eIx (eIx (eVar 0) (eVar 2)) (eVar 3))))))
noncomputable def Jz:List D→Option D:=run 3 4 ZdK
noncomputable def Zev:St:=(sSeq (sNew 2 (eLst [])) (sSeq (sFor (gN 3) (iRng (eF1 fLen (eVar 0))) (sSeq (Zcg 4 (Ye Jz [(eVar 0),(eVar 1),(eVar 3)])) (sIf (tEq (eIx (eVar 4) (eC (.int 0))) (eVar 3)) (ZeG 2 (ZdC 4)) Zk))) (sSeq (sFrz 2) (sRet (ZdC 2)))))
noncomputable def JZ:List D→Option D:=run 2 5 Zev
noncomputable def ZhY:St:=(sSeq (sDo (Ye ZQ [(eVar 0)])) (sSeq (sDo (Ye JQ [(eVar 0),(eVar 1)])) (sRet (Ye JZ [(eVar 0),(eVar 1)]))))
noncomputable def ZcF:List D→Option D:=run 2 2 ZhY
noncomputable def Zc4:St:=(sRet (eFl (eF1 Z4 (Ji 3 (iOf (eVar 1)) Jm (eIx (eIx (eVar 0) (eVar 3)) (eVar 2))))))
noncomputable def YS:List D→Option D:=run 3 4 Zc4
noncomputable def Zbw:St:=(sRet (eF1 fAll (Ji 2 (iRng (eF1 fLen (eVar 0))) Jm (eB (tEq (Ye Jz [(eVar 0),(eVar 1),(eVar 2)]) (Ye YS [(eVar 0),(eVar 1),(eVar 2)]))))))
noncomputable def Yr:List D→Option D:=run 2 3 Zbw
noncomputable def ZfS:St:=(sSeq (sDo (Ye ZQ [(eVar 0)])) (sSeq (sDo (Ye JQ [(eVar 0),(eVar 1)])) (sRet (Ye Yr [(eVar 0),(eVar 1)]))))
noncomputable def ZbB:List D→Option D:=run 2 2 ZfS
noncomputable def Zcb:St:=(sSeq (Zks 2) (sSeq (sFor (g2 3 4) (ZfH (eVar 1)) (sFor (gN 5) (iOf (eVar 4)) (ZdG 2 (eVar 5) (eVar 3)))) (sSeq (sSet 6 (Ji 4 (iOf (eVar 1)) Jm (eIx (eVar 4) (eC (.int 0))))) (sSeq (sNew 7 (eLst [])) (sSeq (sFor (gN 8) (iOf (eVar 6)) (sSeq (sFrz 2) (ZeG 7 (eFl (Ji 9 (iOf (eVar 6)) Jm (Zf5 (eVar 2) (eIx (eIx (eVar 0) (eVar 8)) (eVar 9)))))))) (sSeq (sFrz 7) (sRet (ZdC 7))))))))
noncomputable def JM:List D→Option D:=run 2 10 Zcb
noncomputable def Zd9:Sx:=(xSeq (xOf (sDo (Ye ZQ [(eVar 0)]))) (xSeq (xOf (sDo (Ye JQ [(eVar 0),(eVar 1)]))) (xSeq (xIf (tNot (tB (Ye Yr [(eVar 0),(eVar 1)]))) (ZlI 4) (xOf Zk)) (xOf (sSeq (sSet 2 (Ye JZ [(eVar 0),(eVar 1)])) (sRet (Ye JM [(eVar 0),(eVar 2)])))))))
noncomputable def Yw:Fx:=runX 2 3 Zd9
noncomputable def ZdS:St:=(sSeq (sIf (t2I pLt (eVar 1) (eF1 fLen (eVar 0))) (sRet (eIx (eVar 0) (eVar 1))) Zk) (sRet (eC (.int 0))))
noncomputable def Zz:List D→Option D:=run 2 2 ZdS
noncomputable def Zgm:St:=(sSeq (sIf (tEq (e2I iMod (eVar 0) (eC (.int 2))) (eC (.int 0))) (sSeq (sSet 3 (e2I iDiv (eVar 0) (eC (.int 2)))) (sSeq (sFor (gN 4) (iRng (eVar 1)) (sSet 3 (e2I iDiv (eVar 3) (eVar 2)))) (sRet (e2I iMod (eVar 3) (eVar 2))))) Zk) (sSeq (sSet 5 (e2I iMod (e2I iMul (eAdd (eAdd (e2I iMod (eVar 0) (eC (.int 2147483647))) (e2I iMul (eC (.int 977)) (eVar 1))) (eC (.int 1))) (eC (.int 48271))) (eC (.int 2147483647)))) (sSeq (sSet 5 (e2I iMod (e2I iMul (eVar 5) (eVar 5)) (eC (.int 2147483629)))) (sSeq (sSet 5 (e2I iMod (e2I iMul (eAdd (eVar 5) (e2I iMul (eC (.int 40692)) (eAdd (eVar 1) (eC (.int 3))))) (eC (.int 69621))) (eC (.int 2147483647)))) (sRet (e2I iMod (e2I iDiv (eVar 5) (eC (.int 8))) (eVar 2)))))))
noncomputable def Z6:List D→Option D:=run 3 6 Zgm
noncomputable def Zfb:St:=(sRet (eB (tAnd (tB (eF1 (fIs .int) (eVar 0))) (tNot (tB (eF1 (fIs .bool) (eVar 0)))))))
noncomputable def Za5:List D→Option D:=run 1 1 Zfb
noncomputable def Zem:St:=(sSeq (sSet 1 (eC (.int 1))) (sSeq (sFor (gN 2) (iOf (eVar 0)) (sSet 1 (e2I iMul (eVar 1) (eVar 2)))) (sSeq (sOwn 3 (eLst [])) (sSeq (sFor (gN 4) (iRng (eVar 1)) (sSeq (sOwn 5 (eLst [])) (sSeq (sFor (gN 6) (iRng (eVar 1)) (sSeq (sSet 7 (eC (.int 0))) (sSeq (sSet 8 (eC (.int 1))) (sSeq (sFor (gN 2) (iOf (eVar 0)) (sSeq (sSet 7 (eAdd (eVar 7) (e2I iMul (e2I iMod (eAdd (e2I iDiv (eVar 4) (eVar 8)) (e2I iDiv (eVar 6) (eVar 8))) (eVar 2)) (eVar 8)))) (sSet 8 (e2I iMul (eVar 8) (eVar 2))))) (sApp 5 (eVar 7)))))) (sSeq (sFrz 5) (sApp 3 (eVar 5)))))) (sSeq (sFrz 3) (sRet (eVar 3)))))))
noncomputable def Zbv:List D→Option D:=run 1 9 Zem
noncomputable def ZdP:St:=(sSeq (sOwn 2 (eLst [])) (sSeq (sFor (gN 3) (iRng (e2I iMul (eC (.int 2)) (eVar 0))) (sSeq (sOwn 4 (eLst [])) (sSeq (sFor (gN 5) (iRng (e2I iMul (eC (.int 2)) (eVar 0))) (sSeq (sSet 6 (eIx (eLst [(e2I iMod (eVar 5) (eVar 0)),(e2I iSub (eC (.int 0)) (e2I iMod (eVar 5) (eVar 0)))]) (e2I iDiv (eVar 3) (eVar 0)))) (sSeq (sSet 7 (e2I iMul (e2I iDiv (eVar 3) (eVar 0)) (e2I iDiv (eVar 5) (eVar 0)))) (sSeq (sSet 8 (e2I iMod (eAdd (eAdd (e2I iMod (eVar 3) (eVar 0)) (eVar 6)) (e2I iMul (eVar 1) (eVar 7))) (eVar 0))) (sApp 4 (eAdd (eVar 8) (e2I iMul (eVar 0) (e2I iMod (eAdd (e2I iDiv (eVar 3) (eVar 0)) (e2I iDiv (eVar 5) (eVar 0))) (eC (.int 2)))))))))) (sSeq (sFrz 4) (sApp 2 (eVar 4)))))) (sSeq (sFrz 2) (sRet (eVar 2)))))
noncomputable def Za9:List D→Option D:=run 2 9 ZdP
noncomputable def Zgh:St:=(sSeq (sSet 0 (eLst [(eLst [])])) (sSeq (sFor (gN 1) (iRng (eC (.int 4))) (sSeq (sSet 2 (eLst [])) (sSeq (sFor (gN 3) (iOf (eVar 0)) (sSet 2 (eAdd (eVar 2) (Ji 4 (iRng (eC (.int 4))) (tNi (eVar 4) (eVar 3)) (eAdd (eVar 3) (eLst [(eVar 4)])))))) (sSet 0 (eVar 2))))) (sSeq (sOwn 5 (eLst [])) (sSeq (sFor (gN 3) (iOf (eVar 0)) (sSeq (sSet 6 (eC (.int 0))) (sSeq (sFor (gN 7) (iRng (eC (.int 4))) (sSet 6 (eAdd (eVar 6) (eF1 fLen (Ji 1 (iRng (eVar 7)) (t2I pGt (eIx (eVar 3) (eVar 1)) (eIx (eVar 3) (eVar 7))) (eVar 1)))))) (sIf (tEq (e2I iMod (eVar 6) (eC (.int 2))) (eC (.int 0))) (sApp 5 (eVar 3)) Zk)))) (sSeq (sOwn 8 (eLst [])) (sSeq (sFrz 5) (sSeq (sFor (gN 9) (iOf (eVar 5)) (sSeq (sFrz 5) (sApp 8 (Ji 10 (iOf (eVar 5)) Jm (eF2 ZfM (Yq 5) (Ji 4 (iOf (eVar 9)) Jm (eIx (eVar 10) (eVar 4)))))))) (sSeq (sFrz 8) (sRet (eVar 8))))))))))
noncomputable def Zcc:List D→Option D:=run 0 11 Zgh
noncomputable def Zf7:St:=(sSeq (sSet 1 (eLst [(eLst [(eC (.int 1))]),(eLst [(eC (.int 2))]),(eLst [(eC (.int 3))]),(eLst [(eC (.int 4))]),(eLst [(eC (.int 2)),(eC (.int 2))]),(eLst [(eC (.int 5))]),(eLst [(eC (.int 6))]),(eLst [(eC (.int 7))]),(eLst [(eC (.int 8))])])) (sSeq (sSet 1 (eAdd (eVar 1) (eLst [(eLst [(eC (.int 2)),(eC (.int 4))]),(eLst [(eC (.int 2)),(eC (.int 2)),(eC (.int 2))]),(eLst [(eC (.int 9))]),(eLst [(eC (.int 3)),(eC (.int 3))]),(eLst [(eC (.int 10))]),(eLst [(eC (.int 11))]),(eLst [(eC (.int 12))]),(eLst [(eC (.int 2)),(eC (.int 6))])]))) (sSeq (sIf (t2I pLt (eVar 0) (eC (.int 17))) (sRet (Ye Zbv [(eIx (eVar 1) (eVar 0))])) Zk) (sSeq (sIf (t2I pLt (eVar 0) (eC (.int 23))) (sSeq (sSet 2 (eIx (eLst [(eTup [(eC (.int 3)),(eC (.int 0))]),(eTup [(eC (.int 4)),(eC (.int 0))]),(eTup [(eC (.int 5)),(eC (.int 0))]),(eTup [(eC (.int 6)),(eC (.int 0))]),(eTup [(eC (.int 4)),(eC (.int 2))]),(eTup [(eC (.int 6)),(eC (.int 3))])]) (e2I iSub (eVar 0) (eC (.int 17))))) (sRet (Ye Za9 [(eIx (eVar 2) (eC (.int 0))),(eIx (eVar 2) (eC (.int 1)))]))) Zk) (sRet (Ye Zcc []))))))
noncomputable def YD:List D→Option D:=run 1 3 Zf7
noncomputable def Zba:St:=(sSeq (sOwn 2 (eLst [])) (sSeq (sFor (gN 3) (iRng (eF1 fLen (eVar 0))) (sIns 2 (e2I iMod (Ye Z6 [(eVar 1),(eVar 3),(eC (.int 12))]) (eAdd (eVar 3) (eC (.int 1)))) (eVar 3))) (sSeq (sTab 4 (Ji 5 (iOf (eVar 0)) Jm (eF1 ZaH (eVar 5)))) (sSeq (sFor (gN 6) (iRng (eF1 fLen (eVar 0))) (sFor (gN 7) (iRng (eF1 fLen (eVar 0))) (ZdF 4 (eIx (Yq 2) (eVar 6)) (eIx (Yq 2) (eVar 7)) (eSc (eIx (Yq 2) (eIx (eIx (eVar 0) (eVar 6)) (eVar 7))))))) (ZeC 4)))))
noncomputable def Zav:List D→Option D:=run 2 8 Zba
noncomputable def Zbb:St:=(sRet (Ye Zav [(Ye YD [(e2I iMod (Ye Zz [(eVar 0),(eVar 1)]) (eC (.int 24)))]),(Ye Zz [(eVar 0),(eAdd (eVar 1) (eC (.int 1)))])]))
noncomputable def J2:List D→Option D:=run 2 2 Zbb
noncomputable def Zfj:St:=(sRet (eIx (Ji 1 (iRng (eF1 fLen (eVar 0))) (tEq (eIx (eVar 0) (eVar 1)) (eF1 Y4 (eF1 fLen (eVar 0)))) (eVar 1)) (eC (.int 0))))
noncomputable def ZaZ:List D→Option D:=run 1 2 Zfj
noncomputable def Ze3:St:=(sSeq (sIf (tNot (tB (eF1 (fIs .list) (eVar 0)))) (sRet (eC (.bl false))) Zk) (sSeq (sFor (gN 1) (iOf (eVar 0)) (sIf (tOr (tNot (tB (eF1 (fIs .list) (eVar 1)))) (tNot (tB (eF1 fAll (Ji 2 (iOf (eVar 1)) Jm (Ye Za5 [(eVar 2)])))))) (sRet (eC (.bl false))) Zk)) (sRet (eC (.bl true)))))
noncomputable def Z9:List D→Option D:=run 1 3 Ze3
noncomputable def Zgc:St:=(sRet (Ji 1 (iOf (eVar 0)) Jm (eF1 ZaH (eVar 1))))
noncomputable def Zbx:List D→Option D:=run 1 2 Zgc
noncomputable def ZcA:St:=(sSeq (sSet 2 (eLst [(eLst [])])) (sSeq (sFor (gN 3) (iOf (eVar 0)) (sSet 2 (eAdd (eVar 2) (Ji 4 (iOf (eVar 2)) (t2I pLt (eF1 fLen (eVar 4)) (eVar 1)) (eAdd (eVar 4) (eLst [(eVar 3)])))))) (sRet (Ji 4 (iOf (eVar 2)) (tEq (eF1 fLen (eVar 4)) (eVar 1)) (eVar 4)))))
noncomputable def ZaL:List D→Option D:=run 2 5 ZcA
noncomputable def Zf9:St:=(sSeq (sFor (gN 2) (iOf (eVar 1)) (sFor (gN 3) (iOf (eVar 1)) (sIf (tNi (eIx (eIx (eVar 0) (eVar 2)) (eVar 3)) (eVar 1)) (sRet (eC (.bl false))) Zk))) (sRet (eC (.bl true))))
noncomputable def Zby:List D→Option D:=run 2 4 Zf9
noncomputable def ZcX:St:=(sSeq (sSet 1 (Ye ZaZ [(eVar 0)])) (sSeq (sSet 2 (Ji 3 (iRng (eF1 fLen (eVar 0))) (tNe (eVar 3) (eVar 1)) (eVar 3))) (sSeq (sSet 4 (eLst [])) (sSeq (sFor (gN 5) (Zdx (eC (.int 1)) (eAdd (eF1 fLen (eVar 0)) (eC (.int 1)))) (sIf (tEq (e2I iMod (eF1 fLen (eVar 0)) (eVar 5)) (eC (.int 0))) (sSeq (sSet 6 (Ji 7 (iOf (Ye ZaL [(eVar 2),(e2I iSub (eVar 5) (eC (.int 1)))])) Jm (eF1 Z4 (eAdd (eLst [(eVar 1)]) (eVar 7))))) (sSet 4 (eAdd (eVar 4) (eF1 Z4 (Ji 7 (iOf (eVar 6)) (tB (Ye Zby [(eVar 0),(eVar 7)])) (eVar 7)))))) Zk)) (sRet (eVar 4))))))
noncomputable def Za1:List D→Option D:=run 1 8 ZcX
noncomputable def Zb9:St:=(sSeq (sSet 1 (eLst [(eIsX [4] 0 0),(eIsX [4] 0 1),(eIsX [4] 0 2)])) (sSeq (sSet 1 (eAdd (eVar 1) (eLst [(eIsX [4] 0 3),(eIsX [4] 0 4),(eIsX [4] 0 5)]))) (sSeq (sSet 1 (eAdd (eVar 1) (eLst [(eIsX [4] 0 6)]))) (sSeq (sIf (tOr (tNe (eF2 ZhV (eVar 1) (eC (.bl true))) (eC (.int 1))) (tNot (tB (eIsV [4] 0)))) (sRet (eC (.str "other"))) Zk) (sRet (eIx (eLst [(eC (.str "table")),(eC (.str "folk")),(eC (.str "element")),(eC (.str "part")),(eC (.str "loose")),(eC (.str "large")),(eC (.str "note"))]) (eF2 ZfM (eVar 1) (eC (.bl true)))))))))
noncomputable def ZK:Nat→Option D:=runW 2 Zb9
noncomputable def Zcj:St:=(sTry (xRet Yw [(eVar 0),(eVar 1)]) ZK)
noncomputable def ZaU:List D→Option D:=run 2 3 Zcj
noncomputable def Zfh:St:=(sSeq (sOwn 2 (Ji 3 (iOf (eVar 0)) Jm (eC (.int 0)))) (sSeq (sFor (gN 4) (iRng (eF1 fLen (eVar 1))) (sFor (gN 3) (iOf (eIx (eVar 1) (eVar 4))) (sPut 2 (eVar 3) (eVar 4)))) (sRet (Ji 6 (iOf (eVar 1)) Jm (Ji 5 (iOf (eVar 1)) Jm (eSc (eIx (Yq 2) (eIx (eIx (eVar 0) (eIx (eVar 6) (eC (.int 0)))) (eIx (eVar 5) (eC (.int (-1))))))))))))
noncomputable def Za3:List D→Option D:=run 2 7 Zfh
noncomputable def Znd:St:=(sSeq (sSet 1 (Ye J2 [(eVar 0),(eC (.int 0))])) (sSeq (sSet 2 (Ye Za1 [(eVar 1)])) (sSeq (sSet 3 (eIx (eVar 2) (e2I iMod (Ye Zz [(eVar 0),(eC (.int 2))]) (eF1 fLen (eVar 2))))) (sSeq (sOwn 4 (eLst [])) (sSeq (sSet 5 (eC (.bl true))) (sSeq (sFor (gN 6) (iRng (eF1 fLen (eVar 1))) (sSeq (sSet 7 (eF1 Z4 (Ji 8 (iOf (eVar 3)) Jm (eIx (eIx (eVar 1) (eVar 6)) (eVar 8))))) (sSeq (sIf (tNi (eVar 7) (Yq 4)) (sApp 4 (eVar 7)) Zk) (sIf (tNe (eVar 7) (eF1 Z4 (Ji 8 (iOf (eVar 3)) Jm (eIx (eIx (eVar 1) (eVar 8)) (eVar 6))))) (sSet 5 (eC (.bl false))) Zk)))) (sSeq (sFrz 4) (sSeq (sSet 4 (eF1 Z4 (eVar 4))) (sSeq (sSet 9 (eLst [(Ye Zbx [(eVar 1)]),(eF1 ZaH (eVar 3))])) (sSeq (sFor (gN 10) (iRng (eC (.int 2))) (sSeq (sJk 11 (Ye ZcF [(eIx (eVar 9) (eC (.int 0))),(eIx (eVar 9) (eC (.int 1)))])) (sSeq (sSet 12 (Ye ZbB [(eIx (eVar 9) (eC (.int 0))),(eIx (eVar 9) (eC (.int 1)))])) (sSeq (sJk 13 (Ye ZaU [(eIx (eVar 9) (eC (.int 0))),(eIx (eVar 9) (eC (.int 1)))])) (sSeq (sIf (tFrz 11 (tOr (tNot (tB (Ye Z9 [(eVar 11)]))) (tOr (tNe (eVar 11) (Yq 4)) (tNe (eVar 9) (eLst [(eVar 1),(eVar 3)]))))) (sRet (eC (.bl false))) Zk) (sSeq (sIf (tOr (tNot (tB (eF1 (fIs .bool) (eVar 12)))) (tNe (eVar 12) (eVar 5))) (sRet (eC (.bl false))) Zk) (sSeq (sIf (tFrz 13 (tAnd (tNot (tB (eVar 5))) (tNe (eVar 13) (eC (.str "loose"))))) (sRet (eC (.bl false))) Zk) (sSeq (sIf (tB (eVar 5)) (sSeq (sFrz 4) (sSeq (sIf (tFrz 13 (tOr (tNot (tB (Ye Z9 [(eVar 13)]))) (tNe (eVar 13) (Ye Za3 [(eVar 1),(eVar 4)])))) (sRet (eC (.bl false))) Zk) (ZcB 13 0))) Zk) (ZcB 11 0))))))))) (sRet (eC (.bl true)))))))))))))
noncomputable def ZfQ:List D→Option D:=run 1 14 Znd
end PV
set_option linter.all false
set_option Elab.async false
set_option maxHeartbeats 2000000
namespace PV
open PySem (Str)
noncomputable def ZbS (T:List (List Int)):D→D→D→Option D
 | .int a,.int b,.int c=>if tg T (tg T a b) c == tg T a (tg T b c) then none else some (.tup [.str "three",.int a,.int b,.int c])
 | _,_,_=>none
noncomputable def ZaV (T:List (List Int)) (n:Nat):Option D :=
 (Yg 0 n).findSome? fun a=>(Yg 0 n).findSome? fun b=>(Yg 0 n).findSome? fun c=>ZbS T a b c
noncomputable def ZaQ:St:=sIf (tNe (eIx (eIx (eVar 0) (eIx (eIx (eVar 0) (eVar 2)) (eVar 3))) (eVar 4)) (eIx (eIx (eVar 0) (eVar 2)) (eIx (eIx (eVar 0) (eVar 3)) (eVar 4))))
 (sRet (eTup [(eC (.str "three")),(eVar 2),(eVar 3),(eVar 4)])) Zk
theorem ZjQ {T:List (List Int)}{n:Nat}(hT:Tab T n){env:Env}{a b c:Nat}(ha:a < n)(hb:b < n)(hc:c < n)(k0:eVar 0 env=some (tabD T))(k2:eVar 2 env=some (.int a))(k3:eVar 3 env=some (.int b))(k4:eVar 4 env=some (.int c)) :
  ZaQ env=match ZbS T (.int a) (.int b) (.int c) with
   | some r=>some (.rt r,env)
   | none=>some (.nx,env):=by
 have b1:=hT.bound (a:=a) (b:=b) (by omega) (by omega) (by omega) (by omega)
 have b2:=hT.bound (a:=b) (b:=c) (by omega) (by omega) (by omega) (by omega)
 have e1:=ix2 hT (env:=env) (e0:=eVar 0) (e1:=eVar 2) (e2:=eVar 3) k0 k2 k3 (by omega) (by omega) (by omega) (by omega)
 have e2:=ix2 hT (env:=env) (e0:=eVar 0) (e1:=eVar 3) (e2:=eVar 4) k0 k3 k4 (by omega) (by omega) (by omega) (by omega)
 have e3:=ix2 hT (env:=env) (e0:=eVar 0) k0 e1 k4 b1.1 b1.2 (by omega) (by omega)
 have e4:=ix2 hT (env:=env) (e0:=eVar 0) k0 k2 e2 (by omega) (by omega) b2.1 b2.2
 simp only [ZaQ,sIf,Zgw e3 e4,ZbS]
 cases hq:tg T (tg T (a:Int) (b:Int)) (c:Int) == tg T (a:Int) (tg T (b:Int) (c:Int)) with
 | true=>simp [Zk]
 | false=>simp [sRet,eTup,evs,eC,k2,k3,k4]
theorem ZjT {T:List (List Int)}{n:Nat}(hT:Tab T n){it:Lx}{env0:Env}(k0:eVar 0 env0=some (tabD T))(hl:5≤env0.length)
  (hit:∀ env,Agr [2,3,4] env env0→it env=some (Yg 0 n)) :
  (∀ r,ZaV T n=some r→∃ e1,sFor (gN 2) it (sFor (gN 3) it (sFor (gN 4) it ZaQ)) env0=some (.rt r,e1)) ∧
  (ZaV T n=none→∃ e1,sFor (gN 2) it (sFor (gN 3) it (sFor (gN 4) it ZaQ)) env0=some (.nx,e1)∧Agr [2,3,4] e1 env0):=by
 rw [Zal (hit env0 (Agr.refl _ _))]
 refine ZaN (fun env=>Agr [2,3,4] env env0) _ _ env0 (fun da hda env hA=>?_) (Agr.refl _ _)
 obtain ⟨a,ha,rfl⟩:=Yo hda
 refine ⟨_,rfl,?_⟩
 have A1:Agr [2,3,4] (env.set 2 (.sh (.int a))) env0:=hA.set (by simp) _
 have v2:eVar 2 (env.set 2 (.sh (.int a)))=some (.int a):=Yy (by rw [hA.len];omega)
 rw [Zal (hit _ A1)]
 have key:=ZaN (g:=gN 3) (b:=sFor (gN 4) it ZaQ)
  (fun env=>Agr [2,3,4] env env0∧eVar 2 env=some (.int a)) (fun b=>(Yg 0 n).findSome? fun c=>ZbS T (.int a) b c) (Yg 0 n) (env.set 2 (.sh (.int a))) (fun db hdb env hB=>?_) ⟨A1,v2⟩
 ·exact ⟨key.1,fun h=>let ⟨e1,x,y⟩:=key.2 h;⟨e1,x,y.1⟩⟩
 obtain ⟨b,hb,rfl⟩:=Yo hdb
 obtain ⟨hB,w2⟩:=hB
 refine ⟨_,rfl,?_⟩
 have A2:Agr [2,3,4] (env.set 3 (.sh (.int b))) env0:=hB.set (by simp) _
 have v3:eVar 3 (env.set 3 (.sh (.int b)))=some (.int b):=Yy (by rw [hB.len];omega)
 have v2':eVar 2 (env.set 3 (.sh (.int b)))=some (.int a):=by rw [Zy (by decide)];exact w2
 rw [Zal (hit _ A2)]
 have key:=ZaN (g:=gN 4) (b:=ZaQ) (fun env=>Agr [2,3,4] env env0∧eVar 2 env=some (.int a)∧eVar 3 env=some (.int b)) (fun c=>ZbS T (.int a) (.int b) c) (Yg 0 n)
  (env.set 3 (.sh (.int b))) (fun dc hdc env hC=>?_) ⟨A2,v2',v3⟩
 ·exact ⟨key.1,fun h=>let ⟨e1,x,y⟩:=key.2 h;⟨e1,x,y.1,y.2.1⟩⟩
 obtain ⟨c,hc,rfl⟩:=Yo hdc
 obtain ⟨hC,u2,u3⟩:=hC
 refine ⟨_,rfl,?_⟩
 have A3:Agr [2,3,4] (env.set 4 (.sh (.int c))) env0:=hC.set (by simp) _
 have v4:eVar 4 (env.set 4 (.sh (.int c)))=some (.int c):=Yy (by rw [hC.len];omega)
 have v2'':eVar 2 (env.set 4 (.sh (.int c)))=some (.int a):=by rw [Zy (by decide)];exact u2
 have v3'':eVar 3 (env.set 4 (.sh (.int c)))=some (.int b):=by rw [Zy (by decide)];exact u3
 have v0:eVar 0 (env.set 4 (.sh (.int c)))=some (tabD T):=by rw [A3.var (by decide)];exact k0
 have tb:=ZjQ hT ha hb hc v0 v2'' v3'' v4
 refine ⟨fun r hr=>?_,fun hn=>?_⟩
 ·rw [hr] at tb;exact ⟨_,tb⟩
 ·rw [hn] at tb;exact ⟨_,tb,A3,v2'',v3''⟩
theorem Zhk {T:List (List Int)}{n:Nat}(hT:Tab T n):Zam [tabD T]=some ((ZaV T n).getD .non):=by
 have e:sSet 1 (eF1 fLen (eVar 0)) (enter 5 [tabD T])=some (.nx,[Sl.sh (tabD T),Sl.sh (.int n),Sl.un,Sl.un,Sl.un]):=by
  rw [Zah (Zc3 rfl |>.trans (ZdH T)),hT.len];rfl
 have key:=ZjT hT (it:=iRng (eVar 1)) (env0:=[Sl.sh (tabD T),Sl.sh (.int n),Sl.un,Sl.un,Sl.un]) rfl (by simp) fun env hA=>JT (by rw [hA.var (by decide)];rfl) (by have:=hT.top;omega)
 unfold ZaQ at key
 cases h:ZaV T n with
 | some r =>
  obtain ⟨e1,x⟩:=key.1 r h
  exact Jt rfl ((Yi e).trans (Zbj x))
 | none =>
  obtain ⟨e1,x,hA⟩:=key.2 h
  exact Jt rfl ((Yi e).trans ((Yi x).trans (Yx rfl)))
noncomputable def Zay (T:List (List Int)) (n:Nat) (e:Int):Bool:=(List.range n).all fun a=>tg T e a == a && tg T a e == a
noncomputable def intOf:D→Int
 | .int i=>i
 | _=>0
noncomputable def restOf (T:List (List Int)) (n:Nat):Option D:=(Yg 0 n).findSome? fun d=>if Zay T n (intOf d) then some d else none
theorem all_rangeD {n:Nat}{p:D→Bool}:(Yg 0 n).all p=(List.range n).all fun k=>p (.int k):=by
 simp only [Yg,List.all_map]
 congr 1
 funext k
 simp
theorem ZlV {T:List (List Int)}{n:Nat}(hT:Tab T n){it:Lx}{env:Env}{ie ia:Nat}(hne:ia≠ie)(hne0:ia≠0)(hl:ia < env.length)(hit:it env=some (Yg 0 n))(k0:eVar 0 env=some (tabD T)){e:Nat}(he:e < n)(ke:eVar ie env=some (.int e)) :
  tB (eF1 fAll (Ji ia it Jm (eB (tAnd (tEq (eIx (eIx (eVar 0) (eVar ie)) (eVar ia)) (eVar ia)) (tEq (eIx (eIx (eVar 0) (eVar ia)) (eVar ie)) (eVar ia)))))) env=some (Zay T n e):=by
 have hn:n≤lim:=by have:=hT.top;rw [Jp];omega
 have hc:=Zbi (i:=ia) (e:=eB (tAnd (tEq (eIx (eIx (eVar 0) (eVar ie)) (eVar ia)) (eVar ia)) (tEq (eIx (eIx (eVar 0) (eVar ia)) (eVar ie)) (eVar ia)))) (env:=env)
  (fun d=>.bl (tg T e (intOf d) == intOf d && tg T (intOf d) e == intOf d)) (Yg 0 n) (fun d hd=>by
   obtain ⟨a,ha,rfl⟩:=Yo hd
   have v0:eVar 0 (env.set ia (.sh (.int a)))=some (tabD T):=by rw [Zy hne0];exact k0
   have ve:eVar ie (env.set ia (.sh (.int a)))=some (.int e):=by rw [Zy hne];exact ke
   have va:eVar ia (env.set ia (.sh (.int a)))=some (.int a):=Yy hl
   have e1:=ix2 hT v0 ve va (by omega) (by omega) (by omega) (by omega)
   have e2:=ix2 hT v0 va ve (by omega) (by omega) (by omega) (by omega)
   simp only [eB,tAnd,Zcn e1 va,Zcn e2 va,intOf]
   cases tg T (e:Int) (a:Int) == (a:Int) <;> simp)
 simp only [tB,eF1,Ji,hit,Zm,hn,if_true,hc,fAll,Zfz,all_rangeD,Zay,intOf]
theorem Zew {T:List (List Int)}{n:Nat}(hT:Tab T n):JR [tabD T]=some ((restOf T n).getD .non):=by
 have e:sSet 1 (eF1 fLen (eVar 0)) (enter 4 [tabD T])=some (.nx,[Sl.sh (tabD T),Sl.sh (.int n),Sl.un,Sl.un]):=by
  rw [Zah (Zc3 rfl |>.trans (ZdH T)),hT.len];rfl
 have i1:∀ env,Agr [2] env [Sl.sh (tabD T),Sl.sh (.int n),Sl.un,Sl.un]→iRng (eVar 1) env=some (Yg 0 n):=fun env hA=>JT (by rw [hA.var (by decide)];rfl) (by have:=hT.top;omega)
 have key:=ZaN (g:=gN 2) (b:=sIf (tB (eF1 fAll (Ji 3 (iRng (eVar 1)) Jm (eB (tAnd (tEq (eIx (eIx (eVar 0) (eVar 2)) (eVar 3)) (eVar 3)) (tEq (eIx (eIx (eVar 0) (eVar 3)) (eVar 2)) (eVar 3))))))) (sRet (eVar 2)) Zk)
  (fun env=>Agr [2] env [Sl.sh (tabD T),Sl.sh (.int n),Sl.un,Sl.un]) (fun d=>if Zay T n (intOf d) then some d else none) (Yg 0 n) [Sl.sh (tabD T),Sl.sh (.int n),Sl.un,Sl.un] (fun d hd env hA=>by
   obtain ⟨a,ha,rfl⟩:=Yo hd
   refine ⟨_,rfl,?_⟩
   have A1:Agr [2] (env.set 2 (.sh (.int a))) [Sl.sh (tabD T),Sl.sh (.int n),Sl.un,Sl.un]:=hA.set (by simp) _
   have v2:eVar 2 (env.set 2 (.sh (.int a)))=some (.int a):=Yy (by rw [hA.len];simp)
   have tst:=ZlV hT (it:=iRng (eVar 1)) (env:=env.set 2 (.sh (.int a))) (ie:=2) (ia:=3) (by decide) (by decide) (by rw [A1.len];simp) (i1 _ A1) (by rw [A1.var (by decide)];rfl) ha v2
   by_cases hq:Zay T n (a:Int)=true
   ·rw [hq] at tst
    rw [Zcz tst,Yx v2]
    simp [intOf,hq]
   ·rw [Bool.not_eq_true] at hq
    rw [hq] at tst
    rw [Y5 tst]
    simp [intOf,hq,Zk,A1]) (Agr.refl _ _)
 have hi:=i1 _ (Agr.refl _ _)
 rw [← Zal (g:=gN 2) hi] at key
 unfold restOf
 cases h:(Yg 0 n).findSome? fun d=>if Zay T n (intOf d) then some d else none with
 | some r =>
  obtain ⟨e1,x⟩:=key.1 r h
  exact Jt rfl ((Yi e).trans (Zbj x))
 | none =>
  obtain ⟨e1,x,hA⟩:=key.2 h
  exact Jt rfl ((Yi e).trans ((Yi x).trans (Yx rfl)))
end PV
namespace PV
open PySem (Str)
noncomputable def Za0 (T:List (List Int)) (s e b:Int):Bool:=tg T e b == s && tg T b e == s
noncomputable def ZaX (T:List (List Int)) (n:Nat) (s e:Int):Option D:=(Yg 0 n).findSome? fun d=>if Za0 T s e (intOf d) then some d else none
theorem JH {T:List (List Int)}{n:Nat}(hT:Tab T n){env:Env}{e:Ex}(h:e env=some (tabD T)):eF1 fLen e env=some (.int n):=by rw [Zc3 h,ZdH,hT.len]
theorem Tab.le {T:List (List Int)}{n:Nat}(h:Tab T n):n≤1000:=by have:=h.top;omega
theorem ZkW {T:List (List Int)}{n:Nat}(hT:Tab T n){env:Env}{e0 ee es eb:Ex}(k0:e0 env=some (tabD T)){e b:Nat}{s:Int}(he:e < n)(hb:b < n)(ke:ee env=some (.int e))(ks:es env=some (.int s))(kb:eb env=some (.int b)) :
  tAnd (tEq (eIx (eIx e0 ee) eb) es) (tEq (eIx (eIx e0 eb) ee) es) env=some (Za0 T s e b):=by
 have e1:=ix2 hT k0 ke kb (by omega) (by omega) (by omega) (by omega)
 have e2:=ix2 hT k0 kb ke (by omega) (by omega) (by omega) (by omega)
 simp only [tAnd,Zcn e1 ks,Zcn e2 ks,Za0]
 cases tg T (e:Int) (b:Int) == s <;> simp
theorem ZiA {T:List (List Int)}{n:Nat}(hT:Tab T n){s e:Nat}(he:e < n):ZaC [tabD T,.int s,.int e]=some ((ZaX T n s e).getD .non):=by
 have i1:iRng (eF1 fLen (eVar 0)) (enter 4 [tabD T,.int s,.int e])=some (Yg 0 n):=JT (JH hT rfl) hT.le
 have key:=ZaN (g:=gN 3) (b:=sIf (tAnd (tEq (eIx (eIx (eVar 0) (eVar 2)) (eVar 3)) (eVar 1)) (tEq (eIx (eIx (eVar 0) (eVar 3)) (eVar 2)) (eVar 1))) (sRet (eVar 3)) Zk)
  (fun env=>Agr [3] env (enter 4 [tabD T,.int s,.int e])) (fun d=>if Za0 T s e (intOf d) then some d else none) (Yg 0 n) (enter 4 [tabD T,.int s,.int e]) (fun d hd env hA=>by
   obtain ⟨b,hb,rfl⟩:=Yo hd
   refine ⟨_,rfl,?_⟩
   have A1:Agr [3] (env.set 3 (.sh (.int b))) (enter 4 [tabD T,.int s,.int e]):=hA.set (by simp) _
   have v3:eVar 3 (env.set 3 (.sh (.int b)))=some (.int b):=Yy (by rw [hA.len];simp [enter])
   have tst:=ZkW hT (env:=env.set 3 (.sh (.int b))) (e0:=eVar 0) (ee:=eVar 2) (es:=eVar 1) (eb:=eVar 3) (s:=s) (by rw [A1.var (by decide)];rfl) he hb (by rw [A1.var (by decide)];rfl) (by rw [A1.var (by decide)];rfl) v3
   by_cases hq:Za0 T s e (b:Int)=true
   ·rw [hq] at tst
    rw [Zcz tst,Yx v3]
    simp [intOf,hq]
   ·rw [Bool.not_eq_true] at hq
    rw [hq] at tst
    rw [Y5 tst]
    simp [intOf,hq,Zk,A1]) (Agr.refl _ _)
 rw [← Zal (g:=gN 3) i1] at key
 unfold ZaX
 cases h:(Yg 0 n).findSome? fun d=>if Za0 T s e (intOf d) then some d else none with
 | some r =>
  obtain ⟨e1,x⟩:=key.1 r h
  exact Jt rfl (Zbj x)
 | none =>
  obtain ⟨e1,x,hA⟩:=key.2 h
  exact Jt rfl ((Yi x).trans (Yx rfl))
noncomputable def Zdd (T:List (List Int)) (n:Nat) (s:Int):Option D:=(Yg 0 n).findSome? fun d=>if (ZaX T n s (intOf d)).isSome then none else some (.tup [.str "back",d])
noncomputable def Zbt (T:List (List Int)) (n:Nat):D:=match ZaV T n with
 | some r=>r
 | none=>match restOf T n with
  | none=>.tup [.str "rest"]
  | some r=>(Zdd T n (intOf r)).getD .non
theorem ZaO {α β:Type}{q:α→Option β}{ds:List α}{r:β}(h:ds.findSome? q=some r):∃ d ∈ ds,q d=some r:=by
 induction ds with
 | nil=>simp at h
 | cons d ds ih =>
  rw [List.findSome?_cons] at h
  cases hq:q d with
  | some x=>rw [hq] at h;cases h;exact ⟨d,List.mem_cons_self,hq⟩
  | none=>rw [hq] at h;obtain ⟨d',h1,h2⟩:=ih h;exact ⟨d',List.mem_cons_of_mem _ h1,h2⟩
theorem Zhm {T:List (List Int)}{n:Nat}{r:D}(h:ZaV T n=some r):∃ a b c:Nat,r=.tup [.str "three",.int a,.int b,.int c]:=by
 obtain ⟨da,ha,h⟩:=ZaO h
 obtain ⟨db,hb,h⟩:=ZaO h
 obtain ⟨dc,hc,h⟩:=ZaO h
 obtain ⟨a,_,rfl⟩:=Yo ha
 obtain ⟨b,_,rfl⟩:=Yo hb
 obtain ⟨c,_,rfl⟩:=Yo hc
 simp only [ZbS] at h
 by_cases hq:(tg T (tg T (a:Int) (b:Int)) (c:Int) == tg T (a:Int) (tg T (b:Int) (c:Int)))=true
 ·rw [if_pos hq] at h;cases h
 ·rw [if_neg hq] at h;cases h;exact ⟨a,b,c,rfl⟩
theorem Zig {T:List (List Int)}{n:Nat}{r:D}(h:restOf T n=some r):∃ s:Nat,s < n∧r=.int s∧Zay T n s=true:=by
 obtain ⟨d,hd,h⟩:=ZaO h
 obtain ⟨s,hs,rfl⟩:=Yo hd
 by_cases hq:Zay T n (s:Int)=true
 ·simp [intOf,hq] at h;exact ⟨s,hs,h.symm,hq⟩
 ·simp [intOf,hq] at h
theorem Zd1 {T:List (List Int)}{n:Nat}{s e:Int}{r:D}(h:ZaX T n s e=some r):∃ b:Nat,b < n∧r=.int b∧Za0 T s e b=true:=by
 obtain ⟨d,hd,h⟩:=ZaO h
 obtain ⟨b,hb,rfl⟩:=Yo hd
 by_cases hq:Za0 T s e (b:Int)=true
 ·simp [intOf,hq] at h;exact ⟨b,hb,h.symm,hq⟩
 ·simp [intOf,hq] at h
theorem Zng {e:Ex}{env:Env}{x:D}(h:e env=some x):tIsN e env=some x.isN:=by simp [tIsN,h]
theorem Zof {e:Ex}{env:Env}{x:D}(h:e env=some x):tNoN e env=some (!x.isN):=by simp [tNoN,h]
theorem ZhG {T:List (List Int)}{n:Nat}(hT:Tab T n):ZaB [tabD T]=some (Zbt T n):=by
 have s1:sSet 1 (Ye Zam [(eVar 0)]) (enter 4 [tabD T])=some (.nx,[.sh (tabD T),.sh ((ZaV T n).getD .non),.un,.un]):=by
  rw [Zah ((YM rfl).trans (Zhk hT))];rfl
 cases h3:ZaV T n with
 | some r =>
  rw [h3,Option.getD_some] at s1
  obtain ⟨a,b,c,rfl⟩:=Zhm h3
  have e:Zbt T n=.tup [.str "three",.int a,.int b,.int c]:=by simp only [Zbt,h3]
  rw [e]
  exact Jt rfl ((Yi s1).trans (Zbj ((Zcz rfl).trans (Yx rfl))))
 | none =>
  rw [h3,Option.getD_none] at s1
  have s2:sSet 2 (Ye JR [(eVar 0)]) [.sh (tabD T),.sh .non,.un,.un]=some (.nx,[.sh (tabD T),.sh .non,.sh ((restOf T n).getD .non),.un]):=by
   rw [Zah ((YM rfl).trans (Zew hT))];rfl
  cases h2:restOf T n with
  | none =>
   rw [h2,Option.getD_none] at s2
   have e:Zbt T n=.tup [.str "rest"]:=by simp only [Zbt,h3,h2]
   rw [e]
   exact Jt rfl ((Yi s1).trans ((Yi ((Y5 rfl).trans JL)).trans ((Yi s2).trans (Zbj ((Zcz rfl).trans (Yx rfl))))))
  | some r =>
   obtain ⟨s,hs,rfl,_⟩:=Zig h2
   rw [h2,Option.getD_some] at s2
   have e:Zbt T n=(Zdd T n s).getD .non:=by simp only [Zbt,h3,h2,intOf]
   rw [e]
   have i1:iRng (eF1 fLen (eVar 0)) [.sh (tabD T),.sh .non,.sh (.int s),.un]=some (Yg 0 n):=JT (JH hT rfl) hT.le
   have key:=ZaN (g:=gN 3) (b:=sIf (tIsN (Ye ZaC [(eVar 0),(eVar 2),(eVar 3)])) (sRet (eTup [(eC (.str "back")),(eVar 3)])) Zk)
    (fun env=>Agr [3] env [.sh (tabD T),.sh .non,.sh (.int s),.un]) (fun d=>if (ZaX T n s (intOf d)).isSome then none else some (.tup [.str "back",d])) (Yg 0 n) [.sh (tabD T),.sh .non,.sh (.int s),.un] (fun d hd env hA=>by
     obtain ⟨b,hb,rfl⟩:=Yo hd
     refine ⟨_,rfl,?_⟩
     have A1:Agr [3] (env.set 3 (.sh (.int b))) [.sh (tabD T),.sh .non,.sh (.int s),.un]:=hA.set (by simp) _
     have v3:eVar 3 (env.set 3 (.sh (.int b)))=some (.int b):=Yy (by rw [hA.len];simp)
     have v0:eVar 0 (env.set 3 (.sh (.int b)))=some (tabD T):=by rw [A1.var (by decide)];rfl
     have v2:eVar 2 (env.set 3 (.sh (.int b)))=some (.int s):=by rw [A1.var (by decide)];rfl
     have tst:=Zng ((Zeo v0 v2 v3).trans (ZiA hT hb))
     cases hq:ZaX T n s (b:Int) with
     | none =>
      rw [hq] at tst
      rw [Zcz tst,Yx (show eTup [(eC (.str "back")),(eVar 3)] _=some (.tup [.str "back",.int b]) by simp [eTup,evs,eC,v3])]
      simp [intOf,hq]
     | some r =>
      obtain ⟨b',_,rfl,_⟩:=Zd1 hq
      rw [hq] at tst
      rw [Y5 tst]
      simp [intOf,hq,Zk,A1]) (Agr.refl _ _)
   rw [← Zal (g:=gN 3) i1] at key
   unfold Zdd
   cases h:(Yg 0 n).findSome? fun d=>if (ZaX T n s (intOf d)).isSome then none else some (D.tup [.str "back",d]) with
   | some r =>
    obtain ⟨e1,x⟩:=key.1 r h
    exact Jt rfl ((Yi s1).trans ((Yi ((Y5 rfl).trans JL)).trans ((Yi s2).trans ((Yi ((Y5 rfl).trans JL)).trans (Zbj x)))))
   | none =>
    obtain ⟨e1,x,hA⟩:=key.2 h
    exact Jt rfl ((Yi s1).trans ((Yi ((Y5 rfl).trans JL)).trans ((Yi s2).trans ((Yi ((Y5 rfl).trans JL)).trans ((Yi x).trans (Yx rfl))))))
end PV
namespace PV
open PySem (Str)
theorem ZdL {T:List (List Int)}{n:Nat}(hT:Tab T n)(x:Int):Zx [tabD T,.int x]=some (.bl (decide (0≤x) && decide (x < n))):=by
 refine Jt rfl (Yx ?_)
 have h1:t2I pGe (eVar 1) (eC (.int 0)) (enter 2 [tabD T,.int x])=some (decide (0≤x)):=rfl
 have h2:t2I pLt (eVar 1) (eF1 fLen (eVar 0)) (enter 2 [tabD T,.int x])=some (decide (x < n)):=by
  simp only [t2I,JH hT (show eVar 0 (enter 2 [tabD T,.int x])=some (tabD T) from rfl)]
  rfl
 simp only [eB,tAnd,h1,h2]
 cases decide (0≤x) <;> simp
theorem Zji {e:Ex}{env:Env}{xs:List D}(h:e env=some (.lst xs)):iOf e env=some xs:=by simp [iOf,h]
theorem ZgJ {T:List (List Int)}{e:Ex}{env:Env}(h:e env=some (tabD T)):iOf e env=some (T.map rowD):=Zji h
theorem ZnP {r:List Int}{e:Ex}{env:Env}(h:e env=some (rowD r)):iOf e env=some (r.map .int):=Zji h
theorem ZhH {T:List (List Int)}{n:Nat}(hT:Tab T n):ZaE [tabD T]=some .non:=by
 have e:sSet 1 (eF1 fLen (eVar 0)) (enter 4 [tabD T])=some (.nx,[Sl.sh (tabD T),Sl.sh (.int n),Sl.un,Sl.un]):=by
  rw [Zah (JH hT rfl)];rfl
 have t1:tOr (t2I pLt (eVar 1) (eC (.int 1))) (t2I pGt (eVar 1) (eC (.int 12))) [Sl.sh (tabD T),Sl.sh (.int n),Sl.un,Sl.un]=some false:=by
  have h1:t2I pLt (eVar 1) (eC (.int 1)) [Sl.sh (tabD T),Sl.sh (.int n),Sl.un,Sl.un]=some (decide ((n:Int) < 1)):=rfl
  have h2:t2I pGt (eVar 1) (eC (.int 12)) [Sl.sh (tabD T),Sl.sh (.int n),Sl.un,Sl.un]=some (decide (12 < (n:Int))):=rfl
  have p1:=hT.pos
  have p2:=hT.top
  rw [decide_eq_false (by omega)] at h1 h2
  simp only [tOr,h1,h2]
 have key:=ZcC (g:=gN 2) (ds:=T.map rowD) (b:=sSeq (sIf (tNe (eF1 fLen (eVar 2)) (eVar 1)) (ZbK) Zk) (sIf (tNot (tB (eF1 fAll (Ji 3 (iOf (eVar 2)) Jm (Ye Zx [(eVar 0),(eVar 3)]))))) (ZbK) Zk))
  (fun _ env=>Agr [2] env [Sl.sh (tabD T),Sl.sh (.int n),Sl.un,Sl.un]) (fun k d env hd hA=>by
   rw [List.getElem?_map] at hd
   cases hr:T[k]? with
   | none=>rw [hr] at hd;cases hd
   | some r =>
    rw [hr] at hd
    have hd':rowD r=d:=by simpa using hd
    subst hd'
    have hm:r ∈ T:=List.mem_of_getElem? hr
    have A1:Agr [2] (env.set 2 (.sh (rowD r))) [Sl.sh (tabD T),Sl.sh (.int n),Sl.un,Sl.un]:=hA.set (by simp) _
    have v2:eVar 2 (env.set 2 (.sh (rowD r)))=some (rowD r):=Yy (by rw [hA.len];simp)
    have v1:eVar 1 (env.set 2 (.sh (rowD r)))=some (.int n):=by rw [A1.var (by decide)];rfl
    have v0:eVar 0 (env.set 2 (.sh (rowD r)))=some (tabD T):=by rw [A1.var (by decide)];rfl
    have t2:tNe (eF1 fLen (eVar 2)) (eVar 1) (env.set 2 (.sh (rowD r)))=some false:=by
     rw [Zgw (i:=r.length) (j:=n) ((Zc3 v2).trans (ZfD r)) v1,hT.row r hm]
     simp
    have hlen:(r.map D.int).length≤lim:=by rw [List.length_map,hT.row r hm,Jp];have:=hT.top;omega
    have hc:=Zbi (i:=3) (e:=Ye Zx [(eVar 0),(eVar 3)]) (env:=env.set 2 (.sh (rowD r))) (fun d=>.bl (decide (0≤intOf d) && decide (intOf d < n))) (r.map .int) (fun d hd=>by
     obtain ⟨x,hx,rfl⟩:=List.mem_map.mp hd
     refine (Ju (x:=tabD T) (y:=.int x) ?_ ?_).trans (ZdL hT x)
     ·rw [Zy (by decide)];exact v0
     ·exact Yy (by rw [A1.len];simp))
    have t3:tNot (tB (eF1 fAll (Ji 3 (iOf (eVar 2)) Jm (Ye Zx [(eVar 0),(eVar 3)])))) (env.set 2 (.sh (rowD r)))=some false:=by
     have ha:(r.map D.int).all (fun d=>decide (0≤intOf d) && decide (intOf d < (n:Int)))=true:=by
      rw [List.all_eq_true]
      intro d hd
      obtain ⟨x,hx,rfl⟩:=List.mem_map.mp hd
      have:=hT.ent r hm x hx
      simp [intOf,this.1,this.2]
     simp only [tNot,tB,eF1,Ji,ZnP v2,hlen,if_true,hc,fAll,Zfz,ha]
     rfl
    refine ⟨_,_,rfl,(Yi ((Y5 t2).trans JL)).trans ((Y5 t3).trans JL),A1⟩) [Sl.sh (tabD T),Sl.sh (.int n),Sl.un,Sl.un] (Agr.refl _ _)
 obtain ⟨e1,x,_⟩:=key
 rw [← Zal (it:=iOf (eVar 0)) (ZgJ (T:=T) rfl)] at x
 exact ZiB rfl ((Yi e).trans ((Yi ((Y5 t1).trans JL)).trans x))
theorem ZiR {T:List (List Int)}(hl:T.length≤1000):Zbx [tabD T]=some (tabD T):=by
 have hlen:(T.map rowD).length≤lim:=by rw [List.length_map,Jp];omega
 refine Jt rfl (Yx (d:=tabD T) ?_)
 have hc:=Zbi (i:=1) (e:=eF1 ZaH (eVar 1)) (env:=enter 2 [tabD T]) (fun d=>d) (T.map rowD) (fun d hd=>by
  obtain ⟨r,hr,rfl⟩:=List.mem_map.mp hd
  rfl)
 simp only [Ji,ZgJ (T:=T) (show eVar 0 (enter 2 [tabD T])=some (tabD T) from rfl),hlen,if_true,hc,List.map_id']
 rfl
theorem Zhj (x:Int):Za5 [.int x]=some (.bl true):=rfl
end PV
namespace PV
open PySem (Str)
noncomputable def ZcS (ns:List Int) (k:Nat):Int:=ns.getD k 0
theorem ZbX (ns:List Int)(k:Nat):Zz [rowD ns,.int k]=some (.int (ZcS ns k)):=by
 have t1:t2I pLt (eVar 1) (eF1 fLen (eVar 0)) (enter 2 [rowD ns,.int k])=some (decide ((k:Int) < ns.length)):=by
  have h:eF1 fLen (eVar 0) (enter 2 [rowD ns,.int k])=some (.int ns.length):=(Zc3 (x:=rowD ns) rfl).trans (ZfD ns)
  simp only [t2I,h];rfl
 by_cases hk:(k:Int) < ns.length
 ·rw [decide_eq_true hk] at t1
  refine Jt rfl (Zbj ((Zcz t1).trans (Yx ?_)))
  show fIx (rowD ns) (.int k)=_
  rw [ZeP (by omega) hk]
  simp [ZcS]
 ·rw [decide_eq_false hk] at t1
  have e:ZcS ns k=0:=by unfold ZcS;rw [List.getD_eq_getElem?_getD,List.getElem?_eq_none (by omega)];rfl
  rw [e]
  exact Jt rfl ((Yi ((Y5 t1).trans JL)).trans (Yx rfl))
theorem YF {f:Int→Int→Option D}{a b:Ex}{env:Env}{i j:Int}(h1:a env=some (.int i))(h2:b env=some (.int j)):e2I f a b env=f i j:=by simp [e2I,h1,h2]
theorem ZaT {i j:Int}(h:0 < j):iMod i j=some (.int (i % j)):=by unfold iMod;rw [if_pos h]
theorem ZgE {i j:Int}(h:0 < j)(h2:j < 1073741824):iDiv i j=some (.int (i / j)):=by unfold iDiv;rw [if_pos ⟨h,h2⟩]
theorem ZiD {i j:Int}(h:-18446744073709551616 < i)(h2:i < 18446744073709551616):iMul i j=some (.int (i * j)):=by unfold iMul;rw [if_pos (.inl ⟨h,h2⟩)]
theorem ZlM {i j:Int}(h:-18446744073709551616 < j)(h2:j < 18446744073709551616):iMul i j=some (.int (i * j)):=by unfold iMul;rw [if_pos (.inr ⟨h,h2⟩)]
theorem ZbM {a b:Ex}{env:Env}{i j:Int}(h1:a env=some (.int i))(h2:b env=some (.int j)):eAdd a b env=some (.int (i + j)):=by simp [eAdd,eF2,h1,h2,fAdd]
theorem Zi3 (c : Int)(k : Nat)(bound : Int)(hk : k ≤ 1000)(hb : 0 < bound)(hb2 : bound ≤ 12) : ∃ r : Int, Z6 [.int c, .int k, .int bound] = some (.int r) ∧ 0 ≤ r ∧ r < bound := by
  have t1 : tEq (e2I iMod (eVar 0) (eC (.int 2))) (eC (.int 0)) (enter 6 [.int c, .int k, .int bound]) = some (c % 2 == 0) :=
    Zcn ((YF (i := c) (j := 2) rfl rfl).trans (ZaT (by decide))) rfl
  by_cases h2 : (c % 2 == 0) = true
  · rw [h2] at t1
    have s1 : sSet 3 (e2I iDiv (eVar 0) (eC (.int 2))) (enter 6 [.int c, .int k, .int bound]) = some (.nx, [.sh (.int c), .sh (.int k), .sh (.int bound), .sh (.int (c / 2)), .un, .un]) := by
      rw [Zah ((YF (i := c) (j := 2) rfl rfl).trans (ZgE (by decide) (by decide)))]; rfl
    have key := ZcC (g := gN 4) (ds := Yg 0 k) (b := sSet 3 (e2I iDiv (eVar 3) (eVar 2))) (fun _ env => Agr [3, 4] env [.sh (.int c), .sh (.int k), .sh (.int bound), .sh (.int (c / 2)), .un, .un] ∧ ∃ l : Int, eVar 3 env = some (.int l))
      (fun j d env hd ⟨hA, l, hl⟩ => by
        have A1 : Agr [3, 4] (env.set 4 (.sh d)) [.sh (.int c), .sh (.int k), .sh (.int bound), .sh (.int (c / 2)), .un, .un] := hA.set (by simp) _
        have v3 : eVar 3 (env.set 4 (.sh d)) = some (.int l) := by rw [Zy (by decide)]; exact hl
        have v2 : eVar 2 (env.set 4 (.sh d)) = some (.int bound) := by rw [A1.var (by decide)]; rfl
        refine ⟨_, _, rfl, Zah ((YF v3 v2).trans (ZgE hb (by omega))), A1.set (by simp) _, _, Yy (by rw [A1.len]; simp)⟩)
      [.sh (.int c), .sh (.int k), .sh (.int bound), .sh (.int (c / 2)), .un, .un] ⟨Agr.refl _ _, _, rfl⟩
    obtain ⟨e1, x, hA, l, hl⟩ := key
    rw [← Zal (it := iRng (eVar 1)) (JT rfl hk)] at x
    have v2 : eVar 2 e1 = some (.int bound) := by rw [hA.var (by decide)]; rfl
    refine ⟨l % bound, Jt rfl (Zbj ((Zcz t1).trans ((Yi s1).trans ((Yi x).trans (Yx ((YF hl v2).trans (ZaT hb))))))), Int.emod_nonneg _ (by omega), Int.emod_lt_of_pos _ hb⟩
  · rw [Bool.not_eq_true] at h2
    rw [h2] at t1
    let q1 : Int := (c % 2147483647 + 977 * k + 1) * 48271 % 2147483647
    have m0 := Int.emod_nonneg c (show (2147483647 : Int) ≠ 0 by decide)
    have m0' := Int.emod_lt_of_pos c (show (0 : Int) < 2147483647 by decide)
    have n1 : 0 ≤ q1 := Int.emod_nonneg _ (by decide)
    have n1' : q1 < 2147483647 := Int.emod_lt_of_pos _ (by decide)
    let q2 : Int := q1 * q1 % 2147483629
    have n2 : 0 ≤ q2 := Int.emod_nonneg _ (by decide)
    have n2' : q2 < 2147483629 := Int.emod_lt_of_pos _ (by decide)
    let q3 : Int := (q2 + 40692 * (k + 3)) * 69621 % 2147483647
    have n3 : 0 ≤ q3 := Int.emod_nonneg _ (by decide)
    have s1 : sSet 5 (e2I iMod (e2I iMul (eAdd (eAdd (e2I iMod (eVar 0) (eC (.int 2147483647))) (e2I iMul (eC (.int 977)) (eVar 1))) (eC (.int 1))) (eC (.int 48271))) (eC (.int 2147483647))) (enter 6 [.int c, .int k, .int bound]) =
        some (.nx, [.sh (.int c), .sh (.int k), .sh (.int bound), .un, .un, .sh (.int q1)]) := by
      rw [Zah ((YF ((YF (ZbM (ZbM ((YF (i := c) (j := 2147483647) rfl rfl).trans (ZaT (by decide))) ((YF (i := 977) (j := k) rfl rfl).trans (ZiD (by decide) (by decide)))) rfl) rfl).trans (ZlM (j := 48271) (by decide) (by decide))) rfl).trans (ZaT (by decide)))]
      rfl
    have s2 : sSet 5 (e2I iMod (e2I iMul (eVar 5) (eVar 5)) (eC (.int 2147483629))) [.sh (.int c), .sh (.int k), .sh (.int bound), .un, .un, .sh (.int q1)] =
        some (.nx, [.sh (.int c), .sh (.int k), .sh (.int bound), .un, .un, .sh (.int q2)]) := by
      rw [Zah ((YF ((YF (i := q1) (j := q1) rfl rfl).trans (ZiD (by omega) (by omega))) rfl).trans (ZaT (by decide)))]
      rfl
    have s3 : sSet 5 (e2I iMod (e2I iMul (eAdd (eVar 5) (e2I iMul (eC (.int 40692)) (eAdd (eVar 1) (eC (.int 3))))) (eC (.int 69621))) (eC (.int 2147483647))) [.sh (.int c), .sh (.int k), .sh (.int bound), .un, .un, .sh (.int q2)] =
        some (.nx, [.sh (.int c), .sh (.int k), .sh (.int bound), .un, .un, .sh (.int q3)]) := by
      rw [Zah ((YF ((YF (ZbM (i := q2) rfl ((YF (i := 40692) rfl (ZbM (i := k) (j := 3) rfl rfl)).trans (ZiD (by decide) (by decide)))) rfl).trans (ZlM (j := 69621) (by decide) (by decide))) rfl).trans (ZaT (by decide)))]
      rfl
    refine ⟨q3 / 8 % bound, Jt rfl ((Yi ((Y5 t1).trans JL)).trans ((Yi s1).trans ((Yi s2).trans ((Yi s3).trans (Yx ((YF ((YF (i := q3) (j := 8) rfl rfl).trans (ZgE (by decide) (by decide))) rfl).trans (ZaT hb))))))),
      Int.emod_nonneg _ (by omega), Int.emod_lt_of_pos _ hb⟩
end PV
namespace PV
open PySem (Str)
structure Prm (nm:List Int)(n:Nat):Prop where
 len:nm.length=n
 nd:nm.Nodup
 bd:∀ x ∈ nm,0≤x∧x < n
noncomputable def at1 (nm:List Int) (k:Int):Int:=nm.getD k.toNat 0
theorem ZjM {nm:List Int}{k:Int}(h0:0≤k)(h1:k < nm.length):at1 nm k ∈ nm:=by
 have hk:k.toNat < nm.length:=by omega
 unfold at1
 rw [List.getD_eq_getElem?_getD,List.getElem?_eq_getElem hk]
 exact List.getElem_mem hk
theorem Prm.at {nm:List Int}{n:Nat}(h:Prm nm n){k:Int}(h0:0≤k)(h1:k < n):0≤at1 nm k∧at1 nm k < n:=h.bd _ (ZjM h0 (by rw [h.len];exact h1))
theorem Prm.inj {nm:List Int}{n:Nat}(h:Prm nm n){a b:Int}(a0:0≤a)(a1:a < n)(b0:0≤b)(b1:b < n)(e:at1 nm a=at1 nm b):a=b:=by
 have hl:=h.len
 have ha:a.toNat < nm.length:=by omega
 have hb:b.toNat < nm.length:=by omega
 unfold at1 at e
 rw [List.getD_eq_getElem?_getD,List.getD_eq_getElem?_getD,List.getElem?_eq_getElem ha,List.getElem?_eq_getElem hb] at e
 have:=(List.getElem_inj h.nd).mp (show nm[a.toNat]=nm[b.toNat] from e)
 omega
theorem ZbN {α:Type}{x y:α}:∀ {nm:List α} {j:Nat},y ∈ nm.insertIdx j x→y=x∨y ∈ nm
 | nm,0,h=>by rw [List.insertIdx_zero] at h;exact List.mem_cons.mp h
 | [],j + 1,h=>by simp at h
 | z::nm,j + 1,h=>by
  rw [List.insertIdx_succ_cons] at h
  rcases List.mem_cons.mp h with e | e
  ·exact .inr (by rw [e];exact List.mem_cons_self)
  ·rcases ZbN e with e | e
   ·exact .inl e
   ·exact .inr (List.mem_cons_of_mem _ e)
theorem Zc2 {α β:Type}(f:α→β)(x:α):∀ (nm:List α) (j:Nat),(nm.insertIdx j x).map f=(nm.map f).insertIdx j (f x)
 | nm,0=>by simp
 | [],j + 1=>by simp
 | z::nm,j + 1=>by simp only [List.insertIdx_succ_cons,List.map_cons,Zc2 f x nm j]
theorem ZcQ {x:Int}:∀ {nm:List Int} {j:Nat},nm.Nodup→x ∉ nm→(nm.insertIdx j x).Nodup
 | nm,0,h,hx=>by rw [List.insertIdx_zero];exact List.nodup_cons.mpr ⟨hx,h⟩
 | [],j + 1,h,hx=>by simp
 | y::nm,j + 1,h,hx=>by
  rw [List.insertIdx_succ_cons]
  obtain ⟨h1,h2⟩:=List.nodup_cons.mp h
  refine List.nodup_cons.mpr ⟨fun hm=>?_,ZcQ h2 fun z=>hx (List.mem_cons_of_mem _ z)⟩
  rcases ZbN hm with e | e
  ·exact hx (by rw [← e];exact List.mem_cons_self)
  ·exact h1 e
noncomputable def Zaf (T:List (List Int)):List (List D):=T.map fun r=>r.map .int
theorem Zhc:∀ T:List (List Int),ZeT (T.map rowD)=some (Zaf T)
 | []=>rfl
 | r::T=>by simp only [List.map_cons,rowD,ZeT];rw [Zhc T];rfl
theorem ZjO (T:List (List Int)):D.lst ((Zaf T).map .lst)=tabD T:=by simp only [Zaf,tabD,List.map_map];rfl
noncomputable def tset (T:List (List Int)) (i j v:Int):List (List Int):=T.set i.toNat ((T.getD i.toNat []).set j.toNat v)
theorem Tab.tset {T:List (List Int)}{n:Nat}(h:Tab T n){i j v:Int}(i0:0≤i)(i1:i < n)(v0:0≤v)(v1:v < n):Tab (tset T i j v) n:=by
 have hr:=h.Zc6 i0 i1
 have hm:(T.getD i.toNat []) ∈ T:=by
  have hk:i.toNat < T.length:=by have:=h.len;omega
  rw [List.getD_eq_getElem?_getD,List.getElem?_eq_getElem hk];exact List.getElem_mem hk
 refine ⟨by unfold PV.tset;rw [List.length_set];exact h.len,fun r hr'=>?_,fun r hr' x hx=>?_,h.pos,h.top⟩
 ·rcases List.mem_or_eq_of_mem_set hr' with z | z
  ·exact h.row r z
  ·rw [z,List.length_set];exact hr
 ·rcases List.mem_or_eq_of_mem_set hr' with z | z
  ·exact h.ent r z x hx
  ·rw [z] at hx
   rcases List.mem_or_eq_of_mem_set hx with y | y
   ·exact h.ent _ hm x y
   ·rw [y];exact ⟨v0,v1⟩
theorem ZjK {T:List (List Int)}{n:Nat}(h:Tab T n){i j v a b:Int}(i0:0≤i)(i1:i < n)(j0:0≤j)(j1:j < n)(a0:0≤a)(a1:a < n)(b0:0≤b)(b1:b < n) :
  tg (tset T i j v) a b=if a=i∧b=j then v else tg T a b:=by
 have hl:=h.len
 have hr:=h.Zc6 i0 i1
 unfold tg PV.tset
 simp only [List.getD_eq_getElem?_getD]
 by_cases hai:a=i
 ·subst hai
  rw [List.getElem?_set_self (by omega),Option.getD_some]
  by_cases hbj:b=j
  ·subst hbj
   rw [List.getElem?_set_self (by simpa [List.getD_eq_getElem?_getD] using (show b.toNat < (T.getD a.toNat []).length by omega))]
   simp
  ·rw [List.getElem?_set_ne (by omega)]
   simp [hbj]
 ·rw [List.getElem?_set_ne (by omega)]
  simp [hai]
theorem Zh5 {env:Env}{i j:Nat}{s:Sl}(h:i≠j):Yq j (env.set i s)=Yq j env:=by unfold Yq;rw [List.getElem?_set_ne h]
theorem Zgt {B : List (List Int)}{n : Nat}(hB : Tab B n)(c : Int) : ∃ (T : List (List Int)) (nm : List Int), Zav [tabD B, .int c] = some (tabD T) ∧ Tab T n ∧ Prm nm n ∧
    ∀ a b : Int, 0 ≤ a → a < n → 0 ≤ b → b < n → tg T (at1 nm a) (at1 nm b) = at1 nm (tg B a b) := by
  have hn := hB.top
  let env0 : Env := [.sh (tabD B), .sh (.int c), .ow [], .un, .un, .un, .un, .un]
  have s1 : sOwn 2 (eLst []) (enter 8 [tabD B, .int c]) = some (.nx, env0) := rfl
  have key := ZcC (g := gN 3) (ds := Yg 0 n) (b := sIns 2 (e2I iMod (Ye Z6 [(eVar 1), (eVar 3), (eC (.int 12))]) (eAdd (eVar 3) (eC (.int 1)))) (eVar 3))
    (fun k env => Agr [2, 3] env env0 ∧ ∃ nm : List Int, env[2]? = some (.ow (nm.map .int)) ∧ Prm nm k) (fun k d env hd ⟨hA, nm, hv, hp⟩ => by
      have hk : k < n := by have := (List.getElem?_eq_some_iff.mp hd).1; rwa [Zm] at this
      rw [JF hk] at hd
      obtain rfl : D.int k = d := by simpa using hd
      have A1 : Agr [2, 3] (env.set 3 (.sh (.int k))) env0 := hA.set (by simp) _
      have v3 : eVar 3 (env.set 3 (.sh (.int k))) = some (.int k) := Yy (by rw [hA.len]; simp [env0])
      have v1 : eVar 1 (env.set 3 (.sh (.int k))) = some (.int c) := by rw [A1.var (by decide)]; rfl
      obtain ⟨r, hr, r0, r1⟩ := Zi3 c k 12 (by omega) (by decide) (by decide)
      have ea : e2I iMod (Ye Z6 [(eVar 1), (eVar 3), (eC (.int 12))]) (eAdd (eVar 3) (eC (.int 1))) (env.set 3 (.sh (.int k))) = some (.int (r % ((k : Int) + 1))) :=
        (YF ((Zeo v1 v3 rfl).trans hr) (ZbM v3 rfl)).trans (ZaT (by omega))
      have p0 := Int.emod_nonneg r (show ((k : Int) + 1) ≠ 0 by omega)
      have p1 := Int.emod_lt_of_pos r (show (0 : Int) < (k : Int) + 1 by omega)
      have hl := hp.len
      have w2 : (env.set 3 (.sh (.int k)))[2]? = some (.ow (nm.map .int)) := by rw [List.getElem?_set_ne (by decide)]; exact hv
      have hs : sIns 2 (e2I iMod (Ye Z6 [(eVar 1), (eVar 3), (eC (.int 12))]) (eAdd (eVar 3) (eC (.int 1)))) (eVar 3) (env.set 3 (.sh (.int k))) =
          some (.nx, (env.set 3 (.sh (.int k))).set 2 (.ow ((nm.map .int).insertIdx (r % ((k : Int) + 1)).toNat (.int k)))) := by
        simp only [sIns, w2, ea, v3]
        rw [if_pos ⟨p0, by rw [List.length_map]; omega, by rw [List.length_map, Jp]; omega⟩]
      refine ⟨_, _, rfl, hs, A1.set (by simp) _, nm.insertIdx (r % ((k : Int) + 1)).toNat k, ?_, ⟨?_, ?_, fun x hx => ?_⟩⟩
      · rw [ZeM (by rw [List.length_set, hA.len]; simp [env0]), Zc2]
      · rw [List.length_insertIdx, if_pos (by omega)]; omega
      · exact ZcQ hp.nd fun z => by have := hp.bd _ z; omega
      · rcases ZbN hx with e | e
        · subst e; omega
        · have := hp.bd x e; omega) env0 ⟨Agr.refl _ _, [], rfl, ⟨rfl, List.nodup_nil, fun x hx => by cases hx⟩⟩
  obtain ⟨e1, x1, A1, nm, v2, hp⟩ := key
  rw [Zm] at hp
  rw [← Zal (it := iRng (eF1 fLen (eVar 0))) (JT (JH hB rfl) hB.le)] at x1
  have l1 : e1.length = 8 := A1.len
  have w0 : eVar 0 e1 = some (tabD B) := by rw [A1.var (by decide)]; rfl
  have s2 : sTab 4 (Ji 5 (iOf (eVar 0)) Jm (eF1 ZaH (eVar 5))) e1 = some (.nx, e1.set 4 (.tab (Zaf B))) := by
    have hlen : (B.map rowD).length ≤ lim := by rw [List.length_map, hB.len, Jp]; omega
    have hc := Zbi (i := 5) (e := eF1 ZaH (eVar 5)) (env := e1) (fun d => d) (B.map rowD) (fun d hd => by
      obtain ⟨r, hr, rfl⟩ := List.mem_map.mp hd
      rw [Zc3 (Yy (by rw [l1]; decide))]; rfl)
    rw [List.map_id'] at hc
    simp only [sTab, Ji, ZgJ w0, hlen, if_true, hc, Zhc]
  let e2 := e1.set 4 (.tab (Zaf B))
  have l2 : e2.length = 8 := by show (e1.set 4 _).length = 8; rw [List.length_set]; exact l1
  have z0 : eVar 0 e2 = some (tabD B) := by show eVar 0 (e1.set 4 _) = _; rw [Zy (by decide)]; exact w0
  have z2 : Yq 2 e2 = some (rowD nm) := by show Yq 2 (e1.set 4 _) = _; rw [Zh5 (by decide)]; unfold Yq; rw [v2]; rfl
  have z4 : e2[4]? = some (.tab (Zaf B)) := ZeM (by rw [l1]; decide)
  have irow : ∀ {env : Env} {e1 e2 : Ex} {k : Int}, e1 env = some (rowD nm) → e2 env = some (.int k) → 0 ≤ k → k < n → eIx e1 e2 env = some (.int (at1 nm k)) := fun {env e1 e2 k} h1 h2 k0 k1 => by
    simp only [eIx, eF2, h1, h2]
    rw [ZeP k0 (by rw [hp.len]; exact k1)]; rfl
  have turn : ∀ (a b : Nat) (env : Env) (T : List (List Int)), a < n → b < n → Agr [4, 6, 7] env e2 → eVar 6 env = some (.int a) → eVar 7 env = some (.int b) → env[4]? = some (.tab (Zaf T)) → Tab T n →
      ZdF 4 (eIx (Yq 2) (eVar 6)) (eIx (Yq 2) (eVar 7)) (eSc (eIx (Yq 2) (eIx (eIx (eVar 0) (eVar 6)) (eVar 7)))) env = some (.nx, env.set 4 (.tab (Zaf (tset T (at1 nm a) (at1 nm b) (at1 nm (tg B a b)))))) := by
    intro a b env T ha hb hA k6 k7 k4 hT
    have k0 : eVar 0 env = some (tabD B) := by rw [hA.var (by decide)]; exact z0
    have k2 : Yq 2 env = some (rowD nm) := by rw [hA.varR (by decide)]; exact z2
    have ea := irow k2 k6 (by omega) (by omega)
    have eb := irow k2 k7 (by omega) (by omega)
    have ex := ix2 hB k0 k6 k7 (by omega) (by omega) (by omega) (by omega)
    have bb := hB.bound (a := a) (b := b) (by omega) (by omega) (by omega) (by omega)
    have ev := irow k2 ex bb.1 bb.2
    have pa := hp.at (k := a) (by omega) (by omega)
    have pb := hp.at (k := b) (by omega) (by omega)
    have es : eSc (eIx (Yq 2) (eIx (eIx (eVar 0) (eVar 6)) (eVar 7))) env = some (.int (at1 nm (tg B a b))) := by simp only [eSc, ev, YQ]; rfl
    have hl := hT.len
    have i1 : ixN (Zaf T).length (at1 nm a) = some (at1 nm a).toNat := by unfold ixN; rw [if_pos pa.1, if_pos (by rw [Zaf, List.length_map]; omega)]
    have g1 : (Zaf T)[(at1 nm a).toNat]? = some ((T.getD (at1 nm a).toNat []).map .int) := by
      have hk : (at1 nm a).toNat < T.length := by omega
      rw [Zaf, List.getElem?_map, List.getElem?_eq_getElem hk, List.getD_eq_getElem?_getD, List.getElem?_eq_getElem hk]; rfl
    have rl := hT.Zc6 pa.1 pa.2
    have i2 : ixN ((T.getD (at1 nm a).toNat []).map D.int).length (at1 nm b) = some (at1 nm b).toNat := by unfold ixN; rw [if_pos pb.1, if_pos (by rw [List.length_map, rl]; omega)]
    simp only [ZdF, k4, es, ea, eb, i1, g1, i2]
    congr 3
    simp only [Zaf, PV.tset, List.map_set]
  have key2 := ZcC (g := gN 6) (ds := Yg 0 n) (b := sFor (gN 7) (iRng (eF1 fLen (eVar 0))) (ZdF 4 (eIx (Yq 2) (eVar 6)) (eIx (Yq 2) (eVar 7)) (eSc (eIx (Yq 2) (eIx (eIx (eVar 0) (eVar 6)) (eVar 7))))))
    (fun k env => Agr [4, 6, 7] env e2 ∧ ∃ T, env[4]? = some (.tab (Zaf T)) ∧ Tab T n ∧ ∀ a b : Int, 0 ≤ a → a < k → 0 ≤ b → b < n → tg T (at1 nm a) (at1 nm b) = at1 nm (tg B a b)) (fun k d env hd ⟨hA, T, hv, hT, hI⟩ => by
      have hk : k < n := by have := (List.getElem?_eq_some_iff.mp hd).1; rwa [Zm] at this
      rw [JF hk] at hd
      obtain rfl : D.int k = d := by simpa using hd
      have A2 : Agr [4, 6, 7] (env.set 6 (.sh (.int k))) e2 := hA.set (by simp) _
      have u6 : eVar 6 (env.set 6 (.sh (.int k))) = some (.int k) := Yy (by rw [hA.len, l2]; decide)
      have u0 : eVar 0 (env.set 6 (.sh (.int k))) = some (tabD B) := by rw [A2.var (by decide)]; exact z0
      have inner := ZcC (g := gN 7) (ds := Yg 0 n) (b := ZdF 4 (eIx (Yq 2) (eVar 6)) (eIx (Yq 2) (eVar 7)) (eSc (eIx (Yq 2) (eIx (eIx (eVar 0) (eVar 6)) (eVar 7)))))
        (fun j env => Agr [4, 6, 7] env e2 ∧ eVar 6 env = some (.int k) ∧ ∃ T, env[4]? = some (.tab (Zaf T)) ∧ Tab T n ∧ (∀ a b : Int, 0 ≤ a → a < k → 0 ≤ b → b < n → tg T (at1 nm a) (at1 nm b) = at1 nm (tg B a b)) ∧
          ∀ b : Int, 0 ≤ b → b < j → tg T (at1 nm k) (at1 nm b) = at1 nm (tg B k b)) (fun j d env hd ⟨hA, h6, T, hv, hT, hI, hJ⟩ => by
          have hj : j < n := by have := (List.getElem?_eq_some_iff.mp hd).1; rwa [Zm] at this
          rw [JF hj] at hd
          obtain rfl : D.int j = d := by simpa using hd
          have A3 : Agr [4, 6, 7] (env.set 7 (.sh (.int j))) e2 := hA.set (by simp) _
          have t7 : eVar 7 (env.set 7 (.sh (.int j))) = some (.int j) := Yy (by rw [hA.len, l2]; decide)
          have t6 : eVar 6 (env.set 7 (.sh (.int j))) = some (.int k) := by rw [Zy (by decide)]; exact h6
          have t4 : (env.set 7 (.sh (.int j)))[4]? = some (.tab (Zaf T)) := by rw [List.getElem?_set_ne (by decide)]; exact hv
          have pk := hp.at (k := k) (by omega) (by omega)
          have pj := hp.at (k := j) (by omega) (by omega)
          have bb := hB.bound (a := k) (b := j) (by omega) (by omega) (by omega) (by omega)
          have pv := hp.at bb.1 bb.2
          refine ⟨_, _, rfl, turn k j _ T hk hj A3 t6 t7 t4 hT, A3.set (by simp) _, by rw [Zy (by decide)]; exact t6, _, ZeM (by rw [A3.len, l2]; decide), hT.tset pk.1 pk.2 pv.1 pv.2, fun a b a0 a1 b0 b1 => ?_, fun b b0 b1 => ?_⟩
          · have qa := hp.at (k := a) a0 (by omega)
            have qb := hp.at (k := b) b0 b1
            rw [ZjK hT pk.1 pk.2 pj.1 pj.2 qa.1 qa.2 qb.1 qb.2, if_neg]
            · exact hI a b a0 a1 b0 b1
            · rintro ⟨e, _⟩
              have := hp.inj a0 (by omega) (by omega) (by omega) e
              omega
          · have qb := hp.at (k := b) b0 (by omega)
            rw [ZjK hT pk.1 pk.2 pj.1 pj.2 pk.1 pk.2 qb.1 qb.2]
            by_cases e : b = j
            · subst e; simp
            · rw [if_neg]
              · exact hJ b b0 (by omega)
              · rintro ⟨_, e2⟩
                exact e (hp.inj b0 (by omega) (by omega) (by omega) e2)) (env.set 6 (.sh (.int k))) ⟨A2, u6, T, by rw [List.getElem?_set_ne (by decide)]; exact hv, hT, hI, fun b b0 b1 => by omega⟩
      obtain ⟨e3, x3, hA3, h6, T3, hv3, hT3, hI3, hJ3⟩ := inner
      rw [Zm] at hJ3
      refine ⟨_, e3, rfl, (Zal (JT (JH hB u0) hB.le)).trans x3, hA3, T3, hv3, hT3, fun a b a0 a1 b0 b1 => ?_⟩
      by_cases e : a = k
      · subst e; exact hJ3 b b0 b1
      · exact hI3 a b a0 (by omega) b0 b1) e2 ⟨Agr.refl _ _, B, z4, hB, fun a b a0 a1 _ _ => by omega⟩
  obtain ⟨e3, x3, A3, T, hv, hT, hI⟩ := key2
  rw [Zm] at hI
  rw [← Zal (it := iRng (eF1 fLen (eVar 0))) (JT (JH hB z0) hB.le)] at x3
  have s3 : ZeC 4 e3 = some (.rt (tabD T), e3) := by simp only [ZeC, hv, ZjO]
  exact ⟨T, nm, Jt rfl ((Yi s1).trans ((Yi x1).trans ((Yi s2).trans ((Yi x3).trans s3)))), hT, hp, hI⟩
end PV
set_option maxRecDepth 100000
namespace PV
open PySem (Str)
theorem Zjz:∀ {ds:List D} {xs:List Int},Jv ds=some xs→ds=xs.map .int
 | [],xs,h=>by simp [Jv] at h;subst h;rfl
 | .int i::ds,xs,h=>by
  simp only [Jv] at h
  cases e:Jv ds with
  | none=>rw [e] at h;cases h
  | some r=>rw [e] at h;cases h;rw [Zjz e];rfl
 | .non::_,_,h=>by simp [Jv] at h
 | .bl _::_,_,h=>by simp [Jv] at h
 | .str _::_,_,h=>by simp [Jv] at h
 | .lst _::_,_,h=>by simp [Jv] at h
 | .tup _::_,_,h=>by simp [Jv] at h
noncomputable def ZbI:List D→Option (List (List Int))
 | []=>some []
 | .lst ds::r=>match Jv ds,ZbI r with
  | some xs,some T=>some (xs::T)
  | _,_=>none
 | _::_=>none
theorem Zjv:∀ {ds:List D} {T:List (List Int)},ZbI ds=some T→ds=T.map rowD
 | [],T,h=>by simp [ZbI] at h;subst h;rfl
 | .lst ds::r,T,h=>by
  simp only [ZbI] at h
  split at h
  ·rename_i xs T' e1 e2
   cases h
   rw [Zjz e1,Zjv e2];rfl
  ·cases h
 | .non::_,_,h=>by simp [ZbI] at h
 | .bl _::_,_,h=>by simp [ZbI] at h
 | .int _::_,_,h=>by simp [ZbI] at h
 | .str _::_,_,h=>by simp [ZbI] at h
 | .tup _::_,_,h=>by simp [ZbI] at h
noncomputable def tab?:D→Option (List (List Int))
 | .lst ds=>ZbI ds
 | _=>none
theorem Zo9 {d:D}{T:List (List Int)}(h:tab? d=some T):d=tabD T:=by
 cases d with
 | lst ds=>rw [Zjv (show ZbI ds=some T from h)];rfl
 | _=>cases h
noncomputable def tabB (T:List (List Int)):Bool:=decide (1≤T.length) && decide (T.length≤12) && T.all fun r=>r.length == T.length && r.all fun x=>decide (0≤x) && decide (x < T.length)
theorem Zn5 {T:List (List Int)}(h:tabB T=true):Tab T T.length:=by
 simp only [tabB,Bool.and_eq_true,decide_eq_true_eq,List.all_eq_true,beq_iff_eq] at h
 exact ⟨rfl,fun r hr=>(h.2 r hr).1,fun r hr x hx=>(h.2 r hr).2 x hx,h.1.1,h.1.2⟩
noncomputable def Za8 (k:Nat):List (List Int):=((YD [.int k]).bind tab?).getD []
noncomputable def ZjX (k:Nat):Bool:=match YD [.int k] with
 | some d=>match tab? d with
  | some T=>tabB T
  | none=>false
 | none=>false
theorem Zl8:(List.range 24).all ZjX=true:=by decide +kernel
theorem Zi8 {k:Nat}(h:k < 24):YD [.int k]=some (tabD (Za8 k))∧Tab (Za8 k) (Za8 k).length:=by
 have hb:ZjX k=true:=List.all_eq_true.mp Zl8 k (List.mem_range.mpr h)
 unfold ZjX at hb
 unfold Za8
 cases e:YD [.int k] with
 | none=>rw [e] at hb;cases hb
 | some d =>
  rw [e] at hb
  dsimp only at hb
  cases e2:tab? d with
  | none=>rw [e2] at hb;cases hb
  | some T =>
   rw [e2] at hb
   rw [Option.bind_some,e2,Option.getD_some,Zo9 e2]
   exact ⟨rfl,Zn5 hb⟩
end PV
namespace PV
open PySem (Str)
theorem Zjr (i:Int){n:Nat}(h:0 < n):∃ k:Nat,k < n∧i % (n:Int)=k:=by
 have h0:=Int.emod_nonneg i (show (n:Int)≠0 by omega)
 have h1:=Int.emod_lt_of_pos i (show (0:Int) < n by omega)
 exact ⟨(i % n).toNat,by omega,by omega⟩
theorem ZgQ (ns:List Int)(f:Nat):∃ (k n:Nat) (T:List (List Int)) (nm:List Int),k < 24∧J2 [rowD ns,.int f]=some (tabD T)∧Tab (Za8 k) n∧Tab T n∧Prm nm n ∧
  ∀ a b:Int,0≤a→a < n→0≤b→b < n→tg T (at1 nm a) (at1 nm b)=at1 nm (tg (Za8 k) a b):=by
 obtain ⟨k,hk,ek⟩:=Zjr (ZcS ns f) (show 0 < 24 by decide)
 obtain ⟨eb,tb⟩:=Zi8 hk
 obtain ⟨T,nm,e,hT,hp,hI⟩:=Zgt tb (ZcS ns (f + 1))
 refine ⟨k,_,T,nm,hk,Jt rfl (Yx ((Ju ((YM ((YF ((Ju rfl rfl).trans (ZbX ns f)) rfl).trans (ZaT (by decide)))).trans ?_) ((Ju rfl (ZbM (i:=f) (j:=1) rfl rfl)).trans (ZbX ns (f + 1)))).trans e)),tb,hT,hp,hI⟩
 have:(ZcS ns f % 24)=k:=ek
 rw [this]
 exact eb
end PV
namespace PV
open PySem (Str)
noncomputable def ZfK:List (List (List Int)):=[
 [[0]],
 [[0,1],[1,0]],
 [[0,1,2],[1,2,0],[2,0,1]],
 [[0,1,2,3],[1,2,3,0],[2,3,0,1],[3,0,1,2]],
 [[0,1,2,3],[1,0,3,2],[2,3,0,1],[3,2,1,0]],
 [[0,1,2,3,4],[1,2,3,4,0],[2,3,4,0,1],[3,4,0,1,2],[4,0,1,2,3]],
 [[0,1,2,3,4,5],[1,2,3,4,5,0],[2,3,4,5,0,1],[3,4,5,0,1,2],[4,5,0,1,2,3],[5,0,1,2,3,4]],
 [[0,1,2,3,4,5,6],[1,2,3,4,5,6,0],[2,3,4,5,6,0,1],[3,4,5,6,0,1,2],[4,5,6,0,1,2,3],[5,6,0,1,2,3,4],[6,0,1,2,3,4,5]],
 [[0,1,2,3,4,5,6,7],[1,2,3,4,5,6,7,0],[2,3,4,5,6,7,0,1],[3,4,5,6,7,0,1,2],[4,5,6,7,0,1,2,3],[5,6,7,0,1,2,3,4],[6,7,0,1,2,3,4,5],[7,0,1,2,3,4,5,6]],
 [[0,1,2,3,4,5,6,7],[1,0,3,2,5,4,7,6],[2,3,4,5,6,7,0,1],[3,2,5,4,7,6,1,0],[4,5,6,7,0,1,2,3],[5,4,7,6,1,0,3,2],[6,7,0,1,2,3,4,5],[7,6,1,0,3,2,5,4]],
 [[0,1,2,3,4,5,6,7],[1,0,3,2,5,4,7,6],[2,3,0,1,6,7,4,5],[3,2,1,0,7,6,5,4],[4,5,6,7,0,1,2,3],[5,4,7,6,1,0,3,2],[6,7,4,5,2,3,0,1],[7,6,5,4,3,2,1,0]],
 [[0,1,2,3,4,5,6,7,8],[1,2,3,4,5,6,7,8,0],[2,3,4,5,6,7,8,0,1],[3,4,5,6,7,8,0,1,2],[4,5,6,7,8,0,1,2,3],[5,6,7,8,0,1,2,3,4],[6,7,8,0,1,2,3,4,5],[7,8,0,1,2,3,4,5,6],[8,0,1,2,3,4,5,6,7]],
 [[0,1,2,3,4,5,6,7,8],[1,2,0,4,5,3,7,8,6],[2,0,1,5,3,4,8,6,7],[3,4,5,6,7,8,0,1,2],[4,5,3,7,8,6,1,2,0],[5,3,4,8,6,7,2,0,1],[6,7,8,0,1,2,3,4,5],[7,8,6,1,2,0,4,5,3],[8,6,7,2,0,1,5,3,4]],
 [[0,1,2,3,4,5,6,7,8,9],[1,2,3,4,5,6,7,8,9,0],[2,3,4,5,6,7,8,9,0,1],[3,4,5,6,7,8,9,0,1,2],[4,5,6,7,8,9,0,1,2,3],[5,6,7,8,9,0,1,2,3,4],[6,7,8,9,0,1,2,3,4,5],[7,8,9,0,1,2,3,4,5,6],[8,9,0,1,2,3,4,5,6,7],[9,0,1,2,3,4,5,6,7,8]],
 [[0,1,2,3,4,5,6,7,8,9,10],[1,2,3,4,5,6,7,8,9,10,0],[2,3,4,5,6,7,8,9,10,0,1],[3,4,5,6,7,8,9,10,0,1,2],[4,5,6,7,8,9,10,0,1,2,3],[5,6,7,8,9,10,0,1,2,3,4],[6,7,8,9,10,0,1,2,3,4,5],[7,8,9,10,0,1,2,3,4,5,6],[8,9,10,0,1,2,3,4,5,6,7],[9,10,0,1,2,3,4,5,6,7,8],[10,0,1,2,3,4,5,6,7,8,9]],
 [[0,1,2,3,4,5,6,7,8,9,10,11],[1,2,3,4,5,6,7,8,9,10,11,0],[2,3,4,5,6,7,8,9,10,11,0,1],[3,4,5,6,7,8,9,10,11,0,1,2],[4,5,6,7,8,9,10,11,0,1,2,3],[5,6,7,8,9,10,11,0,1,2,3,4],[6,7,8,9,10,11,0,1,2,3,4,5],[7,8,9,10,11,0,1,2,3,4,5,6],[8,9,10,11,0,1,2,3,4,5,6,7],[9,10,11,0,1,2,3,4,5,6,7,8],[10,11,0,1,2,3,4,5,6,7,8,9],[11,0,1,2,3,4,5,6,7,8,9,10]],
 [[0,1,2,3,4,5,6,7,8,9,10,11],[1,0,3,2,5,4,7,6,9,8,11,10],[2,3,4,5,6,7,8,9,10,11,0,1],[3,2,5,4,7,6,9,8,11,10,1,0],[4,5,6,7,8,9,10,11,0,1,2,3],[5,4,7,6,9,8,11,10,1,0,3,2],[6,7,8,9,10,11,0,1,2,3,4,5],[7,6,9,8,11,10,1,0,3,2,5,4],[8,9,10,11,0,1,2,3,4,5,6,7],[9,8,11,10,1,0,3,2,5,4,7,6],[10,11,0,1,2,3,4,5,6,7,8,9],[11,10,1,0,3,2,5,4,7,6,9,8]],
 [[0,1,2,3,4,5],[1,2,0,4,5,3],[2,0,1,5,3,4],[3,5,4,0,2,1],[4,3,5,1,0,2],[5,4,3,2,1,0]],
 [[0,1,2,3,4,5,6,7],[1,2,3,0,5,6,7,4],[2,3,0,1,6,7,4,5],[3,0,1,2,7,4,5,6],[4,7,6,5,0,3,2,1],[5,4,7,6,1,0,3,2],[6,5,4,7,2,1,0,3],[7,6,5,4,3,2,1,0]],
 [[0,1,2,3,4,5,6,7,8,9],[1,2,3,4,0,6,7,8,9,5],[2,3,4,0,1,7,8,9,5,6],[3,4,0,1,2,8,9,5,6,7],[4,0,1,2,3,9,5,6,7,8],[5,9,8,7,6,0,4,3,2,1],[6,5,9,8,7,1,0,4,3,2],[7,6,5,9,8,2,1,0,4,3],[8,7,6,5,9,3,2,1,0,4],[9,8,7,6,5,4,3,2,1,0]],
 [[0,1,2,3,4,5,6,7,8,9,10,11],[1,2,3,4,5,0,7,8,9,10,11,6],[2,3,4,5,0,1,8,9,10,11,6,7],[3,4,5,0,1,2,9,10,11,6,7,8],[4,5,0,1,2,3,10,11,6,7,8,9],[5,0,1,2,3,4,11,6,7,8,9,10],[6,11,10,9,8,7,0,5,4,3,2,1],[7,6,11,10,9,8,1,0,5,4,3,2],[8,7,6,11,10,9,2,1,0,5,4,3],[9,8,7,6,11,10,3,2,1,0,5,4],[10,9,8,7,6,11,4,3,2,1,0,5],[11,10,9,8,7,6,5,4,3,2,1,0]],
 [[0,1,2,3,4,5,6,7],[1,2,3,0,5,6,7,4],[2,3,0,1,6,7,4,5],[3,0,1,2,7,4,5,6],[4,7,6,5,2,1,0,3],[5,4,7,6,3,2,1,0],[6,5,4,7,0,3,2,1],[7,6,5,4,1,0,3,2]],
 [[0,1,2,3,4,5,6,7,8,9,10,11],[1,2,3,4,5,0,7,8,9,10,11,6],[2,3,4,5,0,1,8,9,10,11,6,7],[3,4,5,0,1,2,9,10,11,6,7,8],[4,5,0,1,2,3,10,11,6,7,8,9],[5,0,1,2,3,4,11,6,7,8,9,10],[6,11,10,9,8,7,3,2,1,0,5,4],[7,6,11,10,9,8,4,3,2,1,0,5],[8,7,6,11,10,9,5,4,3,2,1,0],[9,8,7,6,11,10,0,5,4,3,2,1],[10,9,8,7,6,11,1,0,5,4,3,2],[11,10,9,8,7,6,2,1,0,5,4,3]],
 [[0,1,2,3,4,5,6,7,8,9,10,11],[1,2,0,5,3,4,7,8,6,11,9,10],[2,0,1,4,5,3,8,6,7,10,11,9],[3,6,9,0,7,10,1,4,11,2,5,8],[4,8,10,2,6,11,0,5,9,1,3,7],[5,7,11,1,8,9,2,3,10,0,4,6],[6,9,3,10,0,7,4,11,1,8,2,5],[7,11,5,9,1,8,3,10,2,6,0,4],[8,10,4,11,2,6,5,9,0,7,1,3],[9,3,6,7,10,0,11,1,4,5,8,2],[10,4,8,6,11,2,9,0,5,3,7,1],[11,5,7,8,9,1,10,2,3,4,6,0]]]
noncomputable def litB (k:Nat):Bool:=match YD [.int k] with
 | some d=>tab? d == some (ZfK.getD k [])
 | none=>false
theorem ZnU:(List.range 24).all litB=true:=by decide +kernel
theorem ZhR {k:Nat}(h:k < 24):Za8 k=ZfK.getD k []:=by
 have hb:litB k=true:=List.all_eq_true.mp ZnU k (List.mem_range.mpr h)
 unfold litB at hb
 unfold Za8
 cases e:YD [.int k] with
 | none=>rw [e] at hb;cases hb
 | some d =>
  rw [e] at hb
  have hb:tab? d=some (ZfK.getD k []):=by simpa using hb
  simp [hb]
structure Grp (T:List (List Int))(n:Nat)(s:Nat):Prop where
 tab:Tab T n
 lt:s < n
 asc:∀ a b c:Int,0≤a→a < n→0≤b→b < n→0≤c→c < n→tg T (tg T a b) c=tg T a (tg T b c)
 idl:∀ a:Int,0≤a→a < n→tg T s a=a
 idr:∀ a:Int,0≤a→a < n→tg T a s=a
 inv:∀ a:Int,0≤a→a < n→∃ b:Int,0≤b∧b < n∧tg T a b=s∧tg T b a=s
noncomputable def ascB (T:List (List Int)) (n:Nat):Bool:=(List.range n).all fun a=>(List.range n).all fun b=>(List.range n).all fun c=>tg T (tg T a b) c == tg T a (tg T b c)
noncomputable def idB (T:List (List Int)) (n s:Nat):Bool:=(List.range n).all fun a=>tg T s a == a && tg T a s == a
noncomputable def invB (T:List (List Int)) (n s:Nat):Bool:=(List.range n).all fun a=>(List.range n).any fun b=>tg T a b == s && tg T b a == s
noncomputable def grpB (T:List (List Int)):Bool:=decide (0 < T.length) && ascB T T.length && idB T T.length 0 && invB T T.length 0
theorem Zaz {a:Int}{n:Nat}(h0:0≤a)(h1:a < n):∃ k:Nat,k < n∧a=k:=⟨a.toNat,by omega,by omega⟩
theorem Zny {T:List (List Int)}(ht:Tab T T.length)(h:grpB T=true):Grp T T.length 0:=by
 simp only [grpB,Bool.and_eq_true,decide_eq_true_eq,ascB,idB,invB,List.all_eq_true,List.any_eq_true,List.mem_range,beq_iff_eq] at h
 obtain ⟨⟨⟨h0,ha⟩,hi⟩,hv⟩:=h
 refine ⟨ht,h0,fun a b c a0 a1 b0 b1 c0 c1=>?_,fun a a0 a1=>?_,fun a a0 a1=>?_,fun a a0 a1=>?_⟩
 ·obtain ⟨a,a2,rfl⟩:=Zaz a0 a1
  obtain ⟨b,b2,rfl⟩:=Zaz b0 b1
  obtain ⟨c,c2,rfl⟩:=Zaz c0 c1
  exact ha a a2 b b2 c c2
 ·obtain ⟨a,a2,rfl⟩:=Zaz a0 a1
  exact (hi a a2).1
 ·obtain ⟨a,a2,rfl⟩:=Zaz a0 a1
  exact (hi a a2).2
 ·obtain ⟨a,a2,rfl⟩:=Zaz a0 a1
  obtain ⟨b,hb,h1,h2⟩:=hv a a2
  exact ⟨b,by omega,by omega,h1,h2⟩
theorem ZnC:(List.range 24).all (fun k=>grpB (ZfK.getD k []))=true:=by decide +kernel
theorem Zmv {k:Nat}(h:k < 24):Grp (Za8 k) (Za8 k).length 0:=Zny (Zi8 h).2 (by
 rw [ZhR h]
 exact List.all_eq_true.mp ZnC k (List.mem_range.mpr h))
theorem Prm.onto {nm:List Int}{n:Nat}(h:Prm nm n){x:Int}(x0:0≤x)(x1:x < n):∃ a:Int,0≤a∧a < n∧at1 nm a=x:=by
 have hsub:nm ⊆ (List.range n).map Int.ofNat:=fun y hy=>by
  obtain ⟨h0,h1⟩:=h.bd y hy
  exact List.mem_map.mpr ⟨y.toNat,List.mem_range.mpr (by omega),by simp [Int.toNat_of_nonneg h0]⟩
 have hmem:x ∈ nm:=by
  apply Classical.byContradiction
  intro hx
  have hnd:(x::nm).Nodup:=List.nodup_cons.mpr ⟨hx,h.nd⟩
  have hsub2:(x::nm) ⊆ (List.range n).map Int.ofNat:=fun y hy=>by
   rcases List.mem_cons.mp hy with rfl | hy
   ·exact List.mem_map.mpr ⟨y.toNat,List.mem_range.mpr (by omega),by simp [Int.toNat_of_nonneg x0]⟩
   ·exact hsub hy
  have hl:=hnd.length_le_of_subset hsub2
  simp [h.len] at hl
  omega
 obtain ⟨i,hi,e⟩:=List.mem_iff_getElem.mp hmem
 refine ⟨i,by omega,by have:=h.len;omega,?_⟩
 unfold at1
 rw [List.getD_eq_getElem?_getD,Int.toNat_natCast,List.getElem?_eq_getElem hi]
 exact e
theorem Grp.ren {B T:List (List Int)}{n s:Nat}{nm:List Int}(G:Grp B n s)(hT:Tab T n)(hp:Prm nm n)(hI:∀ a b:Int,0≤a→a < n→0≤b→b < n→tg T (at1 nm a) (at1 nm b)=at1 nm (tg B a b)):∃ s':Nat,(s':Int)=at1 nm s∧Grp T n s':=by
 have hs:=G.lt
 obtain ⟨z0,z1⟩:=hp.at (k:=s) (by omega) (by omega)
 obtain ⟨s',hs',es⟩:=Zaz z0 z1
 have bd:=fun {a b:Int} a0 a1 b0 b1=>G.tab.bound (a:=a) (b:=b) a0 a1 b0 b1
 refine ⟨s',es.symm,hT,hs',?_,?_,?_,?_⟩
 ·intro a b c a0 a1 b0 b1 c0 c1
  obtain ⟨a',a2,a3,rfl⟩:=hp.onto a0 a1
  obtain ⟨b',b2,b3,rfl⟩:=hp.onto b0 b1
  obtain ⟨c',c2,c3,rfl⟩:=hp.onto c0 c1
  obtain ⟨p0,p1⟩:=bd a2 a3 b2 b3
  obtain ⟨q0,q1⟩:=bd b2 b3 c2 c3
  rw [hI _ _ a2 a3 b2 b3,hI _ _ p0 p1 c2 c3,hI _ _ b2 b3 c2 c3,hI _ _ a2 a3 q0 q1,G.asc _ _ _ a2 a3 b2 b3 c2 c3]
 ·intro a a0 a1
  obtain ⟨a',a2,a3,rfl⟩:=hp.onto a0 a1
  rw [← es,hI _ _ (by omega) (by omega) a2 a3,G.idl _ a2 a3]
 ·intro a a0 a1
  obtain ⟨a',a2,a3,rfl⟩:=hp.onto a0 a1
  rw [← es,hI _ _ a2 a3 (by omega) (by omega),G.idr _ a2 a3]
 ·intro a a0 a1
  obtain ⟨a',a2,a3,rfl⟩:=hp.onto a0 a1
  obtain ⟨b,b0,b1,h1,h2⟩:=G.inv a' a2 a3
  obtain ⟨y0,y1⟩:=hp.at b0 b1
  refine ⟨at1 nm b,y0,y1,?_,?_⟩
  ·rw [hI _ _ a2 a3 b0 b1,h1,es]
  ·rw [hI _ _ b0 b1 a2 a3,h2,es]
theorem Zbc {α β:Type}{q:α→Option β}{ds:List α}(h:∀ d ∈ ds,q d=none):ds.findSome? q=none:=List.findSome?_eq_none_iff.mpr h
theorem Zgr {n:Nat}{p:Nat→Bool}{k:Nat}(hk:k < n)(hp:p k=true)(hu:∀ j,j < k→p j=false){q:D→Option D}(hq:∀ j:Nat,q (.int j)=if p j then some (.int j) else none):(Yg 0 n).findSome? q=some (.int k):=by
 cases e:(Yg 0 n).findSome? q with
 | none =>
  have:=List.findSome?_eq_none_iff.mp e (.int k) (List.mem_of_getElem? (by rw [JF hk];simp))
  rw [hq,if_pos hp] at this
  cases this
 | some r =>
  obtain ⟨l1,d,l2,h1,h2,h3⟩:=List.findSome?_eq_some_iff.mp e
  have hd:d ∈ Yg 0 n:=by rw [h1];simp
  obtain ⟨j,hj,rfl⟩:=Yo hd
  rw [hq] at h2
  split at h2
  ·rename_i hpj
   cases h2
   rcases Nat.lt_trichotomy j k with hlt | rfl | hgt
   ·rw [hu j hlt] at hpj;cases hpj
   ·rfl
   ·exfalso
    have hl:l1.length=j:=by
     have hg:(Yg 0 n)[l1.length]?=some (.int j):=by rw [h1];simp
     have hlt:l1.length < n:=by
      have:=congrArg List.length h1
      rw [Zm] at this
      simp at this
      omega
     rw [JF hlt] at hg
     injection hg with hg
     injection hg with hg
     omega
    have hm:(D.int k) ∈ l1:=by
     have hg:(Yg 0 n)[k]?=some (.int k):=by rw [JF hk];simp
     rw [h1,List.getElem?_append_left (by omega)] at hg
     exact List.mem_of_getElem? hg
    have:=h3 _ hm
    rw [hq,if_pos hp] at this
    cases this
  ·cases h2
end PV
set_option linter.all false
set_option Elab.async false
set_option maxHeartbeats 2000000
namespace PV
open PySem (Str)
noncomputable def pw (T:List (List Int)) (s e:Int):Nat→Int
 | 0=>s
 | k + 1=>tg T (pw T s e k) e
noncomputable def El (n:Nat) (a:Int):Prop:=0≤a∧a < n
theorem El.nat {n:Nat}{a:Int}(h:El n a):∃ k:Nat,k < n∧a=k:=Zaz h.1 h.2
theorem El.of {n k:Nat}(h:k < n):El n (k:Int):=⟨by omega,by omega⟩
theorem Grp.bd {T:List (List Int)}{n s:Nat}(G:Grp T n s){a b:Int}(ha:El n a)(hb:El n b):El n (tg T a b):=G.tab.bound ha.1 ha.2 hb.1 hb.2
theorem Grp.as {T:List (List Int)}{n s:Nat}(G:Grp T n s){a b c:Int}(ha:El n a)(hb:El n b)(hc:El n c):tg T (tg T a b) c=tg T a (tg T b c):=G.asc a b c ha.1 ha.2 hb.1 hb.2 hc.1 hc.2
theorem Grp.l {T:List (List Int)}{n s:Nat}(G:Grp T n s){a:Int}(ha:El n a):tg T s a=a:=G.idl a ha.1 ha.2
theorem Grp.r {T:List (List Int)}{n s:Nat}(G:Grp T n s){a:Int}(ha:El n a):tg T a s=a:=G.idr a ha.1 ha.2
theorem Grp.i {T:List (List Int)}{n s:Nat}(G:Grp T n s){a:Int}(ha:El n a):∃ b,El n b∧tg T a b=s∧tg T b a=s:=by
 obtain ⟨b,b0,b1,h1,h2⟩:=G.inv a ha.1 ha.2;exact ⟨b,⟨b0,b1⟩,h1,h2⟩
theorem Grp.s {T:List (List Int)}{n s:Nat}(G:Grp T n s):El n (s:Int):=El.of G.lt
theorem Grp.cl {T:List (List Int)}{n s:Nat}(G:Grp T n s){a x y:Int}(ha:El n a)(hx:El n x)(hy:El n y)(h:tg T a x=tg T a y):x=y:=by
 obtain ⟨b,hb,h1,h2⟩:=G.i ha
 rw [← G.l hx,← G.l hy,← h2,G.as hb ha hx,G.as hb ha hy,h]
theorem Grp.cr {T:List (List Int)}{n s:Nat}(G:Grp T n s){a x y:Int}(ha:El n a)(hx:El n x)(hy:El n y)(h:tg T x a=tg T y a):x=y:=by
 obtain ⟨b,hb,h1,h2⟩:=G.i ha
 rw [← G.r hx,← G.r hy,← h1,← G.as hx ha hb,← G.as hy ha hb,h]
theorem Grp.pw {T:List (List Int)}{n s:Nat}(G:Grp T n s){e:Int}(he:El n e):∀ k,El n (pw T s e k)
 | 0=>G.s
 | k + 1=>G.bd (G.pw he k) he
theorem Grp.pwc {T:List (List Int)}{n s:Nat}(G:Grp T n s){e:Int}(he:El n e):∀ k,tg T e (PV.pw T s e k)=PV.pw T s e (k + 1)
 | 0=>by show tg T e s=tg T s e;rw [G.r he,G.l he]
 | k + 1=>by
  show tg T e (tg T (PV.pw T s e k) e)=tg T (PV.pw T s e (k + 1)) e
  rw [← G.as he (G.pw he k) he,G.pwc he k]
theorem Grp.pwa {T:List (List Int)}{n s:Nat}(G:Grp T n s){e:Int}(he:El n e)(i:Nat):∀ k,tg T (PV.pw T s e i) (PV.pw T s e k)=PV.pw T s e (i + k)
 | 0=>G.r (G.pw he i)
 | k + 1=>by
  show tg T (PV.pw T s e i) (tg T (PV.pw T s e k) e)=tg T (PV.pw T s e (i + k)) e
  rw [← G.as (G.pw he i) (G.pw he k) he,G.pwa he i k]
structure Od (T:List (List Int))(s e:Int)(m:Nat):Prop where
 pos:1≤m
 is:pw T s e m=s
 low:∀ j,1≤j→j < m→pw T s e j≠s
theorem Grp.hole {T:List (List Int)}{n s:Nat}(G:Grp T n s){e:Int}(he:El n e):∃ i j,i < j∧j≤n∧PV.pw T s e i=PV.pw T s e j:=by
 apply Classical.byContradiction
 intro hno
 have hnd:((List.range (n + 1)).map (PV.pw T s e)).Nodup:=by
  rw [List.Nodup,List.pairwise_map]
  refine List.Pairwise.imp_of_mem (R:=(· < ·)) (fun {a b} ha hb hab heq=>hno ⟨a,b,hab,?_,heq⟩) List.pairwise_lt_range
  have:=List.mem_range.mp hb
  omega
 have hsub:((List.range (n + 1)).map (PV.pw T s e)) ⊆ upto n:=fun y hy=>by
  obtain ⟨k,_,rfl⟩:=List.mem_map.mp hy
  exact Jk.mpr (G.pw he k)
 have:=hnd.length_le_of_subset hsub
 rw [JW] at this
 simp at this
 omega
theorem ZmF {T:List (List Int)}{s e:Int}:∀ m,1≤m→pw T s e m=s→∃ k,k≤m∧Od T s e k:=by
 intro m
 induction m using Nat.strongRecOn with
 | ind m ih =>
  intro h1 h2
  by_cases hx:∃ j,1≤j∧j < m∧pw T s e j=s
  ·obtain ⟨j,j1,j2,j3⟩:=hx
   obtain ⟨k,k1,k2⟩:=ih j j2 j1 j3
   exact ⟨k,by omega,k2⟩
  ·exact ⟨m,Nat.le_refl _,h1,h2,fun j j1 j2 j3=>hx ⟨j,j1,j2,j3⟩⟩
theorem Grp.od {T:List (List Int)}{n s:Nat}(G:Grp T n s){e:Int}(he:El n e):∃ m,m≤n∧Od T s e m:=by
 obtain ⟨i,j,hij,hj,h⟩:=G.hole he
 have h':=G.pwa he i (j - i)
 rw [show i + (j - i)=j by omega,← h] at h'
 have:=G.cl (G.pw he i) (G.pw he (j - i)) G.s (by rw [h',G.r (G.pw he i)])
 obtain ⟨k,k1,k2⟩:=ZmF (j - i) (by omega) this
 exact ⟨k,by omega,k2⟩
theorem Od.uniq {T:List (List Int)}{s e:Int}{m k:Nat}(h:Od T s e m)(h':Od T s e k):m=k:=by
 rcases Nat.lt_trichotomy m k with h1 | h1 | h1
 ·exact absurd h.is (h'.low m h.pos h1)
 ·exact h1
 ·exact absurd h'.is (h.low k h'.pos h1)
end PV
set_option linter.all false
set_option Elab.async false
set_option maxHeartbeats 2000000
namespace PV
open PySem (Str)
theorem Grp.three {T:List (List Int)}{n s:Nat}(G:Grp T n s):ZaV T n=none:=by
 refine Zbc fun a ha=>Zbc fun b hb=>Zbc fun c hc=>?_
 obtain ⟨a,a1,rfl⟩:=Yo ha
 obtain ⟨b,b1,rfl⟩:=Yo hb
 obtain ⟨c,c1,rfl⟩:=Yo hc
 unfold ZbS;dsimp only
 rw [if_pos (by rw [G.asc a b c (by omega) (by omega) (by omega) (by omega) (by omega) (by omega)];simp)]
theorem ZfT {T:List (List Int)}{n:Nat}{e:Int}:Zay T n e=true↔∀ a:Nat,a < n→tg T e a=a∧tg T a e=a:=by
 simp [Zay,List.all_eq_true]
theorem Grp.rest {T:List (List Int)}{n s:Nat}(G:Grp T n s):restOf T n=some (.int s):=by
 have hs:=G.lt
 refine Zgr (p:=fun j=>Zay T n j) hs ?_ (fun j hj=>?_) fun j=>rfl
 ·exact ZfT.mpr fun a ha=>⟨G.idl a (by omega) (by omega),G.idr a (by omega) (by omega)⟩
 ·cases e:Zay T n j with
  | false=>rfl
  | true =>
   have h1:=(ZfT.mp e s hs).1
   have h2:=G.idr j (by omega) (by omega)
   omega
theorem Grp.back {T:List (List Int)}{n s:Nat}(G:Grp T n s){a:Nat}(ha:a < n):∃ b:Nat,b < n∧ZaX T n s a=some (.int b)∧tg T a b=s∧tg T b a=s:=by
 obtain ⟨b,b0,b1,h1,h2⟩:=G.inv a (by omega) (by omega)
 cases e:ZaX T n s a with
 | none =>
  obtain ⟨b,b2,rfl⟩:=Zaz b0 b1
  have:=List.findSome?_eq_none_iff.mp e (.int b) (List.mem_of_getElem? (by rw [JF b2];simp))
  simp [intOf,Za0,h1,h2] at this
 | some r =>
  obtain ⟨c,c1,rfl,hc⟩:=Zd1 e
  simp [Za0] at hc
  exact ⟨c,c1,rfl,hc.1,hc.2⟩
theorem Grp.flaw {T:List (List Int)}{n s:Nat}(G:Grp T n s):Zbt T n=.non:=by
 unfold Zbt
 rw [G.three,G.rest]
 have:Zdd T n (intOf (.int s))=none:=Zbc fun d hd=>by
  obtain ⟨a,a1,rfl⟩:=Yo hd
  obtain ⟨b,_,e,_⟩:=G.back a1
  show (if (ZaX T n s a).isSome=true then none else _)=none
  rw [e];rfl
 show (Zdd T n (intOf (.int s))).getD .non=.non
 rw [this];rfl
theorem Zb1 {T:List (List Int)}{n s:Nat}(G:Grp T n s):ZQ [tabD T]=some .non:=by
 have s1:sDo (Ye ZaE [(eVar 0)]) (enter 1 [tabD T])=some (.nx,enter 1 [tabD T]):=Zd2 ((YM rfl).trans (ZhH G.tab))
 have t1:tNoN (Ye ZaB [(eVar 0)]) (enter 1 [tabD T])=some false:=by rw [Zof ((YM rfl).trans (ZhG G.tab)),G.flaw];rfl
 exact ZiB rfl ((Yi s1).trans ((Y5 t1).trans JL))
theorem ZoU {T:List (List Int)}{n s:Nat}(G:Grp T n s){e:Int}(he:El n e):T.getD e.toNat []=upto n↔e=s:=by
 have hl:=G.tab.Zc6 he.1 he.2
 constructor
 ·intro h
  have h1:tg T e s=s:=by
   unfold tg
   rw [h]
   have:=G.lt
   simp [upto,List.getD,this]
  rw [G.r he] at h1
  exact h1
 ·rintro rfl
  apply List.ext_getElem
  ·rw [hl,JW]
  ·intro k h1 h2
   rw [JW] at h2
   have:=G.l (El.of h2)
   unfold tg at this
   rw [List.getD_eq_getElem?_getD (l:=T.getD _ []),Int.toNat_natCast k,List.getElem?_eq_getElem h1] at this
   simp only [Option.getD_some] at this
   rw [this]
   simp [upto]
theorem Zki {r:List Int}(hn:r.Nodup){x:Int}(hx:x ∈ r){p:Int→Bool}(hp:∀ y ∈ r,p y=true↔y=x):r.filter p=[x]:=by
 induction r with
 | nil=>simp at hx
 | cons y r ih =>
  rw [List.nodup_cons] at hn
  by_cases hy:y=x
  ·subst hy
   rw [List.filter_cons_of_pos ((hp y List.mem_cons_self).mpr rfl)]
   congr 1
   rw [List.filter_eq_nil_iff]
   intro z hz hpz
   have:=(hp z (List.mem_cons_of_mem _ hz)).mp hpz
   subst this
   exact hn.1 hz
  ·rw [List.filter_cons_of_neg (fun h=>hy ((hp y List.mem_cons_self).mp h))]
   refine ih hn.2 ?_ (fun z hz=>hp z (List.mem_cons_of_mem _ hz))
   rcases List.mem_cons.mp hx with rfl | h
   ·exact absurd rfl hy
   ·exact h
theorem Zik {T:List (List Int)}{n s:Nat}(G:Grp T n s):ZaZ [tabD T]=some (.int s):=by
 have hn:=G.tab.top
 have hl:=G.tab.len
 refine Y7 rfl (JG (evI.ev (Zdk (Zkc (r:=upto n) (fun x=>decide (x=s)) (fun x=>x) ?_ ?_ (fun x hx=>?_) (fun x hx _=>?_) ?_))))
 ·exact Zeu (JH G.tab rfl) (by omega)
 ·rw [JW,Jp];omega
 ·have hx:=Jk.mp hx
  refine ZkD (Zgp (Z8 rfl (Jj rfl ⟨⟨hx.1,by omega⟩,Zla (Zfv (Z8 rfl ⟨n,by rw [hl],by omega,?_⟩))⟩)))
  simp only [ZoU G hx]
 ·exact Jj rfl rfl
 ·rw [Zki (Zgz n) (x:=s) (Jk.mpr G.s) (by simp)]
  exact Jj rfl ⟨⟨by simp,by simp⟩,rfl⟩
end PV
set_option linter.all false
set_option Elab.async false
set_option maxHeartbeats 2000000
namespace PV
open PySem (Str)
structure Rs (n:Nat)(r:List Int):Prop where
 el:∀ x ∈ r,El n x
 up:r.Pairwise (· < ·)
theorem Rs.nd {n:Nat}{r:List Int}(h:Rs n r):r.Nodup:=h.up.imp fun {x y} h e=>by omega
theorem Zgn {n:Nat}{r:List Int}(hn:r.Nodup)(h:∀ x ∈ r,El n x):r.length≤n:=by
 have:=hn.length_le_of_subset (l₂:=upto n) fun x hx=>Jk.mpr (h x hx)
 rwa [JW] at this
theorem Rs.len {n:Nat}{r:List Int}(h:Rs n r):r.length≤n:=Zgn h.nd h.el
theorem ZhK {n:Nat}{r:List Int}(h:∀ x ∈ r,El n x):(seen r).length≤n:=Zgn (Zjb r) fun x hx=>h x (ZhP.mp hx)
theorem Zgf {n:Nat}{r:List Int}(h:∀ x ∈ r,El n x):Rs n (srt (seen r)):=⟨fun x hx=>h x (Zai.mp hx),ZiS r⟩
theorem Rs.Zpi {n:Nat}{r q:List Int}(h:Rs n r)(k:Rs n q)(sub:∀ x ∈ r,x ∈ q)(hne:q≠r):r.length < q.length:=by
 rcases Nat.lt_or_ge r.length q.length with h1 | h1
 ·exact h1
 ·exfalso
  apply hne
  refine ZaP k.up h.up fun x=>⟨fun hx=>?_,sub x⟩
  apply Classical.byContradiction
  intro hx'
  have hnd:(x::r).Nodup:=List.nodup_cons.mpr ⟨hx',h.nd⟩
  have:=hnd.length_le_of_subset (l₂:=q) fun y hy=>by
   rcases List.mem_cons.mp hy with rfl | hy
   ·exact hx
   ·exact sub y hy
  simp at this
  omega
noncomputable def Cls (T:List (List Int)) (r:List Int):Prop:=∀ a ∈ r,∀ b ∈ r,tg T a b ∈ r
noncomputable def Gen (T:List (List Int)) (s:Int) (S:List Int) (x:Int):Prop:=∀ C:Int→Prop,(∀ y ∈ S,C y)→C s→(∀ a b,C a→C b→C (tg T a b))→C x
theorem Gen.of {T:List (List Int)}{s:Int}{S:List Int}{x:Int}(h:x ∈ S):Gen T s S x:=fun C h1 _ _=>h1 x h
theorem Gen.rest {T:List (List Int)}{s:Int}{S:List Int}:Gen T s S s:=fun C _ h _=>h
theorem Gen.mul {T:List (List Int)}{s:Int}{S:List Int}{x y:Int}(h:Gen T s S x)(k:Gen T s S y):Gen T s S (tg T x y):=fun C h1 h2 h3=>h3 _ _ (h C h1 h2 h3) (k C h1 h2 h3)
structure ZeD (T:List (List Int))(n:Nat)(s:Int)(S r:List Int):Prop where
 rs:Rs n r
 has:∀ x ∈ S,x ∈ r
 rest:s ∈ r
 cls:Cls T r
 gen:∀ x ∈ r,Gen T s S x
theorem ZeD.uniq {T:List (List Int)}{n:Nat}{s:Int}{S r q:List Int}(h:ZeD T n s S r)(k:ZeD T n s S q):r=q :=
 ZaP h.rs.up k.rs.up fun x=>⟨fun hx=>h.gen x hx (· ∈ q) k.has k.rest fun a b ha hb=>k.cls a ha b hb,fun hx=>k.gen x hx (· ∈ r) h.has h.rest fun a b ha hb=>h.cls a ha b hb⟩
noncomputable def ZcT (T:List (List Int)) (r:List Int):List Int:=srt (seen (r++r.flatMap fun a=>r.map fun b=>tg T a b))
theorem Zb6 {T:List (List Int)}{r:List Int}{x:Int}:x ∈ ZcT T r↔x ∈ r∨∃ a ∈ r,∃ b ∈ r,tg T a b=x:=by
 unfold ZcT
 rw [Zai,List.mem_append,List.mem_flatMap]
 simp only [List.mem_map]
theorem Zbe {T:List (List Int)}{r:List Int}:∀ q:List Int,(q.flatMap fun a=>r.map fun b=>tg T a b).length=q.length * r.length
 | []=>by simp
 | a::q=>by rw [List.flatMap_cons,List.length_append,List.length_map,Zbe q,List.length_cons,Nat.succ_mul];omega
theorem Zk1 {T:List (List Int)}{n:Nat}(hT:Tab T n){r:List Int}(hr:∀ x ∈ r,El n x):∀ x ∈ r++r.flatMap (fun a=>r.map fun b=>tg T a b),El n x:=fun x hx=>by
 rw [List.mem_append,List.mem_flatMap] at hx
 rcases hx with hx | ⟨a,ha,hx⟩
 ·exact hr x hx
 ·obtain ⟨b,hb,rfl⟩:=List.mem_map.mp hx
  have h1:=hr a ha
  have h2:=hr b hb
  exact hT.bound h1.1 h1.2 h2.1 h2.2
theorem Zcu {T:List (List Int)}{n:Nat}(hT:Tab T n){r:List Int}(hr:∀ x ∈ r,El n x)(hl:r.length≤12):ZJ [tabD T,rowD r]=some (rowD (ZcT T r)):=by
 have hn:=hT.top
 have hm:r.length * r.length≤144:=Nat.mul_le_mul hl hl
 refine Y7 rfl (wp_seq (Zjg (ZkF (Zu rfl ?_))))
 refine wp_seq (ZaR (r:=r) (fun k e=>∃ x y,e=[.sh (tabD T),.sh (rowD r),.ow ((r++(r.take k).flatMap fun a=>r.map fun b=>tg T a b).map .int),x,y]) (Zat rfl) ⟨_,_,by simp;rfl⟩ (fun k e x hx he=>?_) (fun e he=>?_))
 ·obtain ⟨_,_,rfl⟩:=he
  have hxr:=List.mem_of_getElem? hx
  have hk:=(List.getElem?_eq_some_iff.mp hx).1
  refine Zow (r:=r++(r.take k).flatMap fun a=>r.map fun b=>tg T a b) rfl (Zde (r:=r) (fun b=>tg T x b) (Zat rfl) (by rw [Jp];omega) (fun b hb=>Zbl hT rfl (Jj rfl (Jj rfl ⟨hr x hxr,hr b hb,rfl⟩))) ⟨?_,?_⟩)
  ·rw [List.length_append,Zbe,List.length_map,List.length_take]
   have:min k r.length * r.length≤144:=Nat.le_trans (Nat.mul_le_mul_right _ (Nat.min_le_right _ _)) hm
   omega
  ·rw [List.take_add_one,hx,List.flatMap_append,← List.append_assoc]
   simp only [Option.toList_some,List.flatMap_cons,List.flatMap_nil,List.append_nil]
   exact ⟨_,_,rfl⟩
 ·obtain ⟨_,_,rfl⟩:=he
  refine JG (evR.ev (Ze8 (Zu rfl ⟨?_,?_,?_⟩)))
  ·rw [List.take_length,List.length_append,Zbe];omega
  ·rw [List.take_length]
   have:=ZhK (Zk1 hT hr)
   omega
  ·rw [List.take_length];rfl
theorem Zhp {T:List (List Int)}{n s:Nat}(G:Grp T n s){S:List Int}(hS:∀ x ∈ S,El n x)(hl:S.length≤100):∃ r,ZaJ [tabD T,rowD S]=some (rowD r)∧ZeD T n s S r:=by
 have hT:=G.tab
 have hn:=hT.top
 have he:∀ x ∈ S++[(s:Int)],El n x:=fun x hx=>by
  rcases List.mem_append.mp hx with hx | hx
  ·exact hS x hx
  ·simp at hx;subst hx;exact G.s
 have key:wp Zcx (enter 4 [tabD T,rowD S]) (fun o _=>∃ r,o=.rt (rowD r)∧ZeD T n s S r):=by
  refine wp_seq (Zc5 (evR.ev (Ze8 (ZgG (Zu rfl (ZfE (Jj (d:=s) ((YM rfl).trans ((Zew hT).trans (by rw [G.rest];rfl))) ⟨?_,?_,?_,?_⟩)))))))
  ·simp;omega
  ·simp;omega
  ·have:=ZhK he;omega
  refine wp_seq (Zc5 (Jl ((Ju rfl rfl).trans (Zcu hT (Zgf he).el (by have:=(Zgf he).len;omega))) ?_))
  refine wp_seq (Zmi (N:=12) (fun k e=>∃ r,Rs n r∧(∀ x ∈ S,x ∈ r)∧(s:Int) ∈ r∧(∀ x ∈ r,Gen T s S x)∧k < r.length∧e=[.sh (tabD T),.sh (rowD S),.fr (rowD r),.fr (rowD (ZcT T r))]) (by omega) ?_ fun k e he=>?_)
  ·refine ⟨srt (seen (S++[(s:Int)])),Zgf he,fun x hx=>Zai.mpr (List.mem_append_left _ hx),Zai.mpr (by simp),fun x hx=>?_,?_,rfl⟩
   ·rcases List.mem_append.mp (Zai.mp hx) with hx | hx
    ·exact Gen.of hx
    ·simp at hx;subst hx;exact Gen.rest
   ·exact List.length_pos_of_mem (Zai.mpr (show (s:Int) ∈ S++[(s:Int)] by simp))
  ·obtain ⟨r,hr,hs,h0,hg,hk,rfl⟩:=he
   have hw:Rs n (ZcT T r):=Zgf (Zk1 hT hr.el)
   refine Zim (Zu rfl (Zu rfl ⟨fun h=>⟨?_,?_⟩,fun h=>?_⟩))
   ·have:=hr.len;omega
   ·have h:ZcT T r≠r:=by simpa using h
    have hlt:=hr.Zpi hw (fun x hx=>Zb6.mpr (.inl hx)) h
    refine wp_seq (Zc5 (Jl rfl (Zc5 (Jl ((Ju rfl rfl).trans (Zcu hT hw.el (by have:=hw.len;omega))) ?_))))
    refine ⟨ZcT T r,hw,fun x hx=>Zb6.mpr (.inl (hs x hx)),Zb6.mpr (.inl h0),fun x hx=>?_,by omega,rfl⟩
    rcases Zb6.mp hx with hx | ⟨a,ha,b,hb,rfl⟩
    ·exact hg x hx
    ·exact (hg a ha).mul (hg b hb)
   ·have h:ZcT T r=r:=by simpa using h
    refine JG (Jl rfl ⟨r,rfl,hr,hs,h0,fun a ha b hb=>?_,hg⟩)
    rw [← h]
    exact Zb6.mpr (.inr ⟨a,ha,b,hb,rfl⟩)
 obtain ⟨o,e,h1,r,rfl,h2⟩:=key
 exact ⟨r,Jt rfl h1,h2⟩
end PV
set_option linter.all false
set_option Elab.async false
set_option maxHeartbeats 2000000
namespace PV
open PySem (Str)
noncomputable def kdB (T:List (List Int)) (n:Nat) (x y:Int):Bool:=(upto n).any fun a=>decide (tg T a x=tg T y a)
theorem Zni {T:List (List Int)}{n:Nat}{x y:Int}:kdB T n x y=true↔∃ a,El n a∧tg T a x=tg T y a:=by
 simp only [kdB,List.any_eq_true,decide_eq_true_eq]
 exact ⟨fun ⟨a,h1,h2⟩=>⟨a,Jk.mp h1,h2⟩,fun ⟨a,h1,h2⟩=>⟨a,Jk.mpr h1,h2⟩⟩
noncomputable def YG (T:List (List Int)) (n:Nat) (x:Int):List Int:=(upto n).filter fun y=>kdB T n x y
theorem Zdm (n:Nat):(upto n).Pairwise (· < ·):=by
 unfold upto
 exact List.Pairwise.map _ (fun a b (h:a < b)=>by simp only [Int.ofNat_eq_natCast];omega) List.pairwise_lt_range
theorem Zao {T:List (List Int)}{n:Nat}{x y:Int}:y ∈ YG T n x↔El n y∧∃ a,El n a∧tg T a x=tg T y a:=by
 rw [YG,List.mem_filter,Jk,Zni];rfl
theorem ZbZ (T:List (List Int))(n:Nat)(x:Int):(YG T n x).Pairwise (· < ·):=(Zdm n).filter _
theorem Grp.ZeR {T:List (List Int)}{n s:Nat}(G:Grp T n s){x:Int}(hx:El n x):x ∈ YG T n x:=Zao.mpr ⟨hx,s,G.s,by rw [G.l hx,G.r hx]⟩
theorem Grp.Znr {T:List (List Int)}{n s:Nat}(G:Grp T n s){x y:Int}(hx:El n x)(h:y ∈ YG T n x):x ∈ YG T n y:=by
 obtain ⟨hy,a,ha,e⟩:=Zao.mp h
 obtain ⟨b,hb,h1,h2⟩:=G.i ha
 refine Zao.mpr ⟨hx,b,hb,?_⟩
 have:tg T (tg T b y) a=tg T (tg T x b) a:=by
  rw [G.as hb hy ha,← e,← G.as hb ha hx,h2,G.l hx,G.as hx hb ha,h2,G.r hx]
 exact G.cr ha (G.bd hb hy) (G.bd hx hb) this
theorem Grp.Ziq {T:List (List Int)}{n s:Nat}(G:Grp T n s){x y z:Int}(hx:El n x)(h:y ∈ YG T n x)(k:z ∈ YG T n y):z ∈ YG T n x:=by
 obtain ⟨hy,a,ha,e⟩:=Zao.mp h
 obtain ⟨hz,b,hb,e2⟩:=Zao.mp k
 exact Zao.mpr ⟨hz,tg T b a,G.bd hb ha,by rw [G.as hb ha hx,e,← G.as hb hy ha,e2,G.as hz hb ha]⟩
theorem Grp.ZpO {T:List (List Int)}{n s:Nat}(G:Grp T n s){x y:Int}(hx:El n x)(h:y ∈ YG T n x):YG T n y=YG T n x:=by
 have hy:=(Zao.mp h).1
 exact ZaP (ZbZ T n y) (ZbZ T n x) fun z=>⟨fun hz=>G.Ziq hx h hz,fun hz=>G.Ziq hy (G.Znr hx h) hz⟩
noncomputable def ldB (T:List (List Int)) (n:Nat) (x:Int):Bool:=decide ((YG T n x).getD 0 0=x)
theorem Grp.Zln {T:List (List Int)}{n s:Nat}(G:Grp T n s){x:Int}(hx:El n x):0 < (YG T n x).length:=List.length_pos_of_mem (G.ZeR hx)
theorem ZeF {r:List Int}(h:r.Pairwise (· < ·)){y:Int}(hy:y ∈ r):r.getD 0 0≤y:=by
 cases r with
 | nil=>simp at hy
 | cons a r =>
  rcases List.mem_cons.mp hy with rfl | hy
  ·simp
  ·have:=(List.pairwise_cons.mp h).1 y hy
   simp;omega
theorem head_mem {r:List Int}(h:0 < r.length):r.getD 0 0 ∈ r:=by
 cases r with
 | nil=>simp at h
 | cons a r=>simp
theorem Grp.ZlQ {T:List (List Int)}{n s:Nat}(G:Grp T n s){x:Int}(hx:El n x):ldB T n x=true↔∀ y ∈ YG T n x,x≤y:=by
 unfold ldB
 rw [decide_eq_true_eq]
 constructor
 ·intro h y hy
  rw [← h];exact ZeF (ZbZ T n x) hy
 ·intro h
  have h1:=h _ (head_mem (G.Zln hx))
  have h2:=ZeF (ZbZ T n x) (G.ZeR hx)
  omega
noncomputable def Zkx (T:List (List Int)) (n m:Nat):List (List Int):=((upto m).filter fun x=>ldB T n x).map (YG T n)
theorem Zhe (m:Nat):upto (m + 1)=upto m++[(m:Int)]:=by simp [upto,List.range_succ]
theorem Grp.met {T:List (List Int)}{n s:Nat}(G:Grp T n s){m:Nat}(hm:m < n):YG T n m ∈ Zkx T n m↔ldB T n m=false:=by
 have hme:=El.of hm
 unfold Zkx
 rw [List.mem_map]
 constructor
 ·rintro ⟨x,hx,e⟩
  rw [List.mem_filter,Jk] at hx
  have hxe:El n x:=⟨hx.1.1,by omega⟩
  have hk:x ∈ YG T n m:=by rw [← e];exact G.ZeR hxe
  cases hl:ldB T n m with
  | false=>rfl
  | true=>have:=(G.ZlQ hme).mp hl x hk;omega
 ·intro h
  have h0:=head_mem (G.Zln hme)
  have h1:=ZeF (ZbZ T n m) (G.ZeR hme)
  have hne:(YG T n m).getD 0 0≠m:=by simpa [ldB] using h
  obtain ⟨x,ex⟩:∃ x,x=(YG T n m).getD 0 0:=⟨_,rfl⟩
  rw [← ex] at h0 h1 hne
  have hxe:=(Zao.mp h0).1
  have ek:=G.ZpO hme h0
  refine ⟨x,?_,ek⟩
  rw [List.mem_filter,Jk]
  refine ⟨⟨hxe.1,by omega⟩,(G.ZlQ hxe).mpr fun y hy=>?_⟩
  rw [ek] at hy
  have h2:=ZeF (ZbZ T n m) hy
  omega
theorem ZmX {a b:List Int}(ha:0 < a.length)(hb:0 < b.length)(h:a.getD 0 0 < b.getD 0 0):leL a b:=by
 cases a with
 | nil=>simp at ha
 | cons x a =>
  cases b with
  | nil=>simp at hb
  | cons y b =>
   simp at h
   refine leL.of ?_
   simp only [ltL]
   rw [if_neg (by omega)]
   exact decide_eq_true h
theorem Prm.perm {nm:List Int}{n:Nat}(h:Prm nm n):nm.Perm (upto n):=by
 refine (List.perm_ext_iff_of_nodup h.nd (Zgz n)).mpr fun x=>⟨fun hx=>Jk.mpr (h.bd x hx),fun hx=>?_⟩
 have:=Jk.mp hx
 obtain ⟨a,a0,a1,e⟩:=h.onto this.1 this.2
 rw [← e]
 exact ZjM a0 (by rw [h.len];exact a1)
theorem Prm.map {nm:List Int}{n:Nat}(h:Prm nm n):(upto n).map (at1 nm)=nm:=by
 apply List.ext_getElem
 ·rw [List.length_map,JW,h.len]
 ·intro i h1 h2
  simp [upto,at1,List.getD,h2]
theorem ZdI {R:List (List Int)}(hl:R.length≤1000)(hr:∀ r ∈ R,r.length≤1000):Z9 [tabD R]=some (.bl true):=by
 refine Y7 rfl (wp_seq (Za7 (ZbH (tv_B (Jl rfl ⟨_,rfl,rfl⟩))) ?_))
 refine wp_seq (ZlP (r:=R) (fun _ e=>∃ x y,e=[.sh (tabD R),x,y]) (Zcd rfl) ⟨_,_,rfl⟩ (fun k e r hk he=>?_) (fun e he=>?_))
 ·obtain ⟨_,_,rfl⟩:=he
  have hrl:=hr r (List.mem_of_getElem? hk)
  refine Za7 (ZfL (ZbH (tv_B (Jl rfl ⟨_,rfl,fun h=>(by cases h),fun _=>ZbH (tv_B (Zgs (r:=r) (fun _=>true) (Zat rfl) (by rw [Jp];omega) (fun x hx=>Jl ((YM rfl).trans (Zhj x)) rfl) ?_))⟩)))) ⟨_,_,rfl⟩
  rw [List.all_eq_true.mpr (fun _ _=>rfl)];simp
 ·obtain ⟨_,_,rfl⟩:=he
  exact JG (Jl rfl rfl)
end PV
set_option linter.all false
set_option Elab.async false
set_option maxHeartbeats 2000000
namespace PV
open PySem (Str)
structure Sg (T:List (List Int))(n:Nat)(s:Int)(r:List Int):Prop where
 rs:Rs n r
 rest:s ∈ r
 cls:Cls T r
theorem Sg.least {T:List (List Int)}{n:Nat}{s:Int}{r:List Int}(h:Sg T n s r):ZeD T n s r r:=⟨h.rs,fun x hx=>hx,h.rest,h.cls,fun x hx=>Gen.of hx⟩
noncomputable def clM (B:List (List Int)) (n m:Nat):Bool:=(List.range n).all fun a=>!m.testBit a || (List.range n).all fun b=>!m.testBit b || m.testBit (tg B a b).toNat
noncomputable def cntM (B:List (List Int)):Bool:=Nat.blt ((List.range (2 ^ B.length)).filter fun m=>m.testBit 0 && clM B B.length m).length 64
theorem Zn4:(List.range 24).all (fun k=>cntM (ZfK.getD k []))=true:=by decide +kernel
theorem Zjk (p:Nat→Bool):∀ n,∃ m,m < 2 ^ n∧∀ a,a < n→m.testBit a=p a
 | 0=>⟨0,by simp,by omega⟩
 | n + 1=>by
  obtain ⟨m,h1,h2⟩:=Zjk p n
  cases hp:p n with
  | false =>
   refine ⟨m,by rw [Nat.pow_succ];omega,fun a ha=>?_⟩
   rcases Nat.lt_or_ge a n with h | h
   ·exact h2 a h
   ·have:a=n:=by omega
    subst this;rw [hp];exact Nat.testBit_lt_two_pow h1
  | true =>
   refine ⟨2 ^ n + m,by rw [Nat.pow_succ];omega,fun a ha=>?_⟩
   rcases Nat.lt_or_ge a n with h | h
   ·rw [Nat.testBit_two_pow_add_gt h];exact h2 a h
   ·have:a=n:=by omega
    subst this;rw [Nat.testBit_two_pow_add_eq,Nat.testBit_lt_two_pow h1,hp];rfl
noncomputable def Few (T:List (List Int)) (n:Nat) (s:Int):Prop:=∀ P:List (List Int),P.Nodup→(∀ r ∈ P,Sg T n s r)→P.length < 64
theorem Zhl (ns:List Int)(f:Nat):∃ (n s:Nat) (T:List (List Int)),J2 [rowD ns,.int f]=some (tabD T)∧Grp T n s∧Few T n s:=by
 obtain ⟨k,n,T,nm,hk,e,tb,hT,hp,hI⟩:=ZgQ ns f
 have G:=Zmv hk
 have hb:cntM (Za8 k)=true:=by rw [ZhR hk];exact List.all_eq_true.mp Zn4 k (List.mem_range.mpr hk)
 unfold cntM at hb
 rw [tb.len] at G hb
 obtain ⟨s',es,G'⟩:=G.ren hT hp hI
 refine ⟨n,s',T,e,G',fun P nd hP=>?_⟩
 have hn:=hT.pos
 obtain ⟨M,hM⟩:=Classical.axiomOfChoice fun r:List Int=>Zjk (fun a=>decide (at1 nm a ∈ r)) n
 have n1:(P.map M).Nodup:=by
  unfold List.Nodup
  rw [List.pairwise_map]
  refine List.Pairwise.imp_of_mem (R:=(·≠·)) (fun {r q} hr hq hne he=>hne ?_) nd
  have key:∀ {r q:List Int},Sg T n s' r→M r=M q→∀ x ∈ r,x ∈ q:=fun {r q} hr he x hx=>by
   have hel:=hr.rs.el x hx
   obtain ⟨a,a0,a1,rfl⟩:=hp.onto hel.1 hel.2
   obtain ⟨b,hb1,rfl⟩:=Zaz a0 a1
   have h1:=(hM r).2 b hb1
   rw [he,(hM q).2 b hb1] at h1
   have:decide (at1 nm b ∈ r)=true:=decide_eq_true hx
   rw [this] at h1
   exact of_decide_eq_true h1
  exact ZaP (hP r hr).rs.up (hP q hq).rs.up fun x=>⟨key (hP r hr) he x,key (hP q hq) he.symm x⟩
 have n2:=n1.length_le_of_subset (l₂:=(List.range (2 ^ n)).filter fun m=>m.testBit 0 && clM (Za8 k) n m) fun m hm=>by
  obtain ⟨r,hr,rfl⟩:=List.mem_map.mp hm
  have hS:=hP r hr
  rw [List.mem_filter,Bool.and_eq_true]
  refine ⟨List.mem_range.mpr (hM r).1,?_,?_⟩
  ·rw [(hM r).2 0 hn]
   refine decide_eq_true ?_
   have:=hS.rest
   rw [es] at this
   exact this
  ·unfold clM
   rw [List.all_eq_true]
   intro a ha
   have ha:=List.mem_range.mp ha
   rw [(hM r).2 a ha]
   by_cases h1:at1 nm a ∈ r
   ·rw [decide_eq_true h1]
    show (false || _)=true
    rw [Bool.false_or,List.all_eq_true]
    intro b hb
    have hb:=List.mem_range.mp hb
    rw [(hM r).2 b hb]
    by_cases h2:at1 nm b ∈ r
    ·rw [decide_eq_true h2]
     show (false || _)=true
     rw [Bool.false_or]
     have h3:=hS.cls _ h1 _ h2
     rw [hI a b (by omega) (by omega) (by omega) (by omega)] at h3
     obtain ⟨c,hc,ec⟩:=(G.bd (El.of ha) (El.of hb)).nat
     rw [ec] at h3 ⊢
     rw [Int.toNat_natCast,(hM r).2 c hc]
     exact decide_eq_true h3
    ·rw [decide_eq_false h2];rfl
   ·rw [decide_eq_false h1];rfl
 have h3:=Nat.blt_eq.mp hb
 rw [List.length_map] at n2
 omega
end PV
set_option linter.all false
set_option Elab.async false
set_option maxHeartbeats 2000000
namespace PV
open PySem (Str)
noncomputable def keyL (r:List Int):List Int:=(r.length:Int)::r
end PV
set_option linter.all false
set_option Elab.async false
set_option maxHeartbeats 2000000
namespace PV
open PySem (Str)
theorem Sg.inv {T:List (List Int)}{n s:Nat}(G:Grp T n s){r:List Int}(h:Sg T n s r){a b:Int}(ha:a ∈ r)(hb:El n b)(e:tg T a b=s):b ∈ r:=by
 have hae:=h.rs.el a ha
 obtain ⟨m,_,hO⟩:=G.od hae
 have hp:∀ j,pw T s a j ∈ r:=by
  intro j
  induction j with
  | zero=>exact h.rest
  | succ j ih=>exact h.cls _ ih _ ha
 have h1:tg T a (pw T s a (m - 1))=s:=by rw [G.pwc hae,show m - 1 + 1=m by have:=hO.pos;omega,hO.is]
 rw [G.cl hae hb (G.pw hae _) (e.trans h1.symm)]
 exact hp _
noncomputable def Je (T:List (List Int)) (r:List Int) (x:Int):List Int:=srt (r.map fun y=>tg T x y)
theorem ZP {T:List (List Int)}{r:List Int}{x z:Int}:z ∈ Je T r x↔∃ y ∈ r,tg T x y=z:=by
 unfold Je
 rw [(Yu _).mem_iff,List.mem_map]
theorem Zbu (T:List (List Int))(r:List Int)(x:Int):(Je T r x).length=r.length:=by
 unfold Je;rw [(Yu _).length_eq,List.length_map]
section
variable {T:List (List Int)} {n s:Nat} {r:List Int}
theorem Sg.ZfW (G:Grp T n s)(h:Sg T n s r){x:Int}(hx:El n x):(Je T r x).Pairwise (· < ·):=by
 refine ZcZ (ZcG _) ((Yu _).nodup_iff.mpr ?_)
 unfold List.Nodup
 rw [List.pairwise_map]
 exact List.Pairwise.imp_of_mem (R:=(·≠·)) (fun {a b} ha hb hne e=>hne (G.cl hx (h.rs.el a ha) (h.rs.el b hb) e)) h.rs.nd
theorem Sg.ZeE (G:Grp T n s)(h:Sg T n s r){x z:Int}(hx:El n x)(hz:z ∈ Je T r x):El n z:=by
 obtain ⟨y,hy,rfl⟩:=ZP.mp hz
 exact G.bd hx (h.rs.el y hy)
theorem Sg.Zdi (G:Grp T n s)(h:Sg T n s r){x:Int}(hx:El n x):x ∈ Je T r x:=ZP.mpr ⟨s,h.rest,G.r hx⟩
theorem Sg.ZeS (G:Grp T n s)(h:Sg T n s r){x z:Int}(hx:El n x)(hz:z ∈ Je T r x):Je T r z=Je T r x:=by
 have hze:=h.ZeE G hx hz
 obtain ⟨y,hy,rfl⟩:=ZP.mp hz
 have hye:=h.rs.el y hy
 refine ZaP (h.ZfW G hze) (h.ZfW G hx) fun w=>?_
 rw [ZP,ZP]
 constructor
 ·rintro ⟨u,hu,rfl⟩
  exact ⟨tg T y u,h.cls y hy u hu,(G.as hx hye (h.rs.el u hu)).symm⟩
 ·rintro ⟨u,hu,rfl⟩
  obtain ⟨b,hb,h1,h2⟩:=G.i hye
  have hbr:=h.inv G hy hb h1
  have hue:=h.rs.el u hu
  refine ⟨tg T b u,h.cls b hbr u hu,?_⟩
  rw [G.as hx hye (G.bd hb hue),← G.as hye hb hue,h1,G.l hue]
theorem Sg.pos (h:Sg T n s r):0 < r.length:=List.length_pos_of_mem h.rest
noncomputable def ldS (T:List (List Int)) (r:List Int) (x:Int):Bool:=decide ((Je T r x).getD 0 0=x)
theorem Sg.lead (G:Grp T n s)(h:Sg T n s r){x:Int}(hx:El n x):∃ z,El n z∧ldS T r z=true∧Je T r z=Je T r x:=by
 have h0:(Je T r x).getD 0 0 ∈ Je T r x:=head_mem (by rw [Zbu];exact h.pos)
 have e:=h.ZeS G hx h0
 exact ⟨_,h.ZeE G hx h0,by unfold ldS;rw [e];simp,e⟩
theorem Zh3 {x y:Int}(hx:ldS T r x=true)(hy:ldS T r y=true)(e:Je T r x=Je T r y):x=y:=by
 have h1:(Je T r x).getD 0 0=x:=of_decide_eq_true hx
 have h2:(Je T r y).getD 0 0=y:=of_decide_eq_true hy
 rw [← h1,← h2,e]
noncomputable def Zc (T:List (List Int)) (r:List Int) (m:Nat):List (List Int):=((upto m).filter fun x=>ldS T r x).map (Je T r)
theorem Zbz (T:List (List Int))(r:List Int)(m:Nat):Zc T r (m + 1)=Zc T r m++(if ldS T r m then [Je T r m] else []):=by
 unfold Zc
 rw [Zhe,List.filter_append,List.map_append]
 by_cases h:ldS T r m=true
 ·simp [h]
 ·simp [h]
theorem ZaA (T:List (List Int))(r:List Int)(m:Nat):(Zc T r m).length≤m:=by
 unfold Zc
 rw [List.length_map]
 have:=List.length_filter_le (fun x=>ldS T r x) (upto m)
 rw [JW] at this;exact this
theorem ZaD {q:List Int}:q ∈ Zc T r n↔∃ x,El n x∧ldS T r x=true∧Je T r x=q:=by
 unfold Zc
 rw [List.mem_map]
 constructor
 ·rintro ⟨x,hx,e⟩
  rw [List.mem_filter,Jk] at hx
  exact ⟨x,hx.1,hx.2,e⟩
 ·rintro ⟨x,h1,h2,e⟩
  exact ⟨x,List.mem_filter.mpr ⟨Jk.mpr h1,h2⟩,e⟩
theorem Sg.Zlb (G:Grp T n s)(h:Sg T n s r):(Zc T r n).Pairwise fun a b=>leL a b∧a≠b∧∀ z,z ∈ a→z ∉ b:=by
 unfold Zc
 rw [List.pairwise_map]
 refine List.Pairwise.imp_of_mem (R:=(· < ·)) (fun {a b} ha hb hab=>?_) ((Zdm n).filter _)
 rw [List.mem_filter,Jk] at ha hb
 have ea:(Je T r a).getD 0 0=a:=of_decide_eq_true ha.2
 have eb:(Je T r b).getD 0 0=b:=of_decide_eq_true hb.2
 have ne:Je T r a≠Je T r b:=fun e=>by have:=Zh3 ha.2 hb.2 e;omega
 refine ⟨ZmX (by rw [Zbu];exact h.pos) (by rw [Zbu];exact h.pos) (by rw [ea,eb];exact hab),ne,fun z h1 h2=>ne ?_⟩
 rw [← h.ZeS G ha.1 h1,h.ZeS G hb.1 h2]
theorem Sg.ZmR (G:Grp T n s)(h:Sg T n s r){z:Int}:z ∈ (Zc T r n).flatten↔El n z:=by
 rw [List.mem_flatten]
 constructor
 ·rintro ⟨q,hq,hz⟩
  obtain ⟨x,hx,_,rfl⟩:=ZaD.mp hq
  exact h.ZeE G hx hz
 ·intro hz
  obtain ⟨x,hx,hl,e⟩:=h.lead G hz
  exact ⟨Je T r x,ZaD.mpr ⟨x,hx,hl,rfl⟩,by rw [e];exact h.Zdi G hz⟩
theorem Sg.Zn7 (G:Grp T n s)(h:Sg T n s r):(Zc T r n).flatten.Nodup:=by
 unfold List.Nodup
 rw [List.pairwise_flatten]
 refine ⟨fun q hq=>?_,(h.Zlb G).imp fun {a b} hab x hx y hy e=>?_⟩
 ·obtain ⟨x,hx,_,rfl⟩:=ZaD.mp hq
  exact (h.ZfW G hx).imp fun {a b} h=>by omega
 ·subst e;exact hab.2.2 x hx hy
theorem Sg.ZmE (G:Grp T n s)(h:Sg T n s r):srt (Zc T r n).flatten=upto n :=
 ZaP (ZcZ (ZcG _) ((Yu _).nodup_iff.mpr (h.Zn7 G))) (Zdm n) fun z=>by rw [(Yu _).mem_iff,h.ZmR G,Jk];exact Iff.rfl
theorem Zis {c:Nat}:∀ {L:List (List Int)},(∀ q ∈ L,q.length=c)→L.flatten.length=L.length * c
 | [],_=>by simp
 | q::L,h=>by
  rw [List.flatten_cons,List.length_append,Zis fun q hq=>h q (List.mem_cons_of_mem _ hq),h q (by simp),List.length_cons,Nat.succ_mul];omega
theorem Zdl {q:List Int}(hq:q ∈ Zc T r n):q.length=r.length:=by
 obtain ⟨x,hx,_,rfl⟩:=ZaD.mp hq
 exact Zbu _ _ _
theorem Sg.Zbe (G:Grp T n s)(h:Sg T n s r):(Zc T r n).length * r.length=n:=by
 have h1:=Zis (c:=r.length) (L:=Zc T r n) fun q hq=>Zdl hq
 have h2:=congrArg List.length (h.ZmE G)
 rw [(Yu _).length_eq,JW] at h2
 omega
theorem Sg.dvd (G:Grp T n s)(h:Sg T n s r):n % r.length=0:=by
 have:=h.Zbe G
 exact Nat.mod_eq_zero_of_dvd ⟨_,by rw [Nat.mul_comm];exact this.symm⟩
theorem Ze6 {α:Type}{p:α→Bool}{x:α}:∀ {l:List α},l.Nodup→x ∈ l→(∀ y ∈ l,p y=true↔y=x)→(l.filter p).length=1
 | [],_,hx,_=>by cases hx
 | y::l,nd,hx,hp=>by
  obtain ⟨h1,h2⟩:=List.nodup_cons.mp nd
  rcases List.mem_cons.mp hx with rfl | hx
  ·rw [List.filter_cons,if_pos ((hp x (by simp)).mpr rfl)]
   have:l.filter p=[]:=List.filter_eq_nil_iff.mpr fun z hz e=>h1 (by rw [← (hp z (by simp [hz])).mp e];exact hz)
   rw [this];rfl
  ·have hne:¬ p y=true:=fun e=>h1 (by rw [(hp y (by simp)).mp e];exact hx)
   rw [List.filter_cons,if_neg hne]
   exact Ze6 h2 hx fun z hz=>hp z (by simp [hz])
end
theorem Zdn {T:List (List Int)}{n s:Nat}(G:Grp T n s){r:List Int}(h:Sg T n s r){x:Int}(hx:El n x):Jz [tabD T,rowD r,.int x]=some (rowD (Je T r x)):=by
 have hn:=G.tab.top
 have hl:=h.rs.len
 refine Y7 rfl (JG (evR.ev (Zix (ZcD (Zde (r:=r) (fun y=>tg T x y) (Zat rfl) (by rw [Jp];omega) (fun y hy=>?_) ⟨by rw [List.length_map];omega,rfl⟩)))))
 exact Zbl G.tab rfl (Jj rfl (Jj rfl ⟨hx,h.rs.el y hy,rfl⟩))
theorem ZdM {T:List (List Int)}{n s:Nat}(G:Grp T n s){r:List Int}(h:Sg T n s r):JZ [tabD T,rowD r]=some (tabD (Zc T r n)):=by
 have hn:=G.tab.top
 refine Y7 rfl (wp_seq (ZkO (Jl rfl ⟨_,rfl,?_⟩)))
 refine wp_seq (ZeJ (n:=n) (fun k e=>∃ x y,e=[.sh (tabD T),.sh (rowD r),.nw ((Zc T r k).map rowD),x,y]) (JT (JH G.tab rfl) (by omega)) ⟨_,_,rfl⟩ (fun k e hk he=>?_) (fun e he=>?_))
 ·obtain ⟨_,_,rfl⟩:=he
  have hke:=El.of hk
  refine wp_seq (Zc5 (Jl ((Zeo rfl rfl rfl).trans (Zdn G h hke)) ?_))
  refine ZdB (Zii (Zdk (Zu rfl (Jj rfl ⟨⟨by omega,by rw [Zbu];have:=h.pos;omega⟩,Jj rfl ⟨fun h=>?_,fun h=>?_⟩⟩))))
  ·have h:ldS T r k=true:=h
   refine Zi9 rfl (Jl rfl ⟨?_,?_⟩)
   ·rw [List.length_map,Jp];have:=ZaA T r k;omega
   ·show ∃ x y,_=_
    rw [Zbz,if_pos h,List.map_append]
    exact ⟨_,_,rfl⟩
  ·have h:ldS T r k=false:=h
   refine Zcm ?_
   show ∃ x y,_=_
   rw [Zbz,if_neg (by rw [h];simp),List.append_nil]
   exact ⟨_,_,rfl⟩
 ·obtain ⟨_,_,rfl⟩:=he
  exact wp_seq (Zjx rfl (JG (Jl rfl rfl)))
theorem Zb0 {T:List (List Int)}{n s:Nat}(G:Grp T n s){r:List Int}(h:Sg T n s r):JQ [tabD T,rowD r]=some .non:=by
 have hn:=G.tab.top
 have hl:=h.rs.len
 obtain ⟨q,eq,Lq⟩:=Zhp G (S:=r) h.rs.el (by omega)
 have e:=Lq.uniq h.least
 subst e
 refine Y7 rfl (wp_seq (Za7 (ZbH (tv_B (Zgs (r:=q) (fun _=>true) (Zat rfl) (by rw [Jp];omega) (fun x hx=>Jl ((Ju rfl rfl).trans (ZdL G.tab x)) ?_) ?_))) ?_))
 ·have:=h.rs.el x hx
  rw [decide_eq_true this.1,decide_eq_true this.2];rfl
 ·rw [List.all_eq_true.mpr (fun _ _=>rfl)];simp
 ·refine Za7 (Zim (Zu ((Ju rfl rfl).trans eq) (Zu rfl ?_))) ?_
  ·simp
  ·rfl
theorem ZkX {T:List (List Int)}{n s:Nat}(G:Grp T n s){r:List Int}(h:Sg T n s r):ZcF [tabD T,rowD r]=some (tabD (Zc T r n)) :=
 Y7 rfl (wp_seq (Zhy (Jl ((YM rfl).trans (Zb1 G)) (wp_seq (Zhy (Jl ((Ju rfl rfl).trans (Zb0 G h)) (JG (Jl ((Ju rfl rfl).trans (ZdM G h)) rfl))))))))
end PV
set_option linter.all false
set_option Elab.async false
set_option maxHeartbeats 2000000
namespace PV
open PySem (Str)
theorem Zjc {a b:Ex}{env:Env}{P:List (List Int)→Prop}(h:evT a env fun r=>evT b env fun q=>r.length + q.length≤lim∧P (r++q)):evT (eAdd a b) env P:=by
 obtain ⟨r,h1,q,h2,h3,p⟩:=h
 refine ⟨_,?_,p⟩
 simp only [eAdd,eF2,h1,h2,tabD,fAdd,List.length_map]
 rw [if_pos h3,List.map_append]
theorem ZjD {i:Nat}{it:Lx}{e:Ex}{env:Env}{P:List (List Int)→Prop}{T:List (List Int)}(F:List Int→List Int)(hit:it env=some (T.map rowD))(hl:T.length≤lim)
  (he:∀ x ∈ T,evR e (env.set i (.sh (rowD x))) (·=F x)) (h:P (T.map F)):evT (Ji i it Jm e) env P :=
 Zgi (fun _=>true) F hit hl (fun _ _=>⟨_,rfl,rfl⟩) (fun x hx _=>he x hx) (by rw [List.filter_eq_self.mpr (fun _ _=>rfl)];exact h)
noncomputable def Ch (l:List Int) (m:Nat) (r:List Int):Prop:=r.Pairwise (· < ·)∧(∀ x ∈ r,x ∈ l)∧r.length≤m
structure ChOk (l:List Int)(m:Nat)(f:List (List Int)):Prop where
 nd:f.Nodup
 mem:∀ r,r ∈ f↔Ch l m r
theorem ZfV {α β:Type}{F:α→β}{l:List α}(nd:l.Nodup)(h:∀ x ∈ l,∀ y ∈ l,F x=F y→x=y):(l.map F).Nodup:=by
 unfold List.Nodup
 rw [List.pairwise_map]
 exact List.Pairwise.imp_of_mem (R:=(·≠·)) (fun {a b} ha hb hne e=>hne (h a ha b hb e)) nd
theorem ChOk.step {l:List Int}{m:Nat}{f:List (List Int)}(h:ChOk l m f){z:Int}(hz:∀ x ∈ l,x < z):ChOk (l++[z]) m (f++(f.filter fun r=>decide (r.length < m)).map fun r=>r++[z]):=by
 have hnz:∀ r ∈ f,z ∉ r:=fun r hr hm=>by
  have:=hz z (((h.mem r).mp hr).2.1 z hm);omega
 refine ⟨?_,fun r=>?_⟩
 ·rw [List.nodup_append]
  refine ⟨h.nd,ZfV (h.nd.filter _) fun x _ y _ e=>List.append_cancel_right e,fun a ha b hb e=>?_⟩
  subst e
  obtain ⟨q,_,e⟩:=List.mem_map.mp hb
  exact hnz a ha (by rw [← e];simp)
 ·rw [List.mem_append,List.mem_map]
  constructor
  ·rintro (hr | ⟨q,hq,rfl⟩)
   ·obtain ⟨h1,h2,h3⟩:=(h.mem r).mp hr
    exact ⟨h1,fun x hx=>List.mem_append_left _ (h2 x hx),h3⟩
   ·rw [List.mem_filter,decide_eq_true_eq] at hq
    obtain ⟨h1,h2,h3⟩:=(h.mem q).mp hq.1
    refine ⟨?_,fun x hx=>?_,by rw [List.length_append,List.length_singleton];omega⟩
    ·rw [List.pairwise_append]
     refine ⟨h1,by simp,fun a ha b hb=>?_⟩
     simp at hb;subst hb
     exact hz a (h2 a ha)
    ·rcases List.mem_append.mp hx with hx | hx
     ·exact List.mem_append_left _ (h2 x hx)
     ·exact List.mem_append_right _ hx
  ·rintro ⟨h1,h2,h3⟩
   by_cases hm:z ∈ r
   ·right
    obtain ⟨a,b,rfl⟩:=List.append_of_mem hm
    have hb:b=[]:=by
     cases b with
     | nil=>rfl
     | cons c b =>
      exfalso
      have hc:c ∈ a++z::c::b:=by simp
      have g1:z < c:=by
       have:=(List.pairwise_append.mp h1).2.1
       exact (List.pairwise_cons.mp this).1 c (by simp)
      rcases List.mem_append.mp (h2 c hc) with g | g
      ·have:=hz c g;omega
      ·simp at g;omega
    subst hb
    have h4:=List.pairwise_append.mp h1
    refine ⟨a,List.mem_filter.mpr ⟨(h.mem a).mpr ⟨h4.1,fun x hx=>?_,by simp at h3;omega⟩,?_⟩,rfl⟩
    ·have g1:=h4.2.2 x hx z (by simp)
     rcases List.mem_append.mp (h2 x (List.mem_append_left _ hx)) with g | g
     ·exact g
     ·simp at g;omega
    ·rw [decide_eq_true_eq];simp at h3;omega
   ·left
    refine (h.mem r).mpr ⟨h1,fun x hx=>?_,h3⟩
    rcases List.mem_append.mp (h2 x hx) with g | g
    ·exact g
    ·simp at g;subst g;exact absurd hx hm
theorem Zoo {l:List Int}(h:l.Pairwise (· < ·)){k:Nat}{z:Int}(hz:l[k]?=some z):l.take (k + 1)=l.take k++[z]∧∀ x ∈ l.take k,x < z:=by
 refine ⟨by rw [List.take_add_one,hz];rfl,fun x hx=>?_⟩
 obtain ⟨i,hi,e⟩:=List.getElem_of_mem hx
 rw [List.length_take] at hi
 rw [List.getElem_take] at e
 obtain ⟨hk,e2⟩:=List.getElem?_eq_some_iff.mp hz
 rw [← e,← e2]
 exact List.pairwise_iff_getElem.mp h i k _ hk (by omega)
theorem Zhq {l:List Int}(hl:l.Pairwise (· < ·))(h12:l.length≤12)(m:Nat)(hm:m≤12):∃ f,ZaL [rowD l,.int m]=some (tabD f)∧f.Nodup∧f.length≤4096∧∀ r,r ∈ f↔r.Pairwise (· < ·)∧(∀ x ∈ r,x ∈ l)∧r.length=m:=by
 have hlm:=Jp
 have key:wp ZcA (enter 5 [rowD l,.int m]) (fun o _=>∃ f,o=.rt (tabD f)∧f.Nodup∧f.length≤4096∧∀ r,r ∈ f↔r.Pairwise (· < ·)∧(∀ x ∈ r,x ∈ l)∧r.length=m):=by
  refine wp_seq (ZG (Jl (d:=tabD [[]]) rfl ?_))
  refine wp_seq (ZaR (r:=l) (fun k e=>∃ f y z,ChOk (l.take k) m f∧f.length≤2 ^ k∧e=[.sh (rowD l),.sh (.int m),.sh (tabD f),y,z]) (Zat rfl) ⟨[[]],_,_,⟨by simp,fun r=>?_⟩,by simp,rfl⟩ (fun k e z hz he=>?_) (fun e he=>?_))
  ·rw [List.take_zero,List.mem_singleton]
   constructor
   ·rintro rfl;exact ⟨by simp,by simp,by simp⟩
   ·rintro ⟨_,h2,_⟩
    cases r with
    | nil=>rfl
    | cons a r=>exact absurd (h2 a (by simp)) (by simp)
  ·obtain ⟨f,_,_,hf,hfl,rfl⟩:=he
   have hk:k < l.length:=(List.getElem?_eq_some_iff.mp hz).1
   have h2:2 ^ k≤2 ^ 11:=Nat.pow_le_pow_right (by decide) (by omega)
   have e11:2 ^ 11=2048:=rfl
   obtain ⟨t1,t2⟩:=Zoo hl hz
   have hflt:=List.length_filter_le (fun r:List Int=>decide (r.length < m)) f
   refine ZG (evT.ev (Zjc (Z8 rfl (Zgi (T:=f) (fun r=>decide (r.length < m)) (fun r=>r++[z]) (Zcd rfl) (by omega) (fun r hr=>?_) (fun r hr _=>?_) ⟨?_,?_⟩))))
   ·refine ZpN (Zit (Zu rfl (Jj rfl ?_)))
    rw [Bool.eq_iff_iff,decide_eq_true_eq,decide_eq_true_eq];omega
   ·have:=((hf.mem r).mp hr).2.2
    exact ZgG (Zu rfl (ZfE (Jj rfl ⟨by simp;omega,rfl⟩)))
   ·rw [List.length_map];omega
   ·refine ⟨_,_,_,?_,?_,rfl⟩
    ·rw [t1];exact hf.step t2
    ·rw [List.length_append,List.length_map,Nat.pow_succ];omega
  ·obtain ⟨f,_,_,hf,hfl,rfl⟩:=he
   rw [List.take_length] at hf
   have h2:2 ^ l.length≤2 ^ 12:=Nat.pow_le_pow_right (by decide) (by omega)
   have e12:2 ^ 12=4096:=rfl
   have hflt:=List.length_filter_le (fun r:List Int=>decide (r.length=m)) f
   refine JG (evT.ev (Zgi (T:=f) (fun r=>decide (r.length=m)) (fun r=>r) (Zcd rfl) (by omega) (fun r hr=>?_) (fun r hr _=>Zu rfl rfl) ⟨_,rfl,?_,?_,fun r=>?_⟩))
   ·refine Zii (Zit (Zu rfl (Jj rfl ?_)))
    rw [Bool.eq_iff_iff,decide_eq_true_eq,decide_eq_true_eq];omega
   ·rw [List.map_id'];exact hf.nd.filter _
   ·rw [List.length_map];omega
   ·rw [List.map_id',List.mem_filter,hf.mem,decide_eq_true_eq]
    constructor
    ·rintro ⟨⟨h1,h2,_⟩,h3⟩;exact ⟨h1,h2,h3⟩
    ·rintro ⟨h1,h2,h3⟩;exact ⟨⟨h1,h2,by omega⟩,h3⟩
 obtain ⟨o,e,h1,f,rfl,h2⟩:=key
 exact ⟨f,Jt rfl h1,h2⟩
noncomputable def Zb3 (T:List (List Int)) (r:List Int):Bool:=r.all fun a=>r.all fun b=>decide (tg T a b ∈ r)
theorem Zea {T:List (List Int)}{r:List Int}:Zb3 T r=true↔Cls T r:=by
 simp only [Zb3,List.all_eq_true,decide_eq_true_eq]
 exact ⟨fun h a ha b hb=>h a ha b hb,fun h a ha b hb=>h a ha b hb⟩
theorem ZiI {T:List (List Int)}{n:Nat}(hT:Tab T n){r:List Int}(hr:∀ x ∈ r,El n x):Zby [tabD T,rowD r]=some (.bl (Zb3 T r)):=by
 refine Y7 rfl ?_
 refine wp_seq (ZaR (r:=r) (fun k e=>∃ x y,(∀ a ∈ r.take k,∀ b ∈ r,tg T a b ∈ r)∧e=[.sh (tabD T),.sh (rowD r),x,y]) (Zat rfl) ⟨_,_,by simp,rfl⟩ (fun k e a ha he=>?_) (fun e he=>?_))
 ·obtain ⟨_,_,hc,rfl⟩:=he
  have har:=List.mem_of_getElem? ha
  refine ZaR (r:=r) (fun j e=>∃ y,(∀ b ∈ r.take j,tg T a b ∈ r)∧e=[.sh (tabD T),.sh (rowD r),.sh (.int a),y]) (Zat rfl) ⟨_,by simp,rfl⟩ (fun j e b hb he=>?_) (fun e he=>?_)
  ·obtain ⟨_,hc2,rfl⟩:=he
   have hbr:=List.mem_of_getElem? hb
   refine ZdB (Zpc (Zbl hT rfl (Jj rfl (Jj rfl ⟨hr a har,hr b hbr,Zu rfl ⟨fun h=>?_,fun h=>?_⟩⟩))))
   ·have h:tg T a b ∉ r:=by simpa using h
    refine JG (Jl rfl ?_)
    show D.bl false=.bl (Zb3 T r)
    have:Zb3 T r=false:=by
     cases hq:Zb3 T r with
     | false=>rfl
     | true=>exact absurd (Zea.mp hq a har b hbr) h
    rw [this]
   ·have h:tg T a b ∈ r:=by simpa using h
    refine Zcm ⟨_,fun c hc3=>?_,rfl⟩
    rw [List.take_add_one,hb,List.mem_append] at hc3
    rcases hc3 with hc3 | hc3
    ·exact hc2 c hc3
    ·simp at hc3;subst hc3;exact h
  ·obtain ⟨_,hc2,rfl⟩:=he
   rw [List.take_length] at hc2
   refine ⟨_,_,fun c hc3=>?_,rfl⟩
   rw [List.take_add_one,ha,List.mem_append] at hc3
   rcases hc3 with hc3 | hc3
   ·exact hc c hc3
   ·simp at hc3;subst hc3;exact hc2
 ·obtain ⟨_,_,hc,rfl⟩:=he
  rw [List.take_length] at hc
  refine JG (Jl rfl ?_)
  show D.bl true=.bl (Zb3 T r)
  rw [Zea.mpr hc]
theorem ZmV {a b:Ex}{env:Env}{n:Nat}(ha:a env=some (.int 1))(hb:b env=some (.int ((n:Int) + 1)))(hn:n≤1000):Zdx a b env=some (Yg 1 n):=by
 have hlm:=Jp
 unfold Zdx
 rw [ha,hb]
 dsimp only
 rw [if_pos (by omega),show ((n:Int) + 1 - 1).toNat=n by omega]
theorem Zju {l:List Int}{x:Int}:x ∈ srt l↔x ∈ l:=(Yu l).mem_iff
theorem Znq {a b:List Int}(h:a.length < b.length):leL (keyL a) (keyL b):=by
 refine leL.of ?_
 unfold keyL
 simp only [ltL]
 rw [if_neg (by omega)]
 exact decide_eq_true (by omega)
theorem Zl2 {n:Int}{a b:List Int}(h:leL a b):leL (n::a) (n::b):=by
 unfold leL at h ⊢
 simp only [ltL,if_true]
 exact h
theorem ZhJ {T : List (List Int)}{n s : Nat}(G : Grp T n s)(few : Few T n s) : ∃ Q, Za1 [tabD T] = some (tabD Q) ∧ Q.Nodup ∧ (∀ r, r ∈ Q ↔ Sg T n s r) ∧ Q.Pairwise fun a b => leL (keyL a) (keyL b) := by
  have hT := G.tab
  have hn := hT.top
  have hlm := Jp
  have key : wp ZcX (enter 8 [tabD T]) (fun o _ => ∃ Q, o = .rt (tabD Q) ∧ Q.Nodup ∧ (∀ r, r ∈ Q ↔ Sg T n s r) ∧ Q.Pairwise fun a b => leL (keyL a) (keyL b)) := by
    refine wp_seq (ZG (Jl ((YM rfl).trans (Zik G)) ?_))
    refine wp_seq (ZG (evR.ev (Zkc (r := upto n) (fun x => decide (x ≠ (s : Int))) (fun x => x) (Zeu (JH hT rfl) (by omega)) (by rw [JW]; omega) (fun x hx => Zoy (Jj rfl (Jj rfl rfl))) (fun x hx _ => Jj rfl rfl) ?_)))
    rw [List.map_id']
    generalize hO : (upto n).filter (fun x => decide (x ≠ (s : Int))) = O
    have hOu : O.Pairwise (· < ·) := by rw [← hO]; exact (Zdm n).filter _
    have hOm : ∀ x, x ∈ O ↔ El n x ∧ x ≠ s := fun x => by rw [← hO, List.mem_filter, Jk, decide_eq_true_eq]; exact Iff.rfl
    have hOl : O.length ≤ 12 := by
      have := List.length_filter_le (fun x => decide (x ≠ (s : Int))) (upto n)
      rw [hO, JW] at this; omega
    refine wp_seq (ZG (Jl (d := tabD []) rfl ?_))
    have e2 : eAdd (eF1 fLen (eVar 0)) (eC (.int 1)) [.sh (tabD T), .sh (.int s), .sh (rowD O), .un, .sh (tabD []), .un, .un, .un] = some (.int ((n : Int) + 1)) := (Zma (P := (· = (n : Int) + 1)) (Jj (JH hT rfl) (Jj rfl rfl))).eq
    refine wp_seq (Zd4 (ds := Yg 1 n) (fun k e => ∃ Q x y z, Q.Nodup ∧ (∀ r, r ∈ Q ↔ Sg T n s r ∧ r.length ≤ k) ∧ (Q.Pairwise fun a b => leL (keyL a) (keyL b)) ∧ e = [.sh (tabD T), .sh (.int s), .sh (rowD O), .un, .sh (tabD Q), x, y, z]) (ZmV rfl e2 (by omega)) ⟨[], _, _, _, by simp, fun r => ⟨fun h => (by cases h), fun h => (by have := h.1.pos; omega)⟩, by simp, rfl⟩ (fun k d e hd he => ?_) (fun e he => ?_))
    · obtain ⟨Q, _, _, _, nd, mem, up, rfl⟩ := he
      have hk : k < n := by have := (List.getElem?_eq_some_iff.mp hd).1; rwa [Zm] at this
      rw [JF hk] at hd
      injection hd with hd
      subst hd
      have hsz : (1 : Int) + (k : Nat) = ((k + 1 : Nat) : Int) := by omega
      rw [hsz]
      refine ⟨_, rfl, ?_⟩
      have hQl : Q.length < 64 := few Q nd fun r hr => ((mem r).mp hr).1
      refine ZdB (Zii (Zjm (Jj (JH hT rfl) (Jj rfl ⟨by omega, Jj rfl ⟨fun h => ?_, fun h => ?_⟩⟩))))
      · obtain ⟨f, ef, fnd, ffl, fm⟩ := Zhq hOu hOl k (by omega)
        have key1 : ∀ r ∈ f, ∀ x, x ∈ srt ([(s : Int)] ++ r) ↔ x = s ∨ x ∈ r := fun r hr x => by rw [Zju]; simp
        have hup : ∀ r ∈ f, (srt ([(s : Int)] ++ r)).Pairwise (· < ·) := fun r hr => by
          obtain ⟨h1, h2, h3⟩ := (fm r).mp hr
          refine ZcZ (ZcG _) ((Yu _).nodup_iff.mpr ?_)
          rw [List.singleton_append, List.nodup_cons]
          exact ⟨fun hs => ((hOm _).mp (h2 _ hs)).2 rfl, h1.imp fun {a b} h => by omega⟩
        have hel : ∀ r ∈ f, ∀ x ∈ srt ([(s : Int)] ++ r), El n x := fun r hr x hx => by
          rcases (key1 r hr x).mp hx with rfl | hx
          · exact G.s
          · exact ((hOm x).mp (((fm r).mp hr).2.1 x hx)).1
        have hln : ∀ r ∈ f, (srt ([(s : Int)] ++ r)).length = k + 1 := fun r hr => by
          rw [(Yu _).length_eq, List.length_append, ((fm r).mp hr).2.2]; simp; omega
        have hnd2 : (f.map fun r => srt ([(s : Int)] ++ r)).Nodup := ZfV fnd fun a ha b hb e => by
          refine ZaP ((fm a).mp ha).1 ((fm b).mp hb).1 fun x => ?_
          have hx : x = s ∨ x ∈ a ↔ x = s ∨ x ∈ b := by rw [← key1 a ha x, ← key1 b hb x, e]
          have na : x ∈ a → x ≠ s := fun h => ((hOm x).mp (((fm a).mp ha).2.1 x h)).2
          have nb : x ∈ b → x ≠ s := fun h => ((hOm x).mp (((fm b).mp hb).2.1 x h)).2
          exact ⟨fun h => (hx.mp (.inr h)).resolve_left (na h), fun h => (hx.mpr (.inr h)).resolve_left (nb h)⟩
        have ek : e2I iSub (eVar 5) (eC (.int 1)) [.sh (tabD T), .sh (.int s), .sh (rowD O), .un, .sh (tabD Q), .sh (.int ((k + 1 : Nat) : Int)), ‹Sl›, ‹Sl›] = some (.int k) := by
          show some (D.int _) = _
          congr 2
          omega
        refine wp_seq (ZG (evT.ev (ZjD (T := f) (fun r => srt ([(s : Int)] ++ r)) (Zcd ((Ju rfl (ZnO (P := (· = (k : Int))) (Jj rfl (Jj rfl (by omega)))).eq).trans ef)) (by omega) (fun r hr => ?_) ?_)))
        · have := ((fm r).mp hr).2.2
          exact ZcD (ZgG (ZfE (Jj rfl (Zu rfl ⟨by simp; omega, by simp; omega, rfl⟩))))
        · have hfilt : ∀ q, q ∈ (f.map fun r => srt ([(s : Int)] ++ r)).filter (Zb3 T) ↔ Sg T n s q ∧ q.length = k + 1 := fun q => by
            rw [List.mem_filter, List.mem_map, Zea]
            constructor
            · rintro ⟨⟨r, hr, rfl⟩, hc⟩
              exact ⟨⟨⟨hel r hr, hup r hr⟩, (key1 r hr _).mpr (.inl rfl), hc⟩, hln r hr⟩
            · rintro ⟨hS, hl⟩
              refine ⟨⟨q.filter fun x => decide (x ≠ (s : Int)), (fm _).mpr ⟨hS.rs.up.filter _, fun x hx => ?_, ?_⟩, ?_⟩, hS.cls⟩
              · rw [List.mem_filter, decide_eq_true_eq] at hx
                exact (hOm x).mpr ⟨hS.rs.el x hx.1, hx.2⟩
              · have h1 : (q.filter fun x => decide (x = (s : Int))).length = 1 := Ze6 hS.rs.nd hS.rest fun y _ => decide_eq_true_iff
                have h2 : ∀ l : List Int, (l.filter fun x => decide (x = (s : Int))).length + (l.filter fun x => decide (x ≠ (s : Int))).length = l.length := by
                  intro l
                  induction l with
                  | nil => rfl
                  | cons a l ih =>
                    by_cases ha : a = s
                    · simp [List.filter_cons, ha] at ih ⊢; omega
                    · simp [List.filter_cons, ha] at ih ⊢; omega
                have := h2 q
                omega
              · refine ZaP (ZcZ (ZcG _) ((Yu _).nodup_iff.mpr ?_)) hS.rs.up fun x => ?_
                · rw [List.singleton_append, List.nodup_cons]
                  exact ⟨fun hs => by rw [List.mem_filter, decide_eq_true_eq] at hs; exact hs.2 rfl, hS.rs.nd.filter _⟩
                · rw [Zju, List.singleton_append, List.mem_cons, List.mem_filter, decide_eq_true_eq]
                  constructor
                  · rintro (rfl | h)
                    · exact hS.rest
                    · exact h.1
                  · intro h
                    by_cases e : x = s
                    · exact .inl e
                    · exact .inr ⟨h, e⟩
          have hfnd : ((f.map fun r => srt ([(s : Int)] ++ r)).filter (Zb3 T)).Nodup := hnd2.filter _
          have hfl := few _ hfnd fun q hq => ((hfilt q).mp hq).1
          refine ZG (evT.ev (Zjc (Z8 rfl (ZhB (Zgi (T := f.map fun r => srt ([(s : Int)] ++ r)) (Zb3 T) (fun r => r) (Zcd rfl) (by rw [List.length_map]; omega) (fun q hq => ?_) (fun q hq _ => Zu rfl rfl) ⟨?_, ?_, ?_⟩)))))
          · obtain ⟨r, hr, rfl⟩ := List.mem_map.mp hq
            exact tv_B (Jl ((Ju rfl rfl).trans (ZiI hT (hel r hr))) ⟨_, rfl, rfl⟩)
          · rw [List.map_id']; exact hfl
          · rw [List.map_id', (ZR _ _).length_eq]; omega
          · rw [List.map_id']
            refine ⟨_, _, _, _, ?_, fun r => ?_, ?_, rfl⟩
            · rw [List.nodup_append]
              refine ⟨nd, (ZR _ _).nodup_iff.mpr hfnd, fun a ha b hb e => ?_⟩
              subst e
              have h1 := ((mem a).mp ha).2
              have h2 := ((hfilt a).mp ((ZR _ _).mem_iff.mp hb)).2
              omega
            · rw [List.mem_append, mem, (ZR _ _).mem_iff, hfilt]
              constructor
              · rintro (⟨h1, h2⟩ | ⟨h1, h2⟩)
                · exact ⟨h1, by omega⟩
                · exact ⟨h1, by omega⟩
              · rintro ⟨h1, h2⟩
                rcases Nat.lt_or_ge k r.length with h3 | h3
                · exact .inr ⟨h1, by omega⟩
                · exact .inl ⟨h1, h3⟩
            · rw [List.pairwise_append]
              refine ⟨up, List.Pairwise.imp_of_mem (fun {a b} ha hb h => ?_) (ZeO (fun r => r) _), fun a ha b hb => Znq ?_⟩
              · have h1 := ((hfilt a).mp ((ZR _ _).mem_iff.mp ha)).2
                have h2 := ((hfilt b).mp ((ZR _ _).mem_iff.mp hb)).2
                unfold keyL
                rw [h1, h2]
                exact Zl2 h
              · have h1 := ((mem a).mp ha).2
                have h2 := ((hfilt b).mp ((ZR _ _).mem_iff.mp hb)).2
                omega
      · have h : ¬ ((n : Int) % ((k + 1 : Nat) : Int) = 0) := by simpa using h
        refine Zcm ⟨Q, _, _, _, nd, fun r => ?_, up, rfl⟩
        rw [mem]
        constructor
        · rintro ⟨h1, h2⟩; exact ⟨h1, by omega⟩
        · rintro ⟨h1, h2⟩
          refine ⟨h1, ?_⟩
          rcases Nat.lt_or_ge k r.length with h3 | h3
          · exfalso
            have e : r.length = k + 1 := by omega
            have := h1.dvd G
            rw [e] at this
            exact h (by rw [← Int.natCast_emod, this]; rfl)
          · exact h3
    · obtain ⟨Q, _, _, _, nd, mem, up, rfl⟩ := he
      rw [Zm] at mem
      exact JG (Jl rfl ⟨Q, rfl, nd, fun r => ⟨fun h => ((mem r).mp h).1, fun h => (mem r).mpr ⟨h, h.rs.len⟩⟩, up⟩)
  obtain ⟨o, e, h1, Q, rfl, h2⟩ := key
  exact ⟨Q, Jt rfl h1, h2⟩
end PV
set_option linter.all false
set_option Elab.async false
set_option maxHeartbeats 2000000
namespace PV
open PySem (Str)
theorem Zme {kvs:List (Int × Int)}(nd:(kvs.map (·.1)).Nodup){k v:Int}:dget kvs k=some v↔(k,v) ∈ kvs:=by
 induction kvs with
 | nil=>simp [dget]
 | cons p kvs ih =>
  simp only [List.map_cons,List.nodup_cons] at nd
  unfold dget
  rw [List.find?_cons]
  by_cases h:p.1=k
  ·rw [decide_eq_true h]
   simp only [Option.map_some,Option.some.injEq,List.mem_cons]
   constructor
   ·rintro rfl;exact .inl (by rw [← h])
   ·rintro (h' | h')
    ·rw [← h']
    ·exact absurd (List.mem_map.mpr ⟨_,h',h.symm⟩) nd.1
  ·rw [decide_eq_false h]
   rw [List.mem_cons]
   refine (ih nd.2).trans ⟨.inr,fun h'=>h'.resolve_left fun e=>h (by rw [← e])⟩
theorem ZeL {kvs:List (Int × Int)}{k:Int}:dget kvs k=none↔k ∉ kvs.map (·.1):=by
 unfold dget
 rw [Option.map_eq_none_iff,List.find?_eq_none]
 constructor
 ·intro h hm
  obtain ⟨p,hp,e⟩:=List.mem_map.mp hm
  exact h p hp (decide_eq_true e)
 ·intro h p hp e
  exact h (List.mem_map.mpr ⟨p,hp,of_decide_eq_true e⟩)
theorem Zl3 {kvs:List (Int × Int)}{k v:Int}(h:dget kvs k=none):dput kvs k v=kvs++[(k,v)]:=by
 unfold dput
 rw [if_neg]
 intro e
 rw [List.any_eq_true] at e
 obtain ⟨p,hp,e⟩:=e
 exact ZeL.mp h (List.mem_map.mpr ⟨p,hp,of_decide_eq_true e⟩)
structure Dk (n:Nat)(kvs:List (Int × Int)):Prop where
 nd:(kvs.map (·.1)).Nodup
 el:∀ p ∈ kvs,El n p.1∧El n p.2
theorem Dk.len {n:Nat}{kvs:List (Int × Int)}(h:Dk n kvs):kvs.length≤n:=by
 have:=Zgn (n:=n) h.nd fun x hx=>by
  obtain ⟨p,hp,rfl⟩:=List.mem_map.mp hx
  exact (h.el p hp).1
 rwa [List.length_map] at this
theorem Dk.snoc {n:Nat}{kvs:List (Int × Int)}(h:Dk n kvs){k v:Int}(hk:El n k)(hv:El n v)(hn:dget kvs k=none):Dk n (kvs++[(k,v)]):=by
 refine ⟨?_,fun p hp=>?_⟩
 ·rw [List.map_append,List.nodup_append]
  refine ⟨h.nd,by simp,fun a ha b hb=>?_⟩
  simp at hb;subst hb
  rintro rfl
  exact ZeL.mp hn ha
 ·rcases List.mem_append.mp hp with hp | hp
  ·exact h.el p hp
  ·simp at hp;subst hp;exact ⟨hk,hv⟩
noncomputable def Ag (g:Int→Int) (kvs:List (Int × Int)):Prop:=∀ p ∈ kvs,g p.1=p.2
theorem Ag.snoc {g:Int→Int}{kvs:List (Int × Int)}(h:Ag g kvs){k v:Int}(e:g k=v):Ag g (kvs++[(k,v)]):=fun p hp=>by
 rcases List.mem_append.mp hp with hp | hp
 ·exact h p hp
 ·simp at hp;subst hp;exact e
noncomputable def PreD (a b:List (Int × Int)):Prop:=∃ t,b=a++t
theorem PreD.mem {a b:List (Int × Int)}(h:PreD a b){p:Int × Int}(hp:p ∈ a):p ∈ b:=by obtain ⟨t,rfl⟩:=h;exact List.mem_append_left _ hp
theorem PreD.refl (a:List (Int × Int)):PreD a a:=⟨[],by simp⟩
theorem PreD.trans {a b c:List (Int × Int)}(h:PreD a b)(k:PreD b c):PreD a c:=by obtain ⟨t,rfl⟩:=h;obtain ⟨u,rfl⟩:=k;exact ⟨t++u,by simp⟩
theorem PreD.snoc (a:List (Int × Int))(p:Int × Int):PreD a (a++[p]):=⟨[p],rfl⟩
theorem PreD.le {a b:List (Int × Int)}(h:PreD a b):a.length≤b.length:=by obtain ⟨t,rfl⟩:=h;simp
theorem Znn {i:Nat}{env:Env}{Q:Out→Env→Prop}{kvs:List (Int × Int)}(h:env[i]?=some (.dc kvs))(k:Q .nx (env.set i (.sh (.dct kvs)))):wp (sFrz i) env Q:=⟨_,_,by simp only [sFrz,h],k⟩
theorem Zns {i:Nat}{a e:Ex}{env:Env}{Q:Out→Env→Prop}{kvs:List (Int × Int)}{x y:Int}(h:env[i]?=some (.dc kvs))(ha:a env=some (.int x))(he:e env=some (.int y))(hl:kvs.length≤1000)(k:Q .nx (env.set i (.dc (dput kvs x y)))):wp (ZdG i a e) env Q :=
 ⟨_,_,by simp only [ZdG,h,ha,he];rw [if_pos (by rw [Jp];omega)],k⟩
theorem ZnA {a b:Ex}{env:Env}{kvs:List (Int × Int)}{k v:Int}(ha:a env=some (.dct kvs))(hb:b env=some (.int k))(h:dget kvs k=some v):Zf5 a b env=some (.int v):=by
 simp only [Zf5,eF2,ha,hb,Zkk,h]
end PV
set_option linter.all false
set_option Elab.async false
set_option maxHeartbeats 2000000
namespace PV
open PySem (Str)
noncomputable def ZbE (T:List (List Int)) (r:List Int) (x:Int):List Int:=srt (r.map fun y=>tg T y x)
theorem Zkr {T:List (List Int)}{r:List Int}{x z:Int}:z ∈ ZbE T r x↔∃ y ∈ r,tg T y x=z:=by
 unfold ZbE
 rw [(Yu _).mem_iff,List.mem_map]
noncomputable def Loose (T:List (List Int)) (n:Nat) (r:List Int):Prop:=∀ x,El n x→Je T r x=ZbE T r x
noncomputable def Js (T:List (List Int)) (n:Nat) (r:List Int):Bool:=(upto n).all fun x=>decide (Je T r x=ZbE T r x)
theorem Zgd {T:List (List Int)}{n:Nat}{r:List Int}:Js T n r=true↔Loose T n r:=by
 simp only [Js,List.all_eq_true,decide_eq_true_eq]
 exact ⟨fun h x hx=>h x (Jk.mpr hx),fun h x hx=>h x (Jk.mp hx)⟩
noncomputable def Yj (T:List (List Int)) (r:List Int) (n:Nat):List Int:=(upto n).filter fun x=>ldS T r x
theorem Z2 {T:List (List Int)}{r:List Int}{n:Nat}:(Yj T r n).length=(Zc T r n).length:=by unfold Yj Zc;rw [List.length_map]
theorem ZdA {T:List (List Int)}{r:List Int}{n i:Nat}(hi:i < (Yj T r n).length):(Zc T r n).getD i []=Je T r ((Yj T r n).getD i 0):=by
 unfold Zc
 show ((Yj T r n).map (Je T r)).getD i []=_
 simp [List.getD,hi]
theorem ZbV {T:List (List Int)}{r:List Int}{n i:Nat}(hi:i < (Yj T r n).length):El n ((Yj T r n).getD i 0)∧ldS T r ((Yj T r n).getD i 0)=true:=by
 have:(Yj T r n).getD i 0 ∈ Yj T r n:=by
  rw [List.getD_eq_getElem?_getD,List.getElem?_eq_getElem hi];exact List.getElem_mem hi
 unfold Yj at this
 rw [List.mem_filter,Jk] at this
 exact this
structure Plc (T:List (List Int))(r:List Int)(n:Nat)(P:Int→Nat):Prop where
 lt:∀ x,El n x→P x < (Zc T r n).length
 at':∀ x,El n x→Je T r ((Yj T r n).getD (P x) 0)=Je T r x
theorem Zo3 {T:List (List Int)}{n s:Nat}{r:List Int}(G:Grp T n s)(h:Sg T n s r):∃ P,Plc T r n P:=by
 have ex:∀ x,∃ k:Nat,El n x→k < (Zc T r n).length∧Je T r ((Yj T r n).getD k 0)=Je T r x:=fun x=>by
  by_cases hx:El n x
  ·obtain ⟨z,hz,hl,e⟩:=h.lead G hx
   have hm:z ∈ Yj T r n:=List.mem_filter.mpr ⟨Jk.mpr hz,hl⟩
   obtain ⟨k,hk,ek⟩:=List.getElem_of_mem hm
   refine ⟨k,fun _=>⟨by rw [← Z2];exact hk,?_⟩⟩
   rw [List.getD_eq_getElem?_getD,List.getElem?_eq_getElem hk]
   show Je T r ((Yj T r n)[k])=_
   rw [ek,e]
  ·exact ⟨0,fun h=>absurd h hx⟩
 obtain ⟨P,hP⟩:=Classical.axiomOfChoice ex
 exact ⟨P,fun x hx=>(hP x hx).1,fun x hx=>(hP x hx).2⟩
section
variable {T:List (List Int)} {n s:Nat} {r:List Int} {P:Int→Nat}
theorem Plc.uniq (G:Grp T n s)(h:Sg T n s r)(p:Plc T r n P){x:Int}(hx:El n x){k:Nat}(hk:k < (Zc T r n).length)(e:Je T r ((Yj T r n).getD k 0)=Je T r x):k=P x:=by
 have h1:=p.lt x hx
 rw [← Z2] at h1 hk
 have e2:=Zh3 (ZbV hk).2 (ZbV h1).2 (e.trans (p.at' x hx).symm)
 have nd:(Yj T r n).Nodup:=(Zgz n).filter _
 simp [List.getD,hk,h1] at e2
 exact (List.getElem_inj nd).mp e2
theorem Plc.ZkQ (G:Grp T n s)(h:Sg T n s r)(p:Plc T r n P){x:Int}(hx:El n x){k:Nat}(hk:k < (Zc T r n).length)(hm:x ∈ (Zc T r n).getD k []):k=P x:=by
 rw [← Z2] at hk
 rw [ZdA hk] at hm
 exact p.uniq G h hx (by rw [← Z2];exact hk) (h.ZeS G (ZbV hk).1 hm).symm
theorem Plc.mem (G:Grp T n s)(h:Sg T n s r)(p:Plc T r n P){x:Int}(hx:El n x):x ∈ (Zc T r n).getD (P x) []:=by
 have h1:=p.lt x hx
 rw [ZdA (by rw [Z2];exact h1),p.at' x hx]
 exact h.Zdi G hx
theorem Plc.eq_iff (G:Grp T n s)(h:Sg T n s r)(p:Plc T r n P){x y:Int}(hx:El n x)(hy:El n y):P x=P y↔Je T r x=Je T r y:=by
 constructor
 ·intro e
  rw [← p.at' x hx,← p.at' y hy,e]
 ·intro e
  exact p.uniq G h hy (p.lt x hx) ((p.at' x hx).trans e)
theorem Plc.lead (G:Grp T n s)(h:Sg T n s r)(p:Plc T r n P){k:Nat}(hk:k < (Zc T r n).length):P ((Yj T r n).getD k 0)=k:=by
 have hk':k < (Yj T r n).length:=by rw [Z2];exact hk
 exact (p.uniq G h (ZbV hk').1 hk rfl).symm
theorem Loose.mul (G:Grp T n s)(h:Sg T n s r)(hl:Loose T n r){x y x' y':Int}(hx:El n x)(hy:El n y)(hx':El n x')(hy':El n y')(e1:Je T r x=Je T r x')(e2:Je T r y=Je T r y'):Je T r (tg T x y)=Je T r (tg T x' y'):=by
 have m1:x ∈ Je T r x':=by rw [← e1];exact h.Zdi G hx
 have m2:y ∈ Je T r y':=by rw [← e2];exact h.Zdi G hy
 obtain ⟨u,hu,eu⟩:=ZP.mp m1
 obtain ⟨v,hv,ev⟩:=ZP.mp m2
 have hue:=h.rs.el u hu
 have hve:=h.rs.el v hv
 have m3:tg T u y' ∈ Je T r y':=by rw [hl y' hy'];exact Zkr.mpr ⟨u,hu,rfl⟩
 obtain ⟨w,hw,ew⟩:=ZP.mp m3
 have hwe:=h.rs.el w hw
 refine h.ZeS G (G.bd hx' hy') (ZP.mpr ⟨tg T w v,h.cls w hw v hv,?_⟩)
 rw [← eu,← ev,G.as hx' hue (G.bd hy' hve),← G.as hue hy' hve,← ew,G.as hy' hwe hve,← G.as hx' hy' (G.bd hwe hve)]
noncomputable def quoL (T:List (List Int)) (r:List Int) (n:Nat) (P:Int→Nat):List (List Int):=(Yj T r n).map fun a=>(Yj T r n).map fun b=>((P (tg T a b):Nat):Int)
theorem Zob (G:Grp T n s)(h:Sg T n s r)(p:Plc T r n P):Tab (quoL T r n P) (Zc T r n).length:=by
 have hn:=G.tab.top
 have hm:=h.Zbe G
 have hp:=h.pos
 have hl:=ZaA T r n
 refine ⟨by unfold quoL;rw [List.length_map,Z2],fun q hq=>?_,fun q hq x hx=>?_,?_,by omega⟩
 ·obtain ⟨a,_,rfl⟩:=List.mem_map.mp hq
  rw [List.length_map,Z2]
 ·obtain ⟨a,ha,rfl⟩:=List.mem_map.mp hq
  obtain ⟨b,hb,rfl⟩:=List.mem_map.mp hx
  have ha:=Jk.mp (List.mem_filter.mp ha).1
  have hb:=Jk.mp (List.mem_filter.mp hb).1
  have:=p.lt _ (G.bd ha hb)
  omega
 ·have:=p.lt _ G.s
  omega
theorem Zl4 (G:Grp T n s):Sg T n s (upto n):=⟨⟨fun x hx=>Jk.mp hx,Zdm n⟩,Jk.mpr G.s,fun a ha b hb=>Jk.mpr (G.bd (Jk.mp ha) (Jk.mp hb))⟩
end
end PV
set_option linter.all false
set_option Elab.async false
set_option maxHeartbeats 2000000
namespace PV
open PySem (Str)
theorem Zf0 {T:List (List Int)}{n s:Nat}(G:Grp T n s){r:List Int}(h:Sg T n s r){x:Int}(hx:El n x):YS [tabD T,rowD r,.int x]=some (rowD (ZbE T r x)):=by
 have hn:=G.tab.top
 have hl:=h.rs.len
 refine Y7 rfl (JG (evR.ev (Zix (ZcD (Zde (r:=r) (fun y=>tg T y x) (Zat rfl) (by rw [Jp];omega) (fun y hy=>?_) ⟨by rw [List.length_map];omega,rfl⟩)))))
 exact Zbl G.tab rfl (Jj rfl (Jj rfl ⟨h.rs.el y hy,hx,rfl⟩))
theorem Zca {T:List (List Int)}{n s:Nat}(G:Grp T n s){r:List Int}(h:Sg T n s r):Yr [tabD T,rowD r]=some (.bl (Js T n r)):=by
 have hn:=G.tab.top
 refine Y7 rfl (JG ?_)
 obtain ⟨d,h1,k,rfl,h2⟩:=Zgs (i:=2) (e:=eB (tEq (Ye Jz [(eVar 0),(eVar 1),(eVar 2)]) (Ye YS [(eVar 0),(eVar 1),(eVar 2)]))) (env:=enter 3 [tabD T,rowD r]) (it:=iRng (eF1 fLen (eVar 0))) (P:=(·=Js T n r)) (r:=upto n) (fun x=>decide (Je T r x=ZbE T r x)) (Zeu (JH G.tab rfl) (by omega)) (by rw [JW,Jp];omega) (fun x hx=>by
  have hx:=Jk.mp hx
  exact ev_B (ZkD (Zu ((Zeo rfl rfl rfl).trans (Zdn G h hx)) (Zu ((Zeo rfl rfl rfl).trans (Zf0 G h hx)) rfl)))) rfl
 exact ⟨_,h1,by subst h2;rfl⟩
theorem Zi2 {T:List (List Int)}{n s:Nat}(G:Grp T n s){r:List Int}(h:Sg T n s r):ZbB [tabD T,rowD r]=some (.bl (Js T n r)) :=
 Y7 rfl (wp_seq (Zhy (Jl ((YM rfl).trans (Zb1 G)) (wp_seq (Zhy (Jl ((Ju rfl rfl).trans (Zb0 G h)) (JG (Jl ((Ju rfl rfl).trans (Zca G h)) rfl))))))))
theorem ZnS {i:Nat}{env:Env}{Q:Out→Env→Prop}(k:Q .nx (env.set i (.dc []))):wp (Zks i) env Q:=⟨_,_,rfl,k⟩
theorem Zmb {i j:Nat}{e:Ex}{R:List (List Int)}{b:St}{env:Env}{Q:Out→Env→Prop}(I:Nat→Env→Prop)(hit:e env=some (tabD R))(h0:I 0 env)
  (step:∀ (k:Nat) en q,R[k]?=some q→I k en→wp b ((en.set i (.sh (.int k))).set j (.sh (rowD q))) (lps (I (k + 1)) Q)) (h1:∀ en,I R.length en→Q .nx en):wp (sFor (g2 i j) (ZfH e) b) env Q:=by
 have el:∀ (k:Nat) (xs:List D),(Zag k xs).length=xs.length:=by
  intro k xs
  induction xs generalizing k with
  | nil=>rfl
  | cons x xs ih=>simp [Zag,ih]
 have eg:∀ (k i:Nat) (xs:List D),(Zag k xs)[i]?=(xs[i]?).map fun d=>D.tup [.int ((k + i:Nat):Int),d]:=by
  intro k i xs
  induction xs generalizing k i with
  | nil=>simp [Zag]
  | cons x xs ih =>
   cases i with
   | zero=>simp [Zag]
   | succ i=>simp only [Zag,List.getElem?_cons_succ];rw [ih (k + 1) i];congr 2;funext d;congr 3;omega
 refine Zd4 I (ds:=Zag 0 (R.map rowD)) (by simp only [ZfH,hit,tabD]) h0 (fun k d en hd hI=>?_) (fun en hI=>h1 en (by rwa [el,List.length_map] at hI))
 rw [eg,List.getElem?_map] at hd
 cases hq:R[k]? with
 | none=>rw [hq] at hd;cases hd
 | some q =>
  rw [hq] at hd
  cases hd
  refine ⟨_,rfl,?_⟩
  have:=step k en q hq hI
  simpa using this
theorem Zes {T:List (List Int)}{n s:Nat}(G:Grp T n s){r:List Int}(h:Sg T n s r){P:Int→Nat}(p:Plc T r n P):JM [tabD T,tabD (Zc T r n)]=some (tabD (quoL T r n P)):=by
 have hT:=G.tab
 have hn:=hT.top
 have hlm:=Jp
 have hsl:=ZaA T r n
 refine Y7 rfl (wp_seq (ZnS ?_))
 refine wp_seq (Zmb (R:=Zc T r n) (fun k e=>∃ w z3 z4 z5,(w.map (·.1)).Nodup∧(∀ q ∈ w,El n q.1∧q.2=(P q.1:Int)∧P q.1 < k)∧(∀ x,El n x→P x < k→(x,(P x:Int)) ∈ w)∧e=[.sh (tabD T),.sh (tabD (Zc T r n)),.dc w,z3,z4,z5,.un,.un,.un,.un]) rfl ⟨[],_,_,_,by simp,by simp,fun x _ hx=>by omega,rfl⟩ (fun k e q hq he=>?_) (fun e he=>?_))
 ·obtain ⟨w,_,_,_,nd,hw,hc,rfl⟩:=he
  have hk:k < (Zc T r n).length:=(List.getElem?_eq_some_iff.mp hq).1
  have eq:(Zc T r n).getD k []=q:=by rw [List.getD_eq_getElem?_getD,hq];rfl
  have hk':k < (Yj T r n).length:=by rw [Z2];exact hk
  have qs:q=Je T r ((Yj T r n).getD k 0):=by rw [← eq,ZdA hk']
  have qel:∀ x ∈ q,El n x∧P x=k:=fun x hx=>by
   rw [qs] at hx
   have hE:=h.ZeE G (ZbV hk').1 hx
   exact ⟨hE,(p.ZkQ G h hE hk (by rw [eq,qs];exact hx)).symm⟩
  have qnd:q.Nodup:=by rw [qs];exact (h.ZfW G (ZbV hk').1).imp fun {a b} h=>by omega
  refine ZaR (r:=q) (fun j e=>∃ w z5,(w.map (·.1)).Nodup∧(∀ y ∈ w,El n y.1∧y.2=(P y.1:Int)∧(P y.1 < k∨y.1 ∈ q.take j))∧(∀ x,El n x→P x < k→(x,(P x:Int)) ∈ w)∧(∀ x ∈ q.take j,(x,(k:Int)) ∈ w)∧e=[.sh (tabD T),.sh (tabD (Zc T r n)),.dc w,.sh (.int k),.sh (rowD q),z5,.un,.un,.un,.un]) (Zat rfl) ⟨w,_,nd,fun y hy=>⟨(hw y hy).1,(hw y hy).2.1,.inl (hw y hy).2.2⟩,hc,by simp,rfl⟩ (fun j e x hx he=>?_) (fun e he=>?_)
  ·obtain ⟨w,_,nd,hw,hc,hc2,rfl⟩:=he
   have hxq:=List.mem_of_getElem? hx
   obtain ⟨xE,xP⟩:=qel x hxq
   have hno:dget w x=none:=by
    rw [ZeL]
    intro hm
    obtain ⟨y,hy,rfl⟩:=List.mem_map.mp hm
    rcases (hw y hy).2.2 with h1 | h1
    ·omega
    ·obtain ⟨i,hi,ei⟩:=List.getElem_of_mem h1
     rw [List.length_take] at hi
     rw [List.getElem_take] at ei
     obtain ⟨hj,ej⟩:=List.getElem?_eq_some_iff.mp hx
     have:=(List.getElem_inj qnd).mp (ei.trans ej.symm)
     omega
   have hwl:w.length≤n:=by
    have:=Zgn (n:=n) nd fun z hz=>by
     obtain ⟨y,hy,rfl⟩:=List.mem_map.mp hz
     exact (hw y hy).1
    rwa [List.length_map] at this
   refine Zns (kvs:=w) rfl rfl rfl (by omega) ?_
   rw [Zl3 hno]
   have tk:q.take (j + 1)=q.take j++[x]:=by rw [List.take_add_one,hx];rfl
   refine ⟨_,_,?_,fun y hy=>?_,fun z hz1 hz2=>List.mem_append_left _ (hc z hz1 hz2),fun z hz=>?_,rfl⟩
   ·rw [List.map_append,List.nodup_append]
    refine ⟨nd,by simp,fun a ha b hb=>?_⟩
    simp at hb;subst hb
    rintro rfl
    exact ZeL.mp hno ha
   ·rw [tk]
    rcases List.mem_append.mp hy with hy | hy
    ·refine ⟨(hw y hy).1,(hw y hy).2.1,?_⟩
     rcases (hw y hy).2.2 with h1 | h1
     ·exact .inl h1
     ·exact .inr (List.mem_append_left _ h1)
    ·simp at hy;subst hy
     exact ⟨xE,by rw [xP],.inr (by simp)⟩
   ·rw [tk] at hz
    rcases List.mem_append.mp hz with hz | hz
    ·exact List.mem_append_left _ (hc2 z hz)
    ·simp at hz;subst hz;simp
  ·obtain ⟨w,_,nd,hw,hc,hc2,rfl⟩:=he
   rw [List.take_length] at hw hc2
   refine ⟨w,_,_,_,nd,fun y hy=>⟨(hw y hy).1,(hw y hy).2.1,?_⟩,fun x hx1 hx2=>?_,rfl⟩
   ·rcases (hw y hy).2.2 with h1 | h1
    ·omega
    ·have:=(qel _ h1).2;omega
   ·rcases Nat.lt_or_ge (P x) k with h1 | h1
    ·exact hc x hx1 h1
    ·have e1:P x=k:=by omega
     have hm:=p.mem G h hx1
     rw [e1,eq] at hm
     rw [e1]
     exact hc2 x hm
 ·obtain ⟨w,z3,z4,z5,nd,hw,hc,rfl⟩:=he
  have get:∀ x,El n x→dget w x=some (P x:Int):=fun x hx=>(Zme nd).mpr (hc x hx (p.lt x hx))
  refine wp_seq (ZG (evR.ev (Zh0 (T:=Zc T r n) (fun _=>true) (fun q=>q.getD 0 0) (Zcd rfl) (by omega) (fun q hq=>ZcW rfl rfl) (fun q hq _=>Zdk (Zu rfl (Jj rfl ⟨⟨by omega,?_⟩,rfl⟩))) ?_)))
  ·rw [Zdl hq];have:=h.pos;omega
  have eh:((Zc T r n).filter fun _=>true).map (fun q=>q.getD 0 0)=Yj T r n:=by
   rw [List.filter_eq_self.mpr (fun _ _=>rfl)]
   unfold Zc
   rw [List.map_map]
   conv=>rhs;rw [← List.map_id (Yj T r n)]
   refine List.map_congr_left fun x hx=>?_
   have:=(List.mem_filter.mp hx).2
   exact of_decide_eq_true this
  rw [eh]
  have hll:(Yj T r n).length≤n:=by rw [Z2];exact hsl
  have lel:∀ x ∈ Yj T r n,El n x:=fun x hx=>Jk.mp (List.mem_filter.mp hx).1
  refine wp_seq (ZkO (Jl rfl ⟨[],rfl,?_⟩))
  refine wp_seq (ZaR (r:=Yj T r n) (fun k e=>∃ z4 z8 z9 sl,(sl=.dc w∨sl=.sh (.dct w))∧e=[.sh (tabD T),.sh (tabD (Zc T r n)),sl,z3,z4,z5,.sh (rowD (Yj T r n)),.nw ((((Yj T r n).take k).map fun a=>(Yj T r n).map fun b=>((P (tg T a b):Nat):Int)).map rowD),z8,z9]) (Zat rfl) ⟨z4,.un,.un,_,.inl rfl,rfl⟩ (fun k e x hx he=>?_) (fun e he=>?_))
  ·obtain ⟨z4,z8,z9,sl,hsl',rfl⟩:=he
   have hxm:=List.mem_of_getElem? hx
   have hxe:=lel x hxm
   have fz:wp (sFrz 2) [.sh (tabD T),.sh (tabD (Zc T r n)),sl,z3,z4,z5,.sh (rowD (Yj T r n)),.nw ((((Yj T r n).take k).map fun a=>(Yj T r n).map fun b=>((P (tg T a b):Nat):Int)).map rowD),.sh (.int x),z9] (fun o e=>o=.nx∧e=[.sh (tabD T),.sh (tabD (Zc T r n)),.sh (.dct w),z3,z4,z5,.sh (rowD (Yj T r n)),.nw ((((Yj T r n).take k).map fun a=>(Yj T r n).map fun b=>((P (tg T a b):Nat):Int)).map rowD),.sh (.int x),z9]):=by
    rcases hsl' with rfl | rfl
    ·exact Znn (kvs:=w) rfl ⟨rfl,rfl⟩
    ·exact ZjG rfl ⟨rfl,rfl⟩
   refine wp_seq (fz.mono fun o e h'=>?_)
   obtain ⟨rfl,rfl⟩:=h'
   refine Zi9 (ds:=(((Yj T r n).take k).map fun a=>(Yj T r n).map fun b=>((P (tg T a b):Nat):Int)).map rowD) rfl (evR.ev (Zix (Zde (r:=Yj T r n) (fun b=>((P (tg T x b):Nat):Int)) (Zat rfl) (by omega) (fun b hb=>?_) ⟨by rw [List.length_map,List.length_map,List.length_take];omega,?_⟩)))
   ·have hbe:=lel b hb
    obtain ⟨v,hv1,hv2⟩:=Zbl (P:=(·=tg T x b)) (e0:=eVar 0) (e1:=eVar 8) (e2:=eVar 9) (env:=[Sl.sh (tabD T),.sh (tabD (Zc T r n)),.sh (.dct w),z3,z4,z5,.sh (rowD (Yj T r n)),.nw ((((Yj T r n).take k).map fun a=>(Yj T r n).map fun b=>((P (tg T a b):Nat):Int)).map rowD),.sh (.int x),.sh (.int b)]) hT rfl (Jj rfl (Jj rfl ⟨hxe,hbe,rfl⟩))
    rw [hv2] at hv1
    exact Jj (ZnA rfl hv1 (get _ (G.bd hxe hbe))) rfl
   ·refine ⟨z4,.sh (.int x),z9,_,.inr rfl,?_⟩
    have tk:(Yj T r n).take (k + 1)=(Yj T r n).take k++[x]:=by rw [List.take_add_one,hx];rfl
    simp only [tk,List.map_append]
    rfl
  ·obtain ⟨z4,z8,z9,sl,hsl',rfl⟩:=he
   rw [List.take_length]
   exact wp_seq (Zjx rfl (JG (Jl rfl rfl)))
end PV
set_option linter.all false
set_option Elab.async false
set_option maxHeartbeats 2000000
namespace PV
open PySem (Str)
theorem Zc0 {a b:Sx}{env e1:Env}(h:a env=some (.ok .nx,e1)):xSeq a b env=b e1:=by unfold xSeq;rw [h]
theorem ZnQ {a b:Sx}{env e1:Env}{c:Nat}(h:a env=some (.ex c,e1)):xSeq a b env=some (.ex c,e1):=by unfold xSeq;rw [h]
theorem Zdp {g:St}{env e1:Env}{o:Out}(h:g env=some (o,e1)):xOf g env=some (.ok o,e1):=by unfold xOf;rw [h]
theorem Zpf {t:Tx}{a b:Sx}{env:Env}(h:t env=some true):xIf t a b env=a env:=by unfold xIf;rw [h]
theorem Zpn {t:Tx}{a b:Sx}{env:Env}(h:t env=some false):xIf t a b env=b env:=by unfold xIf;rw [h]
theorem Znu {p n:Nat}{g:Sx}{ds:List D}{c:Nat}{e1:Env}(hp:ds.length=p)(h:g (enter n ds)=some (.ex c,e1)):runX p n g ds=some (.inr c):=by unfold runX;rw [if_pos hp,h]
theorem Zou {p n:Nat}{g:Sx}{ds:List D}{d:D}{e1:Env}(hp:ds.length=p)(h:g (enter n ds)=some (.ok (.rt d),e1)):runX p n g ds=some (.inl d):=by unfold runX;rw [if_pos hp,h]
end PV
set_option linter.all false
set_option Elab.async false
set_option maxHeartbeats 2000000
namespace PV
open PySem (Str)
theorem Znt {i:Nat}{a e:Ex}{env:Env}{Q:Out→Env→Prop}{r:List Int}{x v:Int}(hi:env[i]?=some (.ow (r.map .int)))(ha:a env=some (.int x))(hx:El r.length x)(he:e env=some (.int v))(h:Q .nx (env.set i (.ow ((r.set x.toNat v).map .int)))):wp (sPut i a e) env Q:=by
 refine ⟨_,_,?_,h⟩
 have h1:=hx.1
 have h2:=hx.2
 have e1:ixN (r.map D.int).length x=some x.toNat:=by unfold ixN;rw [List.length_map,if_pos h1,if_pos h2]
 simp only [sPut,hi,ha,he,e1,List.map_set]
theorem Zia {r:List Int}{i j:Nat}{v:Int}(hi:i < r.length):(r.set i v).getD j 0=if i=j then v else r.getD j 0:=by
 simp only [List.getD_eq_getElem?_getD,List.getElem?_set]
 split
 ·rename_i h;subst h;simp [hi]
 ·rfl
theorem ZnK {q:List Int}{a:Ex}{env:Env}(h:a env=some (rowD q))(hq:0 < q.length):eIx a (eC (.int (-1))) env=some (.int (q.getD (q.length - 1) 0)):=by
 have e1:ixN (q.map D.int).length (-1)=some (q.length - 1):=by
  unfold ixN
  rw [List.length_map,if_neg (by omega),if_pos (by omega)]
  congr 1;omega
 have e2:(q.map D.int)[q.length - 1]?=some (.int (q.getD (q.length - 1) 0)):=by
  rw [List.getElem?_map,List.getElem?_eq_getElem (by omega),List.getD_eq_getElem?_getD,List.getElem?_eq_getElem (by omega)];rfl
 simp only [eIx,eF2,h,eC,rowD,fIx,atD,e1,Option.bind_some,e2]
theorem Zin {T:List (List Int)}{n s:Nat}(G:Grp T n s){r:List Int}(h:Sg T n s r)(hl:Loose T n r){P:Int→Nat}(p:Plc T r n P):Za3 [tabD T,tabD (Zc T r n)]=some (tabD (quoL T r n P)):=by
 have hT:=G.tab
 have hn:=hT.top
 have hTl:=hT.len
 have hlm:=Jp
 have hsl:=ZaA T r n
 refine Y7 rfl (wp_seq (Zjg (Zh0 (T:=T) (fun _=>true) (fun _=>0) (Zcd rfl) (by omega) (fun _ _=>ZcW rfl rfl) (fun _ _ _=>Jj rfl rfl) ?_)))
 refine wp_seq (ZeJ (n:=(Zc T r n).length) (fun k e=>∃ (w:List Int) (z3 z4:Sl),w.length=n∧(∀ x,El n x→P x < k→w.getD x.toNat 0=P x)∧e=[.sh (tabD T),.sh (tabD (Zc T r n)),.ow (w.map .int),z3,z4,.un,.un]) (JT (Zfv (P:=(·=((Zc T r n).length:Int))) (Z8 rfl rfl)).eq (by omega)) ⟨_,_,_,?_,fun x _ hx=>by omega,rfl⟩ (fun k e hk he=>?_) (fun e he=>?_))
 ·rw [List.length_map,List.filter_eq_self.mpr (fun _ _=>rfl)];exact hTl
 ·obtain ⟨w,z3,z4,hw,hc,rfl⟩:=he
  obtain ⟨q,hq⟩:∃ q,(Zc T r n)[k]?=some q:=⟨_,List.getElem?_eq_getElem hk⟩
  have eq:(Zc T r n).getD k []=q:=by rw [List.getD_eq_getElem?_getD,hq];rfl
  have hk':k < (Yj T r n).length:=by rw [Z2];exact hk
  have qs:q=Je T r ((Yj T r n).getD k 0):=by rw [← eq,ZdA hk']
  have qel:∀ x ∈ q,El n x∧P x=k:=fun x hx=>by
   rw [qs] at hx
   have hE:=h.ZeE G (ZbV hk').1 hx
   exact ⟨hE,(p.ZkQ G h hE hk (by rw [eq,qs];exact hx)).symm⟩
  refine ZaR (r:=q) (fun j e=>∃ (w:List Int) (z3:Sl),w.length=n∧(∀ x,El n x→P x < k→w.getD x.toNat 0=P x)∧(∀ x ∈ q.take j,w.getD x.toNat 0=k)∧e=[.sh (tabD T),.sh (tabD (Zc T r n)),.ow (w.map .int),z3,.sh (.int k),.un,.un]) (Zat ?_) ⟨w,z3,hw,hc,by simp,rfl⟩ (fun j e x hx he=>?_) (fun e he=>?_)
  ·obtain ⟨v,h1,h2⟩:=Zgp (P:=(·=q)) (e0:=eVar 1) (e1:=eVar 4) (env:=[Sl.sh (tabD T),.sh (tabD (Zc T r n)),.ow (w.map .int),z3,.sh (.int k),.un,.un]) (Z8 rfl (Jj rfl ⟨⟨by omega,by omega⟩,by rw [Int.toNat_natCast,eq]⟩))
   rw [h2] at h1;exact h1
  ·obtain ⟨w,_,hw,hc,hc2,rfl⟩:=he
   obtain ⟨xE,xP⟩:=qel x (List.mem_of_getElem? hx)
   have x1:=xE.1
   have x2:=xE.2
   refine Znt (r:=w) (x:=x) (v:=k) rfl rfl ⟨x1,by omega⟩ rfl ⟨w.set x.toNat k,.sh (.int x),by rw [List.length_set];exact hw,fun y hy hyk=>?_,fun y hy=>?_,rfl⟩
   ·rw [Zia (by omega)]
    split
    ·rename_i e
     have:y=x:=by have:=hy.1;omega
     subst this;omega
    ·exact hc y hy hyk
   ·rw [Zia (by omega)]
    split
    ·rfl
    ·rename_i e
     rw [List.take_add_one,hx,List.mem_append] at hy
     rcases hy with hy | hy
     ·exact hc2 y hy
     ·simp at hy;subst hy;exact absurd rfl e
  ·obtain ⟨w,z,hw,hc,hc2,rfl⟩:=he
   rw [List.take_length] at hc2
   refine ⟨w,z,_,hw,fun x hx1 hx2=>?_,rfl⟩
   rcases Nat.lt_or_ge (P x) k with h1 | h1
   ·exact hc x hx1 h1
   ·have e1:P x=k:=by omega
    have hm:=p.mem G h hx1
    rw [e1,eq] at hm
    rw [e1]
    exact hc2 x hm
 ·obtain ⟨w,z3,z4,hw,hc,rfl⟩:=he
  have get:∀ x,El n x→w.getD x.toNat 0=P x:=fun x hx=>hc x hx (p.lt x hx)
  have rl:∀ q ∈ Zc T r n,0 < q.length:=fun q hq=>by rw [Zdl hq];exact h.pos
  have qe:∀ q ∈ Zc T r n,∃ x,El n x∧ldS T r x=true∧Je T r x=q:=fun q hq=>ZaD.mp hq
  have key:∀ q q',q ∈ Zc T r n→q' ∈ Zc T r n→El n (q.getD 0 0)∧El n (q'.getD (q'.length - 1) 0)∧P (tg T (q.getD 0 0) (q'.getD (q'.length - 1) 0))=P (tg T (q.getD 0 0) (q'.getD 0 0)):=fun q q' hq hq'=>by
   obtain ⟨x,hx,lx,rfl⟩:=qe q hq
   obtain ⟨y,hy,ly,rfl⟩:=qe q' hq'
   have ex:(Je T r x).getD 0 0=x:=of_decide_eq_true lx
   have ey:(Je T r y).getD 0 0=y:=of_decide_eq_true ly
   have hlast:(Je T r y).getD ((Je T r y).length - 1) 0 ∈ Je T r y:=by
    have:=rl _ hq'
    rw [List.getD_eq_getElem?_getD,List.getElem?_eq_getElem (by omega)];exact List.getElem_mem _
   have hE:=h.ZeE G hy hlast
   rw [ex,ey]
   refine ⟨hx,hE,(p.eq_iff G h (G.bd hx hE) (G.bd hx hy)).mpr (hl.mul G h hx hE hx hy rfl (h.ZeS G hy hlast))⟩
  refine JG (evT.ev (ZjD (T:=Zc T r n) (fun q=>(Zc T r n).map fun q'=>((P (tg T (q.getD 0 0) (q'.getD 0 0)):Nat):Int)) (Zcd rfl) (by omega) (fun q hq=>?_) ?_))
  ·refine Zh0 (T:=Zc T r n) (fun _=>true) (fun q'=>((P (tg T (q.getD 0 0) (q'.getD 0 0)):Nat):Int)) (Zcd rfl) (by omega) (fun _ _=>ZcW rfl rfl) (fun q' hq' _=>?_) (by rw [List.filter_eq_self.mpr (fun _ _=>rfl)])
   obtain ⟨k1,k2,k3⟩:=key q q' hq hq'
   have kE:=G.bd k1 k2
   have:=kE.1
   have:=kE.2
   have q0:=rl q hq
   refine ZpH (Zdk (Zu rfl (Zbl hT rfl (Zdk (Zu rfl (Jj rfl ⟨⟨by omega,by omega⟩,Jj (ZnK rfl (rl q' hq')) ⟨k1,k2,⟨kE.1,by rw [hw];exact kE.2⟩,?_⟩⟩))))))
   rw [← k3]
   exact get _ kE
  ·show tabD _=tabD _
   congr 1
   unfold quoL Yj Zc
   rw [List.map_map]
   refine List.map_congr_left fun x hx=>?_
   simp only [Function.comp,List.map_map]
   refine List.map_congr_left fun y hy=>?_
   have ex:(Je T r x).getD 0 0=x:=of_decide_eq_true (List.mem_filter.mp hx).2
   have ey:(Je T r y).getD 0 0=y:=of_decide_eq_true (List.mem_filter.mp hy).2
   simp only [Function.comp,ex,ey]
theorem ZlC {T:List (List Int)}{n s:Nat}(G:Grp T n s){r:List Int}(h:Sg T n s r){k:Nat}(hk:k < n):Je T r k ∉ Zc T r k↔ldS T r k=true:=by
 have kE:=El.of hk
 rw [ZaD]
 constructor
 ·intro hno
  obtain ⟨z,zE,zl,ze⟩:=h.lead G kE
  have hz:(Je T r z).getD 0 0=z:=of_decide_eq_true zl
  have km:=h.Zdi G kE
  rw [← ze] at km
  have up:=h.ZfW G zE
  have hle:z≤k:=by
   cases hs:Je T r z with
   | nil=>rw [hs] at km;simp at km
   | cons y ys =>
    rw [hs] at hz km up
    have hz:y=z:=hz
    subst hz
    rcases List.mem_cons.mp km with e | e
    ·omega
    ·have:=(List.pairwise_cons.mp up).1 _ e;omega
  rcases Int.lt_or_eq_of_le hle with h1 | h1
  ·exact absurd ⟨z,⟨zE.1,h1⟩,zl,ze⟩ hno
  ·rw [← h1];exact zl
 ·rintro hl ⟨x,hx,xl,xe⟩
  have:=Zh3 xl hl xe
  have:=hx.2
  omega
theorem Zl1 {T:List (List Int)}{n s:Nat}(G:Grp T n s){r:List Int}(h:Sg T n s r)(hl:Loose T n r){P:Int→Nat}(p:Plc T r n P):ZaU [tabD T,rowD r]=some (tabD (quoL T r n P)):=by
 have h0:Yw [tabD T,rowD r]=some (.inl (tabD (quoL T r n P))):=by
  refine Zou rfl (e1:=[.sh (tabD T),.sh (rowD r),.sh (tabD (Zc T r n))]) ?_
  refine (Zc0 (Zdp (Zd2 ((YM rfl).trans (Zb1 G))))).trans ((Zc0 (Zdp (Zd2 ((Ju rfl rfl).trans (Zb0 G h))))).trans ((Zc0 ((Zpn ?_).trans (Zdp JL))).trans (Zdp ((Yi (Zah ((Ju rfl rfl).trans (ZdM G h)))).trans (Yx ((Ju rfl rfl).trans (Zes G h p)))))))
  exact (ZbH (P:=(·=false)) (tv_B (Jl ((Ju rfl rfl).trans (Zca G h)) ⟨_,rfl,by rw [Zgd.mpr hl];rfl⟩))).eq
 have h1:xRet Yw [(eVar 0),(eVar 1)] (enter 3 [tabD T,rowD r])=some (.ok (.rt (tabD (quoL T r n P))),enter 3 [tabD T,rowD r]):=by
  have h2:ZfX Yw [(eVar 0),(eVar 1)] (enter 3 [tabD T,rowD r])=some (.inl (tabD (quoL T r n P))):=h0
  unfold xRet;rw [h2]
 refine Jt rfl (e1:=enter 3 [tabD T,rowD r]) ?_
 unfold Zcj sTry;rw [h1]
theorem ZlX {T:List (List Int)}{n s:Nat}(G:Grp T n s){r:List Int}(h:Sg T n s r)(hl:Js T n r=false):ZaU [tabD T,rowD r]=some (.str "loose"):=by
 have h0:Yw [tabD T,rowD r]=some (.inr 4):=by
  refine Znu rfl ((Zc0 (Zdp (Zd2 ((YM rfl).trans (Zb1 G))))).trans ((Zc0 (Zdp (Zd2 ((Ju rfl rfl).trans (Zb0 G h))))).trans (ZnQ ((Zpf ?_).trans rfl))))
  exact (ZbH (P:=(·=true)) (tv_B (Jl ((Ju rfl rfl).trans (Zca G h)) ⟨_,rfl,by rw [hl];rfl⟩))).eq
 have h1:xRet Yw [(eVar 0),(eVar 1)] (enter 3 [tabD T,rowD r])=some (.ex 4,enter 3 [tabD T,rowD r]):=by
  have h2:ZfX Yw [(eVar 0),(eVar 1)] (enter 3 [tabD T,rowD r])=some (.inr 4):=h0
  unfold xRet;rw [h2]
 have hw:ZK 4=some (.str "loose"):=by rfl
 refine Jt rfl (e1:=(enter 3 [tabD T,rowD r]).map fun _=>.un) ?_
 unfold Zcj sTry;rw [h1];simp only;rw [hw]
theorem ZpV (ns : List Int) : ZfQ [rowD ns] = some (.bl true) := by
  obtain ⟨n, s, T, eT, G, few⟩ := Zhl ns 0
  have hT := G.tab
  have hn := hT.top
  have hp := hT.pos
  have hTl := hT.len
  have hlm := Jp
  obtain ⟨Q, eQ, n2, m2, u2⟩ := ZhJ G few
  have hQp : 0 < Q.length := List.length_pos_of_mem ((m2 _).mpr (Zl4 G))
  have hQl := few Q n2 fun r hr => (m2 r).mp hr
  obtain ⟨i, hi, ei⟩ := Zjr (ZcS ns 2) hQp
  refine Y7 rfl (wp_seq (ZG (Jl ((Ju rfl rfl).trans eT) ?_)))
  refine wp_seq (ZG (Jl ((YM rfl).trans eQ) ?_))
  refine wp_seq (ZG (evR.ev (Zgp (Z8 rfl (Zjm (Jj ((Ju rfl rfl).trans (ZbX ns 2)) (Zfv (Z8 rfl ⟨by omega, ?_⟩))))))))
  rw [ei]
  refine ⟨⟨by omega, by omega⟩, ?_⟩
  rw [Int.toNat_natCast]
  obtain ⟨r, hr0⟩ : ∃ r, r = Q.getD i [] := ⟨_, rfl⟩
  rw [← hr0]
  have h : Sg T n s r := (m2 r).mp (by rw [hr0, List.getD_eq_getElem?_getD, List.getElem?_eq_getElem hi]; exact List.getElem_mem hi)
  have hrl := h.rs.len
  refine wp_seq (Zo4 (Jl rfl ⟨[], rfl, ?_⟩))
  refine wp_seq (ZG (Jl rfl ?_))
  refine wp_seq (ZeJ (n := n) (fun k e => ∃ z6 z7, e = [.sh (rowD ns), .sh (tabD T), .sh (tabD Q), .sh (rowD r), .ow ((Zc T r k).map rowD), .sh (.bl (Js T k r)), z6, z7, .un, .un, .un, .un, .un, .un]) (JT (JH hT rfl) (by omega)) ⟨_, _, rfl⟩ (fun k e hk he => ?_) (fun e he => ?_))
  · obtain ⟨z6, z7, rfl⟩ := he
    have kE := El.of hk
    have hsl := ZaA T r k
    refine wp_seq (ZG (evR.ev (ZcD (Zde (r := r) (fun y => tg T k y) (Zat rfl) (by omega) (fun y hy => Zbl hT rfl (Jj rfl (Jj rfl ⟨kE, h.rs.el y hy, rfl⟩))) ⟨by rw [List.length_map]; omega, ?_⟩))))
    show wp _ [.sh (rowD ns), .sh (tabD T), .sh (tabD Q), .sh (rowD r), .ow ((Zc T r k).map rowD), .sh (.bl (Js T k r)), .sh (.int k), .sh (rowD (Je T r k)), .un, .un, .un, .un, .un, .un] _
    have first : wp (sIf (tNi (eVar 7) (Yq 4)) (sApp 4 (eVar 7)) Zk) [.sh (rowD ns), .sh (tabD T), .sh (tabD Q), .sh (rowD r), .ow ((Zc T r k).map rowD), .sh (.bl (Js T k r)), .sh (.int k), .sh (rowD (Je T r k)), .un, .un, .un, .un, .un, .un]
        (fun o e => o = .nx ∧ e = [.sh (rowD ns), .sh (tabD T), .sh (tabD Q), .sh (rowD r), .ow ((Zc T r (k + 1)).map rowD), .sh (.bl (Js T k r)), .sh (.int k), .sh (rowD (Je T r k)), .un, .un, .un, .un, .un, .un]) := by
      refine ZdB (Zpd (Zu rfl (Z8 (d := Zc T r k) rfl ⟨fun hx => ?_, fun hx => ?_⟩)))
      · have := (ZlC G h hk).mp (of_decide_eq_true hx)
        refine Zor (T := Zc T r k) rfl (Zu rfl ⟨by omega, rfl, ?_⟩)
        rw [Zbz, if_pos this]; rfl
      · have := mt (ZlC G h hk).mpr (of_decide_eq_false hx)
        refine Zcm ⟨rfl, ?_⟩
        rw [Zbz, if_neg this, List.append_nil]
    refine wp_seq (first.mono fun o e h' => ?_)
    obtain ⟨rfl, rfl⟩ := h'
    have lb : Js T (k + 1) r = (Js T k r && decide (Je T r k = ZbE T r k)) := by
      unfold Js; rw [Zhe, List.all_append]; simp
    have shB : ∀ (z : Sl) (w : Sl), evR (eF1 Z4 (Ji 8 (iOf (eVar 3)) Jm (eIx (eIx (eVar 1) (eVar 8)) (eVar 6)))) [.sh (rowD ns), .sh (tabD T), .sh (tabD Q), .sh (rowD r), z, w, .sh (.int k), .sh (rowD (Je T r k)), .un, .un, .un, .un, .un, .un] (· = ZbE T r k) := fun z w =>
      ZcD (Zde (r := r) (fun y => tg T y k) (Zat rfl) (by omega) (fun y hy => Zbl hT rfl (Jj rfl (Jj rfl ⟨h.rs.el y hy, kE, rfl⟩))) ⟨by rw [List.length_map]; omega, rfl⟩)
    refine ZdB (Zim (Zu rfl ?_))
    obtain ⟨q, hq1, hq2⟩ := shB (.ow ((Zc T r (k + 1)).map rowD)) (.sh (.bl (Js T k r)))
    refine ⟨q, hq1, fun hx => ?_, fun hx => ?_⟩
    · subst hq2
      have hx := of_decide_eq_true hx
      refine ZG (Jl rfl ⟨.sh (.int k), .sh (rowD (Je T r k)), ?_⟩)
      rw [lb, decide_eq_false hx, Bool.and_false]
      rfl
    · subst hq2
      have hx : Je T r k = ZbE T r k := by simpa using hx
      refine Zcm ⟨.sh (.int k), .sh (rowD (Je T r k)), ?_⟩
      rw [lb, decide_eq_true hx, Bool.and_true]
  · obtain ⟨z6, z7, rfl⟩ := he
    have hsl := ZaA T r n
    have hS : srtB (fun r => r) (Zc T r n) = Zc T r n := Zoh ((h.Zlb G).imp fun {a b} hx => hx.1)
    refine wp_seq (Zpo rfl ?_)
    refine wp_seq (ZG (evT.ev (ZhB (Z8 (d := Zc T r n) rfl ⟨by omega, ?_⟩))))
    rw [hS]
    refine wp_seq (ZG (ZnV (Jl ((YM rfl).trans (ZiR (by omega))) (ZmW (Zu rfl ?_)))))
    obtain ⟨P, p⟩ := Zo3 G h
    have hx : ∀ env : Env, eVar 9 env = some (.lst [tabD T, rowD r]) → eIx (eVar 9) (eC (.int 0)) env = some (tabD T) ∧ eIx (eVar 9) (eC (.int 1)) env = some (rowD r) := fun env e9 => by
      constructor <;> (simp only [eIx, eF2, e9]; rfl)
    have cl : ∀ (φ : List D → Option D) (d : D), φ [tabD T, rowD r] = some d → ∀ env : Env, eVar 9 env = some (.lst [tabD T, rowD r]) → Ye φ [(eIx (eVar 9) (eC (.int 0))), (eIx (eVar 9) (eC (.int 1)))] env = some d := fun φ d hd env e9 => (Ju (hx env e9).1 (hx env e9).2).trans hd
    have dd : (D.lst [tabD T, rowD r]).dep ≤ 8 := by have := ZgK T; have := Zdh r; simp only [D.dep, D.deps]; omega
    have eqH : ∀ env : Env, eVar 9 env = some (.lst [tabD T, rowD r]) → eVar 1 env = some (tabD T) → eVar 3 env = some (rowD r) → tNe (eVar 9) (eLst [(eVar 1), (eVar 3)]) env = some false := fun env e9 e1 e3 => by
      have el : eLst [(eVar 1), (eVar 3)] env = some (.lst [tabD T, rowD r]) := by simp only [eLst, evs, e1, e3]
      simp only [tNe, e9, el]
      rw [if_pos ⟨dd, dd⟩, Zdv]; rfl
    have hq := Zob G h p
    have hS0 : ∃ q0 S0, Zc T r n = q0 :: S0 := by
      have := h.Zbe G
      cases hs : Zc T r n with
      | nil => rw [hs] at this; simp at this; omega
      | cons q0 S0 => exact ⟨q0, S0, rfl⟩
    obtain ⟨q0, S0, eS⟩ := hS0
    have hq0 : q0.length ≤ 12 := by have := Zdl (T := T) (r := r) (n := n) (q := q0) (by rw [eS]; simp); omega
    have hS0l : S0.length ≤ 12 := by have : (q0 :: S0).length ≤ n := by rw [← eS]; exact hsl
                                     simp at this; omega
    refine wp_seq (ZeJ (n := 2) (fun _ e => ∃ z10 z11 z12 z13, e = [.sh (rowD ns), .sh (tabD T), .sh (tabD Q), .sh (rowD r), .sh (tabD (Zc T r n)), .sh (.bl (Js T n r)), z6, z7, .un, .sh (.lst [tabD T, rowD r]), z10, z11, z12, z13]) (JT (n := 2) rfl (by omega)) ⟨_, _, _, _, rfl⟩ (fun k e hk he => ?_) (fun e he => ?_))
    · obtain ⟨_, _, _, z13, rfl⟩ := he
      refine wp_seq (ZjU (Jl (cl _ _ (ZkX G h) _ rfl) ?_))
      refine wp_seq (ZG (Jl (cl _ _ (Zi2 G h) _ rfl) ?_))
      have fin : ∀ (z : Sl) (Q' : Out → Env → Prop), (∀ z11, Q' .nx [.sh (rowD ns), .sh (tabD T), .sh (tabD Q), .sh (rowD r), .sh (tabD (Zc T r n)), .sh (.bl (Js T n r)), z6, z7, .un, .sh (.lst [tabD T, rowD r]), .sh (.int k), z11, .sh (.bl (Js T n r)), z]) →
          wp (ZcB 11 0) [.sh (rowD ns), .sh (tabD T), .sh (tabD Q), .sh (rowD r), .sh (tabD (Zc T r n)), .sh (.bl (Js T n r)), z6, z7, .un, .sh (.lst [tabD T, rowD r]), .sh (.int k), .jk (tabD (Zc T r n)), .sh (.bl (Js T n r)), z] Q' := fun z Q' hQ' => by
        refine Zih (r := q0) (T := S0) ?_ (by omega) (by omega) (hQ' _)
        show some (Sl.jk (tabD (Zc T r n))) = _
        rw [eS]
      have t1 : ∀ z, tv (tFrz 11 (tOr (tNot (tB (Ye Z9 [(eVar 11)]))) (tOr (tNe (eVar 11) (Yq 4)) (tNe (eVar 9) (eLst [(eVar 1), (eVar 3)]))))) [.sh (rowD ns), .sh (tabD T), .sh (tabD Q), .sh (rowD r), .sh (tabD (Zc T r n)), .sh (.bl (Js T n r)), z6, z7, .un, .sh (.lst [tabD T, rowD r]), .sh (.int k), .jk (tabD (Zc T r n)), .sh (.bl (Js T n r)), z] (· = false) := fun z =>
        ZkZ rfl (ZfL (ZbH (tv_B (Jl ((YM rfl).trans (ZdI (by omega) fun q hq => by rw [Zdl hq]; omega)) ⟨_, rfl, fun h => (by cases h), fun _ => ZfL (Zli (Z8 rfl (Z8 rfl ⟨fun h => (by simp at h), fun _ => ZcW (eqH _ rfl rfl rfl) rfl⟩)))⟩))))
      have t2 : ∀ z11 z, tv (tOr (tNot (tB (eF1 (fIs .bool) (eVar 12)))) (tNe (eVar 12) (eVar 5))) [.sh (rowD ns), .sh (tabD T), .sh (tabD Q), .sh (rowD r), .sh (tabD (Zc T r n)), .sh (.bl (Js T n r)), z6, z7, .un, .sh (.lst [tabD T, rowD r]), .sh (.int k), z11, .sh (.bl (Js T n r)), z] (· = false) := fun z11 z => by
        refine ZfL (ZbH (tv_B (Jl rfl ⟨_, rfl, fun h => (by cases h), fun _ => ?_⟩)))
        exact ZcW (d := false) (by cases Js T n r <;> rfl) rfl
      cases hb : Js T n r with
      | false =>
        refine wp_seq (ZjU (Jl (cl _ _ (ZlX G h hb) _ rfl) ?_))
        have t1 := t1 (.jk (.str "loose")); have t2 := t2 (.jk (tabD (Zc T r n))) (.jk (.str "loose")); have fin := fin (.jk (.str "loose"))
        rw [hb] at t1 t2 fin
        refine wp_seq (Za7 t1 ?_)
        refine wp_seq (Za7 t2 ?_)
        refine wp_seq (Za7 (ZcW (d := false) rfl rfl) ?_)
        refine wp_seq (Za7 (ZcW (d := false) rfl rfl) ?_)
        exact fin _ fun z11 => ⟨_, _, _, _, rfl⟩
      | true =>
        have hl := Zgd.mp hb
        refine wp_seq (ZjU (Jl (cl _ _ (Zl1 G h hl p) _ rfl) ?_))
        have t1 := t1 (.jk (tabD (quoL T r n P))); have t2 := t2 (.jk (tabD (Zc T r n))) (.jk (tabD (quoL T r n P)))
        rw [hb] at t1 t2 fin
        refine wp_seq (Za7 t1 ?_)
        refine wp_seq (Za7 t2 ?_)
        refine wp_seq (Za7 (ZcW (d := false) rfl rfl) ?_)
        have hql := hq.len
        have hqp := hq.pos
        have hqt := hq.top
        obtain ⟨r0, R0, eR⟩ : ∃ r0 R0, quoL T r n P = r0 :: R0 := by
          cases hs : quoL T r n P with
          | nil => rw [hs] at hql; simp at hql; omega
          | cons r0 R0 => exact ⟨r0, R0, rfl⟩
        have hr0 := hq.row r0 (by rw [eR]; simp)
        have hR0 : R0.length ≤ 12 := by have : (r0 :: R0).length ≤ 12 := by rw [← eR, hql]; exact hqt
                                        simp at this; omega
        refine wp_seq (ZdB (tv_B (Jl rfl ⟨true, rfl, fun _ => ?_, fun h => (by cases h)⟩)))
        refine wp_seq (ZjG rfl ?_)
        refine wp_seq (Za7 (ZkZ rfl (ZfL (ZbH (tv_B (Jl ((YM rfl).trans (ZdI (by omega) fun q hq' => by have := hq.row q hq'; omega)) ⟨_, rfl, fun h => (by cases h), fun _ => Zli (Z8 rfl (Z8 ((Ju rfl rfl).trans (Zin G h hl p)) (by simp)))⟩))))) ?_)
        refine Zih (r := r0) (T := R0) ?_ (by omega) (by omega) ?_
        · show some (Sl.jk (tabD (quoL T r n P))) = _
          rw [eR]
        · exact fin _ _ fun z11 => ⟨_, _, _, _, rfl⟩
    · obtain ⟨_, _, _, _, rfl⟩ := he
      exact JG (Jl rfl rfl)
end PV
set_option linter.all false
set_option Elab.async false
set_option maxRecDepth 100000
set_option maxHeartbeats 4000000
namespace PV
open PySem PySem.Spec PyProof.Rows
open L2 (V Hp HO Same Cx)
theorem Zck {a b:St}{env env':Env}(h:sSeq a b env=some (.nx,env')):∃ e1,a env=some (.nx,e1)∧b e1=some (.nx,env'):=by
 unfold sSeq at h
 split at h
 ·rename_i e1 h1;exact ⟨e1,h1,h⟩
 ·rename_i r hne
  cases hr:a env with
  | none=>rw [hr] at h;cases h
  | some p =>
   obtain ⟨o,e1⟩:=p
   rw [hr] at h
   cases h
   exact absurd hr (hne _)
noncomputable def top (i:Nat):Stmt:=PySem.Challenge.pw_tablefolk_k08_shares_and_loose_parts.main.body.getD i (.Pass ⟨0,0,0,0⟩)
noncomputable abbrev ZL:Stmt:=top 13
theorem ZdN:L2.Zh ["table","number"] ["table","number"] (L2.Yb ZL):=⟨rfl,rfl,rfl,by decide +kernel,rfl,by decide +kernel,by decide +kernel⟩
theorem Zhn {P:Program} {w:World} {K:PySem.W.Frag} {mg:Str→Option Value} {base:Heap} {f:Addr} {fd:FuncData} (F:L2.Fun K "is_element" "is_element" ZL f fd) (T:Bt mg) :
  L2.FnOk P w K mg base L2.CX0 1 f fd ["table","number"] (spR K (rk K .k) Zx) :=
 Yp (N:=["table","number"]) (ps:=["table","number"]) (k:=0) (m:=(rk K .k)) (g:=Zej) F ZdN (.inl (Ys _)) fun cdv A outer s H E hr=>by
  have hu:=hr.units
  have nd:=ZdN.nd
  have nox:∀ (e:Value) (s:Shared),False→False:=fun _ _ h=>h
  exact (Jb (Zi (((ZhO (m:=.k) (ZpT (m:=.k) (Za 1) (Jc (m:=.k))) (ZdV (ZpZ (m:=.k) (Za 1) (Zt (m:=.k) T (Za 0)))))))))
noncomputable abbrev Z1:Stmt:=top 11
theorem Zel:L2.Zh ["table","size","row","number"] ["table"] (L2.Yb Z1):=⟨rfl,rfl,rfl,by decide +kernel,rfl,by decide +kernel,by decide +kernel⟩
theorem Zij {P:Program} {w:World} {K:PySem.W.Frag} {mg:Str→Option Value} {base:Heap} {f:Addr} {fd:FuncData} (F:L2.Fun K "ask_table" "ask_table" Z1 f fd) (T:Bt mg) (C_MOST_ROWS:∃ t,mg "MOST_ROWS"=some (.int 12 t)) (G_is_element:Cal P w K mg base 1 "is_element" (rk K .k) Zx) :
  L2.FnOk P w K mg base L2.CX0 2 f fd ["table"] (spR K (rk K .k) ZaE) :=
 Yp (N:=["table","size","row","number"]) (ps:=["table"]) (k:=1) (m:=(rk K .k)) (g:=Ze4) F Zel (.inl (Ys _)) fun cdv A outer s H E hr=>by
  have hu:=hr.units
  have nd:=Zel.nd
  have nox:∀ (e:Value) (s:Shared),False→False:=fun _ _ h=>h
  exact (Zb (Zg nd 1 (Zt (m:=.k) T (Za 0))) (Zb (Zo (pw_t (Zdu (Zf8 (Za 1) (Jc (m:=.k))) (ZbL (Zm7 (Za 1) (ZoP (m:=.k) (hm:=C_MOST_ROWS)))))) (Jb (Zdr)) Zn) (Jb (Zj (Jo (Za 0)) (pg_n nd 2) (Zb (Zo (Za6 hu (Zt (m:=.k) T (Za 2)) (Za 1)) (Jb (Zdr)) Zn) (Jb (Zo (Zan (ZaG (Zd3 (m:=.k) T (YH nox nd 3 (Jo (Za 2)) (fun _ _ _ _ _ _=>(Yk G_is_element (hr.mono (by decide)) (Ja (Za 0) (Ja (Za 3) Yd)))))))) (Jb (Zdr)) Zn)))))))
noncomputable abbrev YJ:Stmt:=top 15
theorem ZdJ:L2.Zh ["table","size","a","b","c"] ["table"] (L2.Yb YJ):=⟨rfl,rfl,rfl,by decide +kernel,rfl,by decide +kernel,by decide +kernel⟩
theorem Zhi {P:Program} {w:World} {K:PySem.W.Frag} {mg:Str→Option Value} {base:Heap} {f:Addr} {fd:FuncData} (F:L2.Fun K "find_three" "find_three" YJ f fd) (T:Bt mg) :
  L2.FnOk P w K mg base L2.CX0 1 f fd ["table"] (spR K (rk K .k) Zam) :=
 Yp (N:=["table","size","a","b","c"]) (ps:=["table"]) (k:=0) (m:=(rk K .k)) (g:=Zee) F ZdJ (.inl (Ys _)) fun cdv A outer s H E hr=>by
  have hu:=hr.units
  have nd:=ZdJ.nd
  have nox:∀ (e:Value) (s:Shared),False→False:=fun _ _ h=>h
  exact (Zb (Zg nd 1 (Zt (m:=.k) T (Za 0))) (Zb (Zj (Zr T (Za 1)) (pg_n nd 2) (Jb (Zj (Zr T (Za 1)) (pg_n nd 3) (Jb (Zj (Zr T (Za 1)) (pg_n nd 4) (Jb (Zo (Za6 hu (Jg (Jg (Za 0) (Jg (Jg (Za 0) (Za 2)) (Za 3))) (Za 4)) (Jg (Jg (Za 0) (Za 2)) (Jg (Jg (Za 0) (Za 3)) (Za 4)))) (Jb (Zi (ZbF (Ja (Zaw (m:=.k)) (Ja (Za 2) (Ja (Za 3) (Ja (Za 4) Yd))))))) Zn))))))) (Jb (Zi (Zc8 (m:=.k))))))
noncomputable abbrev Y0:Stmt:=top 16
theorem Zeh:L2.Zh ["table","size","still","a"] ["table"] (L2.Yb Y0):=⟨rfl,rfl,rfl,by decide +kernel,rfl,by decide +kernel,by decide +kernel⟩
theorem ZhT {P:Program} {w:World} {K:PySem.W.Frag} {mg:Str→Option Value} {base:Heap} {f:Addr} {fd:FuncData} (F:L2.Fun K "find_rest" "find_rest" Y0 f fd) (T:Bt mg) :
  L2.FnOk P w K mg base L2.CX0 1 f fd ["table"] (spR K (rk K .k) JR) :=
 Yp (N:=["table","size","still","a"]) (ps:=["table"]) (k:=0) (m:=(rk K .k)) (g:=Zfe) F Zeh (.inl (Ys _)) fun cdv A outer s H E hr=>by
  have hu:=hr.units
  have nd:=Zeh.nd
  have nox:∀ (e:Value) (s:Shared),False→False:=fun _ _ h=>h
  exact (Zb (Zg nd 1 (Zt (m:=.k) T (Za 0))) (Zb (Zj (Zr T (Za 1)) (pg_n nd 2) (Jb (Zo (ZaG (Zd3 (m:=.k) T (YH nox nd 3 (Zr T (Za 1)) (fun _ _ _ _ _ _=>(((ZhO (m:=.k) (Zkj (m:=.k) hu (Jg (Jg (Za 0) (Za 2)) (Za 3)) (Za 3)) (ZdV (Zkj (m:=.k) hu (Jg (Jg (Za 0) (Za 3)) (Za 2)) (Za 3)))))))))) (Jb (Zi (Za 2))) Zn))) (Jb (Zi (Zc8 (m:=.k))))))
noncomputable abbrev YZ:Stmt:=top 17
theorem Zen:L2.Zh ["table","still","element","other"] ["table","still","element"] (L2.Yb YZ):=⟨rfl,rfl,rfl,by decide +kernel,rfl,by decide +kernel,by decide +kernel⟩
theorem ZhW {P:Program} {w:World} {K:PySem.W.Frag} {mg:Str→Option Value} {base:Heap} {f:Addr} {fd:FuncData} (F:L2.Fun K "find_back" "find_back" YZ f fd) (T:Bt mg) :
  L2.FnOk P w K mg base L2.CX0 1 f fd ["table","still","element"] (spR K (rk K .k) ZaC) :=
 Yp (N:=["table","still","element","other"]) (ps:=["table","still","element"]) (k:=0) (m:=(rk K .k)) (g:=Ze1) F Zen (.inl (Ys _)) fun cdv A outer s H E hr=>by
  have hu:=hr.units
  have nd:=Zen.nd
  have nox:∀ (e:Value) (s:Shared),False→False:=fun _ _ h=>h
  exact (Zb (Zj (Zr T (Zt (m:=.k) T (Za 0))) (pg_n nd 3) (Jb (Zo (pw_t (Zky (ZcO hu (Jg (Jg (Za 0) (Za 2)) (Za 3)) (Za 1)) (Zg2 (ZcO hu (Jg (Jg (Za 0) (Za 3)) (Za 2)) (Za 1))))) (Jb (Zi (Za 3))) Zn))) (Jb (Zi (Zc8 (m:=.k)))))
noncomputable abbrev YW:Stmt:=top 14
theorem ZdY:L2.Zh ["table","three","still","element"] ["table"] (L2.Yb YW):=⟨rfl,rfl,rfl,by decide +kernel,rfl,by decide +kernel,by decide +kernel⟩
theorem ZhF {P:Program} {w:World} {K:PySem.W.Frag} {mg:Str→Option Value} {base:Heap} {f:Addr} {fd:FuncData} (F:L2.Fun K "find_flaw" "find_flaw" YW f fd) (T:Bt mg) (G_find_three:Cal P w K mg base 1 "find_three" (rk K .k) Zam) (G_find_rest:Cal P w K mg base 1 "find_rest" (rk K .k) JR) (G_find_back:Cal P w K mg base 1 "find_back" (rk K .k) ZaC) :
  L2.FnOk P w K mg base L2.CX0 2 f fd ["table"] (spR K (rk K .k) ZaB) :=
 Yp (N:=["table","three","still","element"]) (ps:=["table"]) (k:=1) (m:=(rk K .k)) (g:=Zfa) F ZdY (.inl (Ys _)) fun cdv A outer s H E hr=>by
  have hu:=hr.units
  have nd:=ZdY.nd
  have nox:∀ (e:Value) (s:Shared),False→False:=fun _ _ h=>h
  exact (Zb (Zg nd 1 (Yk G_find_three (hr.mono (by decide)) (Ja (Za 0) Yd))) (Zb (Zo (ZkL (Za 1)) (Jb (Zi (Za 1))) Zn) (Zb (Zg nd 2 (Yk G_find_rest (hr.mono (by decide)) (Ja (Za 0) Yd))) (Zb (Zo (ZlL (Za 2)) (Jb (Zi (ZbF (Ja (Zaw (m:=.k)) Yd)))) Zn) (Zb (Zj (Zr T (Zt (m:=.k) T (Za 0))) (pg_n nd 3) (Jb (Zo (ZlL (Yk G_find_back (hr.mono (by decide)) (Ja (Za 0) (Ja (Za 2) (Ja (Za 3) Yd))))) (Jb (Zi (ZbF (Ja (Zaw (m:=.k)) (Ja (Za 3) Yd))))) Zn))) (Jb (Zi (Zc8 (m:=.k)))))))))
noncomputable abbrev Zae:Stmt:=top 12
theorem Ze0:L2.Zh ["table"] ["table"] (L2.Yb Zae):=⟨rfl,rfl,rfl,by decide +kernel,rfl,by decide +kernel,by decide +kernel⟩
theorem ZiM {P:Program} {w:World} {K:PySem.W.Frag} {mg:Str→Option Value} {base:Heap} {f:Addr} {fd:FuncData} (F:L2.Fun K "ask_folk" "ask_folk" Zae f fd) (T:Bt mg) (G_ask_table:Cal P w K mg base 2 "ask_table" (rk K .k) ZaE) (G_find_flaw:Cal P w K mg base 2 "find_flaw" (rk K .k) ZaB) :
  L2.FnOk P w K mg base L2.CX0 3 f fd ["table"] (spR K (rk K .k) ZQ) :=
 Yp (N:=["table"]) (ps:=["table"]) (k:=2) (m:=(rk K .k)) (g:=Zgg) F Ze0 (.inl (Ys _)) fun cdv A outer s H E hr=>by
  have hu:=hr.units
  have nd:=Ze0.nd
  have nox:∀ (e:Value) (s:Shared),False→False:=fun _ _ h=>h
  exact (Zb (Zdz (Yk G_ask_table (hr.mono (by decide)) (Ja (Za 0) Yd))) (Jb (Zo (ZkL (Yk G_find_flaw (hr.mono (by decide)) (Ja (Za 0) Yd))) (Jb (Zdr)) Zn)))
noncomputable abbrev Jx:Stmt:=top 24
theorem ZcE:L2.Zh ["table","inside","made","a","b"] ["table","inside"] (L2.Yb Jx):=⟨rfl,rfl,rfl,by decide +kernel,rfl,by decide +kernel,by decide +kernel⟩
theorem Zfx {P:Program} {w:World} {K:PySem.W.Frag} {mg:Str→Option Value} {base:Heap} {f:Addr} {fd:FuncData} (F:L2.Fun K "with_all_made" "with_all_made" Jx f fd) (T:Bt mg) :
  L2.FnOk P w K mg base L2.CX0 1 f fd ["table","inside"] (spR K rN ZJ) :=
 Yp (N:=["table","inside","made","a","b"]) (ps:=["table","inside"]) (k:=0) (m:=rN) (g:=ZcR) F ZcE (.inl ZbC) fun cdv A outer s H E hr=>by
  have hu:=hr.units
  have nd:=ZcE.nd
  have nox:∀ (e:Value) (s:Shared),False→False:=fun _ _ h=>h
  exact (Zb (Za4 nd 2 (ZgF T (Za 1))) (Zb (Zj (Jo (Za 1)) (pg_n nd 3) (Jb (ZoM 2 (ZeQ nox nd 4 (Jo (Za 1)) (fun _ _ _ _ _ _=>(Jg (Jg (Za 0) (Za 3)) (Za 4))))))) (Jb (Zbk (PDw.n (Zf1 T (Zbn 2)))))))
noncomputable abbrev YL:Stmt:=top 23
theorem ZdO:L2.Zh ["table","some","inside","wider"] ["table","some"] (L2.Yb YL):=⟨rfl,rfl,rfl,by decide +kernel,rfl,by decide +kernel,by decide +kernel⟩
theorem Zhu {P:Program} {w:World} {K:PySem.W.Frag} {mg:Str→Option Value} {base:Heap} {f:Addr} {fd:FuncData} (F:L2.Fun K "least_part" "least_part" YL f fd) (T:Bt mg) (G_with_all_made:Cal P w K mg base 1 "with_all_made" rN ZJ) (G_find_rest:Cal P w K mg base 1 "find_rest" (rk K .k) JR) :
  L2.FnOk P w K mg base L2.CX0 2 f fd ["table","some"] (spR K rN ZaJ) :=
 Yp (N:=["table","some","inside","wider"]) (ps:=["table","some"]) (k:=1) (m:=rN) (g:=Zcx) F ZdO (.inl ZbC) fun cdv A outer s H E hr=>by
  have hu:=hr.units
  have nd:=ZdO.nd
  have nox:∀ (e:Value) (s:Shared),False→False:=fun _ _ h=>h
  exact (Zb (Zc1 nd 2 (PDw.n (Zf1 T (Yt (Za 1) (Yl (Ja (Yk G_find_rest (hr.mono (by decide)) (Ja (Za 0) Yd)) Yd)))))) (Zb (Zc1 nd 3 (PDw.n (Zak G_with_all_made (hr.mono (by decide)) (Ja (Za 0) (Ja (Za 2) Yd))))) (Zb (ZoG 1000 (Za6 hu (Za 3) (Za 2)) (Zb (Zc1 nd 2 (Zeb 3)) (Jb (Zc1 nd 3 (PDw.n (Zak G_with_all_made (hr.mono (by decide)) (Ja (Za 0) (Ja (Za 2) Yd)))))))) (Jb (Zbk (Zeb 2))))))
noncomputable abbrev Zaa:Stmt:=top 22
theorem Ze9:L2.Zh ["table","part","number"] ["table","part"] (L2.Yb Zaa):=⟨rfl,rfl,rfl,by decide +kernel,rfl,by decide +kernel,by decide +kernel⟩
theorem Zi0 {P:Program} {w:World} {K:PySem.W.Frag} {mg:Str→Option Value} {base:Heap} {f:Addr} {fd:FuncData} (F:L2.Fun K "ask_part" "ask_part" Zaa f fd) (T:Bt mg) (G_least_part:Cal P w K mg base 2 "least_part" rN ZaJ) (G_is_element:Cal P w K mg base 1 "is_element" (rk K .k) Zx) :
  L2.FnOk P w K mg base L2.CX0 3 f fd ["table","part"] (spR K (rk K .k) JQ) :=
 Yp (N:=["table","part","number"]) (ps:=["table","part"]) (k:=2) (m:=(rk K .k)) (g:=Zga) F Ze9 (.inl (Ys _)) fun cdv A outer s H E hr=>by
  have hu:=hr.units
  have nd:=Ze9.nd
  have nox:∀ (e:Value) (s:Shared),False→False:=fun _ _ h=>h
  exact (Zb (Zo (Zan (ZaG (Zd3 (m:=.k) T (YH nox nd 2 (Jo (Za 1)) (fun _ _ _ _ _ _=>(Yk G_is_element (hr.mono (by decide)) (Ja (Za 0) (Ja (Za 2) Yd)))))))) (Jb (Zdr)) Zn) (Jb (Zo (Za6 hu (PDn.d (PDw.n (Zak G_least_part (hr.mono (by decide)) (Ja (Za 0) (Ja (Za 1) Yd))))) (Za 1)) (Jb (Zdr)) Zn)))
noncomputable abbrev ZC:Stmt:=top 25
theorem Zc9:L2.Zh ["table","part","element","member"] ["table","part","element"] (L2.Yb ZC):=⟨rfl,rfl,rfl,by decide +kernel,rfl,by decide +kernel,by decide +kernel⟩
theorem ZgI {P:Program} {w:World} {K:PySem.W.Frag} {mg:Str→Option Value} {base:Heap} {f:Addr} {fd:FuncData} (F:L2.Fun K "share_ahead" "share_ahead" ZC f fd) (T:Bt mg) :
  L2.FnOk P w K mg base L2.CX0 1 f fd ["table","part","element"] (spR K rN Jz) :=
 Yp (N:=["table","part","element","member"]) (ps:=["table","part","element"]) (k:=0) (m:=rN) (g:=ZdK) F Zc9 (.inl ZbC) fun cdv A outer s H E hr=>by
  have hu:=hr.units
  have nd:=Zc9.nd
  have nox:∀ (e:Value) (s:Shared),False→False:=fun _ _ h=>h
  exact (Jb (Zbk (PDw.n (PDo.fl (ZgH T hu (YH nox nd 3 (Jo (Za 1)) (fun _ _ _ _ _ _=>(Jg (Jg (Za 0) (Za 2)) (Za 3)))))))))
noncomputable abbrev YK:Stmt:=top 27
theorem ZdT:L2.Zh ["table","part","found","element","share"] ["table","part"] (L2.Yb YK):=⟨rfl,rfl,rfl,by decide +kernel,rfl,by decide +kernel,by decide +kernel⟩
theorem Zho {P:Program} {w:World} {K:PySem.W.Frag} {mg:Str→Option Value} {base:Heap} {f:Addr} {fd:FuncData} (F:L2.Fun K "all_shares" "all_shares" YK f fd) (T:Bt mg) (G_share_ahead:Cal P w K mg base 1 "share_ahead" rN Jz) :
  L2.FnOk P w K mg base L2.CX0 2 f fd ["table","part"] (spR K rN JZ) :=
 Yp (N:=["table","part","found","element","share"]) (ps:=["table","part"]) (k:=1) (m:=rN) (g:=Zev) F ZdT (.inl ZbC) fun cdv A outer s H E hr=>by
  have hu:=hr.units
  have nd:=ZdT.nd
  have nox:∀ (e:Value) (s:Shared),False→False:=fun _ _ h=>h
  exact (Zb (ZkM nd 2 Zk6) (Zb (Zj (Zr T (Zt (m:=.k) T (Za 0))) (pg_n nd 3) (Zb (Zc1 nd 4 (PDw.n (Zak G_share_ahead (hr.mono (by decide)) (Ja (Za 0) (Ja (Za 1) (Ja (Za 3) Yd)))))) (Jb (Zo (ZcO hu (Jg (Za 4) (Jc (m:=.k))) (Za 3)) (Jb (Zjn 2 (Zeb 4))) Zn)))) (Yz 2 (Jb (Zbk (Zeb 2))))))
noncomputable abbrev ZaS:Stmt:=top 19
theorem Zhb:L2.Zh ["table","part"] ["table","part"] (L2.Yb ZaS):=⟨rfl,rfl,rfl,by decide +kernel,rfl,by decide +kernel,by decide +kernel⟩
theorem Zlx {P:Program} {w:World} {K:PySem.W.Frag} {mg:Str→Option Value} {base:Heap} {f:Addr} {fd:FuncData} (F:L2.Fun K "shares" "shares" ZaS f fd) (T:Bt mg) (G_ask_folk:Cal P w K mg base 3 "ask_folk" (rk K .k) ZQ) (G_ask_part:Cal P w K mg base 3 "ask_part" (rk K .k) JQ) (G_all_shares:Cal P w K mg base 2 "all_shares" rN JZ) :
  L2.FnOk P w K mg base L2.CX0 4 f fd ["table","part"] (spR K rN ZcF) :=
 Yp (N:=["table","part"]) (ps:=["table","part"]) (k:=3) (m:=rN) (g:=ZhY) F Zhb (.inl ZbC) fun cdv A outer s H E hr=>by
  have hu:=hr.units
  have nd:=Zhb.nd
  have nox:∀ (e:Value) (s:Shared),False→False:=fun _ _ h=>h
  exact (Zb (Zdz (Yk G_ask_folk (hr.mono (by decide)) (Ja (Za 0) Yd))) (Zb (Zdz (Yk G_ask_part (hr.mono (by decide)) (Ja (Za 0) (Ja (Za 1) Yd)))) (Jb (Zbk (PDw.n (Zak G_all_shares (hr.mono (by decide)) (Ja (Za 0) (Ja (Za 1) Yd))))))))
noncomputable abbrev Jy:Stmt:=top 26
theorem ZcV:L2.Zh ["table","part","element","member"] ["table","part","element"] (L2.Yb Jy):=⟨rfl,rfl,rfl,by decide +kernel,rfl,by decide +kernel,by decide +kernel⟩
theorem Zgj {P:Program} {w:World} {K:PySem.W.Frag} {mg:Str→Option Value} {base:Heap} {f:Addr} {fd:FuncData} (F:L2.Fun K "share_behind" "share_behind" Jy f fd) (T:Bt mg) :
  L2.FnOk P w K mg base L2.CX0 1 f fd ["table","part","element"] (spR K rN YS) :=
 Yp (N:=["table","part","element","member"]) (ps:=["table","part","element"]) (k:=0) (m:=rN) (g:=Zc4) F ZcV (.inl ZbC) fun cdv A outer s H E hr=>by
  have hu:=hr.units
  have nd:=ZcV.nd
  have nox:∀ (e:Value) (s:Shared),False→False:=fun _ _ h=>h
  exact (Jb (Zbk (PDw.n (PDo.fl (ZgH T hu (YH nox nd 3 (Jo (Za 1)) (fun _ _ _ _ _ _=>(Jg (Jg (Za 0) (Za 3)) (Za 2)))))))))
noncomputable abbrev Jq:Stmt:=top 28
theorem Zbh:L2.Zh ["table","part","a"] ["table","part"] (L2.Yb Jq):=⟨rfl,rfl,rfl,by decide +kernel,rfl,by decide +kernel,by decide +kernel⟩
theorem Zdg {P:Program} {w:World} {K:PySem.W.Frag} {mg:Str→Option Value} {base:Heap} {f:Addr} {fd:FuncData} (F:L2.Fun K "same_on_both_sides" "same_on_both_sides" Jq f fd) (T:Bt mg) (G_share_ahead:Cal P w K mg base 1 "share_ahead" rN Jz) (G_share_behind:Cal P w K mg base 1 "share_behind" rN YS) :
  L2.FnOk P w K mg base L2.CX0 2 f fd ["table","part"] (spR K (rk K .k) Yr) :=
 Yp (N:=["table","part","a"]) (ps:=["table","part"]) (k:=1) (m:=(rk K .k)) (g:=Zbw) F Zbh (.inl (Ys _)) fun cdv A outer s H E hr=>by
  have hu:=hr.units
  have nd:=Zbh.nd
  have nox:∀ (e:Value) (s:Shared),False→False:=fun _ _ h=>h
  exact (Jb (Zi (Zd3 (m:=.k) T (YH nox nd 2 (Zr T (Zt (m:=.k) T (Za 0))) (fun _ _ _ _ _ _=>((Zkj (m:=.k) hu (PDn.d (PDw.n (Zak G_share_ahead (hr.mono (by decide)) (Ja (Za 0) (Ja (Za 1) (Ja (Za 2) Yd)))))) (PDn.d (PDw.n (Zak G_share_behind (hr.mono (by decide)) (Ja (Za 0) (Ja (Za 1) (Ja (Za 2) Yd)))))))))))))
noncomputable abbrev Zac:Stmt:=top 20
theorem Zfk:L2.Zh ["table","part"] ["table","part"] (L2.Yb Zac):=⟨rfl,rfl,rfl,by decide +kernel,rfl,by decide +kernel,by decide +kernel⟩
theorem ZiG {P:Program} {w:World} {K:PySem.W.Frag} {mg:Str→Option Value} {base:Heap} {f:Addr} {fd:FuncData} (F:L2.Fun K "is_loose" "is_loose" Zac f fd) (T:Bt mg) (G_ask_folk:Cal P w K mg base 3 "ask_folk" (rk K .k) ZQ) (G_ask_part:Cal P w K mg base 3 "ask_part" (rk K .k) JQ) (G_same_on_both_sides:Cal P w K mg base 2 "same_on_both_sides" (rk K .k) Yr) :
  L2.FnOk P w K mg base L2.CX0 4 f fd ["table","part"] (spR K (rk K .k) ZbB) :=
 Yp (N:=["table","part"]) (ps:=["table","part"]) (k:=3) (m:=(rk K .k)) (g:=ZfS) F Zfk (.inl (Ys _)) fun cdv A outer s H E hr=>by
  have hu:=hr.units
  have nd:=Zfk.nd
  have nox:∀ (e:Value) (s:Shared),False→False:=fun _ _ h=>h
  exact (Zb (Zdz (Yk G_ask_folk (hr.mono (by decide)) (Ja (Za 0) Yd))) (Zb (Zdz (Yk G_ask_part (hr.mono (by decide)) (Ja (Za 0) (Ja (Za 1) Yd)))) (Jb (Zi (Yk G_same_on_both_sides (hr.mono (by decide)) (Ja (Za 0) (Ja (Za 1) Yd)))))))
noncomputable abbrev Zv:Stmt:=top 29
theorem Zb8:L2.Zh ["table","found","place","number","share","element","heads","rows","head","other"] ["table","found"] (L2.Yb Zv):=⟨rfl,rfl,rfl,by decide +kernel,rfl,by decide +kernel,by decide +kernel⟩
theorem Zep {P:Program} {w:World} {K:PySem.W.Frag} {mg:Str→Option Value} {base:Heap} {f:Addr} {fd:FuncData} (F:L2.Fun K "table_of_shares" "table_of_shares" Zv f fd) (T:Bt mg) :
  L2.FnOk P w K mg base L2.CX0 1 f fd ["table","found"] (spR K rN JM) :=
 Yp (N:=["table","found","place","number","share","element","heads","rows","head","other"]) (ps:=["table","found"]) (k:=0) (m:=rN) (g:=Zcb) F Zb8 (.inl ZbC) fun cdv A outer s H E hr=>by
  have hu:=hr.units
  have nd:=Zb8.nd
  have nox:∀ (e:Value) (s:Shared),False→False:=fun _ _ h=>h
  exact (Zb (ZnW nd 2) (Zb (Zj (Zn9 T (Za 1)) (pg_2 nd 3 4) (Jb (Zj (Jo (Za 4)) (pg_n nd 5) (Jb (ZgC hu 2 (Za 5) (Za 3)))))) (Zb (Zh2 nox nd 6 4 (Jo (Za 1)) (fun _ _ _ _ _ _=>(Jg (Za 4) (Jc (m:=.k))))) (Zb (ZkM nd 7 Zk6) (Zb (Zj (Jo (Za 6)) (pg_n nd 8) (Yz 2 (Jb (Zjn 7 (PDw.n (PDo.fl (ZeQ nox nd 9 (Jo (Za 6)) (fun _ _ _ _ _ _=>(ZnG (m:=.k) hu (Za 2) (Jg (Jg (Za 0) (Za 8)) (Za 9))))))))))) (Yz 7 (Jb (Zbk (Zeb 7)))))))))
noncomputable abbrev ZX:Stmt:=top 21
theorem Zeq:L2.Zh ["table","part","found"] ["table","part"] (L2.Yb ZX):=⟨rfl,rfl,rfl,by decide +kernel,rfl,by decide +kernel,by decide +kernel⟩
theorem Zhs {P:Program} {w:World} {K:PySem.W.Frag} {mg:Str→Option Value} {base:Heap} {f:Addr} {fd:FuncData} (F:L2.Fun K "taken_out" "taken_out" ZX f fd) (T:Bt mg) (XC_4:XCl K 4) (G_ask_folk:Cal P w K mg base 3 "ask_folk" (rk K .k) ZQ) (G_ask_part:Cal P w K mg base 3 "ask_part" (rk K .k) JQ) (G_all_shares:Cal P w K mg base 2 "all_shares" rN JZ) (G_table_of_shares:Cal P w K mg base 1 "table_of_shares" rN JM) (G_same_on_both_sides:Cal P w K mg base 2 "same_on_both_sides" (rk K .k) Yr) :
  L2.FnOk P w K mg base (CXe P w) 4 f fd ["table","part"] (spX K rN Yw) :=
 Zpr (N:=["table","part","found"]) (ps:=["table","part"]) (k:=3) (m:=rN) (g:=Zd9) F Zeq (.inl ZbC) fun cdv A outer s H E hr=>by
  have hu:=hr.units
  have nd:=Zeq.nd
  have nox:∀ (e:Value) (s:Shared),False→False:=fun _ _ h=>h
  exact (ZgT (ZkG (Zdz (Yk G_ask_folk (hr.mono (by decide)) (Ja (Za 0) Yd)))) (ZgT (ZkG (Zdz (Yk G_ask_part (hr.mono (by decide)) (Ja (Za 0) (Ja (Za 1) Yd))))) (ZgT (Zpz (Zan (ZaG (Yk G_same_on_both_sides (hr.mono (by decide)) (Ja (Za 0) (Ja (Za 1) Yd))))) (ZjE (ZlF 4 XC_4 rfl (by kernel_rfl))) Zpm) (Zm3 (Zb (Zg nd 2 (PDn.d (PDw.n (Zak G_all_shares (hr.mono (by decide)) (Ja (Za 0) (Ja (Za 1) Yd)))))) (Jb (Zbk (PDw.n (Zak G_table_of_shares (hr.mono (by decide)) (Ja (Za 0) (Ja (Za 2) Yd)))))))))))
noncomputable abbrev YC:Stmt:=top 31
theorem Zdf:L2.Zh ["script","k"] ["script","k"] (L2.Yb YC):=⟨rfl,rfl,rfl,by decide +kernel,rfl,by decide +kernel,by decide +kernel⟩
theorem ZgB {P:Program} {w:World} {K:PySem.W.Frag} {mg:Str→Option Value} {base:Heap} {f:Addr} {fd:FuncData} (F:L2.Fun K "_law_cell_at" "_law_cell_at" YC f fd) (T:Bt mg) :
  L2.FnOk P w K mg base L2.CX0 1 f fd ["script","k"] (spR K (rk K .k) Zz) :=
 Yp (N:=["script","k"]) (ps:=["script","k"]) (k:=0) (m:=(rk K .k)) (g:=ZdS) F Zdf (.inl (Ys _)) fun cdv A outer s H E hr=>by
  have hu:=hr.units
  have nd:=Zdf.nd
  have nox:∀ (e:Value) (s:Shared),False→False:=fun _ _ h=>h
  exact (Zb (Zo (Zf8 (Za 1) (Zt (m:=.k) T (Za 0))) (Jb (Zi (Jg (Za 0) (Za 1)))) Zn) (Jb (Zi (Jc (m:=.k)))))
noncomputable abbrev J9:Stmt:=top 32
theorem Ze2:L2.Zh ["cell","k","bound","left","j","stir"] ["cell","k","bound"] (L2.Yb J9):=⟨rfl,rfl,rfl,by decide +kernel,rfl,by decide +kernel,by decide +kernel⟩
theorem ZiH {P:Program} {w:World} {K:PySem.W.Frag} {mg:Str→Option Value} {base:Heap} {f:Addr} {fd:FuncData} (F:L2.Fun K "_law_draw" "_law_draw" J9 f fd) (T:Bt mg) :
  L2.FnOk P w K mg base L2.CX0 1 f fd ["cell","k","bound"] (spR K (rk K .k) Z6) :=
 Yp (N:=["cell","k","bound","left","j","stir"]) (ps:=["cell","k","bound"]) (k:=0) (m:=(rk K .k)) (g:=Zgm) F Ze2 (.inl (Ys _)) fun cdv A outer s H E hr=>by
  have hu:=hr.units
  have nd:=Ze2.nd
  have nox:∀ (e:Value) (s:Shared),False→False:=fun _ _ h=>h
  exact (Zb (Zo (ZcO hu (Jw (m:=.k) (Za 0) (Jc (m:=.k))) (Jc (m:=.k))) (Zb (Zg nd 3 (ZaF (m:=.k) (Za 0) (Jc (m:=.k)))) (Zb (Zj (Zr T (Za 1)) (pg_n nd 4) (Jb (Zg nd 3 (ZaF (m:=.k) (Za 3) (Za 2))))) (Jb (Zi (Jw (m:=.k) (Za 3) (Za 2)))))) Zn) (Zb (Zg nd 5 (Jw (m:=.k) (YT (m:=.k) (Yt (Yt (Jw (m:=.k) (Za 0) (Jc (m:=.k))) (YT (m:=.k) (Jc (m:=.k)) (Za 1))) (Jc (m:=.k))) (Jc (m:=.k))) (Jc (m:=.k)))) (Zb (Zg nd 5 (Jw (m:=.k) (YT (m:=.k) (Za 5) (Za 5)) (Jc (m:=.k)))) (Zb (Zg nd 5 (Jw (m:=.k) (YT (m:=.k) (Yt (Za 5) (YT (m:=.k) (Jc (m:=.k)) (Yt (Za 1) (Jc (m:=.k))))) (Jc (m:=.k))) (Jc (m:=.k)))) (Jb (Zi (Jw (m:=.k) (ZaF (m:=.k) (Za 5) (Jc (m:=.k))) (Za 2))))))))
noncomputable abbrev JX:Stmt:=top 33
theorem Zd7:L2.Zh ["found"] ["found"] (L2.Yb JX):=⟨rfl,rfl,rfl,by decide +kernel,rfl,by decide +kernel,by decide +kernel⟩
theorem Zh8 {P:Program} {w:World} {K:PySem.W.Frag} {mg:Str→Option Value} {base:Heap} {f:Addr} {fd:FuncData} (F:L2.Fun K "_law_whole" "_law_whole" JX f fd) (T:Bt mg) :
  L2.FnOk P w K mg base L2.CX0 1 f fd ["found"] (spR K (rk K .k) Za5) :=
 Yp (N:=["found"]) (ps:=["found"]) (k:=0) (m:=(rk K .k)) (g:=Zfb) F Zd7 (.inl (Ys _)) fun cdv A outer s H E hr=>by
  have hu:=hr.units
  have nd:=Zd7.nd
  have nox:∀ (e:Value) (s:Shared),False→False:=fun _ _ h=>h
  exact (Jb (Zi (((ZhO (m:=.k) (Zm4 (ZkR (m:=.k) T (Za 0))) (ZdV (ZoS (m:=.k) (Zm4 (ZfU (m:=.k) T (Za 0))))))))))
noncomputable abbrev ZM:Stmt:=top 34
theorem ZdR:L2.Zh ["dims","size","dim","table","a","row","b","made","worth"] ["dims"] (L2.Yb ZM):=⟨rfl,rfl,rfl,by decide +kernel,rfl,by decide +kernel,by decide +kernel⟩
theorem Zhr {P:Program} {w:World} {K:PySem.W.Frag} {mg:Str→Option Value} {base:Heap} {f:Addr} {fd:FuncData} (F:L2.Fun K "_law_cycles" "_law_cycles" ZM f fd) (T:Bt mg) :
  L2.FnOk P w K mg base L2.CX0 1 f fd ["dims"] (spR K (rk K .k) Zbv) :=
 Yp (N:=["dims","size","dim","table","a","row","b","made","worth"]) (ps:=["dims"]) (k:=0) (m:=(rk K .k)) (g:=Zem) F ZdR (.inl (Ys _)) fun cdv A outer s H E hr=>by
  have hu:=hr.units
  have nd:=ZdR.nd
  have nox:∀ (e:Value) (s:Shared),False→False:=fun _ _ h=>h
  exact (Zb (Zg nd 1 (Jc (m:=.k))) (Zb (Zj (Jo (Za 0)) (pg_n nd 2) (Jb (Zg nd 1 (YT (m:=.k) (Za 1) (Za 2))))) (Zb (Za4 nd 3 (ZaY (m:=.k) Yd)) (Zb (Zj (Zr T (Za 1)) (pg_n nd 4) (Zb (Za4 nd 5 (ZaY (m:=.k) Yd)) (Zb (Zj (Zr T (Za 1)) (pg_n nd 6) (Zb (Zg nd 7 (Jc (m:=.k))) (Zb (Zg nd 8 (Jc (m:=.k))) (Zb (Zj (Jo (Za 0)) (pg_n nd 2) (Zb (Zg nd 7 (Yt (Za 7) (YT (m:=.k) (Jw (m:=.k) (Yt (ZaF (m:=.k) (Za 4) (Za 8)) (ZaF (m:=.k) (Za 6) (Za 8))) (Za 2)) (Za 8)))) (Jb (Zg nd 8 (YT (m:=.k) (Za 8) (Za 2)))))) (Jb (ZcM 5 (Za 7))))))) (Yz 5 (Jb (ZcM 3 (Za 5))))))) (Yz 3 (Jb (Zi (Za 3))))))))
noncomputable abbrev JB:Stmt:=top 35
theorem Zds:L2.Zh ["many","extra","table","a","row","b","turn","both","made"] ["many","extra"] (L2.Yb JB):=⟨rfl,rfl,rfl,by decide +kernel,rfl,by decide +kernel,by decide +kernel⟩
theorem ZgM {P:Program} {w:World} {K:PySem.W.Frag} {mg:Str→Option Value} {base:Heap} {f:Addr} {fd:FuncData} (F:L2.Fun K "_law_twisted" "_law_twisted" JB f fd) (T:Bt mg) :
  L2.FnOk P w K mg base L2.CX0 1 f fd ["many","extra"] (spR K (rk K .k) Za9) :=
 Yp (N:=["many","extra","table","a","row","b","turn","both","made"]) (ps:=["many","extra"]) (k:=0) (m:=(rk K .k)) (g:=ZdP) F Zds (.inl (Ys _)) fun cdv A outer s H E hr=>by
  have hu:=hr.units
  have nd:=Zds.nd
  have nox:∀ (e:Value) (s:Shared),False→False:=fun _ _ h=>h
  exact (Zb (Za4 nd 2 (ZaY (m:=.k) Yd)) (Zb (Zj (Zr T (YT (m:=.k) (Jc (m:=.k)) (Za 0))) (pg_n nd 3) (Zb (Za4 nd 4 (ZaY (m:=.k) Yd)) (Zb (Zj (Zr T (YT (m:=.k) (Jc (m:=.k)) (Za 0))) (pg_n nd 5) (Zb (Zg nd 6 (Jg (Yl (Ja (Jw (m:=.k) (Za 5) (Za 0)) (Ja (ZgN (m:=.k) (Jc (m:=.k)) (Jw (m:=.k) (Za 5) (Za 0))) Yd))) (ZaF (m:=.k) (Za 3) (Za 0)))) (Zb (Zg nd 7 (YT (m:=.k) (ZaF (m:=.k) (Za 3) (Za 0)) (ZaF (m:=.k) (Za 5) (Za 0)))) (Zb (Zg nd 8 (Jw (m:=.k) (Yt (Yt (Jw (m:=.k) (Za 3) (Za 0)) (Za 6)) (YT (m:=.k) (Za 1) (Za 7))) (Za 0))) (Jb (ZcM 4 (Yt (Za 8) (YT (m:=.k) (Za 0) (Jw (m:=.k) (Yt (ZaF (m:=.k) (Za 3) (Za 0)) (ZaF (m:=.k) (Za 5) (Za 0))) (Jc (m:=.k))))))))))) (Yz 4 (Jb (ZcM 2 (Za 4))))))) (Yz 2 (Jb (Zi (Za 2))))))
noncomputable abbrev Zab:Stmt:=top 36
theorem Ze7:L2.Zh ["lines","k","longer","line","x","some","wrong","j","table","one","two"] [] (L2.Yb Zab):=⟨rfl,rfl,rfl,by decide +kernel,rfl,by decide +kernel,by decide +kernel⟩
theorem ZiV {P:Program} {w:World} {K:PySem.W.Frag} {mg:Str→Option Value} {base:Heap} {f:Addr} {fd:FuncData} (F:L2.Fun K "_law_even" "_law_even" Zab f fd) (T:Bt mg) :
  L2.FnOk P w K mg base L2.CX0 1 f fd [] (spR K (rk K .k) Zcc) :=
 Yp (N:=["lines","k","longer","line","x","some","wrong","j","table","one","two"]) (ps:=[]) (k:=0) (m:=(rk K .k)) (g:=Zgh) F Ze7 (.inl (Ys _)) fun cdv A outer s H E hr=>by
  have hu:=hr.units
  have nd:=Ze7.nd
  have nox:∀ (e:Value) (s:Shared),False→False:=fun _ _ h=>h
  exact (Zb (Zg nd 0 (Yl (Ja (Yl (m:=.k) Yd) Yd))) (Zb (Zj (Zr T (Jc (m:=.k))) (pg_n nd 1) (Zb (Zg nd 2 (Yl (m:=.k) Yd)) (Zb (Zj (Jo (Za 0)) (pg_n nd 3) (Jb (Zg nd 2 (Yt (Za 2) (ZbY nox nd 4 (Zr T (Jc (m:=.k))) (fun _ _ _ _ _ _=>(Zkp hu (Za 4) (Za 3))) (fun _ _ _ _ _ _=>(Yt (Za 3) (Yl (Ja (Za 4) Yd))))))))) (Jb (Zg nd 0 (Za 2)))))) (Zb (Za4 nd 5 (ZaY (m:=.k) Yd)) (Zb (Zj (Jo (Za 0)) (pg_n nd 3) (Zb (Zg nd 6 (Jc (m:=.k))) (Zb (Zj (Zr T (Jc (m:=.k))) (pg_n nd 7) (Jb (Zg nd 6 (Yt (Za 6) (Zt (m:=.k) T (ZbY nox nd 1 (Zr T (Za 7)) (fun _ _ _ _ _ _=>(Zm7 (Jg (Za 3) (Za 1)) (Jg (Za 3) (Za 7)))) (fun _ _ _ _ _ _=>(Za 1)))))))) (Jb (Zo (ZcO hu (Jw (m:=.k) (Za 6) (Jc (m:=.k))) (Jc (m:=.k))) (Jb (ZcM 5 (Za 3))) Zn))))) (Zb (Za4 nd 8 (ZaY (m:=.k) Yd)) (Yz 5 (Zb (Zj (Jo (Za 5)) (pg_n nd 9) (Yz 5 (Jb (ZcM 8 (YH nox nd 10 (Jo (Za 5)) (fun _ _ _ _ _ _=>(Zic (m:=.k) hu (Zbn 5) (YH nox nd 4 (Jo (Za 9)) (fun _ _ _ _ _ _=>(Jg (Za 10) (Za 4))))))))))) (Yz 8 (Jb (Zi (Za 8)))))))))))
noncomputable abbrev Y9:Stmt:=top 37
theorem Zfi:L2.Zh ["kind","dims","pair"] ["kind"] (L2.Yb Y9):=⟨rfl,rfl,rfl,by decide +kernel,rfl,by decide +kernel,by decide +kernel⟩
theorem Zi5 {P:Program} {w:World} {K:PySem.W.Frag} {mg:Str→Option Value} {base:Heap} {f:Addr} {fd:FuncData} (F:L2.Fun K "_law_base" "_law_base" Y9 f fd) (T:Bt mg) (G_law_even:Cal P w K mg base 1 "_law_even" (rk K .k) Zcc) (G_law_cycles:Cal P w K mg base 1 "_law_cycles" (rk K .k) Zbv) (G_law_twisted:Cal P w K mg base 1 "_law_twisted" (rk K .k) Za9) :
  L2.FnOk P w K mg base L2.CX0 2 f fd ["kind"] (spR K (rk K .k) YD) :=
 Yp (N:=["kind","dims","pair"]) (ps:=["kind"]) (k:=1) (m:=(rk K .k)) (g:=Zf7) F Zfi (.inl (Ys _)) fun cdv A outer s H E hr=>by
  have hu:=hr.units
  have nd:=Zfi.nd
  have nox:∀ (e:Value) (s:Shared),False→False:=fun _ _ h=>h
  exact (Zb (Zg nd 1 (Yl (Ja (Yl (Ja (Jc (m:=.k)) Yd)) (Ja (Yl (Ja (Jc (m:=.k)) Yd)) (Ja (Yl (Ja (Jc (m:=.k)) Yd)) (Ja (Yl (Ja (Jc (m:=.k)) Yd)) (Ja (Yl (Ja (Jc (m:=.k)) (Ja (Jc (m:=.k)) Yd))) (Ja (Yl (Ja (Jc (m:=.k)) Yd)) (Ja (Yl (Ja (Jc (m:=.k)) Yd)) (Ja (Yl (Ja (Jc (m:=.k)) Yd)) (Ja (Yl (Ja (Jc (m:=.k)) Yd)) Yd))))))))))) (Zb (Zg nd 1 (Yt (Za 1) (Yl (Ja (Yl (Ja (Jc (m:=.k)) (Ja (Jc (m:=.k)) Yd))) (Ja (Yl (Ja (Jc (m:=.k)) (Ja (Jc (m:=.k)) (Ja (Jc (m:=.k)) Yd)))) (Ja (Yl (Ja (Jc (m:=.k)) Yd)) (Ja (Yl (Ja (Jc (m:=.k)) (Ja (Jc (m:=.k)) Yd))) (Ja (Yl (Ja (Jc (m:=.k)) Yd)) (Ja (Yl (Ja (Jc (m:=.k)) Yd)) (Ja (Yl (Ja (Jc (m:=.k)) Yd)) (Ja (Yl (Ja (Jc (m:=.k)) (Ja (Jc (m:=.k)) Yd))) Yd))))))))))) (Zb (Zo (Zf8 (Za 0) (Jc (m:=.k))) (Jb (Zi (Yk G_law_cycles (hr.mono (by decide)) (Ja (Jg (Za 1) (Za 0)) Yd)))) Zn) (Zb (Zo (Zf8 (Za 0) (Jc (m:=.k))) (Zb (Zg nd 2 (Jg (Yl (Ja (ZbF (Ja (Jc (m:=.k)) (Ja (Jc (m:=.k)) Yd))) (Ja (ZbF (Ja (Jc (m:=.k)) (Ja (Jc (m:=.k)) Yd))) (Ja (ZbF (Ja (Jc (m:=.k)) (Ja (Jc (m:=.k)) Yd))) (Ja (ZbF (Ja (Jc (m:=.k)) (Ja (Jc (m:=.k)) Yd))) (Ja (ZbF (Ja (Jc (m:=.k)) (Ja (Jc (m:=.k)) Yd))) (Ja (ZbF (Ja (Jc (m:=.k)) (Ja (Jc (m:=.k)) Yd))) Yd))))))) (ZgN (m:=.k) (Za 0) (Jc (m:=.k))))) (Jb (Zi (Yk G_law_twisted (hr.mono (by decide)) (Ja (Jg (Za 2) (Jc (m:=.k))) (Ja (Jg (Za 2) (Jc (m:=.k))) Yd)))))) Zn) (Jb (Zi (Zl5 G_law_even (hr.mono (by decide)))))))))
noncomputable abbrev YB:Stmt:=top 38
theorem Zdj:L2.Zh ["base","cell","names","k","table","row","a","b"] ["base","cell"] (L2.Yb YB):=⟨rfl,rfl,rfl,by decide +kernel,rfl,by decide +kernel,by decide +kernel⟩
theorem Zfr:∀ env env',Zba env≠some (.nx,env'):=fun env env' h=>by
 unfold Zba at h
 obtain ⟨e1,_,h⟩:=Zck h
 obtain ⟨e2,_,h⟩:=Zck h
 obtain ⟨e3,_,h⟩:=Zck h
 obtain ⟨e4,_,h⟩:=Zck h
 unfold ZeC at h
 split at h <;> cases h
theorem ZgO {P:Program} {w:World} {K:PySem.W.Frag} {mg:Str→Option Value} {base:Heap} {f:Addr} {fd:FuncData} (F:L2.Fun K "_law_renamed" "_law_renamed" YB f fd) (T:Bt mg) (G_law_draw:Cal P w K mg base 1 "_law_draw" (rk K .k) Z6) :
  L2.FnOk P w K mg base L2.CX0 2 f fd ["base","cell"] (spR K (rT K) Zav) :=
 Yp (N:=["base","cell","names","k","table","row","a","b"]) (ps:=["base","cell"]) (k:=1) (m:=(rT K)) (g:=Zba) F Zdj (.inr Zfr) fun cdv A outer s H E hr=>by
  have hu:=hr.units
  have nd:=Zdj.nd
  have nox:∀ (e:Value) (s:Shared),False→False:=fun _ _ h=>h
  exact (Zb (Za4 nd 2 (ZaY (m:=.k) Yd)) (Zb (Zj (Zr T (Zt (m:=.k) T (Za 0))) (pg_n nd 3) (Jb (ZoO 2 (Jw (m:=.k) (Yk G_law_draw (hr.mono (by decide)) (Ja (Za 1) (Ja (Za 3) (Ja (Jc (m:=.k)) Yd)))) (Yt (Za 3) (Jc (m:=.k)))) (Za 3)))) (Zb (ZnY nox nd 4 5 (Jo (Za 0)) (fun _ _ _ _ _ _=>(ZgF T (Za 5))) (fun _ _ h=>Zg5 h)) (Zb (Zj (Zr T (Zt (m:=.k) T (Za 0))) (pg_n nd 6) (Jb (Zj (Zr T (Zt (m:=.k) T (Za 0))) (pg_n nd 7) (Jb (Zn6 4 (Jg (Zbn 2) (Za 6)) (Jg (Zbn 2) (Za 7)) (Zna (m:=.k) (Jg (Zbn 2) (Jg (Jg (Za 0) (Za 6)) (Za 7))))))))) (Jb (ZnT 4))))))
noncomputable abbrev JC:Stmt:=top 39
theorem Zc7:L2.Zh ["script","first"] ["script","first"] (L2.Yb JC):=⟨rfl,rfl,rfl,by decide +kernel,rfl,by decide +kernel,by decide +kernel⟩
theorem Zfo:∀ env env',Zbb env≠some (.nx,env'):=fun env env' h=>by
 unfold Zbb sRet at h
 split at h <;> cases h
theorem ZgL {P:Program} {w:World} {K:PySem.W.Frag} {mg:Str→Option Value} {base:Heap} {f:Addr} {fd:FuncData} (F:L2.Fun K "_law_folk_by" "_law_folk_by" JC f fd) (T:Bt mg) (G_law_renamed:Cal P w K mg base 2 "_law_renamed" (rT K) Zav) (G_law_base:Cal P w K mg base 2 "_law_base" (rk K .k) YD) (G_law_cell_at:Cal P w K mg base 1 "_law_cell_at" (rk K .k) Zz) :
  L2.FnOk P w K mg base L2.CX0 3 f fd ["script","first"] (spR K (rT K) J2) :=
 Yp (N:=["script","first"]) (ps:=["script","first"]) (k:=2) (m:=(rT K)) (g:=Zbb) F Zc7 (.inr Zfo) fun cdv A outer s H E hr=>by
  have hu:=hr.units
  have nd:=Zc7.nd
  have nox:∀ (e:Value) (s:Shared),False→False:=fun _ _ h=>h
  exact (Jb (Zmd (ZhU G_law_renamed (hr.mono (by decide)) (Ja (Yk G_law_base (hr.mono (by decide)) (Ja (Jw (m:=.k) (Yk G_law_cell_at (hr.mono (by decide)) (Ja (Za 0) (Ja (Za 1) Yd))) (Jc (m:=.k))) Yd)) (Ja (Yk G_law_cell_at (hr.mono (by decide)) (Ja (Za 0) (Ja (Yt (Za 1) (Jc (m:=.k))) Yd))) Yd)))))
noncomputable abbrev YX:Stmt:=top 40
theorem Zd8:L2.Zh ["table","e"] ["table"] (L2.Yb YX):=⟨rfl,rfl,rfl,by decide +kernel,rfl,by decide +kernel,by decide +kernel⟩
theorem ZiF {P:Program} {w:World} {K:PySem.W.Frag} {mg:Str→Option Value} {base:Heap} {f:Addr} {fd:FuncData} (F:L2.Fun K "_law_still" "_law_still" YX f fd) (T:Bt mg) :
  L2.FnOk P w K mg base L2.CX0 1 f fd ["table"] (spR K (rk K .k) ZaZ) :=
 Yp (N:=["table","e"]) (ps:=["table"]) (k:=0) (m:=(rk K .k)) (g:=Zfj) F Zd8 (.inl (Ys _)) fun cdv A outer s H E hr=>by
  have hu:=hr.units
  have nd:=Zd8.nd
  have nox:∀ (e:Value) (s:Shared),False→False:=fun _ _ h=>h
  exact (Jb (Zi (Jg (ZbY nox nd 1 (Zr T (Zt (m:=.k) T (Za 0))) (fun _ _ _ _ _ _=>(ZcO hu (Jg (Za 0) (Za 1)) (Zh9 (m:=.k) T (Zt (m:=.k) T (Za 0))))) (fun _ _ _ _ _ _=>(Za 1))) (Jc (m:=.k)))))
noncomputable abbrev ZW:Stmt:=top 41
theorem ZeA:L2.Zh ["found","row","number"] ["found"] (L2.Yb ZW):=⟨rfl,rfl,rfl,by decide +kernel,rfl,by decide +kernel,by decide +kernel⟩
theorem ZhN {P:Program} {w:World} {K:PySem.W.Frag} {mg:Str→Option Value} {base:Heap} {f:Addr} {fd:FuncData} (F:L2.Fun K "_law_lists" "_law_lists" ZW f fd) (T:Bt mg) (G_law_whole:Cal P w K mg base 1 "_law_whole" (rk K .k) Za5) :
  L2.FnOk P w K mg base L2.CX0 2 f fd ["found"] (spR K (rk K .k) Z9) :=
 Yp (N:=["found","row","number"]) (ps:=["found"]) (k:=1) (m:=(rk K .k)) (g:=Ze3) F ZeA (.inl (Ys _)) fun cdv A outer s H E hr=>by
  have hu:=hr.units
  have nd:=ZeA.nd
  have nox:∀ (e:Value) (s:Shared),False→False:=fun _ _ h=>h
  exact (Zb (Zo (Zan (ZaG (ZfG (m:=.k) T (Za 0)))) (Jb (Zi (ZaI (m:=.k)))) Zn) (Zb (Zj (Jo (Za 0)) (pg_n nd 1) (Jb (Zo (pw_t (Zdu (Zan (ZaG (ZfG (m:=.k) T (Za 1)))) (ZbL (Zan (ZaG (Zd3 (m:=.k) T (YH nox nd 2 (Jo (Za 1)) (fun _ _ _ _ _ _=>(Yk G_law_whole (hr.mono (by decide)) (Ja (Za 2) Yd)))))))))) (Jb (Zi (ZaI (m:=.k)))) Zn))) (Jb (Zi (ZaI (m:=.k))))))
noncomputable abbrev J8:Stmt:=top 42
theorem Ze5:L2.Zh ["table","row"] ["table"] (L2.Yb J8):=⟨rfl,rfl,rfl,by decide +kernel,rfl,by decide +kernel,by decide +kernel⟩
theorem ZiL {P:Program} {w:World} {K:PySem.W.Frag} {mg:Str→Option Value} {base:Heap} {f:Addr} {fd:FuncData} (F:L2.Fun K "_law_copy" "_law_copy" J8 f fd) (T:Bt mg) :
  L2.FnOk P w K mg base L2.CX0 1 f fd ["table"] (spR K (rk K .k) Zbx) :=
 Yp (N:=["table","row"]) (ps:=["table"]) (k:=0) (m:=(rk K .k)) (g:=Zgc) F Ze5 (.inl (Ys _)) fun cdv A outer s H E hr=>by
  have hu:=hr.units
  have nd:=Ze5.nd
  have nox:∀ (e:Value) (s:Shared),False→False:=fun _ _ h=>h
  exact (Jb (Zi (YH nox nd 1 (Jo (Za 0)) (fun _ _ _ _ _ _=>(ZjJ T (Za 1))))))
noncomputable abbrev JK:Stmt:=top 43
theorem ZdQ:L2.Zh ["some","many","found","one","row"] ["some","many"] (L2.Yb JK):=⟨rfl,rfl,rfl,by decide +kernel,rfl,by decide +kernel,by decide +kernel⟩
theorem Zht {P:Program} {w:World} {K:PySem.W.Frag} {mg:Str→Option Value} {base:Heap} {f:Addr} {fd:FuncData} (F:L2.Fun K "_law_chosen" "_law_chosen" JK f fd) (T:Bt mg) :
  L2.FnOk P w K mg base L2.CX0 1 f fd ["some","many"] (spR K (rk K .k) ZaL) :=
 Yp (N:=["some","many","found","one","row"]) (ps:=["some","many"]) (k:=0) (m:=(rk K .k)) (g:=ZcA) F ZdQ (.inl (Ys _)) fun cdv A outer s H E hr=>by
  have hu:=hr.units
  have nd:=ZdQ.nd
  have nox:∀ (e:Value) (s:Shared),False→False:=fun _ _ h=>h
  exact (Zb (Zg nd 2 (Yl (Ja (Yl (m:=.k) Yd) Yd))) (Zb (Zj (Jo (Za 0)) (pg_n nd 3) (Jb (Zg nd 2 (Yt (Za 2) (ZbY nox nd 4 (Jo (Za 2)) (fun _ _ _ _ _ _=>(Zf8 (Zt (m:=.k) T (Za 4)) (Za 1))) (fun _ _ _ _ _ _=>(Yt (Za 4) (Yl (Ja (Za 3) Yd))))))))) (Jb (Zi (ZbY nox nd 4 (Jo (Za 2)) (fun _ _ _ _ _ _=>(ZcO hu (Zt (m:=.k) T (Za 4)) (Za 1))) (fun _ _ _ _ _ _=>(Za 4)))))))
noncomputable abbrev Zad:Stmt:=top 45
theorem Zfm:L2.Zh ["table","row","a","b"] ["table","row"] (L2.Yb Zad):=⟨rfl,rfl,rfl,by decide +kernel,rfl,by decide +kernel,by decide +kernel⟩
theorem ZiQ {P:Program} {w:World} {K:PySem.W.Frag} {mg:Str→Option Value} {base:Heap} {f:Addr} {fd:FuncData} (F:L2.Fun K "_law_shut" "_law_shut" Zad f fd) (T:Bt mg) :
  L2.FnOk P w K mg base L2.CX0 1 f fd ["table","row"] (spR K (rk K .k) Zby) :=
 Yp (N:=["table","row","a","b"]) (ps:=["table","row"]) (k:=0) (m:=(rk K .k)) (g:=Zf9) F Zfm (.inl (Ys _)) fun cdv A outer s H E hr=>by
  have hu:=hr.units
  have nd:=Zfm.nd
  have nox:∀ (e:Value) (s:Shared),False→False:=fun _ _ h=>h
  exact (Zb (Zj (Jo (Za 1)) (pg_n nd 2) (Jb (Zj (Jo (Za 1)) (pg_n nd 3) (Jb (Zo (Zkp hu (Jg (Jg (Za 0) (Za 2)) (Za 3)) (Za 1)) (Jb (Zi (ZaI (m:=.k)))) Zn))))) (Jb (Zi (ZaI (m:=.k)))))
noncomputable abbrev JV:Stmt:=top 44
theorem Zd5:L2.Zh ["table","still","others","e","found","size","here","row"] ["table"] (L2.Yb JV):=⟨rfl,rfl,rfl,by decide +kernel,rfl,by decide +kernel,by decide +kernel⟩
theorem Zhz {P:Program} {w:World} {K:PySem.W.Frag} {mg:Str→Option Value} {base:Heap} {f:Addr} {fd:FuncData} (F:L2.Fun K "_law_parts" "_law_parts" JV f fd) (T:Bt mg) (G_law_still:Cal P w K mg base 1 "_law_still" (rk K .k) ZaZ) (G_law_chosen:Cal P w K mg base 1 "_law_chosen" (rk K .k) ZaL) (G_law_shut:Cal P w K mg base 1 "_law_shut" (rk K .k) Zby) :
  L2.FnOk P w K mg base L2.CX0 2 f fd ["table"] (spR K (rk K .k) Za1) :=
 Yp (N:=["table","still","others","e","found","size","here","row"]) (ps:=["table"]) (k:=1) (m:=(rk K .k)) (g:=ZcX) F Zd5 (.inl (Ys _)) fun cdv A outer s H E hr=>by
  have hu:=hr.units
  have nd:=Zd5.nd
  have nox:∀ (e:Value) (s:Shared),False→False:=fun _ _ h=>h
  exact (Zb (Zg nd 1 (Yk G_law_still (hr.mono (by decide)) (Ja (Za 0) Yd))) (Zb (Zlm nox nd 2 3 (Zr T (Zt (m:=.k) T (Za 0))) (fun _ _ _ _ _ _=>(Za6 hu (Za 3) (Za 1))) (fun _ _ _ _ _ _=>(Za 3))) (Zb (Zg nd 4 (Yl (m:=.k) Yd)) (Zb (Zj (ZnN T (Jc (m:=.k)) (Yt (Zt (m:=.k) T (Za 0)) (Jc (m:=.k)))) (pg_n nd 5) (Jb (Zo (ZcO hu (Jw (m:=.k) (Zt (m:=.k) T (Za 0)) (Za 5)) (Jc (m:=.k))) (Zb (Zh2 nox nd 6 7 (Jo (Yk G_law_chosen (hr.mono (by decide)) (Ja (Za 2) (Ja (ZgN (m:=.k) (Za 5) (Jc (m:=.k))) Yd)))) (fun _ _ _ _ _ _=>(Zb7 T hu (Yt (Yl (Ja (Za 1) Yd)) (Za 7))))) (Jb (Zg nd 4 (Yt (Za 4) (Zb7 T hu (ZbY nox nd 7 (Jo (Za 6)) (fun _ _ _ _ _ _=>(ZaG (Yk G_law_shut (hr.mono (by decide)) (Ja (Za 0) (Ja (Za 7) Yd))))) (fun _ _ _ _ _ _=>(Za 7)))))))) Zn))) (Jb (Zi (Za 4)))))))
noncomputable abbrev JD:Stmt:=top 46
theorem Zdq:L2.Zh ["e","some"] ["e"] (L2.Yb JD):=⟨rfl,rfl,rfl,by decide +kernel,rfl,by decide +kernel,by decide +kernel⟩
theorem ZgR {P:Program} {w:World} {K:PySem.W.Frag} {mg:Str→Option Value} {base:Heap} {f:Addr} {fd:FuncData} (F:L2.Fun K "_law_word_of" "_law_word_of" JD f fd) (T:Bt mg) (hxv:mg "ValueError"=none) (XF:Zcq K [4]) :
  FnW P w K mg base 1 f fd "e" ZK :=
 ZpJ (N:=["e","some"]) (k:=0) (g:=Zb9) F Zdq fun cdv A outer s H hr=>by
  have hu:=hr.units
  have nd:=Zdq.nd
  exact (Zb (Zg nd 1 (Yl (Ja (ZcH (m:=.k) 0 0 T XF (by decide) (by kernel_rfl)) (Ja (ZcH (m:=.k) 0 1 T XF (by decide) (by kernel_rfl)) (Ja (ZcH (m:=.k) 0 2 T XF (by decide) (by kernel_rfl)) Yd))))) (Zb (Zg nd 1 (Yt (Za 1) (Yl (Ja (ZcH (m:=.k) 0 3 T XF (by decide) (by kernel_rfl)) (Ja (ZcH (m:=.k) 0 4 T XF (by decide) (by kernel_rfl)) (Ja (ZcH (m:=.k) 0 5 T XF (by decide) (by kernel_rfl)) Yd)))))) (Zb (Zg nd 1 (Yt (Za 1) (Yl (Ja (ZcH (m:=.k) 0 6 T XF (by decide) (by kernel_rfl)) Yd)))) (Zb (Zo (pw_t (Zdu (Za6 hu (ZlZ (m:=.k) hu (Za 1) (ZaI (m:=.k))) (Jc (m:=.k))) (ZbL (Zan (ZaG (ZpA (m:=.k) 0 T hxv XF)))))) (Jb (Zi (Zaw (m:=.k)))) Zn) (Jb (Zi (Jg (Yl (Ja (Zaw (m:=.k)) (Ja (Zaw (m:=.k)) (Ja (Zaw (m:=.k)) (Ja (Zaw (m:=.k)) (Ja (Zaw (m:=.k)) (Ja (Zaw (m:=.k)) (Ja (Zaw (m:=.k)) Yd)))))))) (Zic (m:=.k) hu (Za 1) (ZaI (m:=.k))))))))))
theorem ZmT:∀ c d,ZK c=some d→c ∈ ([4]:List Nat):=fun c d h=>by
 cases hc:decide (c ∈ ([4]:List Nat)) with
 | true=>exact of_decide_eq_true hc
 | false =>
  have hc:=of_decide_eq_false hc
  simp only [ZK,runW,Zb9,sSeq,sSet,eLst,evs,eIsX,List.getElem?_cons_zero,if_neg hc] at h
  cases h
noncomputable abbrev Y8:Stmt:=top 47
theorem Zfg:L2.Zh ["table","part","e"] ["table","part"] (L2.Yb Y8):=⟨rfl,rfl,rfl,by decide +kernel,rfl,by decide +kernel,by decide +kernel⟩
theorem Zi4 {P:Program} {w:World} {K:PySem.W.Frag} {mg:Str→Option Value} {base:Heap} {f:Addr} {fd:FuncData} (F:L2.Fun K "_law_told" "_law_told" Y8 f fd) (T:Bt mg) (XF:Zcq K [4]) (Gx_taken_out:CalX P w K mg base 4 "taken_out" rN Yw) (G_law_word_of:CalW P w K mg base 1 "_law_word_of" ZK) :
  L2.FnOk P w K mg base L2.CX0 5 f fd ["table","part"] (spR K rN ZaU) :=
 Yp (N:=["table","part","e"]) (ps:=["table","part"]) (k:=4) (m:=rN) (g:=Zcj) F Zfg (.inl ZbC) fun cdv A outer s H E hr=>by
  have hu:=hr.units
  have nd:=Zfg.nd
  have nox:∀ (e:Value) (s:Shared),False→False:=fun _ _ h=>h
  exact (Jb (ZoE 2 rfl rfl nd XF ZmT ZoB G_law_word_of (hr.mono (by decide)) (fun E=>(ZjE (Znj Znv Gx_taken_out (hr.mono (by decide)) (Ja (Za 0) (Ja (Za 1) Yd)))))))
noncomputable abbrev J0:Stmt:=top 48
theorem ZdX:L2.Zh ["table","known","places","element","place","other","one"] ["table","known"] (L2.Yb J0):=⟨rfl,rfl,rfl,by decide +kernel,rfl,by decide +kernel,by decide +kernel⟩
theorem Zib {P:Program} {w:World} {K:PySem.W.Frag} {mg:Str→Option Value} {base:Heap} {f:Addr} {fd:FuncData} (F:L2.Fun K "_law_taken" "_law_taken" J0 f fd) (T:Bt mg) :
  L2.FnOk P w K mg base L2.CX0 1 f fd ["table","known"] (spR K (rk K .k) Za3) :=
 Yp (N:=["table","known","places","element","place","other","one"]) (ps:=["table","known"]) (k:=0) (m:=(rk K .k)) (g:=Zfh) F ZdX (.inl (Ys _)) fun cdv A outer s H E hr=>by
  have hu:=hr.units
  have nd:=ZdX.nd
  have nox:∀ (e:Value) (s:Shared),False→False:=fun _ _ h=>h
  exact (Zb (Za4 nd 2 (ZeQ nox nd 3 (Jo (Za 0)) (fun _ _ _ _ _ _=>(Jc (m:=.k))))) (Zb (Zj (Zr T (Zt (m:=.k) T (Za 1))) (pg_n nd 4) (Jb (Zj (Jo (Jg (Za 1) (Za 4))) (pg_n nd 3) (Jb (Zo6 2 (Za 3) (Za 4)))))) (Jb (Zi (YH nox nd 6 (Jo (Za 1)) (fun _ _ _ _ _ _=>(YH nox nd 5 (Jo (Za 1)) (fun _ _ _ _ _ _=>(Zna (m:=.k) (Jg (Zbn 2) (Jg (Jg (Za 0) (Jg (Za 6) (Jc (m:=.k)))) (Jg (Za 5) (ZoJ (m:=.k))))))))))))))
noncomputable abbrev ZbG:Stmt:=top 49
theorem ZkT:L2.Zh ["script","table","known","part","due","loose","element","share","other","handed","turn","found","told","left"] ["script"] (L2.Yb ZbG):=⟨rfl,rfl,rfl,by decide +kernel,rfl,by decide +kernel,by decide +kernel⟩
theorem ZoN {P:Program} {w:World} {K:PySem.W.Frag} {mg:Str→Option Value} {base:Heap} {f:Addr} {fd:FuncData} (F:L2.Fun K "law" "law" ZbG f fd) (T:Bt mg) (G_law_folk_by:Cal P w K mg base 3 "_law_folk_by" (rT K) J2) (G_law_parts:Cal P w K mg base 2 "_law_parts" (rk K .k) Za1) (G_law_copy:Cal P w K mg base 1 "_law_copy" (rk K .k) Zbx) (G_shares:Cal P w K mg base 4 "shares" rN ZcF) (G_is_loose:Cal P w K mg base 4 "is_loose" (rk K .k) ZbB) (G_law_told:Cal P w K mg base 5 "_law_told" rN ZaU) (G_law_cell_at:Cal P w K mg base 1 "_law_cell_at" (rk K .k) Zz) (G_law_lists:Cal P w K mg base 2 "_law_lists" (rk K .k) Z9) (G_law_taken:Cal P w K mg base 1 "_law_taken" (rk K .k) Za3) :
  L2.FnOk P w K mg base L2.CX0 6 f fd ["script"] (spR K (rk K .k) ZfQ) :=
 Yp (N:=["script","table","known","part","due","loose","element","share","other","handed","turn","found","told","left"]) (ps:=["script"]) (k:=5) (m:=(rk K .k)) (g:=Znd) F ZkT (.inl (Ys _)) fun cdv A outer s H E hr=>by
  have hu:=hr.units
  have nd:=ZkT.nd
  have nox:∀ (e:Value) (s:Shared),False→False:=fun _ _ h=>h
  exact (Zb (Zg nd 1 ((PDt.k (ZhU G_law_folk_by (hr.mono (by decide)) (Ja (Za 0) (Ja (Jc (m:=.k)) Yd)))))) (Zb (Zg nd 2 (Yk G_law_parts (hr.mono (by decide)) (Ja (Za 1) Yd))) (Zb (Zg nd 3 (Jg (Za 2) (Jw (m:=.k) (Yk G_law_cell_at (hr.mono (by decide)) (Ja (Za 0) (Ja (Jc (m:=.k)) Yd))) (Zt (m:=.k) T (Za 2))))) (Zb (Za4 nd 4 (ZaY (m:=.k) Yd)) (Zb (Zg nd 5 (ZaI (m:=.k))) (Zb (Zj (Zr T (Zt (m:=.k) T (Za 1))) (pg_n nd 6) (Zb (Zg nd 7 (Zb7 T hu (YH nox nd 8 (Jo (Za 3)) (fun _ _ _ _ _ _=>(Jg (Jg (Za 1) (Za 6)) (Za 8)))))) (Zb (Zo (Zkp hu (Za 7) (Zbn 4)) (Jb (ZcM 4 (Za 7))) Zn) (Jb (Zo (Za6 hu (Za 7) (Zb7 T hu (YH nox nd 8 (Jo (Za 3)) (fun _ _ _ _ _ _=>(Jg (Jg (Za 1) (Za 8)) (Za 6)))))) (Jb (Zg nd 5 (ZaI (m:=.k)))) Zn))))) (Yz 4 (Zb (Zg nd 4 (Zb7 T hu (Za 4))) (Zb (Zg nd 9 (Yl (Ja (Yk G_law_copy (hr.mono (by decide)) (Ja (Za 1) Yd)) (Ja (ZjJ T (Za 3)) Yd)))) (Zb (Zj (Zr T (Jc (m:=.k))) (pg_n nd 10) (Zb (Zm5 nd 11 (Zak G_shares (hr.mono (by decide)) (Ja (Jg (Za 9) (Jc (m:=.k))) (Ja (Jg (Za 9) (Jc (m:=.k))) Yd)))) (Zb (Zg nd 12 (Yk G_is_loose (hr.mono (by decide)) (Ja (Jg (Za 9) (Jc (m:=.k))) (Ja (Jg (Za 9) (Jc (m:=.k))) Yd)))) (Zb (Zm5 nd 13 (Zak G_law_told (hr.mono (by decide)) (Ja (Jg (Za 9) (Jc (m:=.k))) (Ja (Jg (Za 9) (Jc (m:=.k))) Yd)))) (Zb (Zo (Zio 11 (pw_t (Zdu (Zan (ZaG (Yk G_law_lists (hr.mono (by decide)) (Ja (Za 11) Yd)))) (Zdu (Za6 hu (Za 11) (Zbn 4)) (ZbL (Za6 hu (Za 9) (Yl (Ja (Za 1) (Ja (Za 3) Yd))))))))) (Jb (Zi (ZaI (m:=.k)))) Zn) (Zb (Zo (pw_t (Zdu (Zan (ZaG (ZfU (m:=.k) T (Za 12)))) (ZbL (Za6 hu (Za 12) (Za 5))))) (Jb (Zi (ZaI (m:=.k)))) Zn) (Zb (Zo (Zio 13 (pw_t (Zky (Zan (ZaG (Za 5))) (Zg2 (Za6 hu (Za 13) (Zaw (m:=.k))))))) (Jb (Zi (ZaI (m:=.k)))) Zn) (Zb (Zo (ZaG (Za 5)) (Yz 4 (Zb (Zo (Zio 13 (pw_t (Zdu (Zan (ZaG (Yk G_law_lists (hr.mono (by decide)) (Ja (Za 13) Yd)))) (ZbL (Za6 hu (Za 13) (Yk G_law_taken (hr.mono (by decide)) (Ja (Za 1) (Ja (Za 4) Yd)))))))) (Jb (Zi (ZaI (m:=.k)))) Zn) (Jb (Zh4 13)))) Zn) (Jb (Zh4 11)))))))))) (Jb (Zi (ZaI (m:=.k))))))))))))))
end PV
set_option linter.all false
set_option Elab.async false
set_option maxRecDepth 100000
set_option maxHeartbeats 4000000
namespace PV
open PySem PySem.Spec PyProof.Rows
open L2 (V Hp HO Same Cx)
theorem bnd1 {K:PySem.W.Frag}{x qual:Str}{st:Stmt}{f:Addr}{fd:FuncData}{p0:Str}(F:L2.Fun K x qual st f fd)
  (h:∀ (kV doc pm:Value) (an:Option Addr) (cdv ct:Value) (a0:Value),bindArgs (PySem.W.fnOf x qual (L2.Jf st) (L2.Zf st) (L2.Yb st) .none kV doc pm an cdv ct) ⟨[a0],[]⟩=pure ([p0].zip [a0])):L2.Binds K fd [p0] [] :=
 F.binds fun _ _ _ _ _ _ us hl=>match us,hl with | [a0],_=>h _ _ _ _ _ _ a0
theorem bnd2 {K:PySem.W.Frag}{x qual:Str}{st:Stmt}{f:Addr}{fd:FuncData}{p0 p1:Str}(F:L2.Fun K x qual st f fd)
  (h:∀ (kV doc pm:Value) (an:Option Addr) (cdv ct:Value) (a0 a1:Value),bindArgs (PySem.W.fnOf x qual (L2.Jf st) (L2.Zf st) (L2.Yb st) .none kV doc pm an cdv ct) ⟨[a0,a1],[]⟩=pure ([p0,p1].zip [a0,a1])):L2.Binds K fd [p0,p1] [] :=
 F.binds fun _ _ _ _ _ _ us hl=>match us,hl with | [a0,a1],_=>h _ _ _ _ _ _ a0 a1
theorem bnd3 {K:PySem.W.Frag}{x qual:Str}{st:Stmt}{f:Addr}{fd:FuncData}{p0 p1 p2:Str}(F:L2.Fun K x qual st f fd)
  (h:∀ (kV doc pm:Value) (an:Option Addr) (cdv ct:Value) (a0 a1 a2:Value),bindArgs (PySem.W.fnOf x qual (L2.Jf st) (L2.Zf st) (L2.Yb st) .none kV doc pm an cdv ct) ⟨[a0,a1,a2],[]⟩=pure ([p0,p1,p2].zip [a0,a1,a2])):L2.Binds K fd [p0,p1,p2] [] :=
 F.binds fun _ _ _ _ _ _ us hl=>match us,hl with | [a0,a1,a2],_=>h _ _ _ _ _ _ a0 a1 a2
theorem bnd4 {K:PySem.W.Frag}{x qual:Str}{st:Stmt}{f:Addr}{fd:FuncData}{p0 p1 p2 p3:Str}(F:L2.Fun K x qual st f fd)
  (h:∀ (kV doc pm:Value) (an:Option Addr) (cdv ct:Value) (a0 a1 a2 a3:Value),bindArgs (PySem.W.fnOf x qual (L2.Jf st) (L2.Zf st) (L2.Yb st) .none kV doc pm an cdv ct) ⟨[a0,a1,a2,a3],[]⟩=pure ([p0,p1,p2,p3].zip [a0,a1,a2,a3])):L2.Binds K fd [p0,p1,p2,p3] [] :=
 F.binds fun _ _ _ _ _ _ us hl=>match us,hl with | [a0,a1,a2,a3],_=>h _ _ _ _ _ _ a0 a1 a2 a3
theorem bnd5 {K:PySem.W.Frag}{x qual:Str}{st:Stmt}{f:Addr}{fd:FuncData}{p0 p1 p2 p3 p4:Str}(F:L2.Fun K x qual st f fd)
  (h:∀ (kV doc pm:Value) (an:Option Addr) (cdv ct:Value) (a0 a1 a2 a3 a4:Value),bindArgs (PySem.W.fnOf x qual (L2.Jf st) (L2.Zf st) (L2.Yb st) .none kV doc pm an cdv ct) ⟨[a0,a1,a2,a3,a4],[]⟩=pure ([p0,p1,p2,p3,p4].zip [a0,a1,a2,a3,a4])):L2.Binds K fd [p0,p1,p2,p3,p4] [] :=
 F.binds fun _ _ _ _ _ _ us hl=>match us,hl with | [a0,a1,a2,a3,a4],_=>h _ _ _ _ _ _ a0 a1 a2 a3 a4
theorem all_mk {l:PySem.W.OpenLaw} {w:World} {K:PySem.W.Frag} {h:Heap} {mg:Str→Option Value} {fa:Addr} (X:K.In h) (G:h.Ns mainGlobals mg) (hfa:mg "law"=some (.ref fa))
  {f_is_element:Addr} {od_is_element an_is_element:Option Addr} {sl_is_element:Array (Option Value)} {oc_is_element kV_is_element dc_is_element pm_is_element cd_is_element ct_is_element:Value}
  (a_is_element:PySem.W.nsIn K mainGlobals "is_element"=some (some (.ref f_is_element))) (l_is_element:K.lookup f_is_element=some ⟨oc_is_element,od_is_element,.func (PySem.W.fnOf "is_element" "is_element" (L2.Jf ZL) (L2.Zf ZL) (L2.Yb ZL) .none kV_is_element dc_is_element pm_is_element an_is_element cd_is_element ct_is_element),sl_is_element⟩) (c_is_element:PySem.W.codeIn K cd_is_element "is_element"=true) (k_is_element:PySem.W.keepIn K (.ref f_is_element)=true)
  {f_ask_table:Addr} {od_ask_table an_ask_table:Option Addr} {sl_ask_table:Array (Option Value)} {oc_ask_table kV_ask_table dc_ask_table pm_ask_table cd_ask_table ct_ask_table:Value}
  (a_ask_table:PySem.W.nsIn K mainGlobals "ask_table"=some (some (.ref f_ask_table))) (l_ask_table:K.lookup f_ask_table=some ⟨oc_ask_table,od_ask_table,.func (PySem.W.fnOf "ask_table" "ask_table" (L2.Jf Z1) (L2.Zf Z1) (L2.Yb Z1) .none kV_ask_table dc_ask_table pm_ask_table an_ask_table cd_ask_table ct_ask_table),sl_ask_table⟩) (c_ask_table:PySem.W.codeIn K cd_ask_table "ask_table"=true) (k_ask_table:PySem.W.keepIn K (.ref f_ask_table)=true)
  {f_find_three:Addr} {od_find_three an_find_three:Option Addr} {sl_find_three:Array (Option Value)} {oc_find_three kV_find_three dc_find_three pm_find_three cd_find_three ct_find_three:Value}
  (a_find_three:PySem.W.nsIn K mainGlobals "find_three"=some (some (.ref f_find_three))) (l_find_three:K.lookup f_find_three=some ⟨oc_find_three,od_find_three,.func (PySem.W.fnOf "find_three" "find_three" (L2.Jf YJ) (L2.Zf YJ) (L2.Yb YJ) .none kV_find_three dc_find_three pm_find_three an_find_three cd_find_three ct_find_three),sl_find_three⟩) (c_find_three:PySem.W.codeIn K cd_find_three "find_three"=true) (k_find_three:PySem.W.keepIn K (.ref f_find_three)=true)
  {f_find_rest:Addr} {od_find_rest an_find_rest:Option Addr} {sl_find_rest:Array (Option Value)} {oc_find_rest kV_find_rest dc_find_rest pm_find_rest cd_find_rest ct_find_rest:Value}
  (a_find_rest:PySem.W.nsIn K mainGlobals "find_rest"=some (some (.ref f_find_rest))) (l_find_rest:K.lookup f_find_rest=some ⟨oc_find_rest,od_find_rest,.func (PySem.W.fnOf "find_rest" "find_rest" (L2.Jf Y0) (L2.Zf Y0) (L2.Yb Y0) .none kV_find_rest dc_find_rest pm_find_rest an_find_rest cd_find_rest ct_find_rest),sl_find_rest⟩) (c_find_rest:PySem.W.codeIn K cd_find_rest "find_rest"=true) (k_find_rest:PySem.W.keepIn K (.ref f_find_rest)=true)
  {f_find_back:Addr} {od_find_back an_find_back:Option Addr} {sl_find_back:Array (Option Value)} {oc_find_back kV_find_back dc_find_back pm_find_back cd_find_back ct_find_back:Value}
  (a_find_back:PySem.W.nsIn K mainGlobals "find_back"=some (some (.ref f_find_back))) (l_find_back:K.lookup f_find_back=some ⟨oc_find_back,od_find_back,.func (PySem.W.fnOf "find_back" "find_back" (L2.Jf YZ) (L2.Zf YZ) (L2.Yb YZ) .none kV_find_back dc_find_back pm_find_back an_find_back cd_find_back ct_find_back),sl_find_back⟩) (c_find_back:PySem.W.codeIn K cd_find_back "find_back"=true) (k_find_back:PySem.W.keepIn K (.ref f_find_back)=true)
  {f_find_flaw:Addr} {od_find_flaw an_find_flaw:Option Addr} {sl_find_flaw:Array (Option Value)} {oc_find_flaw kV_find_flaw dc_find_flaw pm_find_flaw cd_find_flaw ct_find_flaw:Value}
  (a_find_flaw:PySem.W.nsIn K mainGlobals "find_flaw"=some (some (.ref f_find_flaw))) (l_find_flaw:K.lookup f_find_flaw=some ⟨oc_find_flaw,od_find_flaw,.func (PySem.W.fnOf "find_flaw" "find_flaw" (L2.Jf YW) (L2.Zf YW) (L2.Yb YW) .none kV_find_flaw dc_find_flaw pm_find_flaw an_find_flaw cd_find_flaw ct_find_flaw),sl_find_flaw⟩) (c_find_flaw:PySem.W.codeIn K cd_find_flaw "find_flaw"=true) (k_find_flaw:PySem.W.keepIn K (.ref f_find_flaw)=true)
  {f_ask_folk:Addr} {od_ask_folk an_ask_folk:Option Addr} {sl_ask_folk:Array (Option Value)} {oc_ask_folk kV_ask_folk dc_ask_folk pm_ask_folk cd_ask_folk ct_ask_folk:Value}
  (a_ask_folk:PySem.W.nsIn K mainGlobals "ask_folk"=some (some (.ref f_ask_folk))) (l_ask_folk:K.lookup f_ask_folk=some ⟨oc_ask_folk,od_ask_folk,.func (PySem.W.fnOf "ask_folk" "ask_folk" (L2.Jf Zae) (L2.Zf Zae) (L2.Yb Zae) .none kV_ask_folk dc_ask_folk pm_ask_folk an_ask_folk cd_ask_folk ct_ask_folk),sl_ask_folk⟩) (c_ask_folk:PySem.W.codeIn K cd_ask_folk "ask_folk"=true) (k_ask_folk:PySem.W.keepIn K (.ref f_ask_folk)=true)
  {f_with_all_made:Addr} {od_with_all_made an_with_all_made:Option Addr} {sl_with_all_made:Array (Option Value)} {oc_with_all_made kV_with_all_made dc_with_all_made pm_with_all_made cd_with_all_made ct_with_all_made:Value}
  (a_with_all_made:PySem.W.nsIn K mainGlobals "with_all_made"=some (some (.ref f_with_all_made))) (l_with_all_made:K.lookup f_with_all_made=some ⟨oc_with_all_made,od_with_all_made,.func (PySem.W.fnOf "with_all_made" "with_all_made" (L2.Jf Jx) (L2.Zf Jx) (L2.Yb Jx) .none kV_with_all_made dc_with_all_made pm_with_all_made an_with_all_made cd_with_all_made ct_with_all_made),sl_with_all_made⟩) (c_with_all_made:PySem.W.codeIn K cd_with_all_made "with_all_made"=true) (k_with_all_made:PySem.W.keepIn K (.ref f_with_all_made)=true)
  {f_least_part:Addr} {od_least_part an_least_part:Option Addr} {sl_least_part:Array (Option Value)} {oc_least_part kV_least_part dc_least_part pm_least_part cd_least_part ct_least_part:Value}
  (a_least_part:PySem.W.nsIn K mainGlobals "least_part"=some (some (.ref f_least_part))) (l_least_part:K.lookup f_least_part=some ⟨oc_least_part,od_least_part,.func (PySem.W.fnOf "least_part" "least_part" (L2.Jf YL) (L2.Zf YL) (L2.Yb YL) .none kV_least_part dc_least_part pm_least_part an_least_part cd_least_part ct_least_part),sl_least_part⟩) (c_least_part:PySem.W.codeIn K cd_least_part "least_part"=true) (k_least_part:PySem.W.keepIn K (.ref f_least_part)=true)
  {f_ask_part:Addr} {od_ask_part an_ask_part:Option Addr} {sl_ask_part:Array (Option Value)} {oc_ask_part kV_ask_part dc_ask_part pm_ask_part cd_ask_part ct_ask_part:Value}
  (a_ask_part:PySem.W.nsIn K mainGlobals "ask_part"=some (some (.ref f_ask_part))) (l_ask_part:K.lookup f_ask_part=some ⟨oc_ask_part,od_ask_part,.func (PySem.W.fnOf "ask_part" "ask_part" (L2.Jf Zaa) (L2.Zf Zaa) (L2.Yb Zaa) .none kV_ask_part dc_ask_part pm_ask_part an_ask_part cd_ask_part ct_ask_part),sl_ask_part⟩) (c_ask_part:PySem.W.codeIn K cd_ask_part "ask_part"=true) (k_ask_part:PySem.W.keepIn K (.ref f_ask_part)=true)
  {f_share_ahead:Addr} {od_share_ahead an_share_ahead:Option Addr} {sl_share_ahead:Array (Option Value)} {oc_share_ahead kV_share_ahead dc_share_ahead pm_share_ahead cd_share_ahead ct_share_ahead:Value}
  (a_share_ahead:PySem.W.nsIn K mainGlobals "share_ahead"=some (some (.ref f_share_ahead))) (l_share_ahead:K.lookup f_share_ahead=some ⟨oc_share_ahead,od_share_ahead,.func (PySem.W.fnOf "share_ahead" "share_ahead" (L2.Jf ZC) (L2.Zf ZC) (L2.Yb ZC) .none kV_share_ahead dc_share_ahead pm_share_ahead an_share_ahead cd_share_ahead ct_share_ahead),sl_share_ahead⟩) (c_share_ahead:PySem.W.codeIn K cd_share_ahead "share_ahead"=true) (k_share_ahead:PySem.W.keepIn K (.ref f_share_ahead)=true)
  {f_all_shares:Addr} {od_all_shares an_all_shares:Option Addr} {sl_all_shares:Array (Option Value)} {oc_all_shares kV_all_shares dc_all_shares pm_all_shares cd_all_shares ct_all_shares:Value}
  (a_all_shares:PySem.W.nsIn K mainGlobals "all_shares"=some (some (.ref f_all_shares))) (l_all_shares:K.lookup f_all_shares=some ⟨oc_all_shares,od_all_shares,.func (PySem.W.fnOf "all_shares" "all_shares" (L2.Jf YK) (L2.Zf YK) (L2.Yb YK) .none kV_all_shares dc_all_shares pm_all_shares an_all_shares cd_all_shares ct_all_shares),sl_all_shares⟩) (c_all_shares:PySem.W.codeIn K cd_all_shares "all_shares"=true) (k_all_shares:PySem.W.keepIn K (.ref f_all_shares)=true)
  {f_shares:Addr} {od_shares an_shares:Option Addr} {sl_shares:Array (Option Value)} {oc_shares kV_shares dc_shares pm_shares cd_shares ct_shares:Value}
  (a_shares:PySem.W.nsIn K mainGlobals "shares"=some (some (.ref f_shares))) (l_shares:K.lookup f_shares=some ⟨oc_shares,od_shares,.func (PySem.W.fnOf "shares" "shares" (L2.Jf ZaS) (L2.Zf ZaS) (L2.Yb ZaS) .none kV_shares dc_shares pm_shares an_shares cd_shares ct_shares),sl_shares⟩) (c_shares:PySem.W.codeIn K cd_shares "shares"=true) (k_shares:PySem.W.keepIn K (.ref f_shares)=true)
  {f_share_behind:Addr} {od_share_behind an_share_behind:Option Addr} {sl_share_behind:Array (Option Value)} {oc_share_behind kV_share_behind dc_share_behind pm_share_behind cd_share_behind ct_share_behind:Value}
  (a_share_behind:PySem.W.nsIn K mainGlobals "share_behind"=some (some (.ref f_share_behind))) (l_share_behind:K.lookup f_share_behind=some ⟨oc_share_behind,od_share_behind,.func (PySem.W.fnOf "share_behind" "share_behind" (L2.Jf Jy) (L2.Zf Jy) (L2.Yb Jy) .none kV_share_behind dc_share_behind pm_share_behind an_share_behind cd_share_behind ct_share_behind),sl_share_behind⟩) (c_share_behind:PySem.W.codeIn K cd_share_behind "share_behind"=true) (k_share_behind:PySem.W.keepIn K (.ref f_share_behind)=true)
  {f_same_on_both_sides:Addr} {od_same_on_both_sides an_same_on_both_sides:Option Addr} {sl_same_on_both_sides:Array (Option Value)} {oc_same_on_both_sides kV_same_on_both_sides dc_same_on_both_sides pm_same_on_both_sides cd_same_on_both_sides ct_same_on_both_sides:Value}
  (a_same_on_both_sides:PySem.W.nsIn K mainGlobals "same_on_both_sides"=some (some (.ref f_same_on_both_sides))) (l_same_on_both_sides:K.lookup f_same_on_both_sides=some ⟨oc_same_on_both_sides,od_same_on_both_sides,.func (PySem.W.fnOf "same_on_both_sides" "same_on_both_sides" (L2.Jf Jq) (L2.Zf Jq) (L2.Yb Jq) .none kV_same_on_both_sides dc_same_on_both_sides pm_same_on_both_sides an_same_on_both_sides cd_same_on_both_sides ct_same_on_both_sides),sl_same_on_both_sides⟩) (c_same_on_both_sides:PySem.W.codeIn K cd_same_on_both_sides "same_on_both_sides"=true) (k_same_on_both_sides:PySem.W.keepIn K (.ref f_same_on_both_sides)=true)
  {f_is_loose:Addr} {od_is_loose an_is_loose:Option Addr} {sl_is_loose:Array (Option Value)} {oc_is_loose kV_is_loose dc_is_loose pm_is_loose cd_is_loose ct_is_loose:Value}
  (a_is_loose:PySem.W.nsIn K mainGlobals "is_loose"=some (some (.ref f_is_loose))) (l_is_loose:K.lookup f_is_loose=some ⟨oc_is_loose,od_is_loose,.func (PySem.W.fnOf "is_loose" "is_loose" (L2.Jf Zac) (L2.Zf Zac) (L2.Yb Zac) .none kV_is_loose dc_is_loose pm_is_loose an_is_loose cd_is_loose ct_is_loose),sl_is_loose⟩) (c_is_loose:PySem.W.codeIn K cd_is_loose "is_loose"=true) (k_is_loose:PySem.W.keepIn K (.ref f_is_loose)=true)
  {f_table_of_shares:Addr} {od_table_of_shares an_table_of_shares:Option Addr} {sl_table_of_shares:Array (Option Value)} {oc_table_of_shares kV_table_of_shares dc_table_of_shares pm_table_of_shares cd_table_of_shares ct_table_of_shares:Value}
  (a_table_of_shares:PySem.W.nsIn K mainGlobals "table_of_shares"=some (some (.ref f_table_of_shares))) (l_table_of_shares:K.lookup f_table_of_shares=some ⟨oc_table_of_shares,od_table_of_shares,.func (PySem.W.fnOf "table_of_shares" "table_of_shares" (L2.Jf Zv) (L2.Zf Zv) (L2.Yb Zv) .none kV_table_of_shares dc_table_of_shares pm_table_of_shares an_table_of_shares cd_table_of_shares ct_table_of_shares),sl_table_of_shares⟩) (c_table_of_shares:PySem.W.codeIn K cd_table_of_shares "table_of_shares"=true) (k_table_of_shares:PySem.W.keepIn K (.ref f_table_of_shares)=true)
  {f_taken_out:Addr} {od_taken_out an_taken_out:Option Addr} {sl_taken_out:Array (Option Value)} {oc_taken_out kV_taken_out dc_taken_out pm_taken_out cd_taken_out ct_taken_out:Value}
  (a_taken_out:PySem.W.nsIn K mainGlobals "taken_out"=some (some (.ref f_taken_out))) (l_taken_out:K.lookup f_taken_out=some ⟨oc_taken_out,od_taken_out,.func (PySem.W.fnOf "taken_out" "taken_out" (L2.Jf ZX) (L2.Zf ZX) (L2.Yb ZX) .none kV_taken_out dc_taken_out pm_taken_out an_taken_out cd_taken_out ct_taken_out),sl_taken_out⟩) (c_taken_out:PySem.W.codeIn K cd_taken_out "taken_out"=true) (k_taken_out:PySem.W.keepIn K (.ref f_taken_out)=true)
  {f_law_cell_at:Addr} {od_law_cell_at an_law_cell_at:Option Addr} {sl_law_cell_at:Array (Option Value)} {oc_law_cell_at kV_law_cell_at dc_law_cell_at pm_law_cell_at cd_law_cell_at ct_law_cell_at:Value}
  (a_law_cell_at:PySem.W.nsIn K mainGlobals "_law_cell_at"=some (some (.ref f_law_cell_at))) (l_law_cell_at:K.lookup f_law_cell_at=some ⟨oc_law_cell_at,od_law_cell_at,.func (PySem.W.fnOf "_law_cell_at" "_law_cell_at" (L2.Jf YC) (L2.Zf YC) (L2.Yb YC) .none kV_law_cell_at dc_law_cell_at pm_law_cell_at an_law_cell_at cd_law_cell_at ct_law_cell_at),sl_law_cell_at⟩) (c_law_cell_at:PySem.W.codeIn K cd_law_cell_at "_law_cell_at"=true) (k_law_cell_at:PySem.W.keepIn K (.ref f_law_cell_at)=true)
  {f_law_draw:Addr} {od_law_draw an_law_draw:Option Addr} {sl_law_draw:Array (Option Value)} {oc_law_draw kV_law_draw dc_law_draw pm_law_draw cd_law_draw ct_law_draw:Value}
  (a_law_draw:PySem.W.nsIn K mainGlobals "_law_draw"=some (some (.ref f_law_draw))) (l_law_draw:K.lookup f_law_draw=some ⟨oc_law_draw,od_law_draw,.func (PySem.W.fnOf "_law_draw" "_law_draw" (L2.Jf J9) (L2.Zf J9) (L2.Yb J9) .none kV_law_draw dc_law_draw pm_law_draw an_law_draw cd_law_draw ct_law_draw),sl_law_draw⟩) (c_law_draw:PySem.W.codeIn K cd_law_draw "_law_draw"=true) (k_law_draw:PySem.W.keepIn K (.ref f_law_draw)=true)
  {f_law_whole:Addr} {od_law_whole an_law_whole:Option Addr} {sl_law_whole:Array (Option Value)} {oc_law_whole kV_law_whole dc_law_whole pm_law_whole cd_law_whole ct_law_whole:Value}
  (a_law_whole:PySem.W.nsIn K mainGlobals "_law_whole"=some (some (.ref f_law_whole))) (l_law_whole:K.lookup f_law_whole=some ⟨oc_law_whole,od_law_whole,.func (PySem.W.fnOf "_law_whole" "_law_whole" (L2.Jf JX) (L2.Zf JX) (L2.Yb JX) .none kV_law_whole dc_law_whole pm_law_whole an_law_whole cd_law_whole ct_law_whole),sl_law_whole⟩) (c_law_whole:PySem.W.codeIn K cd_law_whole "_law_whole"=true) (k_law_whole:PySem.W.keepIn K (.ref f_law_whole)=true)
  {f_law_cycles:Addr} {od_law_cycles an_law_cycles:Option Addr} {sl_law_cycles:Array (Option Value)} {oc_law_cycles kV_law_cycles dc_law_cycles pm_law_cycles cd_law_cycles ct_law_cycles:Value}
  (a_law_cycles:PySem.W.nsIn K mainGlobals "_law_cycles"=some (some (.ref f_law_cycles))) (l_law_cycles:K.lookup f_law_cycles=some ⟨oc_law_cycles,od_law_cycles,.func (PySem.W.fnOf "_law_cycles" "_law_cycles" (L2.Jf ZM) (L2.Zf ZM) (L2.Yb ZM) .none kV_law_cycles dc_law_cycles pm_law_cycles an_law_cycles cd_law_cycles ct_law_cycles),sl_law_cycles⟩) (c_law_cycles:PySem.W.codeIn K cd_law_cycles "_law_cycles"=true) (k_law_cycles:PySem.W.keepIn K (.ref f_law_cycles)=true)
  {f_law_twisted:Addr} {od_law_twisted an_law_twisted:Option Addr} {sl_law_twisted:Array (Option Value)} {oc_law_twisted kV_law_twisted dc_law_twisted pm_law_twisted cd_law_twisted ct_law_twisted:Value}
  (a_law_twisted:PySem.W.nsIn K mainGlobals "_law_twisted"=some (some (.ref f_law_twisted))) (l_law_twisted:K.lookup f_law_twisted=some ⟨oc_law_twisted,od_law_twisted,.func (PySem.W.fnOf "_law_twisted" "_law_twisted" (L2.Jf JB) (L2.Zf JB) (L2.Yb JB) .none kV_law_twisted dc_law_twisted pm_law_twisted an_law_twisted cd_law_twisted ct_law_twisted),sl_law_twisted⟩) (c_law_twisted:PySem.W.codeIn K cd_law_twisted "_law_twisted"=true) (k_law_twisted:PySem.W.keepIn K (.ref f_law_twisted)=true)
  {f_law_even:Addr} {od_law_even an_law_even:Option Addr} {sl_law_even:Array (Option Value)} {oc_law_even kV_law_even dc_law_even pm_law_even cd_law_even ct_law_even:Value}
  (a_law_even:PySem.W.nsIn K mainGlobals "_law_even"=some (some (.ref f_law_even))) (l_law_even:K.lookup f_law_even=some ⟨oc_law_even,od_law_even,.func (PySem.W.fnOf "_law_even" "_law_even" (L2.Jf Zab) (L2.Zf Zab) (L2.Yb Zab) .none kV_law_even dc_law_even pm_law_even an_law_even cd_law_even ct_law_even),sl_law_even⟩) (c_law_even:PySem.W.codeIn K cd_law_even "_law_even"=true) (k_law_even:PySem.W.keepIn K (.ref f_law_even)=true)
  {f_law_base:Addr} {od_law_base an_law_base:Option Addr} {sl_law_base:Array (Option Value)} {oc_law_base kV_law_base dc_law_base pm_law_base cd_law_base ct_law_base:Value}
  (a_law_base:PySem.W.nsIn K mainGlobals "_law_base"=some (some (.ref f_law_base))) (l_law_base:K.lookup f_law_base=some ⟨oc_law_base,od_law_base,.func (PySem.W.fnOf "_law_base" "_law_base" (L2.Jf Y9) (L2.Zf Y9) (L2.Yb Y9) .none kV_law_base dc_law_base pm_law_base an_law_base cd_law_base ct_law_base),sl_law_base⟩) (c_law_base:PySem.W.codeIn K cd_law_base "_law_base"=true) (k_law_base:PySem.W.keepIn K (.ref f_law_base)=true)
  {f_law_renamed:Addr} {od_law_renamed an_law_renamed:Option Addr} {sl_law_renamed:Array (Option Value)} {oc_law_renamed kV_law_renamed dc_law_renamed pm_law_renamed cd_law_renamed ct_law_renamed:Value}
  (a_law_renamed:PySem.W.nsIn K mainGlobals "_law_renamed"=some (some (.ref f_law_renamed))) (l_law_renamed:K.lookup f_law_renamed=some ⟨oc_law_renamed,od_law_renamed,.func (PySem.W.fnOf "_law_renamed" "_law_renamed" (L2.Jf YB) (L2.Zf YB) (L2.Yb YB) .none kV_law_renamed dc_law_renamed pm_law_renamed an_law_renamed cd_law_renamed ct_law_renamed),sl_law_renamed⟩) (c_law_renamed:PySem.W.codeIn K cd_law_renamed "_law_renamed"=true) (k_law_renamed:PySem.W.keepIn K (.ref f_law_renamed)=true)
  {f_law_folk_by:Addr} {od_law_folk_by an_law_folk_by:Option Addr} {sl_law_folk_by:Array (Option Value)} {oc_law_folk_by kV_law_folk_by dc_law_folk_by pm_law_folk_by cd_law_folk_by ct_law_folk_by:Value}
  (a_law_folk_by:PySem.W.nsIn K mainGlobals "_law_folk_by"=some (some (.ref f_law_folk_by))) (l_law_folk_by:K.lookup f_law_folk_by=some ⟨oc_law_folk_by,od_law_folk_by,.func (PySem.W.fnOf "_law_folk_by" "_law_folk_by" (L2.Jf JC) (L2.Zf JC) (L2.Yb JC) .none kV_law_folk_by dc_law_folk_by pm_law_folk_by an_law_folk_by cd_law_folk_by ct_law_folk_by),sl_law_folk_by⟩) (c_law_folk_by:PySem.W.codeIn K cd_law_folk_by "_law_folk_by"=true) (k_law_folk_by:PySem.W.keepIn K (.ref f_law_folk_by)=true)
  {f_law_still:Addr} {od_law_still an_law_still:Option Addr} {sl_law_still:Array (Option Value)} {oc_law_still kV_law_still dc_law_still pm_law_still cd_law_still ct_law_still:Value}
  (a_law_still:PySem.W.nsIn K mainGlobals "_law_still"=some (some (.ref f_law_still))) (l_law_still:K.lookup f_law_still=some ⟨oc_law_still,od_law_still,.func (PySem.W.fnOf "_law_still" "_law_still" (L2.Jf YX) (L2.Zf YX) (L2.Yb YX) .none kV_law_still dc_law_still pm_law_still an_law_still cd_law_still ct_law_still),sl_law_still⟩) (c_law_still:PySem.W.codeIn K cd_law_still "_law_still"=true) (k_law_still:PySem.W.keepIn K (.ref f_law_still)=true)
  {f_law_lists:Addr} {od_law_lists an_law_lists:Option Addr} {sl_law_lists:Array (Option Value)} {oc_law_lists kV_law_lists dc_law_lists pm_law_lists cd_law_lists ct_law_lists:Value}
  (a_law_lists:PySem.W.nsIn K mainGlobals "_law_lists"=some (some (.ref f_law_lists))) (l_law_lists:K.lookup f_law_lists=some ⟨oc_law_lists,od_law_lists,.func (PySem.W.fnOf "_law_lists" "_law_lists" (L2.Jf ZW) (L2.Zf ZW) (L2.Yb ZW) .none kV_law_lists dc_law_lists pm_law_lists an_law_lists cd_law_lists ct_law_lists),sl_law_lists⟩) (c_law_lists:PySem.W.codeIn K cd_law_lists "_law_lists"=true) (k_law_lists:PySem.W.keepIn K (.ref f_law_lists)=true)
  {f_law_copy:Addr} {od_law_copy an_law_copy:Option Addr} {sl_law_copy:Array (Option Value)} {oc_law_copy kV_law_copy dc_law_copy pm_law_copy cd_law_copy ct_law_copy:Value}
  (a_law_copy:PySem.W.nsIn K mainGlobals "_law_copy"=some (some (.ref f_law_copy))) (l_law_copy:K.lookup f_law_copy=some ⟨oc_law_copy,od_law_copy,.func (PySem.W.fnOf "_law_copy" "_law_copy" (L2.Jf J8) (L2.Zf J8) (L2.Yb J8) .none kV_law_copy dc_law_copy pm_law_copy an_law_copy cd_law_copy ct_law_copy),sl_law_copy⟩) (c_law_copy:PySem.W.codeIn K cd_law_copy "_law_copy"=true) (k_law_copy:PySem.W.keepIn K (.ref f_law_copy)=true)
  {f_law_chosen:Addr} {od_law_chosen an_law_chosen:Option Addr} {sl_law_chosen:Array (Option Value)} {oc_law_chosen kV_law_chosen dc_law_chosen pm_law_chosen cd_law_chosen ct_law_chosen:Value}
  (a_law_chosen:PySem.W.nsIn K mainGlobals "_law_chosen"=some (some (.ref f_law_chosen))) (l_law_chosen:K.lookup f_law_chosen=some ⟨oc_law_chosen,od_law_chosen,.func (PySem.W.fnOf "_law_chosen" "_law_chosen" (L2.Jf JK) (L2.Zf JK) (L2.Yb JK) .none kV_law_chosen dc_law_chosen pm_law_chosen an_law_chosen cd_law_chosen ct_law_chosen),sl_law_chosen⟩) (c_law_chosen:PySem.W.codeIn K cd_law_chosen "_law_chosen"=true) (k_law_chosen:PySem.W.keepIn K (.ref f_law_chosen)=true)
  {f_law_shut:Addr} {od_law_shut an_law_shut:Option Addr} {sl_law_shut:Array (Option Value)} {oc_law_shut kV_law_shut dc_law_shut pm_law_shut cd_law_shut ct_law_shut:Value}
  (a_law_shut:PySem.W.nsIn K mainGlobals "_law_shut"=some (some (.ref f_law_shut))) (l_law_shut:K.lookup f_law_shut=some ⟨oc_law_shut,od_law_shut,.func (PySem.W.fnOf "_law_shut" "_law_shut" (L2.Jf Zad) (L2.Zf Zad) (L2.Yb Zad) .none kV_law_shut dc_law_shut pm_law_shut an_law_shut cd_law_shut ct_law_shut),sl_law_shut⟩) (c_law_shut:PySem.W.codeIn K cd_law_shut "_law_shut"=true) (k_law_shut:PySem.W.keepIn K (.ref f_law_shut)=true)
  {f_law_parts:Addr} {od_law_parts an_law_parts:Option Addr} {sl_law_parts:Array (Option Value)} {oc_law_parts kV_law_parts dc_law_parts pm_law_parts cd_law_parts ct_law_parts:Value}
  (a_law_parts:PySem.W.nsIn K mainGlobals "_law_parts"=some (some (.ref f_law_parts))) (l_law_parts:K.lookup f_law_parts=some ⟨oc_law_parts,od_law_parts,.func (PySem.W.fnOf "_law_parts" "_law_parts" (L2.Jf JV) (L2.Zf JV) (L2.Yb JV) .none kV_law_parts dc_law_parts pm_law_parts an_law_parts cd_law_parts ct_law_parts),sl_law_parts⟩) (c_law_parts:PySem.W.codeIn K cd_law_parts "_law_parts"=true) (k_law_parts:PySem.W.keepIn K (.ref f_law_parts)=true)
  {f_law_word_of:Addr} {od_law_word_of an_law_word_of:Option Addr} {sl_law_word_of:Array (Option Value)} {oc_law_word_of kV_law_word_of dc_law_word_of pm_law_word_of cd_law_word_of ct_law_word_of:Value}
  (a_law_word_of:PySem.W.nsIn K mainGlobals "_law_word_of"=some (some (.ref f_law_word_of))) (l_law_word_of:K.lookup f_law_word_of=some ⟨oc_law_word_of,od_law_word_of,.func (PySem.W.fnOf "_law_word_of" "_law_word_of" (L2.Jf JD) (L2.Zf JD) (L2.Yb JD) .none kV_law_word_of dc_law_word_of pm_law_word_of an_law_word_of cd_law_word_of ct_law_word_of),sl_law_word_of⟩) (c_law_word_of:PySem.W.codeIn K cd_law_word_of "_law_word_of"=true) (k_law_word_of:PySem.W.keepIn K (.ref f_law_word_of)=true)
  {f_law_told:Addr} {od_law_told an_law_told:Option Addr} {sl_law_told:Array (Option Value)} {oc_law_told kV_law_told dc_law_told pm_law_told cd_law_told ct_law_told:Value}
  (a_law_told:PySem.W.nsIn K mainGlobals "_law_told"=some (some (.ref f_law_told))) (l_law_told:K.lookup f_law_told=some ⟨oc_law_told,od_law_told,.func (PySem.W.fnOf "_law_told" "_law_told" (L2.Jf Y8) (L2.Zf Y8) (L2.Yb Y8) .none kV_law_told dc_law_told pm_law_told an_law_told cd_law_told ct_law_told),sl_law_told⟩) (c_law_told:PySem.W.codeIn K cd_law_told "_law_told"=true) (k_law_told:PySem.W.keepIn K (.ref f_law_told)=true)
  {f_law_taken:Addr} {od_law_taken an_law_taken:Option Addr} {sl_law_taken:Array (Option Value)} {oc_law_taken kV_law_taken dc_law_taken pm_law_taken cd_law_taken ct_law_taken:Value}
  (a_law_taken:PySem.W.nsIn K mainGlobals "_law_taken"=some (some (.ref f_law_taken))) (l_law_taken:K.lookup f_law_taken=some ⟨oc_law_taken,od_law_taken,.func (PySem.W.fnOf "_law_taken" "_law_taken" (L2.Jf J0) (L2.Zf J0) (L2.Yb J0) .none kV_law_taken dc_law_taken pm_law_taken an_law_taken cd_law_taken ct_law_taken),sl_law_taken⟩) (c_law_taken:PySem.W.codeIn K cd_law_taken "_law_taken"=true) (k_law_taken:PySem.W.keepIn K (.ref f_law_taken)=true)
  {f_law:Addr} {od_law an_law:Option Addr} {sl_law:Array (Option Value)} {oc_law kV_law dc_law pm_law cd_law ct_law:Value}
  (a_law:PySem.W.nsIn K mainGlobals "law"=some (some (.ref f_law))) (l_law:K.lookup f_law=some ⟨oc_law,od_law,.func (PySem.W.fnOf "law" "law" (L2.Jf ZbG) (L2.Zf ZbG) (L2.Yb ZbG) .none kV_law dc_law pm_law an_law cd_law ct_law),sl_law⟩) (c_law:PySem.W.codeIn K cd_law "law"=true) (k_law:PySem.W.keepIn K (.ref f_law)=true)
  (z_len:PySem.W.nsIn K mainGlobals "len"=some none)
  (z_range:PySem.W.nsIn K mainGlobals "range"=some none)
  (z_list:PySem.W.nsIn K mainGlobals "list"=some none)
  (z_all:PySem.W.nsIn K mainGlobals "all"=some none)
  (z_isinstance:PySem.W.nsIn K mainGlobals "isinstance"=some none)
  (z_max:PySem.W.nsIn K mainGlobals "max"=some none)
  (z_int:PySem.W.nsIn K mainGlobals "int"=some none)
  (z_bool:PySem.W.nsIn K mainGlobals "bool"=some none)
  (z_str:PySem.W.nsIn K mainGlobals "str"=some none)
  (z_tuple:PySem.W.nsIn K mainGlobals "tuple"=some none)
  (z_sorted:PySem.W.nsIn K mainGlobals "sorted"=some none)
  (z_set:PySem.W.nsIn K mainGlobals "set"=some none)
  (z_any:PySem.W.nsIn K mainGlobals "any"=some none)
  (z_enumerate:PySem.W.nsIn K mainGlobals "enumerate"=some none)
  (z_dict:PySem.W.nsIn K mainGlobals "dict"=some none)
  {t_MOST_ROWS:Tok} (v_MOST_ROWS:PySem.W.nsIn K mainGlobals "MOST_ROWS"=some (some (.int 12 t_MOST_ROWS)))
  {C0 C1 C2 C3 C4 C5 C6 CF:Addr}
  (n_0:PySem.W.nsIn K mainGlobals "NoTable"=some (some (.ref C0)))
  (n_1:PySem.W.nsIn K mainGlobals "NoFolk"=some (some (.ref C1)))
  (n_2:PySem.W.nsIn K mainGlobals "NoElement"=some (some (.ref C2)))
  (n_3:PySem.W.nsIn K mainGlobals "NoPart"=some (some (.ref C3)))
  (n_4:PySem.W.nsIn K mainGlobals "NotLoose"=some (some (.ref C4)))
  (n_5:PySem.W.nsIn K mainGlobals "TooLarge"=some (some (.ref C5)))
  (n_6:PySem.W.nsIn K mainGlobals "NoNote"=some (some (.ref C6)))
  (n_F:PySem.W.nsIn K mainGlobals "FolkError"=some (some (.ref CF)))
  (z_ValueError:PySem.W.nsIn K mainGlobals "ValueError"=some none)
  (i_sp:PySem.W.specialIn K (.builtin "object.__class__") "__get__"=some (some (.builtin "getset_descriptor.__get__")))
  (i_tk:PySem.W.takesIn K (.builtin "object.__class__")=some true)
  (x_4:PySem.W.excIn K C4 [.type "ValueError",.type "Exception",.type "BaseException",.type "object"] "ValueError.__new__"=true)
  (i_ga4:PySem.W.findIn K (.ref C4) "__getattribute__"=some (some (.builtin "BaseException.__getattribute__")))
  (i_gx4:PySem.W.findIn K (.ref C4) "__getattr__"=some none)
  (i_mb4:PySem.W.mroIn K C4 (.type "BaseException")=some true)
  (i_cl4:(PySem.W.clsIn K C4).isSome=true)
  (i_fi4:PySem.W.findIn K (.ref C4) "__class__"=some (some (.builtin "object.__class__")))
  (i_mo4:PySem.W.mroIn K C4 (.type "object")=some true)
  (o_40:PySem.W.kitOne K (.ref C4) (.ref C0)=some false)
  (o_41:PySem.W.kitOne K (.ref C4) (.ref C1)=some false)
  (o_42:PySem.W.kitOne K (.ref C4) (.ref C2)=some false)
  (o_43:PySem.W.kitOne K (.ref C4) (.ref C3)=some false)
  (o_44:PySem.W.kitOne K (.ref C4) (.ref C4)=some true)
  (o_45:PySem.W.kitOne K (.ref C4) (.ref C5)=some false)
  (o_46:PySem.W.kitOne K (.ref C4) (.ref C6)=some false)
  (v_V4:PySem.W.kitOne K (.ref C4) (.type "ValueError")=some true)
  (e_4:PySem.W.exmOne K (.ref C4) (.ref CF)=some true) :
  ∃ fd:FuncData,(∀ (s:Shared) (v:Value),BindsTo s fd ⟨[v],[]⟩ [("script",v)])∧∀ base:Heap,K.In base→base.Ns mainGlobals mg→L2.FnOk l.prog w K mg base L2.CX0 6 fa fd ["script"] (spR K (rk K .k) ZfQ):=by
 have e:=hfa.symm.trans (PySem.W.mg_of X G a_law)
 cases e
 have T:Bt mg:=⟨PySem.W.mg_none_of X G z_len,PySem.W.mg_none_of X G z_range,PySem.W.mg_none_of X G z_list,PySem.W.mg_none_of X G z_all,PySem.W.mg_none_of X G z_isinstance,PySem.W.mg_none_of X G z_max,PySem.W.mg_none_of X G z_int,PySem.W.mg_none_of X G z_bool,PySem.W.mg_none_of X G z_str,PySem.W.mg_none_of X G z_tuple,PySem.W.mg_none_of X G z_sorted,PySem.W.mg_none_of X G z_set,PySem.W.mg_none_of X G z_any,PySem.W.mg_none_of X G z_enumerate,PySem.W.mg_none_of X G z_dict⟩
 have C_MOST_ROWS:∃ t,mg "MOST_ROWS"=some (.int 12 t):=⟨_,PySem.W.mg_of X G v_MOST_ROWS⟩
 refine ⟨PySem.W.fnOf "law" "law" (L2.Jf ZbG) (L2.Zf ZbG) (L2.Yb ZbG) .none kV_law dc_law pm_law an_law cd_law ct_law,fun s v=>.of_eq rfl,fun base _ _=>?_⟩
 have hxv:mg "ValueError"=none:=PySem.W.mg_none_of X G z_ValueError
 have XF:Zcq K [4]:=ZpW (Cs:=fun c=>[C0,C1,C2,C3,C4,C5,C6].getD c 0) (fun c hc=>match c,hc with | 0,_=>n_0 | 1,_=>n_1 | 2,_=>n_2 | 3,_=>n_3 | 4,_=>n_4 | 5,_=>n_5 | 6,_=>n_6 | k + 7,h=>absurd h (by omega)) n_F (by decide) (fun c hc=>by
  simp only [List.mem_cons,List.not_mem_nil,or_false] at hc
  rcases hc with rfl
  ·exact ⟨i_ga4,i_gx4,i_mb4,i_cl4,i_fi4,i_sp,i_tk,i_mo4⟩) (fun c hc=>by
  simp only [List.mem_cons,List.not_mem_nil,or_false] at hc
  rcases hc with rfl
  ·exact fun c hc=>match c,hc with | 0,_=>o_40 | 1,_=>o_41 | 2,_=>o_42 | 3,_=>o_43 | 4,_=>o_44 | 5,_=>o_45 | 6,_=>o_46 | k + 7,h=>absurd h (by omega)) (fun c hc=>by
  simp only [List.mem_cons,List.not_mem_nil,or_false] at hc
  rcases hc with rfl
  ·exact v_V4) (fun c hc=>by
  simp only [List.mem_cons,List.not_mem_nil,or_false] at hc
  rcases hc with rfl
  ·exact e_4)
 have XC_4:XCl K 4:=⟨⟨C4,n_4,x_4⟩⟩
 have G_is_element:Cal l.prog w K mg base 1 "is_element" (rk K .k) Zx:=⟨⟨f_is_element,_,["table","number"],PySem.W.mg_of X G a_is_element,k_is_element,Zhn (P:=l.prog) (w:=w) (base:=base) (L2.Ze (st:=ZL) l_is_element c_is_element k_is_element) T,bnd2 (L2.Ze (st:=ZL) l_is_element c_is_element k_is_element) fun _ _ _ _ _ _ _ _=>rfl⟩⟩
 have G_ask_table:Cal l.prog w K mg base 2 "ask_table" (rk K .k) ZaE:=⟨⟨f_ask_table,_,["table"],PySem.W.mg_of X G a_ask_table,k_ask_table,Zij (P:=l.prog) (w:=w) (base:=base) (L2.Ze (st:=Z1) l_ask_table c_ask_table k_ask_table) T C_MOST_ROWS G_is_element,bnd1 (L2.Ze (st:=Z1) l_ask_table c_ask_table k_ask_table) fun _ _ _ _ _ _ _=>rfl⟩⟩
 have G_find_three:Cal l.prog w K mg base 1 "find_three" (rk K .k) Zam:=⟨⟨f_find_three,_,["table"],PySem.W.mg_of X G a_find_three,k_find_three,Zhi (P:=l.prog) (w:=w) (base:=base) (L2.Ze (st:=YJ) l_find_three c_find_three k_find_three) T,bnd1 (L2.Ze (st:=YJ) l_find_three c_find_three k_find_three) fun _ _ _ _ _ _ _=>rfl⟩⟩
 have G_find_rest:Cal l.prog w K mg base 1 "find_rest" (rk K .k) JR:=⟨⟨f_find_rest,_,["table"],PySem.W.mg_of X G a_find_rest,k_find_rest,ZhT (P:=l.prog) (w:=w) (base:=base) (L2.Ze (st:=Y0) l_find_rest c_find_rest k_find_rest) T,bnd1 (L2.Ze (st:=Y0) l_find_rest c_find_rest k_find_rest) fun _ _ _ _ _ _ _=>rfl⟩⟩
 have G_find_back:Cal l.prog w K mg base 1 "find_back" (rk K .k) ZaC:=⟨⟨f_find_back,_,["table","still","element"],PySem.W.mg_of X G a_find_back,k_find_back,ZhW (P:=l.prog) (w:=w) (base:=base) (L2.Ze (st:=YZ) l_find_back c_find_back k_find_back) T,bnd3 (L2.Ze (st:=YZ) l_find_back c_find_back k_find_back) fun _ _ _ _ _ _ _ _ _=>rfl⟩⟩
 have G_find_flaw:Cal l.prog w K mg base 2 "find_flaw" (rk K .k) ZaB:=⟨⟨f_find_flaw,_,["table"],PySem.W.mg_of X G a_find_flaw,k_find_flaw,ZhF (P:=l.prog) (w:=w) (base:=base) (L2.Ze (st:=YW) l_find_flaw c_find_flaw k_find_flaw) T G_find_three G_find_rest G_find_back,bnd1 (L2.Ze (st:=YW) l_find_flaw c_find_flaw k_find_flaw) fun _ _ _ _ _ _ _=>rfl⟩⟩
 have G_ask_folk:Cal l.prog w K mg base 3 "ask_folk" (rk K .k) ZQ:=⟨⟨f_ask_folk,_,["table"],PySem.W.mg_of X G a_ask_folk,k_ask_folk,ZiM (P:=l.prog) (w:=w) (base:=base) (L2.Ze (st:=Zae) l_ask_folk c_ask_folk k_ask_folk) T G_ask_table G_find_flaw,bnd1 (L2.Ze (st:=Zae) l_ask_folk c_ask_folk k_ask_folk) fun _ _ _ _ _ _ _=>rfl⟩⟩
 have G_with_all_made:Cal l.prog w K mg base 1 "with_all_made" rN ZJ:=⟨⟨f_with_all_made,_,["table","inside"],PySem.W.mg_of X G a_with_all_made,k_with_all_made,Zfx (P:=l.prog) (w:=w) (base:=base) (L2.Ze (st:=Jx) l_with_all_made c_with_all_made k_with_all_made) T,bnd2 (L2.Ze (st:=Jx) l_with_all_made c_with_all_made k_with_all_made) fun _ _ _ _ _ _ _ _=>rfl⟩⟩
 have G_least_part:Cal l.prog w K mg base 2 "least_part" rN ZaJ:=⟨⟨f_least_part,_,["table","some"],PySem.W.mg_of X G a_least_part,k_least_part,Zhu (P:=l.prog) (w:=w) (base:=base) (L2.Ze (st:=YL) l_least_part c_least_part k_least_part) T G_with_all_made G_find_rest,bnd2 (L2.Ze (st:=YL) l_least_part c_least_part k_least_part) fun _ _ _ _ _ _ _ _=>rfl⟩⟩
 have G_ask_part:Cal l.prog w K mg base 3 "ask_part" (rk K .k) JQ:=⟨⟨f_ask_part,_,["table","part"],PySem.W.mg_of X G a_ask_part,k_ask_part,Zi0 (P:=l.prog) (w:=w) (base:=base) (L2.Ze (st:=Zaa) l_ask_part c_ask_part k_ask_part) T G_least_part G_is_element,bnd2 (L2.Ze (st:=Zaa) l_ask_part c_ask_part k_ask_part) fun _ _ _ _ _ _ _ _=>rfl⟩⟩
 have G_share_ahead:Cal l.prog w K mg base 1 "share_ahead" rN Jz:=⟨⟨f_share_ahead,_,["table","part","element"],PySem.W.mg_of X G a_share_ahead,k_share_ahead,ZgI (P:=l.prog) (w:=w) (base:=base) (L2.Ze (st:=ZC) l_share_ahead c_share_ahead k_share_ahead) T,bnd3 (L2.Ze (st:=ZC) l_share_ahead c_share_ahead k_share_ahead) fun _ _ _ _ _ _ _ _ _=>rfl⟩⟩
 have G_all_shares:Cal l.prog w K mg base 2 "all_shares" rN JZ:=⟨⟨f_all_shares,_,["table","part"],PySem.W.mg_of X G a_all_shares,k_all_shares,Zho (P:=l.prog) (w:=w) (base:=base) (L2.Ze (st:=YK) l_all_shares c_all_shares k_all_shares) T G_share_ahead,bnd2 (L2.Ze (st:=YK) l_all_shares c_all_shares k_all_shares) fun _ _ _ _ _ _ _ _=>rfl⟩⟩
 have G_shares:Cal l.prog w K mg base 4 "shares" rN ZcF:=⟨⟨f_shares,_,["table","part"],PySem.W.mg_of X G a_shares,k_shares,Zlx (P:=l.prog) (w:=w) (base:=base) (L2.Ze (st:=ZaS) l_shares c_shares k_shares) T G_ask_folk G_ask_part G_all_shares,bnd2 (L2.Ze (st:=ZaS) l_shares c_shares k_shares) fun _ _ _ _ _ _ _ _=>rfl⟩⟩
 have G_share_behind:Cal l.prog w K mg base 1 "share_behind" rN YS:=⟨⟨f_share_behind,_,["table","part","element"],PySem.W.mg_of X G a_share_behind,k_share_behind,Zgj (P:=l.prog) (w:=w) (base:=base) (L2.Ze (st:=Jy) l_share_behind c_share_behind k_share_behind) T,bnd3 (L2.Ze (st:=Jy) l_share_behind c_share_behind k_share_behind) fun _ _ _ _ _ _ _ _ _=>rfl⟩⟩
 have G_same_on_both_sides:Cal l.prog w K mg base 2 "same_on_both_sides" (rk K .k) Yr:=⟨⟨f_same_on_both_sides,_,["table","part"],PySem.W.mg_of X G a_same_on_both_sides,k_same_on_both_sides,Zdg (P:=l.prog) (w:=w) (base:=base) (L2.Ze (st:=Jq) l_same_on_both_sides c_same_on_both_sides k_same_on_both_sides) T G_share_ahead G_share_behind,bnd2 (L2.Ze (st:=Jq) l_same_on_both_sides c_same_on_both_sides k_same_on_both_sides) fun _ _ _ _ _ _ _ _=>rfl⟩⟩
 have G_is_loose:Cal l.prog w K mg base 4 "is_loose" (rk K .k) ZbB:=⟨⟨f_is_loose,_,["table","part"],PySem.W.mg_of X G a_is_loose,k_is_loose,ZiG (P:=l.prog) (w:=w) (base:=base) (L2.Ze (st:=Zac) l_is_loose c_is_loose k_is_loose) T G_ask_folk G_ask_part G_same_on_both_sides,bnd2 (L2.Ze (st:=Zac) l_is_loose c_is_loose k_is_loose) fun _ _ _ _ _ _ _ _=>rfl⟩⟩
 have G_table_of_shares:Cal l.prog w K mg base 1 "table_of_shares" rN JM:=⟨⟨f_table_of_shares,_,["table","found"],PySem.W.mg_of X G a_table_of_shares,k_table_of_shares,Zep (P:=l.prog) (w:=w) (base:=base) (L2.Ze (st:=Zv) l_table_of_shares c_table_of_shares k_table_of_shares) T,bnd2 (L2.Ze (st:=Zv) l_table_of_shares c_table_of_shares k_table_of_shares) fun _ _ _ _ _ _ _ _=>rfl⟩⟩
 have Gx_taken_out:CalX l.prog w K mg base 4 "taken_out" rN Yw:=⟨⟨f_taken_out,_,["table","part"],PySem.W.mg_of X G a_taken_out,k_taken_out,Zhs (P:=l.prog) (w:=w) (base:=base) (L2.Ze (st:=ZX) l_taken_out c_taken_out k_taken_out) T XC_4 G_ask_folk G_ask_part G_all_shares G_table_of_shares G_same_on_both_sides,bnd2 (L2.Ze (st:=ZX) l_taken_out c_taken_out k_taken_out) fun _ _ _ _ _ _ _ _=>rfl⟩⟩
 have G_law_cell_at:Cal l.prog w K mg base 1 "_law_cell_at" (rk K .k) Zz:=⟨⟨f_law_cell_at,_,["script","k"],PySem.W.mg_of X G a_law_cell_at,k_law_cell_at,ZgB (P:=l.prog) (w:=w) (base:=base) (L2.Ze (st:=YC) l_law_cell_at c_law_cell_at k_law_cell_at) T,bnd2 (L2.Ze (st:=YC) l_law_cell_at c_law_cell_at k_law_cell_at) fun _ _ _ _ _ _ _ _=>rfl⟩⟩
 have G_law_draw:Cal l.prog w K mg base 1 "_law_draw" (rk K .k) Z6:=⟨⟨f_law_draw,_,["cell","k","bound"],PySem.W.mg_of X G a_law_draw,k_law_draw,ZiH (P:=l.prog) (w:=w) (base:=base) (L2.Ze (st:=J9) l_law_draw c_law_draw k_law_draw) T,bnd3 (L2.Ze (st:=J9) l_law_draw c_law_draw k_law_draw) fun _ _ _ _ _ _ _ _ _=>rfl⟩⟩
 have G_law_whole:Cal l.prog w K mg base 1 "_law_whole" (rk K .k) Za5:=⟨⟨f_law_whole,_,["found"],PySem.W.mg_of X G a_law_whole,k_law_whole,Zh8 (P:=l.prog) (w:=w) (base:=base) (L2.Ze (st:=JX) l_law_whole c_law_whole k_law_whole) T,bnd1 (L2.Ze (st:=JX) l_law_whole c_law_whole k_law_whole) fun _ _ _ _ _ _ _=>rfl⟩⟩
 have G_law_cycles:Cal l.prog w K mg base 1 "_law_cycles" (rk K .k) Zbv:=⟨⟨f_law_cycles,_,["dims"],PySem.W.mg_of X G a_law_cycles,k_law_cycles,Zhr (P:=l.prog) (w:=w) (base:=base) (L2.Ze (st:=ZM) l_law_cycles c_law_cycles k_law_cycles) T,bnd1 (L2.Ze (st:=ZM) l_law_cycles c_law_cycles k_law_cycles) fun _ _ _ _ _ _ _=>rfl⟩⟩
 have G_law_twisted:Cal l.prog w K mg base 1 "_law_twisted" (rk K .k) Za9:=⟨⟨f_law_twisted,_,["many","extra"],PySem.W.mg_of X G a_law_twisted,k_law_twisted,ZgM (P:=l.prog) (w:=w) (base:=base) (L2.Ze (st:=JB) l_law_twisted c_law_twisted k_law_twisted) T,bnd2 (L2.Ze (st:=JB) l_law_twisted c_law_twisted k_law_twisted) fun _ _ _ _ _ _ _ _=>rfl⟩⟩
 have G_law_even:Cal l.prog w K mg base 1 "_law_even" (rk K .k) Zcc:=⟨⟨f_law_even,_,[],PySem.W.mg_of X G a_law_even,k_law_even,ZiV (P:=l.prog) (w:=w) (base:=base) (L2.Ze (st:=Zab) l_law_even c_law_even k_law_even) T,(L2.Ze (st:=Zab) l_law_even c_law_even k_law_even).binds fun _ _ _ _ _ _ us hl=>match us,hl with | [],_=>rfl⟩⟩
 have G_law_base:Cal l.prog w K mg base 2 "_law_base" (rk K .k) YD:=⟨⟨f_law_base,_,["kind"],PySem.W.mg_of X G a_law_base,k_law_base,Zi5 (P:=l.prog) (w:=w) (base:=base) (L2.Ze (st:=Y9) l_law_base c_law_base k_law_base) T G_law_even G_law_cycles G_law_twisted,bnd1 (L2.Ze (st:=Y9) l_law_base c_law_base k_law_base) fun _ _ _ _ _ _ _=>rfl⟩⟩
 have G_law_renamed:Cal l.prog w K mg base 2 "_law_renamed" (rT K) Zav:=⟨⟨f_law_renamed,_,["base","cell"],PySem.W.mg_of X G a_law_renamed,k_law_renamed,ZgO (P:=l.prog) (w:=w) (base:=base) (L2.Ze (st:=YB) l_law_renamed c_law_renamed k_law_renamed) T G_law_draw,bnd2 (L2.Ze (st:=YB) l_law_renamed c_law_renamed k_law_renamed) fun _ _ _ _ _ _ _ _=>rfl⟩⟩
 have G_law_folk_by:Cal l.prog w K mg base 3 "_law_folk_by" (rT K) J2:=⟨⟨f_law_folk_by,_,["script","first"],PySem.W.mg_of X G a_law_folk_by,k_law_folk_by,ZgL (P:=l.prog) (w:=w) (base:=base) (L2.Ze (st:=JC) l_law_folk_by c_law_folk_by k_law_folk_by) T G_law_renamed G_law_base G_law_cell_at,bnd2 (L2.Ze (st:=JC) l_law_folk_by c_law_folk_by k_law_folk_by) fun _ _ _ _ _ _ _ _=>rfl⟩⟩
 have G_law_still:Cal l.prog w K mg base 1 "_law_still" (rk K .k) ZaZ:=⟨⟨f_law_still,_,["table"],PySem.W.mg_of X G a_law_still,k_law_still,ZiF (P:=l.prog) (w:=w) (base:=base) (L2.Ze (st:=YX) l_law_still c_law_still k_law_still) T,bnd1 (L2.Ze (st:=YX) l_law_still c_law_still k_law_still) fun _ _ _ _ _ _ _=>rfl⟩⟩
 have G_law_lists:Cal l.prog w K mg base 2 "_law_lists" (rk K .k) Z9:=⟨⟨f_law_lists,_,["found"],PySem.W.mg_of X G a_law_lists,k_law_lists,ZhN (P:=l.prog) (w:=w) (base:=base) (L2.Ze (st:=ZW) l_law_lists c_law_lists k_law_lists) T G_law_whole,bnd1 (L2.Ze (st:=ZW) l_law_lists c_law_lists k_law_lists) fun _ _ _ _ _ _ _=>rfl⟩⟩
 have G_law_copy:Cal l.prog w K mg base 1 "_law_copy" (rk K .k) Zbx:=⟨⟨f_law_copy,_,["table"],PySem.W.mg_of X G a_law_copy,k_law_copy,ZiL (P:=l.prog) (w:=w) (base:=base) (L2.Ze (st:=J8) l_law_copy c_law_copy k_law_copy) T,bnd1 (L2.Ze (st:=J8) l_law_copy c_law_copy k_law_copy) fun _ _ _ _ _ _ _=>rfl⟩⟩
 have G_law_chosen:Cal l.prog w K mg base 1 "_law_chosen" (rk K .k) ZaL:=⟨⟨f_law_chosen,_,["some","many"],PySem.W.mg_of X G a_law_chosen,k_law_chosen,Zht (P:=l.prog) (w:=w) (base:=base) (L2.Ze (st:=JK) l_law_chosen c_law_chosen k_law_chosen) T,bnd2 (L2.Ze (st:=JK) l_law_chosen c_law_chosen k_law_chosen) fun _ _ _ _ _ _ _ _=>rfl⟩⟩
 have G_law_shut:Cal l.prog w K mg base 1 "_law_shut" (rk K .k) Zby:=⟨⟨f_law_shut,_,["table","row"],PySem.W.mg_of X G a_law_shut,k_law_shut,ZiQ (P:=l.prog) (w:=w) (base:=base) (L2.Ze (st:=Zad) l_law_shut c_law_shut k_law_shut) T,bnd2 (L2.Ze (st:=Zad) l_law_shut c_law_shut k_law_shut) fun _ _ _ _ _ _ _ _=>rfl⟩⟩
 have G_law_parts:Cal l.prog w K mg base 2 "_law_parts" (rk K .k) Za1:=⟨⟨f_law_parts,_,["table"],PySem.W.mg_of X G a_law_parts,k_law_parts,Zhz (P:=l.prog) (w:=w) (base:=base) (L2.Ze (st:=JV) l_law_parts c_law_parts k_law_parts) T G_law_still G_law_chosen G_law_shut,bnd1 (L2.Ze (st:=JV) l_law_parts c_law_parts k_law_parts) fun _ _ _ _ _ _ _=>rfl⟩⟩
 have G_law_word_of:CalW l.prog w K mg base 1 "_law_word_of" ZK:=⟨⟨f_law_word_of,_,"e",PySem.W.mg_of X G a_law_word_of,k_law_word_of,ZgR (P:=l.prog) (w:=w) (base:=base) (L2.Ze (st:=JD) l_law_word_of c_law_word_of k_law_word_of) T hxv XF,bnd1 (L2.Ze (st:=JD) l_law_word_of c_law_word_of k_law_word_of) fun _ _ _ _ _ _ _=>rfl⟩⟩
 have G_law_told:Cal l.prog w K mg base 5 "_law_told" rN ZaU:=⟨⟨f_law_told,_,["table","part"],PySem.W.mg_of X G a_law_told,k_law_told,Zi4 (P:=l.prog) (w:=w) (base:=base) (L2.Ze (st:=Y8) l_law_told c_law_told k_law_told) T XF Gx_taken_out G_law_word_of,bnd2 (L2.Ze (st:=Y8) l_law_told c_law_told k_law_told) fun _ _ _ _ _ _ _ _=>rfl⟩⟩
 have G_law_taken:Cal l.prog w K mg base 1 "_law_taken" (rk K .k) Za3:=⟨⟨f_law_taken,_,["table","known"],PySem.W.mg_of X G a_law_taken,k_law_taken,Zib (P:=l.prog) (w:=w) (base:=base) (L2.Ze (st:=J0) l_law_taken c_law_taken k_law_taken) T,bnd2 (L2.Ze (st:=J0) l_law_taken c_law_taken k_law_taken) fun _ _ _ _ _ _ _ _=>rfl⟩⟩
 exact ZoN (P:=l.prog) (w:=w) (base:=base) (L2.Ze (st:=ZbG) l_law c_law k_law) T G_law_folk_by G_law_parts G_law_copy G_shares G_is_loose G_law_told G_law_cell_at G_law_lists G_law_taken
theorem walk {l:PySem.W.OpenLaw}{q:Program}{loose:List Str}{XP:(Str→Option Value)→Heap→Prop}{YP:World→Heap→Prop}{d:DefRec}{K:Params→PySem.W.Frag}(hn:l.most=some 63)(hdf:d.params.defaults=[])
  (hY:∀ (w:World) (h:Heap),YP w h→(K w.params).In h)
  (F:∀ (w:World) (mg:Str→Option Value) (fa:Addr) (h:Heap),(K w.params).In h→h.Ns mainGlobals mg→mg d.name=some (.ref fa) →
   ∃ fd:FuncData,(∀ (s:Shared) (u:Value),BindsTo s fd ⟨[u],[]⟩ [("script",u)])∧∀ base:Heap,(K w.params).In base→base.Ns mainGlobals mg→L2.FnOk l.prog w (K w.params) mg base L2.CX0 6 fa fd ["script"] (spR (K w.params) (rk (K w.params) .k) ZfQ)) :
  PySem.W.WalkO q loose XP YP l.row.toRowW d [] (fun f vs=>PySem.call f vs) :=
 L2.Zoj (n:=63) (k:=6) (x:="script") (CX:=fun _=>L2.CX0) (sp:=fun w=>spR (K w.params) (rk (K w.params) .k) ZfQ) hn (by decide) hdf ⟨rfl,by decide,by decide⟩ hY F (fun _ _ a ns hl _ hS=>ZlR (ZpV ns) hS) fun _ _ _ _ _ z=>z
end PV
set_option maxHeartbeats 0 in
theorem PySem.Challenge.cw_tablefolk_k08_shares_and_loose_parts_holds : PySem.Challenge.rw_tablefolk_k08_shares_and_loose_parts.Holds := by
  w_on; o_law; k_head; (case hw => w_witness2)
  k_fill
  refine PV.walk (l := PySem.Challenge.rw_tablefolk_k08_shares_and_loose_parts) rfl rfl (fun w h Y => PySem.W.kIn_of Y) ?F
  case F =>
    intro w mg fa h KX G hmg
    refine' PV.all_mk KX G hmg ?a_is_element ?l_is_element ?c_is_element ?k_is_element ?a_ask_table ?l_ask_table ?c_ask_table ?k_ask_table ?a_find_three ?l_find_three ?c_find_three ?k_find_three ?a_find_rest ?l_find_rest ?c_find_rest ?k_find_rest ?a_find_back ?l_find_back ?c_find_back ?k_find_back ?a_find_flaw ?l_find_flaw ?c_find_flaw ?k_find_flaw ?a_ask_folk ?l_ask_folk ?c_ask_folk ?k_ask_folk ?a_with_all_made ?l_with_all_made ?c_with_all_made ?k_with_all_made ?a_least_part ?l_least_part ?c_least_part ?k_least_part ?a_ask_part ?l_ask_part ?c_ask_part ?k_ask_part ?a_share_ahead ?l_share_ahead ?c_share_ahead ?k_share_ahead ?a_all_shares ?l_all_shares ?c_all_shares ?k_all_shares ?a_shares ?l_shares ?c_shares ?k_shares ?a_share_behind ?l_share_behind ?c_share_behind ?k_share_behind ?a_same_on_both_sides ?l_same_on_both_sides ?c_same_on_both_sides ?k_same_on_both_sides ?a_is_loose ?l_is_loose ?c_is_loose ?k_is_loose ?a_table_of_shares ?l_table_of_shares ?c_table_of_shares ?k_table_of_shares ?a_taken_out ?l_taken_out ?c_taken_out ?k_taken_out ?a_law_cell_at ?l_law_cell_at ?c_law_cell_at ?k_law_cell_at ?a_law_draw ?l_law_draw ?c_law_draw ?k_law_draw ?a_law_whole ?l_law_whole ?c_law_whole ?k_law_whole ?a_law_cycles ?l_law_cycles ?c_law_cycles ?k_law_cycles ?a_law_twisted ?l_law_twisted ?c_law_twisted ?k_law_twisted ?a_law_even ?l_law_even ?c_law_even ?k_law_even ?a_law_base ?l_law_base ?c_law_base ?k_law_base ?a_law_renamed ?l_law_renamed ?c_law_renamed ?k_law_renamed ?a_law_folk_by ?l_law_folk_by ?c_law_folk_by ?k_law_folk_by ?a_law_still ?l_law_still ?c_law_still ?k_law_still ?a_law_lists ?l_law_lists ?c_law_lists ?k_law_lists ?a_law_copy ?l_law_copy ?c_law_copy ?k_law_copy ?a_law_chosen ?l_law_chosen ?c_law_chosen ?k_law_chosen ?a_law_shut ?l_law_shut ?c_law_shut ?k_law_shut ?a_law_parts ?l_law_parts ?c_law_parts ?k_law_parts ?a_law_word_of ?l_law_word_of ?c_law_word_of ?k_law_word_of ?a_law_told ?l_law_told ?c_law_told ?k_law_told ?a_law_taken ?l_law_taken ?c_law_taken ?k_law_taken ?a_law ?l_law ?c_law ?k_law ?z_len ?z_range ?z_list ?z_all ?z_isinstance ?z_max ?z_int ?z_bool ?z_str ?z_tuple ?z_sorted ?z_set ?z_any ?z_enumerate ?z_dict ?v_MOST_ROWS ?n_0 ?n_1 ?n_2 ?n_3 ?n_4 ?n_5 ?n_6 ?n_F ?z_ValueError ?i_sp ?i_tk ?x_4 ?i_ga4 ?i_gx4 ?i_mb4 ?i_cl4 ?i_fi4 ?i_mo4 ?o_40 ?o_41 ?o_42 ?o_43 ?o_44 ?o_45 ?o_46 ?v_V4 ?e_4
    (case a_is_element => k_is)
    (case l_is_element => k_is)
    (case c_is_element => k_is)
    (case k_is_element => k_is)
    (case a_ask_table => k_is)
    (case l_ask_table => k_is)
    (case c_ask_table => k_is)
    (case k_ask_table => k_is)
    (case a_find_three => k_is)
    (case l_find_three => k_is)
    (case c_find_three => k_is)
    (case k_find_three => k_is)
    (case a_find_rest => k_is)
    (case l_find_rest => k_is)
    (case c_find_rest => k_is)
    (case k_find_rest => k_is)
    (case a_find_back => k_is)
    (case l_find_back => k_is)
    (case c_find_back => k_is)
    (case k_find_back => k_is)
    (case a_find_flaw => k_is)
    (case l_find_flaw => k_is)
    (case c_find_flaw => k_is)
    (case k_find_flaw => k_is)
    (case a_ask_folk => k_is)
    (case l_ask_folk => k_is)
    (case c_ask_folk => k_is)
    (case k_ask_folk => k_is)
    (case a_with_all_made => k_is)
    (case l_with_all_made => k_is)
    (case c_with_all_made => k_is)
    (case k_with_all_made => k_is)
    (case a_least_part => k_is)
    (case l_least_part => k_is)
    (case c_least_part => k_is)
    (case k_least_part => k_is)
    (case a_ask_part => k_is)
    (case l_ask_part => k_is)
    (case c_ask_part => k_is)
    (case k_ask_part => k_is)
    (case a_share_ahead => k_is)
    (case l_share_ahead => k_is)
    (case c_share_ahead => k_is)
    (case k_share_ahead => k_is)
    (case a_all_shares => k_is)
    (case l_all_shares => k_is)
    (case c_all_shares => k_is)
    (case k_all_shares => k_is)
    (case a_shares => k_is)
    (case l_shares => k_is)
    (case c_shares => k_is)
    (case k_shares => k_is)
    (case a_share_behind => k_is)
    (case l_share_behind => k_is)
    (case c_share_behind => k_is)
    (case k_share_behind => k_is)
    (case a_same_on_both_sides => k_is)
    (case l_same_on_both_sides => k_is)
    (case c_same_on_both_sides => k_is)
    (case k_same_on_both_sides => k_is)
    (case a_is_loose => k_is)
    (case l_is_loose => k_is)
    (case c_is_loose => k_is)
    (case k_is_loose => k_is)
    (case a_table_of_shares => k_is)
    (case l_table_of_shares => k_is)
    (case c_table_of_shares => k_is)
    (case k_table_of_shares => k_is)
    (case a_taken_out => k_is)
    (case l_taken_out => k_is)
    (case c_taken_out => k_is)
    (case k_taken_out => k_is)
    (case a_law_cell_at => k_is)
    (case l_law_cell_at => k_is)
    (case c_law_cell_at => k_is)
    (case k_law_cell_at => k_is)
    (case a_law_draw => k_is)
    (case l_law_draw => k_is)
    (case c_law_draw => k_is)
    (case k_law_draw => k_is)
    (case a_law_whole => k_is)
    (case l_law_whole => k_is)
    (case c_law_whole => k_is)
    (case k_law_whole => k_is)
    (case a_law_cycles => k_is)
    (case l_law_cycles => k_is)
    (case c_law_cycles => k_is)
    (case k_law_cycles => k_is)
    (case a_law_twisted => k_is)
    (case l_law_twisted => k_is)
    (case c_law_twisted => k_is)
    (case k_law_twisted => k_is)
    (case a_law_even => k_is)
    (case l_law_even => k_is)
    (case c_law_even => k_is)
    (case k_law_even => k_is)
    (case a_law_base => k_is)
    (case l_law_base => k_is)
    (case c_law_base => k_is)
    (case k_law_base => k_is)
    (case a_law_renamed => k_is)
    (case l_law_renamed => k_is)
    (case c_law_renamed => k_is)
    (case k_law_renamed => k_is)
    (case a_law_folk_by => k_is)
    (case l_law_folk_by => k_is)
    (case c_law_folk_by => k_is)
    (case k_law_folk_by => k_is)
    (case a_law_still => k_is)
    (case l_law_still => k_is)
    (case c_law_still => k_is)
    (case k_law_still => k_is)
    (case a_law_lists => k_is)
    (case l_law_lists => k_is)
    (case c_law_lists => k_is)
    (case k_law_lists => k_is)
    (case a_law_copy => k_is)
    (case l_law_copy => k_is)
    (case c_law_copy => k_is)
    (case k_law_copy => k_is)
    (case a_law_chosen => k_is)
    (case l_law_chosen => k_is)
    (case c_law_chosen => k_is)
    (case k_law_chosen => k_is)
    (case a_law_shut => k_is)
    (case l_law_shut => k_is)
    (case c_law_shut => k_is)
    (case k_law_shut => k_is)
    (case a_law_parts => k_is)
    (case l_law_parts => k_is)
    (case c_law_parts => k_is)
    (case k_law_parts => k_is)
    (case a_law_word_of => k_is)
    (case l_law_word_of => k_is)
    (case c_law_word_of => k_is)
    (case k_law_word_of => k_is)
    (case a_law_told => k_is)
    (case l_law_told => k_is)
    (case c_law_told => k_is)
    (case k_law_told => k_is)
    (case a_law_taken => k_is)
    (case l_law_taken => k_is)
    (case c_law_taken => k_is)
    (case k_law_taken => k_is)
    (case a_law => k_is)
    (case l_law => k_is)
    (case c_law => k_is)
    (case k_law => k_is)
    (case z_len => k_is)
    (case z_range => k_is)
    (case z_list => k_is)
    (case z_all => k_is)
    (case z_isinstance => k_is)
    (case z_max => k_is)
    (case z_int => k_is)
    (case z_bool => k_is)
    (case z_str => k_is)
    (case z_tuple => k_is)
    (case z_sorted => k_is)
    (case z_set => k_is)
    (case z_any => k_is)
    (case z_enumerate => k_is)
    (case z_dict => k_is)
    (case v_MOST_ROWS => k_is)
    (case n_0 => k_is)
    (case n_1 => k_is)
    (case n_2 => k_is)
    (case n_3 => k_is)
    (case n_4 => k_is)
    (case n_5 => k_is)
    (case n_6 => k_is)
    (case n_F => k_is)
    (case z_ValueError => k_is)
    (case i_sp => first | k_is | kernel_rfl)
    (case i_tk => first | k_is | kernel_rfl)
    (case x_4 => first | k_is | kernel_rfl)
    (case i_ga4 => first | k_is | kernel_rfl)
    (case i_gx4 => first | k_is | kernel_rfl)
    (case i_mb4 => first | k_is | kernel_rfl)
    (case i_cl4 => first | k_is | kernel_rfl)
    (case i_fi4 => first | k_is | kernel_rfl)
    (case i_mo4 => first | k_is | kernel_rfl)
    (case o_40 => first | k_is | kernel_rfl)
    (case o_41 => first | k_is | kernel_rfl)
    (case o_42 => first | k_is | kernel_rfl)
    (case o_43 => first | k_is | kernel_rfl)
    (case o_44 => first | k_is | kernel_rfl)
    (case o_45 => first | k_is | kernel_rfl)
    (case o_46 => first | k_is | kernel_rfl)
    (case v_V4 => first | k_is | kernel_rfl)
    (case e_4 => first | k_is | kernel_rfl)
