import PyProof.Rows.All
import Wide.All
import OpenK.AllK
import Wide.FinOn
import HandS.ForMost
import HandS.ForExc
import HandS.FStr
import HandS.IsInst
import HandS.Wide
import HandS.NoneIn
import HandS.ExcInit
import HandS.TupAny
import HandS.Deep
import HandS.Text
import HandS.AnyAll
import HandS.CallSlots
import HandS.Walk
import KE.KExcIs
import KE.RegKIsAll
import HandS.ExcIs
import HandS.ExcField
import HandS.ExcValue
import HandS.Style
import HandS.SetFor
import PySem.Challenge.RW_restingfixes_k04_wrong_texts
set_option Elab.async false
set_option linter.all false
set_option maxRecDepth 100000
set_option autoImplicit false
set_option maxHeartbeats 4000000
/-! PL: a layer of pure readings over HandS: data are PyData, lists that only a local name holds are its own, a source of draws is a state. -/
namespace PL
open PySem PySem.Spec PyProof.Rows L2

/-- an exception: its class's name, its fields -/
structure Xn where
  cls : Str
  fs : List (Str × PyData)

/-- what a slot holds -/
inductive Sl
  | dat (d : PyData)
  | own (l : List PyData)
  | src
  | exc (x : Xn)

abbrev SrcSt := List Int × Int
structure Me where
  env : List (Option Sl)
  st : SrcSt

inductive Res (α : Type)
  | ok (a : α) (m : Me)
  | exc (x : Xn) (m : Me)
  | bad
def Res.bind {α β : Type} (r : Res α) (k : α → Me → Res β) : Res β := match r with
  | .ok a m => k a m
  | .exc x m => .exc x m
  | .bad => .bad
@[simp] theorem Res.bind_ok {α β : Type} (a : α) (m : Me) (k : α → Me → Res β) : (Res.ok a m).bind k = k a m := rfl
@[simp] theorem Res.bind_exc {α β : Type} (x : Xn) (m : Me) (k : α → Me → Res β) : (Res.exc x m : Res α).bind k = .exc x m := rfl
@[simp] theorem Res.bind_bad {α β : Type} (k : α → Me → Res β) : (Res.bad : Res α).bind k = .bad := rfl
abbrev M (α : Type) := Me → Res α

inductive Flow
  | next
  | ret (s : Sl)
  | brk
  | cont

/-! ### the world of a def's run -/
structure Wd where
  sc : Option (Addr × Addr)
  H0 : Hp
  T0 : Addr → Prop
def InS (sc : Option (Addr × Addr)) (b : Addr) : Prop := ∃ a c, sc = some (a, c) ∧ (b = a ∨ b = c)
structure Wd.Ok (w : Wd) : Prop where
  s0 : ∀ b, InS w.sc b → w.T0 b
  al : ∀ b, w.T0 b → w.H0 b ≠ none
def SrcAt (sc : Option (Addr × Addr)) (H : Hp) (st : SrcSt) : Prop := ∀ a c, sc = some (a, c) → a ≠ c ∧ H a = some (.lst [.ref c, .int st.2]) ∧ H c = some (.lst (st.1.map V.int))

/-! ### data in a heap -/
def KL (K : PySem.W.Frag) (a : Addr) (xs : List V) : Prop :=
  ∃ (o : Obj) (its : Array Value) (n : Nat), K.lookup a = some o ∧ o.cls = .type "list" ∧ o.dict = none ∧ o.data = .seq its n ∧ its.size ≤ sizeLine ∧ Vals xs its.toList
def KT (K : PySem.W.Frag) (a : Addr) (xs : List V) : Prop :=
  ∃ (o : Obj) (its : Array Value) (n : Nat), K.lookup a = some o ∧ o.cls = .type "tuple" ∧ o.data = .seq its n ∧ its.size ≤ sizeLine ∧ Vals xs its.toList
def QL (K : PySem.W.Frag) (T : Addr → Prop) (H : Hp) (a : Addr) (xs : List V) : Prop := Rd H a (.lst xs) ∧ ¬ T a
def QT (K : PySem.W.Frag) (T : Addr → Prop) (H : Hp) (a : Addr) (xs : List V) : Prop := (Rd H a (.tup xs) ∧ ¬ T a) ∨ KT K a xs
mutual
inductive DD (K : PySem.W.Frag) (T : Addr → Prop) (H : Hp) : V → PyData → Prop
  | non : DD K T H .non .none
  | bl (b : Bool) : DD K T H (.bl b) (.bool b)
  | int (i : Int) : DD K T H (.int i) (.int i)
  | str (x : Str) : DD K T H (.str x) (.str x)
  | lst {a : Addr} {xs : List V} {ds : List PyData} : QL K T H a xs → DDs K T H xs ds → DD K T H (.ref a) (.list ds)
  | tup {a : Addr} {xs : List V} {ds : List PyData} : QT K T H a xs → DDs K T H xs ds → DD K T H (.ref a) (.tuple ds)
  | dic {a : Addr} : H a = some (.dK []) → ¬ T a → DD K T H (.ref a) (.dict [])
inductive DDs (K : PySem.W.Frag) (T : Addr → Prop) (H : Hp) : List V → List PyData → Prop
  | nil : DDs K T H [] []
  | cons {v : V} {vs : List V} {d : PyData} {ds : List PyData} : DD K T H v d → DDs K T H vs ds → DDs K T H (v :: vs) (d :: ds)
end
/-- what lies outside T stays so -/
def Fr (T : Addr → Prop) (H : Hp) (T' : Addr → Prop) (H' : Hp) : Prop := ∀ b o, ¬ T b → H b = some o → H' b = some o ∧ ¬ T' b
def Ex (sc : Option (Addr × Addr)) (H H' : Hp) : Prop := ∀ b o, ¬ InS sc b → H b = some o → H' b = some o
theorem Fr.refl (T : Addr → Prop) (H : Hp) : Fr T H T H := fun _ _ n h => ⟨h, n⟩
theorem Fr.trans {T1 T2 T3 : Addr → Prop} {H1 H2 H3 : Hp} (a : Fr T1 H1 T2 H2) (b : Fr T2 H2 T3 H3) : Fr T1 H1 T3 H3 := fun x o n h =>
  let ⟨h2, n2⟩ := a x o n h
  b x o n2 h2
theorem Ex.refl (sc : Option (Addr × Addr)) (H : Hp) : Ex sc H H := fun _ _ _ h => h
theorem Ex.trans {sc : Option (Addr × Addr)} {H1 H2 H3 : Hp} (a : Ex sc H1 H2) (b : Ex sc H2 H3) : Ex sc H1 H3 := fun x o n h => b x o n (a x o n h)
theorem Rd.fr {T T' : Addr → Prop} {H H' : Hp} {a : Addr} {o : HO} (f : Fr T H T' H') (n : ¬ T a) (h : Rd H a o) : Rd H' a o ∧ ¬ T' a := by
  rcases h with h | ⟨u, h⟩
  · exact ⟨.inl (f a _ n h).1, (f a _ n h).2⟩
  · exact ⟨.inr ⟨u, (f a _ n h).1⟩, (f a _ n h).2⟩
theorem QL.fr {K : PySem.W.Frag} {T T' : Addr → Prop} {H H' : Hp} {a : Addr} {xs : List V} (f : Fr T H T' H') (h : QL K T H a xs) : QL K T' H' a xs := Rd.fr f h.2 h.1
theorem QT.fr {K : PySem.W.Frag} {T T' : Addr → Prop} {H H' : Hp} {a : Addr} {xs : List V} (f : Fr T H T' H') (h : QT K T H a xs) : QT K T' H' a xs := by
  rcases h with ⟨h, n⟩ | h
  · exact .inl (Rd.fr f n h)
  · exact .inr h
mutual
theorem DD.fr {K : PySem.W.Frag} {T T' : Addr → Prop} {H H' : Hp} (f : Fr T H T' H') : ∀ (d : PyData) (v : V), DD K T H v d → DD K T' H' v d
  | .none, _, h => by cases h; exact .non
  | .bool _, _, h => by cases h; exact .bl _
  | .int _, _, h => by cases h; exact .int _
  | .str _, _, h => by cases h; exact .str _
  | .list ds, _, h => by
    cases h with
    | lst q r => exact .lst (q.fr f) (DDs.fr f ds _ r)
  | .tuple ds, _, h => by
    cases h with
    | tup q r => exact .tup (q.fr f) (DDs.fr f ds _ r)
  | .dict _, _, h => by
    cases h with
    | dic q r => exact .dic (f _ _ r q).1 (f _ _ r q).2
theorem DDs.fr {K : PySem.W.Frag} {T T' : Addr → Prop} {H H' : Hp} (f : Fr T H T' H') : ∀ (ds : List PyData) (vs : List V), DDs K T H vs ds → DDs K T' H' vs ds
  | [], _, h => by cases h; exact .nil
  | d :: ds, _, h => by
    cases h with
    | cons a b => exact .cons (DD.fr f d _ a) (DDs.fr f ds _ b)
end
theorem DD.to {K : PySem.W.Frag} {T T' : Addr → Prop} {H H' : Hp} {v : V} {d : PyData} (h : DD K T H v d) (f : Fr T H T' H') : DD K T' H' v d := DD.fr f d v h
theorem DDs.to {K : PySem.W.Frag} {T T' : Addr → Prop} {H H' : Hp} {vs : List V} {ds : List PyData} (h : DDs K T H vs ds) (f : Fr T H T' H') : DDs K T' H' vs ds := DDs.fr f ds vs h
theorem Fr.weak {T T' : Addr → Prop} {H : Hp} (s : ∀ b, T' b → T b) : Fr T H T' H := fun _ _ n h => ⟨h, fun z => n (s _ z)⟩
theorem QL.sq {K : PySem.W.Frag} {T : Addr → Prop} {H : Hp} {a : Addr} {xs : List V} (h : QL K T H a xs) : SqL K H a xs := .inl h.1
theorem QT.sq {K : PySem.W.Frag} {T : Addr → Prop} {H : Hp} {a : Addr} {xs : List V} (h : QT K T H a xs) : SqT K H a xs := by
  rcases h with ⟨h, _⟩ | h
  · exact .inl h
  · exact .inr h
theorem DDs.length {K : PySem.W.Frag} {T : Addr → Prop} {H : Hp} : ∀ {vs : List V} {ds : List PyData}, DDs K T H vs ds → vs.length = ds.length
  | [], [], _ => rfl
  | _ :: vs, _ :: ds, .cons _ t => congrArg (· + 1) (DDs.length t)
mutual
theorem DD.dp {K : PySem.W.Frag} {T : Addr → Prop} {H : Hp} : ∀ (d : PyData) (v : V), d.canLay0 = true → DD K T H v d → Dp K H v d
  | .none, _, _, h => by cases h; exact .non
  | .bool _, _, _, h => by cases h; exact .bl _
  | .int _, _, _, h => by cases h; exact .int _
  | .str _, _, _, h => by cases h; exact .str _
  | .list ds, _, c, h => by
    cases h with
    | lst q r => exact .lst q.sq (DDs.dp ds _ (by simpa [PyData.canLay0] using c) r)
  | .tuple ds, _, c, h => by
    cases h with
    | tup q r => exact .tup q.sq (DDs.dp ds _ (by simpa [PyData.canLay0] using c) r)
  | .dict _, _, c, h => by simp [PyData.canLay0] at c
theorem DDs.dp {K : PySem.W.Frag} {T : Addr → Prop} {H : Hp} : ∀ (ds : List PyData) (vs : List V), PyData.canLayAll0 ds = true → DDs K T H vs ds → DpAll K H vs ds
  | [], _, _, h => by cases h; exact .nil
  | d :: ds, _, c, h => by
    have c' : d.canLay0 = true ∧ PyData.canLayAll0 ds = true := by simpa [PyData.canLayAll0] using c
    cases h with
    | cons a b => exact .cons (DD.dp d _ c'.1 a) (DDs.dp ds _ c'.2 b)
end
theorem DDs.get {K : PySem.W.Frag} {T : Addr → Prop} {H : Hp} : ∀ {vs : List V} {ds : List PyData}, DDs K T H vs ds → ∀ {i : Nat} {d : PyData}, ds[i]? = some d → ∃ v, vs[i]? = some v ∧ DD K T H v d
  | [], _, h, i, d, e => by cases h; simp at e
  | _ :: _, _, h, 0, d, e => by
    cases h with
    | cons a b => exact ⟨_, rfl, (Option.some.inj e) ▸ a⟩
  | _ :: _, _, h, i + 1, d, e => by
    cases h with
    | cons a b => exact DDs.get b (i := i) (by simpa using e)
theorem DDs.getV {K : PySem.W.Frag} {T : Addr → Prop} {H : Hp} : ∀ {vs : List V} {ds : List PyData}, DDs K T H vs ds → ∀ {i : Nat} {v : V}, vs[i]? = some v → ∃ d, ds[i]? = some d ∧ DD K T H v d
  | [], _, h, i, d, e => by simp at e
  | _ :: _, _, h, 0, d, e => by
    cases h with
    | cons a b => exact ⟨_, rfl, (Option.some.inj e) ▸ a⟩
  | _ :: _, _, h, i + 1, d, e => by
    cases h with
    | cons a b => exact DDs.getV b (i := i) (by simpa using e)
theorem DDs.append {K : PySem.W.Frag} {T : Addr → Prop} {H : Hp} {ws : List V} {es : List PyData} (h : DDs K T H ws es) : ∀ {vs : List V} {ds : List PyData}, DDs K T H vs ds → DDs K T H (vs ++ ws) (ds ++ es)
  | [], _, h1 => by cases h1; exact h
  | _ :: _, _, h1 => by
    cases h1 with
    | cons a b => exact .cons a (DDs.append h b)
theorem DDs.drop {K : PySem.W.Frag} {T : Addr → Prop} {H : Hp} : ∀ {vs : List V} {ds : List PyData} (n : Nat), DDs K T H vs ds → DDs K T H (vs.drop n) (ds.drop n)
  | [], _, n, h => by cases h; rw [List.drop_nil, List.drop_nil]; exact .nil
  | _ :: _, _, 0, h => h
  | _ :: _, _, n + 1, h => by
    cases h with
    | cons a b => exact DDs.drop n b
theorem DDs.take {K : PySem.W.Frag} {T : Addr → Prop} {H : Hp} : ∀ {vs : List V} {ds : List PyData} (n : Nat), DDs K T H vs ds → DDs K T H (vs.take n) (ds.take n)
  | [], _, n, h => by cases h; rw [List.take_nil, List.take_nil]; exact .nil
  | _ :: _, _, 0, h => .nil
  | _ :: _, _, n + 1, h => by
    cases h with
    | cons a b => exact .cons a (DDs.take n b)

/-! ### exceptions -/
def XR (K : PySem.W.Frag) (mg : Str → Option Value) (T : Addr → Prop) (H : Hp) (c : Value) (dd : Option Addr) (x : Xn) : Prop :=
  ∃ C, c = .ref C ∧ mg x.cls = some (.ref C) ∧ (dd = none ∨ ∃ d0 fs, dd = some d0 ∧ H d0 = some (.xd fs) ∧ ¬ T d0) ∧ ∀ f e, x.fs.lookup f = some e → ∃ d0 fs v, dd = some d0 ∧ H d0 = some (.xd fs) ∧ ¬ T d0 ∧ fs.lookup f = some v ∧ DD K T H v e
theorem XR.fr {K : PySem.W.Frag} {mg : Str → Option Value} {T T' : Addr → Prop} {H H' : Hp} {c : Value} {dd : Option Addr} {x : Xn} (f : Fr T H T' H') (h : XR K mg T H c dd x) : XR K mg T' H' c dd x := by
  obtain ⟨C, e, g, z, q⟩ := h
  refine ⟨C, e, g, ?_, fun n y hy => ?_⟩
  · rcases z with z | ⟨d0, fs, z, h2, h3⟩
    · exact .inl z
    · exact .inr ⟨d0, fs, z, (f _ _ h3 h2).1, (f _ _ h3 h2).2⟩
  obtain ⟨d0, fs, v, h1, h2, h3, h4, h5⟩ := q n y hy
  exact ⟨d0, fs, v, h1, (f _ _ h3 h2).1, (f _ _ h3 h2).2, h4, h5.to f⟩
/-- a caught exception that is kept -/
def exk (a C : Addr) (d : Option Addr) : HO := .ext fun h => ∃ (oe : Obj) (vs : Array Value), h.get? a = some oe ∧ Zc (.ref C) d oe ∧ oe.data = .fields vs
def XV (K : PySem.W.Frag) (mg : Str → Option Value) (T : Addr → Prop) (H : Hp) (v : V) (x : Xn) : Prop :=
  ∃ a C dd, v = .ref a ∧ H a = some (exk a C dd) ∧ ¬ T a ∧ XR K mg T H (.ref C) dd x
theorem XV.fr {K : PySem.W.Frag} {mg : Str → Option Value} {T T' : Addr → Prop} {H H' : Hp} {v : V} {x : Xn} (f : Fr T H T' H') (h : XV K mg T H v x) : XV K mg T' H' v x := by
  obtain ⟨a, C, dd, e, h1, h2, h3⟩ := h
  exact ⟨a, C, dd, e, (f _ _ h2 h1).1, (f _ _ h2 h1).2, h3.fr f⟩

/-! ### values of expressions -/
def SV (K : PySem.W.Frag) (mg : Str → Option Value) (sc : Option (Addr × Addr)) (T : Addr → Prop) (H : Hp) (v : V) : Sl → Prop
  | .dat d => DD K T H v d
  | .own _ => False
  | .src => ∃ a c, sc = some (a, c) ∧ v = .ref a
  | .exc x => XV K mg T H v x
theorem SV.fr {K : PySem.W.Frag} {mg : Str → Option Value} {sc : Option (Addr × Addr)} {T T' : Addr → Prop} {H H' : Hp} {v : V} {s : Sl} (f : Fr T H T' H') (h : SV K mg sc T H v s) : SV K mg sc T' H' v s := by
  cases s with
  | dat d => exact DD.fr f d v h
  | own l => exact h
  | src => exact h
  | exc x => exact XV.fr f h
inductive SVs (K : PySem.W.Frag) (mg : Str → Option Value) (sc : Option (Addr × Addr)) (T : Addr → Prop) (H : Hp) : List V → List Sl → Prop
  | nil : SVs K mg sc T H [] []
  | cons {v : V} {vs : List V} {s : Sl} {ss : List Sl} : SV K mg sc T H v s → SVs K mg sc T H vs ss → SVs K mg sc T H (v :: vs) (s :: ss)
theorem SVs.length {K : PySem.W.Frag} {mg : Str → Option Value} {sc : Option (Addr × Addr)} {T : Addr → Prop} {H : Hp} {vs : List V} {ss : List Sl} (h : SVs K mg sc T H vs ss) : vs.length = ss.length := by
  induction h with
  | nil => rfl
  | cons _ _ ih => exact congrArg (· + 1) ih
theorem SVs.fr {K : PySem.W.Frag} {mg : Str → Option Value} {sc : Option (Addr × Addr)} {T T' : Addr → Prop} {H H' : Hp} {vs : List V} {ss : List Sl} (f : Fr T H T' H') (h : SVs K mg sc T H vs ss) : SVs K mg sc T' H' vs ss := by
  induction h with
  | nil => exact .nil
  | cons a _ ih => exact .cons (a.fr f) ih
/-- a value that is only looked at: data, or an own list -/
def DB (K : PySem.W.Frag) (sc : Option (Addr × Addr)) (T : Addr → Prop) (H : Hp) (v : V) (d : PyData) : Prop :=
  DD K T H v d ∨ ∃ p vs l, v = .ref p ∧ d = .list l ∧ H p = some (.lst vs) ∧ ¬ InS sc p ∧ DDs K T H vs l

/-! ### slots -/
def SlotOk (K : PySem.W.Frag) (mg : Str → Option Value) (w : Wd) (T : Addr → Prop) (H : Hp) (o : Option (Option V)) : Sl → Prop
  | .own l => ∃ p vs, o = some (some (.ref p)) ∧ T p ∧ w.H0 p = none ∧ H p = some (.lst vs) ∧ DDs K T H vs l
  | s => ∃ v, o = some (some v) ∧ SV K mg w.sc T H v s
structure Lv (K : PySem.W.Frag) (mg : Str → Option Value) (w : Wd) (T : Addr → Prop) (σ : L2.St) (H : Hp) (m : Me) : Prop where
  t0 : ∀ b, w.T0 b → T b
  al : ∀ b, T b → H b ≠ none
  ex : Ex w.sc w.H0 H
  src : SrcAt w.sc H m.st
  len : σ.length = m.env.length
  slot : ∀ (i : Nat) (s : Sl), m.env[i]? = some (some s) → SlotOk K mg w T H σ[i]? s
  sep : ∀ (i j : Nat) (l l' : List PyData) (p : Addr), m.env[i]? = some (some (Sl.own l)) → m.env[j]? = some (some (Sl.own l')) → σ[i]? = some (some (V.ref p)) → σ[j]? = some (some (V.ref p)) → i = j
structure Stp (w : Wd) (σ : L2.St) (T : Addr → Prop) (H : Hp) (m : Me) (T' : Addr → Prop) (H' : Hp) (m' : Me) : Prop where
  ex : Ex w.sc H H'
  sub : ∀ b, T' b → T b
  fz : ∀ b, T b → ¬ T' b → ∃ (i : Nat) (l : List PyData), m.env[i]? = some (some (Sl.own l)) ∧ σ[i]? = some (some (V.ref b))
  mono : ∀ (i : Nat) (l : List PyData), m'.env[i]? = some (some (Sl.own l)) → m.env[i]? = some (some (Sl.own l))
theorem Stp.refl (w : Wd) (σ : L2.St) (T : Addr → Prop) (H : Hp) (m : Me) : Stp w σ T H m T H m := ⟨Ex.refl _ _, fun _ h => h, fun _ a b => absurd a b, fun _ _ h => h⟩
theorem Stp.trans {w : Wd} {σ : L2.St} {T1 T2 T3 : Addr → Prop} {H1 H2 H3 : Hp} {m1 m2 m3 : Me} (a : Stp w σ T1 H1 m1 T2 H2 m2) (b : Stp w σ T2 H2 m2 T3 H3 m3) : Stp w σ T1 H1 m1 T3 H3 m3 := by
  refine ⟨a.ex.trans b.ex, fun x h => a.sub x (b.sub x h), fun x h n => ?_, fun i l h => a.mono i l (b.mono i l h)⟩
  by_cases h2 : T2 x
  · obtain ⟨i, l, e1, e2⟩ := b.fz x h2 n
    exact ⟨i, l, a.mono i l e1, e2⟩
  · exact a.fz x h h2
theorem Wd.Ok.sNot {w : Wd} (ok : w.Ok) {T : Addr → Prop} (t0 : ∀ b, w.T0 b → T b) {b : Addr} (n : ¬ T b) : ¬ InS w.sc b := fun z => n (t0 b (ok.s0 b z))
theorem Stp.fr {w : Wd} {σ : L2.St} {T T' : Addr → Prop} {H H' : Hp} {m m' : Me} (a : Stp w σ T H m T' H' m') (ok : w.Ok) (t0 : ∀ b, w.T0 b → T b) : Fr T H T' H' := fun b o n h =>
  ⟨a.ex b o (ok.sNot t0 n) h, fun z => n (a.sub b z)⟩
end PL
namespace PL
open PySem PySem.Spec PyProof.Rows L2

theorem PE.imp {X : Cx} {e : Expr} {t t' : TE} (h : PE X e t) (f : ∀ σ H Q, t' σ H Q → t σ H Q) : PE X e t' := ⟨fun pins s σ H Q I q => h.run pins s σ H Q I (f σ H Q q)⟩
theorem PT.imp {X : Cx} {e : Expr} {t t' : TT} (h : PT X e t) (f : ∀ σ H Q, t' σ H Q → t σ H Q) : PT X e t' := ⟨fun pins s σ H Q I q => h.run pins s σ H Q I (f σ H Q q)⟩
theorem PA.imp {X : Cx} {e : List Expr} {t t' : TA} (h : PA X e t) (f : ∀ σ H Q, t' σ H Q → t σ H Q) : PA X e t' := ⟨fun pos pins s σ H Q I q => h.run pos pins s σ H Q I (f σ H Q q)⟩
theorem PS.imp {X : Cx} {e : Stmt} {t t' : TS} (h : PS X e t) (f : ∀ D σ H, t' D σ H → t D σ H) : PS X e t' := ⟨fun pins s σ H D I q => h.run pins s σ H D I (f D σ H q)⟩
theorem PSs.imp {X : Cx} {e : List Stmt} {t t' : TS} (h : PSs X e t) (f : ∀ D σ H, t' D σ H → t D σ H) : PSs X e t' := ⟨fun pins s σ H D I q => h.run pins s σ H D I (f D σ H q)⟩

/-- what is wanted behind a result -/
def Rn {α β : Type} (K : PySem.W.Frag) (mg : Str → Option Value) (W : WX) (P : Wd → (Addr → Prop) → Hp → β → α → Prop) (σ : L2.St) (w : Wd) (T : Addr → Prop) (H : Hp) (me : Me) (Q : β → Hp → Prop) (r : Res α) : Prop := match r with
    | .ok a me' => ∀ (v : β) (H' : Hp) (T' : Addr → Prop), Stp w σ T H me T' H' me' → Lv K mg w T' σ H' me' → P w T' H' v a → Q v H'
    | .exc x me' => ∀ (c : Value) (dd : Option Addr) (H' : Hp) (T' : Addr → Prop), Fr T H T' H' → Lv K mg w T' σ H' me' → XR K mg T' H' c dd x → W c dd σ H'
    | .bad => False
/-- the general pure reading of an expression -/
def tR {α β : Type} (K : PySem.W.Frag) (mg : Str → Option Value) (W : WX) (P : Wd → (Addr → Prop) → Hp → β → α → Prop) (m : M α) (σ : L2.St) (H : Hp) (Q : β → Hp → Prop) : Prop :=
  ∃ (w : Wd) (T : Addr → Prop) (me : Me), w.Ok ∧ Lv K mg w T σ H me ∧ Rn K mg W P σ w T H me Q (m me)
/-- a value | what is only looked at | arguments -/
abbrev tP (K : PySem.W.Frag) (mg : Str → Option Value) (W : WX) (m : M Sl) : TE := tR K mg W (fun w T H v s => SV K mg w.sc T H v s) m
abbrev tB (K : PySem.W.Frag) (mg : Str → Option Value) (W : WX) (m : M PyData) : TE := tR K mg W (fun w T H v d => DB K w.sc T H v d) m
abbrev tPs (K : PySem.W.Frag) (mg : Str → Option Value) (W : WX) (m : M (List Sl)) : TA := tR K mg W (fun w T H v s => SVs K mg w.sc T H v s) m
/-- a test -/
abbrev tPt (K : PySem.W.Frag) (mg : Str → Option Value) (W : WX) (m : M Bool) : TT := tR K mg W (fun _ _ _ v b => v = b) m
/-- a new list that nothing else reaches -/
abbrev tF (K : PySem.W.Frag) (mg : Str → Option Value) (W : WX) (m : M (List PyData)) : TE := tR K mg W (fun w T H v l => ∃ p vs, v = .ref p ∧ H p = some (.lst vs) ∧ T p ∧ w.H0 p = none ∧ DDs K T H vs l) m

/-! ### words of the pure program -/
def mC {α : Type} (a : α) : M α := fun m => .ok a m
def mBind {α β : Type} (a : M α) (k : α → M β) : M β := fun m => (a m).bind fun x m' => k x m'
def mVar (i : Nat) : M Sl := fun m => match m.env[i]? with
  | some (some (.own l)) => .ok (.dat (.list l)) { m with env := m.env.set i (some (.dat (.list l))) }
  | some (some s) => .ok s m
  | _ => .bad
def mBor (i : Nat) : M PyData := fun m => match m.env[i]? with
  | some (some (.own l)) => .ok (.list l) m
  | some (some (.dat d)) => .ok d m
  | _ => .bad
def mDat (a : M Sl) : M PyData := fun m => (a m).bind fun s m' => match s with
  | .dat d => .ok d m'
  | _ => .bad
def mSl (a : M PyData) : M Sl := fun m => (a m).bind fun d m' => .ok (.dat d) m'
def mOp1 (f : PyData → Option PyData) (a : M PyData) : M Sl := fun m => (a m).bind fun x m1 => match f x with
  | some z => .ok (.dat z) m1
  | none => .bad
def mOp (f : PyData → PyData → Option PyData) (a b : M PyData) : M Sl := fun m => (a m).bind fun x m1 => (b m1).bind fun y m2 => match f x y with
  | some z => .ok (.dat z) m2
  | none => .bad
def mArgs : List (M Sl) → M (List Sl)
  | [] => fun m => .ok [] m
  | a :: r => fun m => (a m).bind fun x m1 => (mArgs r m1).bind fun xs m2 => .ok (x :: xs) m2
def mTest (a : M Sl) : M Bool := fun m => (a m).bind fun s m' => match s with
  | .dat (.bool b) => .ok b m'
  | _ => .bad
def mTru (a : M PyData) : M Bool := fun m => (a m).bind fun s m' => match s with
  | .none => .ok false m'
  | .bool b => .ok b m'
  | .int i => .ok (i != 0) m'
  | .str x => if x.length ≤ sizeLine then .ok (x.length != 0) m' else .bad
  | .list l => .ok (!l.isEmpty) m'
  | .tuple l => .ok (!l.isEmpty) m'
  | _ => .bad
def mNot (a : M Bool) : M Bool := fun m => (a m).bind fun b m' => .ok (!b) m'
def mAnd (a b : M Bool) : M Bool := fun m => (a m).bind fun x m' => if x = true then b m' else .ok false m'
def mOr (a b : M Bool) : M Bool := fun m => (a m).bind fun x m' => if x = true then .ok true m' else b m'
def mBl (a : M Bool) : M Sl := fun m => (a m).bind fun b m' => .ok (.dat (.bool b)) m'
def mIf {α : Type} (c : M Bool) (a b : M α) : M α := fun m => (c m).bind fun x m' => if x = true then a m' else b m'

section
variable {X : Cx} {W : WX} {pos : Pos} {a b c : Expr} {es : List Expr}
abbrev PP (X : Cx) (W : WX) (e : Expr) (m : M Sl) : Prop := PE X e (tP X.K X.mg W m)
abbrev PB (X : Cx) (W : WX) (e : Expr) (m : M PyData) : Prop := PE X e (tB X.K X.mg W m)
abbrev PF (X : Cx) (W : WX) (e : Expr) (m : M (List PyData)) : Prop := PE X e (tF X.K X.mg W m)
abbrev PPs (X : Cx) (W : WX) (es : List Expr) (m : M (List Sl)) : Prop := PA X es (tPs X.K X.mg W m)
abbrev PPt (X : Cx) (W : WX) (e : Expr) (m : M Bool) : Prop := PT X e (tPt X.K X.mg W m)
abbrev PWt (X : Cx) (W : WX) (e : Expr) (m : M Bool) : Prop := PW X e (tPt X.K X.mg W m)

/-- the bind of readings: first m, then what is wanted of its value -/
theorem Rn.seq {α β γ δ : Type} {K : PySem.W.Frag} {mg : Str → Option Value} {P : Wd → (Addr → Prop) → Hp → β → α → Prop} {R : Wd → (Addr → Prop) → Hp → δ → γ → Prop} {m : M α} {k : α → Me → Res γ} {σ : L2.St} {H : Hp} {Q : δ → Hp → Prop} {Q' : β → Hp → Prop}
    {w : Wd} {T : Addr → Prop} {me : Me} (ok : w.Ok) (lv : Lv K mg w T σ H me) (h : Rn K mg W R σ w T H me Q ((m me).bind k))
    (f : ∀ (T1 : Addr → Prop) (me1 : Me) (v : β) (x : α) (H1 : Hp), Stp w σ T H me T1 H1 me1 → Lv K mg w T1 σ H1 me1 → P w T1 H1 v x → Rn K mg W R σ w T1 H1 me1 Q (k x me1) → Q' v H1) : tR K mg W P m σ H Q' := by
  refine ⟨w, T, me, ok, lv, ?_⟩
  cases hm : m me with
  | bad => rw [hm] at h; exact h
  | exc x me1 => rw [hm] at h; exact h
  | ok x me1 =>
    rw [hm] at h
    simp only [Res.bind_ok] at h
    intro v H1 T1 s1 lv1 p1
    refine f T1 me1 v x H1 s1 lv1 p1 ?_
    cases hk : k x me1 with
    | bad => rw [hk] at h; exact h
    | exc y me2 =>
      rw [hk] at h
      exact fun c dd H' T' fr lv' xr => h c dd H' T' ((s1.fr ok lv.t0).trans fr) lv' xr
    | ok y me2 =>
      rw [hk] at h
      exact fun v' H' T' s2 lv' r => h v' H' T' (s1.trans s2) lv' r
theorem pp_imp {e : Expr} {m m' : M Sl} (h : PP X W e m) (f : ∀ me, m' me = m me) : PP X W e m' := by
  have : m' = m := funext f
  rw [this]; exact h
/-! names, constants -/
theorem pp_c {e : Expr} {v : V} {s : Sl} (h : PE X e (tC v)) (hs : ∀ sc T H, SV X.K X.mg sc T H v s) : PP X W e (mC s) := by
  refine PE.imp h fun σ H Q q => ?_
  obtain ⟨w, T, me, ok, lv, q⟩ := q
  exact q v H T (Stp.refl _ _ _ _ _) lv (hs _ _ _)
theorem pp_int {i : Int} {j : Nat} : PP X W (.Constant (.int i) j pos) (mC (.dat (.int i))) := pp_c pe_int fun _ _ _ => .int i
theorem pp_bl {v : Bool} {j : Nat} : PP X W (.Constant (.bool v) j pos) (mC (.dat (.bool v))) := pp_c pe_bl fun _ _ _ => .bl v
theorem pp_non {j : Nat} : PP X W (.Constant .none j pos) (mC (.dat .none)) := pp_c pe_non fun _ _ _ => .non
theorem pp_str {x : Str} {j : Nat} : PP X W (.Constant (.str x) j pos) (mC (.dat (.str x))) := pp_c pe_str fun _ _ _ => .str x
theorem pp_glob {x : Str} {v : V} {d : PyData} {u : Value} (hg : Gl X x) (hm : X.mg x = some u) (r : RelV v u) (hs : ∀ T H, DD X.K T H v d) (hd : (x == ("__debug__" : Str)) = false := by decide) : PP X W (.Name x pos) (mC (.dat d)) := pp_c (pe_glob hg hm r hd) fun _ T H => hs T H
theorem Lv.get {K : PySem.W.Frag} {mg : Str → Option Value} {w : Wd} {T : Addr → Prop} {σ : L2.St} {H : Hp} {me : Me} (lv : Lv K mg w T σ H me) {i : Nat} {s : Sl} (h : me.env[i]? = some (some s)) (ho : ∀ l, s ≠ .own l) : ∃ v, σ[i]? = some (some v) ∧ SV K mg w.sc T H v s := by
  have q := lv.slot i s h
  cases s with
  | own l => exact absurd rfl (ho l)
  | dat d => exact q
  | src => exact q
  | exc x => exact q
theorem SlotOk.fr {K : PySem.W.Frag} {mg : Str → Option Value} {w : Wd} {T T' : Addr → Prop} {H H' : Hp} {o : Option (Option V)} {s : Sl} (h : SlotOk K mg w T H o s) (f : Fr T H T' H') (hk : ∀ p vs l, s = .own l → o = some (some (.ref p)) → H p = some (.lst vs) → T p → T' p ∧ H' p = some (.lst vs)) : SlotOk K mg w T' H' o s := by
  cases s with
  | own l =>
    obtain ⟨p, vs, e, tp, h0, hp, hd⟩ := h
    obtain ⟨a, b⟩ := hk p vs l rfl e hp tp
    exact ⟨p, vs, e, a, h0, b, hd.to f⟩
  | dat d =>
    obtain ⟨v, e, q⟩ := h
    exact ⟨v, e, SV.fr f q⟩
  | src =>
    obtain ⟨v, e, q⟩ := h
    exact ⟨v, e, q⟩
  | exc x =>
    obtain ⟨v, e, q⟩ := h
    exact ⟨v, e, SV.fr f q⟩
/-- an own list is given up: from then on it is data -/
theorem Lv.freeze {K : PySem.W.Frag} {mg : Str → Option Value} {w : Wd} {T : Addr → Prop} {σ : L2.St} {H : Hp} {me : Me} (ok : w.Ok) (lv : Lv K mg w T σ H me) {i : Nat} {l : List PyData} (h : me.env[i]? = some (some (.own l))) :
    ∃ (p : Addr) (T' : Addr → Prop), σ[i]? = some (some (.ref p)) ∧ Stp w σ T H me T' H { me with env := me.env.set i (some (.dat (.list l))) } ∧ Lv K mg w T' σ H { me with env := me.env.set i (some (.dat (.list l))) } ∧ DD K T' H (.ref p) (.list l) := by
  obtain ⟨p, vs, e, tp, h0, hp, hd⟩ := lv.slot i _ h
  have hi : i < me.env.length := by
    rcases Nat.lt_or_ge i me.env.length with z | z
    · exact z
    · rw [List.getElem?_eq_none z] at h; cases h
  have fr : Fr T H (fun b => T b ∧ b ≠ p) H := Fr.weak fun _ z => z.1
  have dd : DD K (fun b => T b ∧ b ≠ p) H (.ref p) (.list l) := .lst ⟨.inl hp, fun z => z.2 rfl⟩ (hd.to fr)
  refine ⟨p, fun b => T b ∧ b ≠ p, e, ⟨Ex.refl _ _, fun _ z => z.1, fun b hb nb => ?_, fun j l' hj => ?_⟩, ⟨fun b hb => ⟨lv.t0 b hb, fun z => ?_⟩, fun b hb => lv.al b hb.1, lv.ex, lv.src, ?_, fun j s hj => ?_, fun j k l1 l2 q h1 h2 e1 e2 => ?_⟩, dd⟩
  · have z : b = p := Classical.byContradiction fun n => nb ⟨hb, n⟩
    exact ⟨i, l, h, by rw [z]; exact e⟩
  · by_cases hji : j = i
    · subst hji
      rw [List.getElem?_set_self hi] at hj
      cases hj
    · rw [List.getElem?_set_ne (Ne.symm hji)] at hj
      exact hj
  · subst z
    exact ok.al b hb h0
  · rw [List.length_set]; exact lv.len
  · by_cases hji : j = i
    · subst hji
      rw [List.getElem?_set_self hi] at hj
      cases hj
      exact ⟨.ref p, e, dd⟩
    · rw [List.getElem?_set_ne (Ne.symm hji)] at hj
      refine (lv.slot j s hj).fr fr fun p' vs' l' es ep hp' tp' => ⟨⟨tp', fun z => ?_⟩, hp'⟩
      subst z; subst es
      exact hji (lv.sep j i l' l p' hj h ep e)
  · have h1' : me.env[j]? = some (some (Sl.own l1)) := by
      by_cases hji : j = i
      · subst hji; rw [List.getElem?_set_self hi] at h1; cases h1
      · rw [List.getElem?_set_ne (Ne.symm hji)] at h1; exact h1
    have h2' : me.env[k]? = some (some (Sl.own l2)) := by
      by_cases hji : k = i
      · subst hji; rw [List.getElem?_set_self hi] at h2; cases h2
      · rw [List.getElem?_set_ne (Ne.symm hji)] at h2; exact h2
    exact lv.sep j k l1 l2 q h1' h2' e1 e2
theorem pp_var (i : Nat) {x : Str} (hN : X.N[i]? = some x := by rfl) (hv : Vis X.env.scope x := by first | exact Or.inl rfl | exact Or.inr (Or.inl rfl) | exact Or.inr (Or.inr rfl)) (hd : (x == ("__debug__" : Str)) = false := by decide)
    (hcd : (x == ("__classdict__" : Str)) = false := by decide) : PP X W (.Name x pos) (mVar i) := by
  refine PE.imp (pe_var hN hv hd hcd) fun σ H Q q => ?_
  obtain ⟨w, T, me, ok, lv, q⟩ := q
  unfold mVar at q
  cases he : me.env[i]? with
  | none => rw [he] at q; exact q.elim
  | some o =>
    cases o with
    | none => rw [he] at q; exact q.elim
    | some s =>
      rw [he] at q
      cases s with
      | own l =>
        obtain ⟨p, T', e, s1, lv1, dd⟩ := lv.freeze ok he
        exact ⟨.ref p, e, q (.ref p) H T' s1 lv1 dd⟩
      | dat d =>
        obtain ⟨v, e, r⟩ := lv.get he (fun _ => nofun)
        exact ⟨v, e, q v H T (Stp.refl _ _ _ _ _) lv r⟩
      | src =>
        obtain ⟨v, e, r⟩ := lv.get he (fun _ => nofun)
        exact ⟨v, e, q v H T (Stp.refl _ _ _ _ _) lv r⟩
      | exc x =>
        obtain ⟨v, e, r⟩ := lv.get he (fun _ => nofun)
        exact ⟨v, e, q v H T (Stp.refl _ _ _ _ _) lv r⟩
theorem pb_var (i : Nat) {x : Str} (hN : X.N[i]? = some x := by rfl) (hv : Vis X.env.scope x := by first | exact Or.inl rfl | exact Or.inr (Or.inl rfl) | exact Or.inr (Or.inr rfl)) (hd : (x == ("__debug__" : Str)) = false := by decide)
    (hcd : (x == ("__classdict__" : Str)) = false := by decide) : PB X W (.Name x pos) (mBor i) := by
  refine PE.imp (pe_var hN hv hd hcd) fun σ H Q q => ?_
  obtain ⟨w, T, me, ok, lv, q⟩ := q
  unfold mBor at q
  cases he : me.env[i]? with
  | none => rw [he] at q; exact q.elim
  | some o =>
    cases o with
    | none => rw [he] at q; exact q.elim
    | some s =>
      rw [he] at q
      cases s with
      | own l =>
        obtain ⟨p, vs, e, tp, h0, hp, hd⟩ := lv.slot i _ he
        refine ⟨.ref p, e, q (.ref p) H T (Stp.refl _ _ _ _ _) lv (.inr ⟨p, vs, l, rfl, rfl, hp, fun z => ?_, hd⟩)⟩
        exact ok.al p (ok.s0 p z) h0
      | dat d =>
        obtain ⟨v, e, r⟩ := lv.get he (fun _ => nofun)
        exact ⟨v, e, q v H T (Stp.refl _ _ _ _ _) lv (.inl r)⟩
      | src => exact q.elim
      | exc x => exact q.elim
theorem pb_of {e : Expr} {m : M Sl} (h : PP X W e m) : PB X W e (mDat m) := by
  refine PE.imp h fun σ H Q q => ?_
  obtain ⟨w, T, me, ok, lv, q⟩ := q
  refine ⟨w, T, me, ok, lv, ?_⟩
  unfold mDat at q
  cases hm : m me with
  | bad => rw [hm] at q; exact q
  | exc x me1 => rw [hm] at q; exact q
  | ok s me1 =>
    rw [hm] at q
    intro v H' T' s1 lv1 sv
    cases s with
    | dat d => exact q v H' T' s1 lv1 (.inl sv)
    | own l => exact q.elim
    | src => exact q.elim
    | exc x => exact q.elim
theorem DB.fr {K : PySem.W.Frag} {sc : Option (Addr × Addr)} {T T' : Addr → Prop} {H H' : Hp} {v : V} {d : PyData} (f : Fr T H T' H') (e : Ex sc H H') (h : DB K sc T H v d) : DB K sc T' H' v d := by
  rcases h with h | ⟨p, vs, l, ev, ed, hp, ns, hd⟩
  · exact .inl (h.to f)
  · exact .inr ⟨p, vs, l, ev, ed, e _ _ ns hp, ns, hd.to f⟩
/-- as data that HandS knows -/
theorem DB.dp {K : PySem.W.Frag} {sc : Option (Addr × Addr)} {T : Addr → Prop} {H : Hp} {v : V} {d : PyData} (c : d.canLay0 = true) (h : DB K sc T H v d) : Dp K H v d := by
  rcases h with h | ⟨p, vs, l, rfl, rfl, hp, ns, hd⟩
  · exact DD.dp d v c h
  · exact .lst (.inl (.inl hp)) (DDs.dp l vs (by simpa [PyData.canLay0] using c) hd)

/-! operators: what a rule's reading asks of data; it may make new objects -/
def Same0 (H H' : Hp) : Prop := ∀ b o, H b = some o → H' b = some o
def OpOk (K : PySem.W.Frag) (r : R2) (f : PyData → PyData → Option PyData) : Prop :=
  ∀ (sc : Option (Addr × Addr)) (T : Addr → Prop) (H : Hp) (x y : V) (d e z : PyData) (Q : VK), (∀ b, T b → H b ≠ none) → DB K sc T H x d → DB K sc T H y e → f d e = some z → (∀ v H', Same0 H H' → DD K T H' v z → Q v H') → r x y H Q
theorem Lv.same {K : PySem.W.Frag} {mg : Str → Option Value} {w : Wd} {T : Addr → Prop} {σ : L2.St} {H H' : Hp} {me : Me} (lv : Lv K mg w T σ H me) (s : Same0 H H') : Lv K mg w T σ H' me := by
  have fr : Fr T H T H' := fun b o n h => ⟨s b o h, n⟩
  refine ⟨lv.t0, fun b hb n => ?_, lv.ex.trans fun b o _ h => s b o h, fun a c e => ?_, lv.len, fun i sl hi => (lv.slot i sl hi).fr fr fun p vs l _ _ hp tp => ⟨tp, s _ _ hp⟩, lv.sep⟩
  · cases q : H b with
    | none => exact lv.al b hb q
    | some o => rw [s b o q] at n; cases n
  · obtain ⟨n, h1, h2⟩ := lv.src a c e
    exact ⟨n, s _ _ h1, s _ _ h2⟩
theorem Stp.same {w : Wd} {σ : L2.St} {T : Addr → Prop} {H H' : Hp} {m : Me} (s : Same0 H H') : Stp w σ T H m T H' m := ⟨fun b o _ h => s b o h, fun _ h => h, fun _ a b => absurd a b, fun _ _ h => h⟩
theorem tOp_ok {r : R2} {f : PyData → PyData → Option PyData} (hr : OpOk X.K r f) {x y : M PyData} {σ : L2.St} {H : Hp} {Q : VK} (q : tP X.K X.mg W (mOp f x y) σ H Q) : tOp r (tB X.K X.mg W x) (tB X.K X.mg W y) σ H Q := by
  obtain ⟨w, T, me, ok, lv, q⟩ := q
  refine Rn.seq ok lv q fun T1 me1 v d H1 s1 lv1 p1 q1 => ?_
  refine Rn.seq ok lv1 q1 fun T2 me2 u e H2 s2 lv2 p2 q2 => ?_
  cases hf : f d e with
  | none => rw [hf] at q2; exact q2.elim
  | some z =>
    rw [hf] at q2
    exact hr w.sc T2 H2 v u d e z Q lv2.al (p1.fr (s2.fr ok lv1.t0) s2.ex) p2 hf fun v' H' sm dd => q2 v' H' T2 (Stp.same sm) (lv2.same sm) dd
theorem pp_op {op : Operator} {r : R2} {f : PyData → PyData → Option PyData} {x y : M PyData} (ho : OpR X (binaryOp op) r) (hr : OpOk X.K r f) (ha : PB X W a x) (hb : PB X W b y) : PP X W (.BinOp a op b pos) (mOp f x y) :=
  PE.imp (pe_op ho ha hb) fun _ _ _ => tOp_ok hr
theorem pp_cmp {op : CmpOp} {r : R2} {f : PyData → PyData → Option PyData} {x y : M PyData} (ho : OpR X (compareOp op) r) (hr : OpOk X.K r f) (ha : PB X W a x) (hb : PB X W b y) (hm : behindInMarks op b = false) : PP X W (.Compare a [op] [b] pos) (mOp f x y) :=
  PE.imp (pe_cmpR ho ha hb hm) fun _ _ _ => tOp_ok hr
theorem pp_ix {r : R2} {f : PyData → PyData → Option PyData} {x y : M PyData} (ho : IxR X r) (hr : OpOk X.K r f) (ha : PB X W a x) (hb : PB X W b y) (hs : PlainIx b) : PP X W (.Subscript a b pos) (mOp f x y) :=
  PE.imp (pe_ix ho ha hb hs) fun _ _ _ => tOp_ok hr
end
end PL
namespace PL
open PySem PySem.Spec PyProof.Rows L2
section
variable {X : Cx} {W : WX} {pos : Pos} {a b c e : Expr} {es : List Expr}

/-! ### arguments of built-ins -/
inductive DBs (K : PySem.W.Frag) (sc : Option (Addr × Addr)) (T : Addr → Prop) (H : Hp) : List V → List PyData → Prop
  | nil : DBs K sc T H [] []
  | cons {v : V} {vs : List V} {s : PyData} {ss : List PyData} : DB K sc T H v s → DBs K sc T H vs ss → DBs K sc T H (v :: vs) (s :: ss)
theorem DBs.fr {K : PySem.W.Frag} {sc : Option (Addr × Addr)} {T T' : Addr → Prop} {H H' : Hp} {vs : List V} {ss : List PyData} (f : Fr T H T' H') (e : Ex sc H H') (h : DBs K sc T H vs ss) : DBs K sc T' H' vs ss := by
  induction h with
  | nil => exact .nil
  | cons a _ ih => exact .cons (a.fr f e) ih
def mBs : List (M PyData) → M (List PyData)
  | [] => fun m => .ok [] m
  | a :: r => fun m => (a m).bind fun x m1 => (mBs r m1).bind fun xs m2 => .ok (x :: xs) m2
abbrev tBs (K : PySem.W.Frag) (mg : Str → Option Value) (W : WX) (m : M (List PyData)) : TA := tR K mg W (fun w T H v s => DBs K w.sc T H v s) m
abbrev PBs (X : Cx) (W : WX) (es : List Expr) (m : M (List PyData)) : Prop := PA X es (tBs X.K X.mg W m)
theorem Rn.pure {α β : Type} {K : PySem.W.Frag} {mg : Str → Option Value} {P : Wd → (Addr → Prop) → Hp → β → α → Prop} {σ : L2.St} {w : Wd} {T : Addr → Prop} {H : Hp} {me : Me} {Q : β → Hp → Prop} {x : α} {v : β} (lv : Lv K mg w T σ H me) (h : Rn K mg W P σ w T H me Q (.ok x me)) (p : P w T H v x) : Q v H :=
  h v H T (Stp.refl _ _ _ _ _) lv p
theorem pbs_nil : PBs X W [] (mBs []) := PA.imp pa_nil fun σ H Q q => by
  obtain ⟨w, T, me, ok, lv, q⟩ := q
  exact Rn.pure lv q .nil
theorem pbs_cons {m : M PyData} {ms : List (M PyData)} (ha : PB X W e m) (hr : PBs X W es (mBs ms)) (hs : starEach (e :: es) X.env = (false, eval e X.env) :: starEach es X.env := by rfl) : PBs X W (e :: es) (mBs (m :: ms)) := by
  refine PA.imp (pa_cons ha hr hs) fun σ H Q q => ?_
  obtain ⟨w, T, me, ok, lv, q⟩ := q
  refine Rn.seq ok lv q fun T1 me1 v d H1 s1 lv1 p1 q1 => ?_
  refine Rn.seq ok lv1 q1 fun T2 me2 vs ds H2 s2 lv2 p2 q2 => ?_
  exact Rn.pure lv2 q2 (.cons (p1.fr (s2.fr ok lv1.t0) s2.ex) p2)
/-- a built-in that reads its arguments and makes at most new objects -/
def CalOk (K : PySem.W.Frag) (r : List V → Hp → VK → Prop) (f : List PyData → Option PyData) : Prop :=
  ∀ (sc : Option (Addr × Addr)) (T : Addr → Prop) (H : Hp) (xs : List V) (ds : List PyData) (z : PyData) (Q : VK), (∀ b, T b → H b ≠ none) → DBs K sc T H xs ds → f ds = some z → (∀ v H', Same0 H H' → DD K T H' v z → Q v H') → r xs H Q
def mCal (f : List PyData → Option PyData) (a : M (List PyData)) : M Sl := fun m => (a m).bind fun x m1 => match f x with
  | some z => .ok (.dat z) m1
  | none => .bad
theorem tCB_ok {r : List V → Hp → VK → Prop} {f : List PyData → Option PyData} (hr : CalOk X.K r f) {x : M (List PyData)} {σ : L2.St} {H : Hp} {Q : VK} (q : tP X.K X.mg W (mCal f x) σ H Q) : tCB r (tBs X.K X.mg W x) σ H Q := by
  obtain ⟨w, T, me, ok, lv, q⟩ := q
  refine Rn.seq ok lv q fun T1 me1 v d H1 s1 lv1 p1 q1 => ?_
  cases hf : f d with
  | none => rw [hf] at q1; exact q1.elim
  | some z =>
    rw [hf] at q1
    exact hr w.sc T1 H1 v d z Q lv1.al p1 hf fun v' H' sm dd => q1 v' H' T1 (Stp.same sm) (lv1.same sm) dd
theorem pp_callB {r : List V → Hp → VK → Prop} {f : List PyData → Option PyData} {m : M (List PyData)} {id : String} {x : Str} {p : Pos} (hc : CallR X (.builtin id) r) (hr : CalOk X.K r f) (hg : Gl X x) (hm : X.mg x = none) (hv : bootBuiltins x = some (.builtin id)) (ha : PBs X W (e :: es) m)
    (hn : x ≠ "__name__" := by decide) (hdb : (x == ("__debug__" : Str)) = false := by decide) (he : starEach (e :: es) X.env = (false, eval e X.env) :: starEach es X.env := by rfl) (hpl : (backTo pos (starEach es X.env)).any (·.1) = false := by rfl) :
    PP X W (.Call (.Name x p) (e :: es) [] pos) (mCal f m) := PE.imp (pe_callB hc hg hm hv ha hn hdb he hpl) fun _ _ _ => tCB_ok hr
theorem pp_callTy {r : List V → Hp → VK → Prop} {f : List PyData → Option PyData} {m : M (List PyData)} {id : String} {x : Str} {p : Pos} (hc : CallR X (.type id) r) (hr : CalOk X.K r f) (hg : Gl X x) (hm : X.mg x = none) (hv : bootBuiltins x = some (.type id)) (ha : PBs X W (e :: es) m)
    (hn : x ≠ "__name__" := by decide) (hdb : (x == ("__debug__" : Str)) = false := by decide) (he : starEach (e :: es) X.env = (false, eval e X.env) :: starEach es X.env := by rfl) (hpl : (backTo pos (starEach es X.env)).any (·.1) = false := by rfl) :
    PP X W (.Call (.Name x p) (e :: es) [] pos) (mCal f m) := PE.imp (pe_callTy hc hg hm hv ha hn hdb he hpl) fun _ _ _ => tCB_ok hr

/-! ### the operators on data -/
theorem nT_new {T : Addr → Prop} {H : Hp} {p : Addr} (al : ∀ b, T b → H b ≠ none) (hp : H p = none) : ¬ T p := fun z => al p z hp
theorem Same0.new {H : Hp} {p : Addr} {o : HO} (h : H p = none) : Same0 H (upd H p o) := fun a u e => by
  rw [upd_ne (ne_of_none e h)]; exact e
theorem Same0.fr {T : Addr → Prop} {H H' : Hp} (s : Same0 H H') : Fr T H T H' := fun b o n h => ⟨s b o h, n⟩
theorem DD.newL {K : PySem.W.Frag} {T : Addr → Prop} {H : Hp} {p : Addr} {xs : List V} {ds : List PyData} (al : ∀ b, T b → H b ≠ none) (hp : H p = none) (h : DDs K T H xs ds) : DD K T (upd H p (.lst xs)) (.ref p) (.list ds) :=
  .lst ⟨.inl upd_same, nT_new al hp⟩ (h.to (Same0.new hp).fr)
theorem DD.newT {K : PySem.W.Frag} {T : Addr → Prop} {H : Hp} {p : Addr} {xs : List V} {ds : List PyData} (al : ∀ b, T b → H b ≠ none) (hp : H p = none) (h : DDs K T H xs ds) : DD K T (upd H p (.tup xs)) (.ref p) (.tuple ds) :=
  .tup (.inl ⟨.inl upd_same, nT_new al hp⟩) (h.to (Same0.new hp).fr)
/-- the items of a list that is looked at -/
theorem DB.list {K : PySem.W.Frag} {sc : Option (Addr × Addr)} {T : Addr → Prop} {H : Hp} {v : V} {l : List PyData} (h : DB K sc T H v (.list l)) : ∃ p vs, v = .ref p ∧ Rd H p (.lst vs) ∧ DDs K T H vs l := by
  rcases h with h | ⟨p, vs, l', rfl, e, hp, _, hd⟩
  · cases h with
    | lst q r => exact ⟨_, _, rfl, q.1, r⟩
  · cases e; exact ⟨p, vs, rfl, .inl hp, hd⟩
theorem DB.tuple {K : PySem.W.Frag} {sc : Option (Addr × Addr)} {T : Addr → Prop} {H : Hp} {v : V} {l : List PyData} (h : DB K sc T H v (.tuple l)) : ∃ p vs, v = .ref p ∧ QT K T H p vs ∧ DDs K T H vs l := by
  rcases h with h | ⟨p, vs, l', rfl, e, hp, _, hd⟩
  · cases h with
    | tup q r => exact ⟨_, _, rfl, q, r⟩
  · cases e
theorem DB.int {K : PySem.W.Frag} {sc : Option (Addr × Addr)} {T : Addr → Prop} {H : Hp} {v : V} {i : Int} (h : DB K sc T H v (.int i)) : v = .int i := by
  rcases h with h | ⟨p, vs, l', rfl, e, hp, _, hd⟩
  · cases h; rfl
  · cases e
theorem DB.str {K : PySem.W.Frag} {sc : Option (Addr × Addr)} {T : Addr → Prop} {H : Hp} {v : V} {i : Str} (h : DB K sc T H v (.str i)) : v = .str i := by
  rcases h with h | ⟨p, vs, l', rfl, e, hp, _, hd⟩
  · cases h; rfl
  · cases e
theorem DB.bool {K : PySem.W.Frag} {sc : Option (Addr × Addr)} {T : Addr → Prop} {H : Hp} {v : V} {i : Bool} (h : DB K sc T H v (.bool i)) : v = .bl i := by
  rcases h with h | ⟨p, vs, l', rfl, e, hp, _, hd⟩
  · cases h; rfl
  · cases e
theorem DB.none {K : PySem.W.Frag} {sc : Option (Addr × Addr)} {T : Addr → Prop} {H : Hp} {v : V} (h : DB K sc T H v .none) : v = .non := by
  rcases h with h | ⟨p, vs, l', rfl, e, hp, _, hd⟩
  · cases h; rfl
  · cases e

/-- list + list, also of lists that are read only -/
def rCatR : R2 := fun x y H Q => ∃ l b xs zs, x = .ref l ∧ y = .ref b ∧ Rd H l (.lst xs) ∧ Rd H b (.lst zs) ∧ xs.length + zs.length ≤ sizeLine ∧ ∀ p, H p = none → Q (.ref p) (upd H p (.lst (xs ++ zs)))
theorem op_catR : OpR X (binaryOp .Add) rCatR := by
  intro pins s σ H x y v u Q I rx ry h
  obtain ⟨l, b, xs, zs, rfl, rfl, hH, hB, hz, q⟩ := h
  cases rx
  cases ry
  obtain ⟨z1, its, n, r, e⟩ := hH.ok I.hok
  obtain ⟨z2, its2, n2, r2, e2⟩ := hB.ok I.hok
  have hl := r.length
  have hl2 := r2.length
  refine PySem.P.add_list e e2 ?_ (by rw [List.size_toArray, List.size_toArray]; omega)
  have ea : its.toArray ++ its2.toArray = (its ++ its2).toArray := by simp
  rw [ea]
  exact ⟨.ref _, _, I.lnew (t' := s.toks) (r.append r2) (by rw [List.length_append]; omega), rfl, q _ I.fresh⟩
def pAdd : PyData → PyData → Option PyData
  | .int i, .int j => some (.int (i + j))
  | .str x, .str y => if x.length + y.length ≤ sizeLine then some (.str (x ++ y)) else none
  | .list x, .list y => if x.length + y.length ≤ sizeLine then some (.list (x ++ y)) else none
  | .tuple x, .tuple y => if x.length + y.length ≤ sizeLine then some (.tuple (x ++ y)) else none
  | _, _ => none
def rAddP (K : PySem.W.Frag) : R2 := fun x y H Q => (rI0 fun i j => .int (i + j)) x y H Q ∨ (∃ i j, x = .str i ∧ y = .str j ∧ i.length + j.length ≤ sizeLine ∧ Q (.str (i ++ j)) H) ∨ rCatR x y H Q ∨ rCatA K x y H Q
theorem op_addP : OpR X (binaryOp .Add) (rAddP X.K) := op_add.or (op_add_str.or (op_catR.or op_catA))
theorem ok_add {K : PySem.W.Frag} : OpOk K (rAddP K) pAdd := by
  intro sc T H x y d e z Q al hx hy hf q
  unfold pAdd at hf
  split at hf
  · cases hf
    exact .inl ⟨_, _, hx.int, hy.int, q _ H (fun _ _ h => h) (.int _)⟩
  · split at hf
    · rename_i hz
      cases hf
      exact .inr (.inl ⟨_, _, hx.str, hy.str, hz, q _ H (fun _ _ h => h) (.str _)⟩)
    · cases hf
  · split at hf
    · rename_i hz
      cases hf
      obtain ⟨p1, v1, rfl, r1, d1⟩ := hx.list
      obtain ⟨p2, v2, rfl, r2, d2⟩ := hy.list
      refine .inr (.inr (.inl ⟨p1, p2, v1, v2, rfl, rfl, r1, r2, by rw [d1.length, d2.length]; exact hz, fun p hp => q _ _ (Same0.new hp) (DD.newL al hp (d2.append d1))⟩))
    · cases hf
  · split at hf
    · rename_i hz
      cases hf
      obtain ⟨p1, v1, rfl, r1, d1⟩ := hx.tuple
      obtain ⟨p2, v2, rfl, r2, d2⟩ := hy.tuple
      refine .inr (.inr (.inr ⟨p1, p2, v1, v2, rfl, rfl, r1.sq, r2.sq, by rw [d1.length, d2.length]; exact hz, fun e0 => ?_, fun _ e0 => ?_, fun _ _ p hp => q _ _ (Same0.new hp) (DD.newT al hp (d2.append d1))⟩))
      · subst e0
        refine q _ H (fun _ _ h => h) (.tup r2 ?_)
        cases d1; exact d2
      · subst e0
        refine q _ H (fun _ _ h => h) (.tup r1 ?_)
        cases d2; rw [List.append_nil]; exact d1
    · cases hf
  · cases hf
theorem pp_add {x y : M PyData} (ha : PB X W a x) (hb : PB X W b y) : PP X W (.BinOp a .Add b pos) (mOp pAdd x y) := pp_op op_addP ok_add ha hb

theorem ok_int {K : PySem.W.Frag} {C : Int → Int → Prop} {g : Int → Int → Int} {f : PyData → PyData → Option PyData} (hf : ∀ d e z, f d e = some z → ∃ i j, d = .int i ∧ e = .int j ∧ C i j ∧ z = .int (g i j)) : OpOk K (rI C fun i j => .int (g i j)) f := by
  intro sc T H x y d e z Q al hx hy h q
  obtain ⟨i, j, rfl, rfl, hc, rfl⟩ := hf d e z h
  exact ⟨i, j, hx.int, hy.int, hc, q _ H (fun _ _ h => h) (.int _)⟩
theorem ok_int0 {K : PySem.W.Frag} {g : Int → Int → Int} {f : PyData → PyData → Option PyData} (hf : ∀ d e z, f d e = some z → ∃ i j, d = .int i ∧ e = .int j ∧ z = .int (g i j)) : OpOk K (rI0 fun i j => .int (g i j)) f := by
  intro sc T H x y d e z Q al hx hy h q
  obtain ⟨i, j, rfl, rfl, rfl⟩ := hf d e z h
  exact ⟨i, j, hx.int, hy.int, q _ H (fun _ _ h => h) (.int _)⟩
theorem ok_bl0 {K : PySem.W.Frag} {g : Int → Int → Bool} {f : PyData → PyData → Option PyData} (hf : ∀ d e z, f d e = some z → ∃ i j, d = .int i ∧ e = .int j ∧ z = .bool (g i j)) : OpOk K (rI0 fun i j => .bl (g i j)) f := by
  intro sc T H x y d e z Q al hx hy h q
  obtain ⟨i, j, rfl, rfl, rfl⟩ := hf d e z h
  exact ⟨i, j, hx.int, hy.int, q _ H (fun _ _ h => h) (.bl _)⟩
def pSub : PyData → PyData → Option PyData
  | .int i, .int j => some (.int (i - j))
  | _, _ => none
theorem pp_sub {x y : M PyData} (ha : PB X W a x) (hb : PB X W b y) : PP X W (.BinOp a .Sub b pos) (mOp pSub x y) := pp_op op_sub (ok_int0 fun d e z h => by
  unfold pSub at h; split at h <;> cases h; exact ⟨_, _, rfl, rfl, rfl⟩) ha hb
/-- the rest, the divisor above 0 -/
def pMod : PyData → PyData → Option PyData
  | .int i, .int j => if 0 < j then some (.int (i % j)) else none
  | _, _ => none
theorem pp_mod {x y : M PyData} (ha : PB X W a x) (hb : PB X W b y) : PP X W (.BinOp a .Mod b pos) (mOp pMod x y) := pp_op op_mod (ok_int fun d e z h => by
  unfold pMod at h
  split at h
  · split at h
    · rename_i hj
      cases h
      exact ⟨_, _, rfl, rfl, hj, rfl⟩
    · cases h
  · cases h) ha hb
def pFdiv : PyData → PyData → Option PyData
  | .int i, .int j => if 0 < j ∧ j < 1073741824 then some (.int (i / j)) else none
  | _, _ => none
theorem pp_fdiv {x y : M PyData} (ha : PB X W a x) (hb : PB X W b y) : PP X W (.BinOp a .FloorDiv b pos) (mOp pFdiv x y) := pp_op op_fdiv (ok_int (C := CDiv) fun d e z h => by
  unfold pFdiv at h
  split at h
  · split at h
    · rename_i hj
      cases h
      exact ⟨_, _, rfl, rfl, hj, rfl⟩
    · cases h
  · cases h) ha hb
/-- powers -/
def CPowW (i j : Int) : Prop := 0 ≤ j ∧ (Builtin.Int.intBits i : Int) * j ≤ 2 ^ 27
instance (i j : Int) : Decidable (CPowW i j) := by unfold CPowW; infer_instance
theorem op_powW : OpR X (binaryOp .Pow) (rI CPowW fun i j => .int (i ^ j.toNat)) := opI fun _ _ _ _ _ _ _ hc q => pow_int hc.1 hc.2 q
def pPow : PyData → PyData → Option PyData
  | .int i, .int j => if CPowW i j then some (.int (i ^ j.toNat)) else none
  | _, _ => none
theorem pp_pow {x y : M PyData} (ha : PB X W a x) (hb : PB X W b y) : PP X W (.BinOp a .Pow b pos) (mOp pPow x y) := pp_op op_powW (ok_int fun d e z h => by
  unfold pPow at h
  split at h
  · split at h
    · rename_i hj
      cases h
      exact ⟨_, _, rfl, rfl, hj, rfl⟩
    · cases h
  · cases h) ha hb
/-- products of ints, texts as often as told -/
def CMulP (i j : Int) : Prop := Builtin.Int.intBits i + Builtin.Int.intBits j < 1000000
instance (i j : Int) : Decidable (CMulP i j) := by unfold CMulP; infer_instance
theorem CMulP.ok {i j : Int} (h : CMulP i j) : IntMulOk i j := by
  have h3 : Builtin.Int.intBits i + Builtin.Int.intBits j < 1000000 := h
  have e : bitsLine = 134217728 := by decide
  unfold IntMulOk
  intro z
  rw [Bool.and_eq_true] at z
  have z2 := z.2
  unfold Builtin.Int.intTooBig at z2
  have z3 := of_decide_eq_true z2
  rw [e] at z3
  omega
theorem op_mulP : OpR X (binaryOp .Mult) (rI CMulP fun i j => .int (i * j)) := opI fun _ _ _ _ _ _ _ hc q => mul_int q hc.ok
/-- a text so many times -/
theorem op_mulS : OpR X (binaryOp .Mult) (fun x y H Q => ∃ i n, x = .str i ∧ y = .int n ∧ MulOk i n ∧ Q (.str (Txt.mul i n)) H) := by
  intro pins s σ H x y v u Q I rx ry h
  obtain ⟨i, n, rfl, rfl, hm, q⟩ := h
  obtain ⟨t, rfl⟩ := rx
  obtain ⟨t', rfl⟩ := ry
  exact SB.mul hm fun t' k => ⟨.str _, H, I.tok k, ⟨t', rfl⟩, q⟩
/-- (..) * n, a tuple or a list, n from 0 -/
def pMul : PyData → PyData → Option PyData
  | .int i, .int j => if CMulP i j then some (.int (i * j)) else none
  | .str x, .int n => if 0 ≤ n ∧ n ≤ 100000 ∧ x.length * n.toNat ≤ 100000 then some (.str (Txt.mul x n)) else none
  | _, _ => none
theorem mulOk_small {x : Str} {n : Int} (h0 : 0 ≤ n) (h1 : n ≤ 100000) (h2 : x.length * n.toNat ≤ 100000) : MulOk x n := by
  refine ⟨?_, fun h _ => ?_, fun _ _ => ?_⟩
  · rw [Bool.or_eq_false_iff]
    exact ⟨decide_eq_false (by omega), decide_eq_false (by omega)⟩
  · have hn : 1 ≤ n := by omega
    have hx : x.length ≤ 100000 := Nat.le_trans (Nat.le_mul_of_pos_right _ (by omega)) h2
    intro z
    have h4 : (100000 : Int) ≤ (2 ^ 63 - 1) / n := Int.le_ediv_of_mul_le (by omega) (by omega)
    omega
  · unfold Builtin.Str.tooLong
    have : x.length * n.toNat ≤ 100000 := h2
    simp only [decide_eq_false_iff_not]
    have e : sizeLine = 16777216 := sizeLine_eq
    omega
theorem ok_mul {K : PySem.W.Frag} : OpOk K (fun x y H Q => (rI CMulP fun i j => .int (i * j)) x y H Q ∨ ∃ i n, x = .str i ∧ y = .int n ∧ MulOk i n ∧ Q (.str (Txt.mul i n)) H) pMul := by
  intro sc T H x y d e z Q al hx hy hf q
  unfold pMul at hf
  split at hf
  · split at hf
    · rename_i hj
      cases hf
      exact .inl ⟨_, _, hx.int, hy.int, hj, q _ H (fun _ _ h => h) (.int _)⟩
    · cases hf
  · split at hf
    · rename_i hj
      cases hf
      exact .inr ⟨_, _, hx.str, hy.int, mulOk_small hj.1 hj.2.1 hj.2.2, q _ H (fun _ _ h => h) (.str _)⟩
    · cases hf
  · cases hf
theorem pp_mul {x y : M PyData} (ha : PB X W a x) (hb : PB X W b y) : PP X W (.BinOp a .Mult b pos) (mOp pMul x y) := pp_op (op_mulP.or op_mulS) ok_mul ha hb
/-! comparisons -/
def pEq : PyData → PyData → Option PyData
  | .int i, .int j => some (.bool (decide (i = j)))
  | .str i, .str j => some (.bool (decide (i = j)))
  | .bool i, .bool j => some (.bool (decide (i = j)))
  | d, e => if SeqAt.shaped d = true ∧ SeqAt.shaped e = true then some (.bool (PyData.eqv d e)) else none
def rEqP (K : PySem.W.Frag) : R2 := fun x y H Q => rEq x y H Q ∨ rEqD K x y H Q
def rNeP (K : PySem.W.Frag) : R2 := fun x y H Q => rNe x y H Q ∨ rNeD K x y H Q
theorem op_eqP (hu : X.A.units + 64 < cLine) : OpR X (compareOp .Eq) (rEqP X.K) := op_eq.or (op_eqD hu)
theorem op_neP (hu : X.A.units + 64 < cLine) : OpR X (compareOp .NotEq) (rNeP X.K) := op_ne.or (op_neD hu)
theorem dV_int {i j : Int} : decide (V.int i = V.int j) = decide (i = j) := by simp
theorem dV_str {i j : Str} : decide (V.str i = V.str j) = decide (i = j) := by simp
theorem dV_bl {i j : Bool} : decide (V.bl i = V.bl j) = decide (i = j) := by simp
theorem ok_eq {K : PySem.W.Frag} : OpOk K (rEqP K) pEq := by
  intro sc T H x y d e z Q al hx hy hf q
  unfold pEq at hf
  split at hf
  · cases hf
    rw [hx.int, hy.int]
    exact .inl ⟨rfl, by rw [dV_int]; exact q _ H (fun _ _ h => h) (.bl _)⟩
  · cases hf
    rw [hx.str, hy.str]
    exact .inl ⟨rfl, by rw [dV_str]; exact q _ H (fun _ _ h => h) (.bl _)⟩
  · cases hf
    rw [hx.bool, hy.bool]
    exact .inl ⟨rfl, by rw [dV_bl]; exact q _ H (fun _ _ h => h) (.bl _)⟩
  · split at hf
    · rename_i hs
      cases hf
      exact .inr ⟨_, _, hx.dp (SeqAt.canLay_of_shaped hs.1), hy.dp (SeqAt.canLay_of_shaped hs.2), hs.1, hs.2, q _ H (fun _ _ h => h) (.bl _)⟩
    · cases hf
def pNot (f : PyData → PyData → Option PyData) (d e : PyData) : Option PyData := match f d e with
  | some (.bool b) => some (.bool (!b))
  | _ => none
theorem ok_ne {K : PySem.W.Frag} : OpOk K (rNeP K) (pNot pEq) := by
  intro sc T H x y d e z Q al hx hy hf q
  unfold pNot at hf
  split at hf
  · rename_i b hb
    cases hf
    unfold pEq at hb
    split at hb
    · cases hb
      rw [hx.int, hy.int]
      exact .inl ⟨rfl, by rw [dV_int]; exact q _ H (fun _ _ h => h) (.bl _)⟩
    · cases hb
      rw [hx.str, hy.str]
      exact .inl ⟨rfl, by rw [dV_str]; exact q _ H (fun _ _ h => h) (.bl _)⟩
    · cases hb
      rw [hx.bool, hy.bool]
      exact .inl ⟨rfl, by rw [dV_bl]; exact q _ H (fun _ _ h => h) (.bl _)⟩
    · split at hb
      · rename_i hs
        cases hb
        exact .inr ⟨_, _, hx.dp (SeqAt.canLay_of_shaped hs.1), hy.dp (SeqAt.canLay_of_shaped hs.2), hs.1, hs.2, q _ H (fun _ _ h => h) (.bl _)⟩
      · cases hb
  · cases hf
def pLt : PyData → PyData → Option PyData
  | .int i, .int j => some (.bool (decide (i < j)))
  | _, _ => none
def pLe : PyData → PyData → Option PyData
  | .int i, .int j => some (.bool (decide (i ≤ j)))
  | _, _ => none
def pGt : PyData → PyData → Option PyData
  | .int i, .int j => some (.bool (decide (j < i)))
  | _, _ => none
def pGe : PyData → PyData → Option PyData
  | .int i, .int j => some (.bool (decide (j ≤ i)))
  | _, _ => none
theorem ok_lt {K : PySem.W.Frag} : OpOk K (rI0 fun i j => .bl (decide (i < j))) pLt := ok_bl0 (g := fun i j => decide (i < j)) fun d e z h => by unfold pLt at h; split at h <;> cases h; exact ⟨_, _, rfl, rfl, rfl⟩
theorem ok_le {K : PySem.W.Frag} : OpOk K (rI0 fun i j => .bl (decide (i ≤ j))) pLe := ok_bl0 (g := fun i j => decide (i ≤ j)) fun d e z h => by unfold pLe at h; split at h <;> cases h; exact ⟨_, _, rfl, rfl, rfl⟩
theorem ok_gt {K : PySem.W.Frag} : OpOk K (rI0 fun i j => .bl (decide (j < i))) pGt := ok_bl0 (g := fun i j => decide (j < i)) fun d e z h => by unfold pGt at h; split at h <;> cases h; exact ⟨_, _, rfl, rfl, rfl⟩
theorem ok_ge {K : PySem.W.Frag} : OpOk K (rI0 fun i j => .bl (decide (j ≤ i))) pGe := ok_bl0 (g := fun i j => decide (j ≤ i)) fun d e z h => by unfold pGe at h; split at h <;> cases h; exact ⟨_, _, rfl, rfl, rfl⟩
/-- one sign in a text; an item of a list, of a tuple (flat ones) -/
def isFlat : PyData → Bool
  | .none | .bool _ | .int _ | .str _ => true
  | _ => false
def pIn : PyData → PyData → Option PyData
  | .str x, .str y => if x.cps.size = 1 then some (.bool (decide (x.cps.getD 0 0 ∈ y.cps.toList))) else none
  | d, .list l => if SeqAt.shaped d = true ∧ SeqAt.shaped (.list l) = true then some (.bool (l.any fun z => PyData.eqv z d)) else none
  | _, _ => none
end
end PL
namespace PL
open PySem PySem.Spec PyProof.Rows L2
section
variable {X : Cx} {W : WX} {pos : Pos} {a b c e : Expr} {es : List Expr}
/-! in, not in -/
def rInSg : R2 := fun x y H Q => ∃ (c : Nat) (z : Str), x = .str ⟨#[c]⟩ ∧ y = .str z ∧ Q (.bl (decide (c ∈ z.cps.toList))) H
def rNotInSg : R2 := fun x y H Q => ∃ (c : Nat) (z : Str), x = .str ⟨#[c]⟩ ∧ y = .str z ∧ Q (.bl (!decide (c ∈ z.cps.toList))) H
def rInP (K : PySem.W.Frag) : R2 := fun x y H Q => rInSg x y H Q ∨ rInD K x y H Q
def rNotInP (K : PySem.W.Frag) : R2 := fun x y H Q => rNotInSg x y H Q ∨ rNotInD K x y H Q
theorem op_inP (hu : X.A.units + 65 < cLine) : OpR X (compareOp .In) (rInP X.K) := OpR.or (r := rInSg) op_in_sign (op_inD hu)
theorem op_notInP (hu : X.A.units + 65 < cLine) : OpR X (compareOp .NotIn) (rNotInP X.K) := OpR.or (r := rNotInSg) op_notIn_sign (op_notInD hu)
theorem str_one {x : Str} (h : x.cps.size = 1) : x = ⟨#[x.cps.getD 0 0]⟩ := by
  obtain ⟨a⟩ := x
  cases a with
  | mk l =>
    match l, h with
    | [c], _ => rfl
theorem pIn_shape {d e z : PyData} (h : pIn d e = some z) : (∃ x y, d = .str x ∧ e = .str y ∧ x.cps.size = 1 ∧ z = .bool (decide (x.cps.getD 0 0 ∈ y.cps.toList))) ∨ ∃ l, e = .list l ∧ SeqAt.shaped d = true ∧ SeqAt.shaped (.list l) = true ∧ z = .bool (l.any fun u => PyData.eqv u d) := by
  unfold pIn at h
  split at h
  · split at h
    · rename_i hs
      cases h
      exact .inl ⟨_, _, rfl, rfl, hs, rfl⟩
    · cases h
  · split at h
    · rename_i hs
      cases h
      exact .inr ⟨_, rfl, hs.1, hs.2, rfl⟩
    · cases h
  · cases h
theorem ok_in {K : PySem.W.Frag} : OpOk K (rInP K) pIn := by
  intro sc T H x y d e z Q al hx hy hf q
  rcases pIn_shape hf with ⟨u, v, rfl, rfl, hs, rfl⟩ | ⟨l, rfl, h1, h2, rfl⟩
  · exact .inl ⟨_, v, by rw [hx.str]; exact congrArg V.str (str_one hs), hy.str, q _ H (fun _ _ h => h) (.bl _)⟩
  · exact .inr ⟨_, _, hx.dp (SeqAt.canLay_of_shaped h1), hy.dp (SeqAt.canLay_of_shaped h2), h1, h2, q _ H (fun _ _ h => h) (.bl _)⟩
theorem ok_notIn {K : PySem.W.Frag} : OpOk K (rNotInP K) (pNot pIn) := by
  intro sc T H x y d e z Q al hx hy hf q
  unfold pNot at hf
  split at hf
  · rename_i b hb
    cases hf
    rcases pIn_shape hb with ⟨u, v, rfl, rfl, hs, e1⟩ | ⟨l, rfl, h1, h2, e1⟩
    · cases e1
      exact .inl ⟨_, v, by rw [hx.str]; exact congrArg V.str (str_one hs), hy.str, q _ H (fun _ _ h => h) (.bl _)⟩
    · cases e1
      exact .inr ⟨_, _, hx.dp (SeqAt.canLay_of_shaped h1), hy.dp (SeqAt.canLay_of_shaped h2), h1, h2, q _ H (fun _ _ h => h) (.bl _)⟩
  · cases hf
/-! is None -/
def isN : PyData → Bool
  | .none => true
  | _ => false
def pIs : PyData → PyData → Option PyData
  | d, .none => some (.bool (isN d))
  | _, _ => none
def rIsN0 : R2 := fun x y H Q => y = .non ∧ Q (.bl (decide (x = .non))) H
def rNotN0 : R2 := fun x y H Q => y = .non ∧ Q (.bl (!decide (x = .non))) H
theorem op_isN0 : OpR X (compareOp .Is) rIsN0 := op_isN
theorem op_notN0 : OpR X (compareOp .IsNot) rNotN0 := op_notN
theorem DB.isNon {K : PySem.W.Frag} {sc : Option (Addr × Addr)} {T : Addr → Prop} {H : Hp} {v : V} {d : PyData} (h : DB K sc T H v d) : decide (v = .non) = isN d := by
  rcases h with h | ⟨p, vs, l, rfl, rfl, hp, _, hd⟩
  · cases h <;> rfl
  · rfl
theorem ok_is {K : PySem.W.Frag} : OpOk K rIsN0 pIs := by
  intro sc T H x y d e z Q al hx hy hf q
  unfold pIs at hf
  split at hf
  · cases hf
    exact ⟨hy.none, by rw [hx.isNon]; exact q _ H (fun _ _ h => h) (.bl _)⟩
  · cases hf
theorem ok_isNot {K : PySem.W.Frag} : OpOk K rNotN0 (pNot pIs) := by
  intro sc T H x y d e z Q al hx hy hf q
  unfold pNot at hf
  split at hf
  · rename_i b hb
    cases hf
    unfold pIs at hb
    split at hb
    · cases hb
      exact ⟨hy.none, by rw [hx.isNon]; exact q _ H (fun _ _ h => h) (.bl _)⟩
    · cases hb
  · cases hf
/-! comparisons as expressions -/
theorem pp_eq {x y : M PyData} (hu : X.A.units + 65 < cLine) (ha : PB X W a x) (hb : PB X W b y) : PP X W (.Compare a [.Eq] [b] pos) (mOp pEq x y) := pp_cmp (op_eqP (by omega)) ok_eq ha hb (nomark _)
theorem pp_ne {x y : M PyData} (hu : X.A.units + 65 < cLine) (ha : PB X W a x) (hb : PB X W b y) : PP X W (.Compare a [.NotEq] [b] pos) (mOp (pNot pEq) x y) := pp_cmp (op_neP (by omega)) ok_ne ha hb (nomark _)
theorem pp_lt {x y : M PyData} (ha : PB X W a x) (hb : PB X W b y) : PP X W (.Compare a [.Lt] [b] pos) (mOp pLt x y) := pp_cmp op_lt ok_lt ha hb (nomark _)
theorem pp_le {x y : M PyData} (ha : PB X W a x) (hb : PB X W b y) : PP X W (.Compare a [.LtE] [b] pos) (mOp pLe x y) := pp_cmp op_le ok_le ha hb (nomark _)
theorem pp_gt {x y : M PyData} (ha : PB X W a x) (hb : PB X W b y) : PP X W (.Compare a [.Gt] [b] pos) (mOp pGt x y) := pp_cmp op_gt ok_gt ha hb (nomark _)
theorem pp_ge {x y : M PyData} (ha : PB X W a x) (hb : PB X W b y) : PP X W (.Compare a [.GtE] [b] pos) (mOp pGe x y) := pp_cmp op_ge ok_ge ha hb (nomark _)
theorem pp_in {x y : M PyData} (hu : X.A.units + 65 < cLine) (ha : PB X W a x) (hb : PB X W b y) (hm : behindInMarks .In b = false := by rfl) : PP X W (.Compare a [.In] [b] pos) (mOp pIn x y) := pp_cmp (op_inP hu) ok_in ha hb hm
theorem pp_notIn {x y : M PyData} (hu : X.A.units + 65 < cLine) (ha : PB X W a x) (hb : PB X W b y) (hm : behindInMarks .NotIn b = false := by rfl) : PP X W (.Compare a [.NotIn] [b] pos) (mOp (pNot pIn) x y) := pp_cmp (op_notInP hu) ok_notIn ha hb hm
theorem pp_is {x y : M PyData} (ha : PB X W a x) (hb : PB X W b y) : PP X W (.Compare a [.Is] [b] pos) (mOp pIs x y) := pp_cmp op_isN0 ok_is ha hb (nomark _)
theorem pp_isNot {x y : M PyData} (ha : PB X W a x) (hb : PB X W b y) : PP X W (.Compare a [.IsNot] [b] pos) (mOp (pNot pIs) x y) := pp_cmp op_notN0 ok_isNot ha hb (nomark _)
/-- a chain of two comparisons -/
def mChain (f g : PyData → PyData → Option PyData) (x y z : M PyData) : M Sl := fun m => (x m).bind fun dx m1 => (y m1).bind fun dy m2 => match f dx dy with
  | some (.bool true) => (z m2).bind fun dz m3 => match g dy dz with
    | some (.bool k) => .ok (.dat (.bool k)) m3
    | _ => .bad
  | some (.bool false) => .ok (.dat (.bool false)) m2
  | _ => .bad
theorem DD.bl_of {K : PySem.W.Frag} {T : Addr → Prop} {H : Hp} {v : V} {k : Bool} (h : DD K T H v (.bool k)) : v = .bl k := by cases h; rfl
theorem pp_chain {op op' : CmpOp} {r r' : R2} {f g : PyData → PyData → Option PyData} {x y z : M PyData} (ho : OpR X (compareOp op) r) (ho' : OpR X (compareOp op') r') (hr : OpOk X.K r f) (hr' : OpOk X.K r' g) (ha : PB X W a x) (hb : PB X W b y) (hc : PB X W c z)
    (hm : lastMarks [op, op'] [b, c] = false := by rfl) : PP X W (.Compare a [op, op'] [b, c] pos) (mChain f g x y z) := by
  refine PE.imp (pe_chain ho ho' ha hb hc hm) fun σ H Q q => ?_
  obtain ⟨w, T, me, ok, lv, q⟩ := q
  refine Rn.seq ok lv q fun T1 me1 v d H1 s1 lv1 p1 q1 => ?_
  refine Rn.seq ok lv1 q1 fun T2 me2 u e H2 s2 lv2 p2 q2 => ?_
  have p1' := p1.fr (s2.fr ok lv1.t0) s2.ex
  split at q2
  · rename_i hf
    refine hr w.sc T2 H2 v u d e _ _ lv2.al p1' p2 hf fun z2 H3 sm dd => ⟨true, dd.bl_of, ?_⟩
    have lv3 := lv2.same sm
    rw [if_pos rfl]
    have q3 := q2
    have fr3 : Fr T2 H2 T2 H3 := sm.fr
    obtain ⟨wz⟩ : Nonempty Unit := ⟨()⟩
    refine Rn.seq (me := me2) (T := T2) (H := H3) (Q := Q) (R := fun w T H v s => SV X.K X.mg w.sc T H v s) (P := fun w T H v d => DB X.K w.sc T H v d) (m := z) (k := fun dz m3 => match g e dz with
      | some (.bool k) => .ok (.dat (.bool k)) m3
      | _ => .bad) ok lv3 ?_ fun T4 me4 t dz H4 s4 lv4 p4 q4 => ?_
    · cases hz : z me2 with
      | bad => rw [hz] at q3; exact q3
      | exc xx m3 =>
        rw [hz] at q3
        exact fun c dd H' T' fr lv' xr => q3 c dd H' T' (fr3.trans fr) lv' xr
      | ok dz m3 =>
        rw [hz] at q3
        simp only [Res.bind_ok] at q3 ⊢
        cases hg : g e dz with
        | none => rw [hg] at q3; exact q3
        | some o =>
          rw [hg] at q3
          cases o with
          | bool k => exact fun v' H' T' s lv' r => q3 v' H' T' ((Stp.same sm).trans s) lv' r
          | none => exact q3
          | int i => exact q3
          | str i => exact q3
          | list i => exact q3
          | tuple i => exact q3
          | dict i => exact q3
    · cases hg : g e dz with
      | none => rw [hg] at q4; exact q4.elim
      | some o =>
        rw [hg] at q4
        cases o with
        | bool k =>
          exact hr' w.sc T4 H4 u t e dz _ Q lv4.al (p2.fr (fr3.trans (s4.fr ok lv3.t0)) (Ex.trans (fun b o _ h => sm b o h) s4.ex)) p4 hg fun v5 H5 sm5 dd5 => q4 v5 H5 T4 (Stp.same sm5) (lv4.same sm5) dd5
        | none => exact q4.elim
        | int i => exact q4.elim
        | str i => exact q4.elim
        | list i => exact q4.elim
        | tuple i => exact q4.elim
        | dict i => exact q4.elim
  · rename_i hf
    refine hr w.sc T2 H2 v u d e _ _ lv2.al p1' p2 hf fun z2 H3 sm dd => ⟨false, dd.bl_of, ?_⟩
    rw [if_neg Bool.false_ne_true]
    exact q2 _ H3 T2 (Stp.same sm) (lv2.same sm) (.bl _)
  · exact q2.elim
end
end PL
namespace PL
open PySem PySem.Spec PyProof.Rows L2
section
variable {X : Cx} {W : WX} {pos : Pos} {a b c e : Expr} {es : List Expr}
/-! items -/
def pIx : PyData → PyData → Option PyData
  | .list l, .int i => atI l i
  | .tuple l, .int i => atI l i
  | .str z, .int i => if z.length ≤ sizeLine then (atI z.cps.toList i).map fun c => .str ⟨#[c]⟩ else none
  | _, _ => none
theorem atI_dds {K : PySem.W.Frag} {T : Addr → Prop} {H : Hp} {vs : List V} {ds : List PyData} (h : DDs K T H vs ds) {i : Int} {d : PyData} (e : atI ds i = some d) : ∃ v, atI vs i = some v ∧ DD K T H v d := by
  unfold atI at e ⊢
  rw [h.length]
  cases hx : ixN ds.length i with
  | none => rw [hx] at e; cases e
  | some j =>
    rw [hx] at e
    exact h.get e
theorem ok_ix {K : PySem.W.Frag} : OpOk K (rIx K) pIx := by
  intro sc T H x y d e z Q al hx hy hf q
  unfold pIx at hf
  split at hf
  · obtain ⟨p, vs, rfl, r, dd⟩ := hx.list
    obtain ⟨v, e1, d1⟩ := atI_dds dd hf
    exact .inl ⟨p, vs, _, v, rfl, hy.int, .inl r, e1, q v H (fun _ _ h => h) d1⟩
  · obtain ⟨p, vs, rfl, r, dd⟩ := hx.tuple
    obtain ⟨v, e1, d1⟩ := atI_dds dd hf
    exact .inr (.inl ⟨p, vs, _, v, rfl, hy.int, r.sq, e1, q v H (fun _ _ h => h) d1⟩)
  · split at hf
    · rename_i z0 i hz
      cases hc : atI z0.cps.toList i with
      | none => rw [hc] at hf; cases hf
      | some ch =>
        rw [hc] at hf; cases hf
        exact .inr (.inr ⟨z0, i, ch, hx.str, hy.int, hz, hc, q _ H (fun _ _ h => h) (.str _)⟩)
    · cases hf
  · cases hf
theorem pp_item {x y : M PyData} (ha : PB X W a x) (hb : PB X W b y) (hs : PlainIx b := by exact fun _ _ => rfl) : PP X W (.Subscript a b pos) (mOp pIx x y) := pp_ix ix_seq ok_ix ha hb hs
/-! slices -/
def mPart : Option (M PyData) → M (Option Int)
  | none => fun m => .ok none m
  | some a => fun m => (a m).bind fun d m1 => match d with
    | .int i => .ok (some i) m1
    | _ => .bad
abbrev tPO (K : PySem.W.Frag) (mg : Str → Option Value) (W : WX) (m : M (Option Int)) : TO := tR K mg W (fun _ _ _ v b => v = b) m
abbrev PPO (X : Cx) (W : WX) (e : Option Expr) (m : Option (M PyData)) : Prop := PO X e (tPO X.K X.mg W (mPart m))
theorem PO.imp {e : Option Expr} {t t' : TO} (h : PO X e t) (f : ∀ σ H Q, t' σ H Q → t σ H Q) : PO X e t' := ⟨fun pins s σ H Q I q => h.run pins s σ H Q I (f σ H Q q)⟩
theorem ppo_none : PPO X W none none := PO.imp po_none fun σ H Q q => by
  obtain ⟨w, T, me, ok, lv, q⟩ := q
  exact Rn.pure lv q rfl
theorem ppo_some {m : M PyData} (h : PB X W e m) : PPO X W (some e) (some m) := PO.imp (po_some h) fun σ H Q q => by
  obtain ⟨w, T, me, ok, lv, q⟩ := q
  refine Rn.seq ok lv q fun T1 me1 v d H1 s1 lv1 p1 q1 => ?_
  split at q1
  · exact ⟨_, p1.int, Rn.pure lv1 q1 rfl⟩
  · exact q1.elim
def cutD (xs : List PyData) (lo hi : Option Int) : List PyData := (xs.drop (HT.sIx xs.length 0 lo)).take (HT.sIx xs.length xs.length hi - HT.sIx xs.length 0 lo)
def pCut (x : PyData) (lo hi : Option Int) : Option PyData := match x with
  | .str z => if z.length ≤ sizeLine then some (.str (cutS z lo hi)) else none
  | .tuple l => some (.tuple (cutD l lo hi))
  | .list l => some (.list (cutD l lo hi))
  | _ => none
def mCut (x : M PyData) (lo hi : Option (M PyData)) : M Sl := fun m => (x m).bind fun d m1 => (mPart lo m1).bind fun l m2 => (mPart hi m2).bind fun u m3 => match pCut d l u with
  | some z => .ok (.dat z) m3
  | none => .bad
theorem DDs.cut {K : PySem.W.Frag} {T : Addr → Prop} {H : Hp} {vs : List V} {ds : List PyData} (h : DDs K T H vs ds) (lo hi : Option Int) : DDs K T H (cutV vs lo hi) (cutD ds lo hi) := by
  unfold cutV cutD
  rw [h.length]
  exact DDs.take _ (DDs.drop _ h)
def rSlP (K : PySem.W.Frag) : V → Option Int → Option Int → Hp → VK → Prop := fun x lo hi H Q => rSlS x lo hi H Q ∨ rSlA K x lo hi H Q ∨ rSlL K x lo hi H Q
theorem sl_P : SlR X (rSlP X.K) := sl_str.or (sl_tupA.or sl_list)
theorem cutD_whole (l : List PyData) (lo hi : Option Int) (h : HT.sIx l.length 0 lo = 0 ∧ HT.sIx l.length l.length hi = l.length) : cutD l lo hi = l := by
  unfold cutD
  rw [h.1, h.2]
  simp
theorem ok_cut {K : PySem.W.Frag} {sc : Option (Addr × Addr)} {T : Addr → Prop} {H : Hp} {x : V} {d z : PyData} {lo hi : Option Int} {Q : VK} (al : ∀ b, T b → H b ≠ none) (hx : DB K sc T H x d) (hf : pCut d lo hi = some z) (q : ∀ v H', Same0 H H' → DD K T H' v z → Q v H') : rSlP K x lo hi H Q := by
  unfold pCut at hf
  split at hf
  · split at hf
    · rename_i hz
      cases hf
      exact .inl ⟨_, hx.str, hz, q _ H (fun _ _ h => h) (.str _)⟩
    · cases hf
  · cases hf
    obtain ⟨p, vs, rfl, r, dd⟩ := hx.tuple
    refine .inr (.inl ⟨p, vs, rfl, r.sq, fun h => ?_, fun _ p' hp => q _ _ (Same0.new hp) (DD.newT al hp (dd.cut lo hi))⟩)
    rw [dd.length] at h
    rw [cutD_whole _ _ _ h] at q
    exact q _ H (fun _ _ h => h) (.tup r dd)
  · cases hf
    obtain ⟨p, vs, rfl, r, dd⟩ := hx.list
    exact .inr (.inr ⟨p, vs, rfl, .inl r, fun p' hp => q _ _ (Same0.new hp) (DD.newL al hp (dd.cut lo hi))⟩)
  · cases hf
theorem pp_slice {x : M PyData} {lo hi : Option (M PyData)} {el eh : Option Expr} {p2 : Pos} (ha : PB X W a x) (hl : PPO X W el lo) (hh : PPO X W eh hi) : PP X W (.Subscript a (.Slice el eh none p2) pos) (mCut x lo hi) := by
  refine PE.imp (pe_slice sl_P ha hl hh) fun σ H Q q => ?_
  obtain ⟨w, T, me, ok, lv, q⟩ := q
  refine Rn.seq ok lv q fun T1 me1 v d H1 s1 lv1 p1 q1 => ?_
  refine Rn.seq ok lv1 q1 fun T2 me2 u o H2 s2 lv2 p2 q2 => ?_
  refine Rn.seq ok lv2 q2 fun T3 me3 u3 o3 H3 s3 lv3 p3 q3 => ?_
  have p1' := p1.fr ((s2.fr ok lv1.t0).trans (s3.fr ok lv2.t0)) (s2.ex.trans s3.ex)
  cases hf : pCut d o o3 with
  | none => rw [hf] at q3; exact q3.elim
  | some z =>
    rw [hf] at q3
    subst p2
    subst p3
    exact ok_cut lv3.al p1' hf fun v' H' sm dd => q3 v' H' T3 (Stp.same sm) (lv3.same sm) dd
/-! built-ins -/
def fLen : List PyData → Option PyData
  | [.str z] => if z.length ≤ sizeLine then some (.int z.length) else none
  | [.list l] => some (.int l.length)
  | [.tuple l] => some (.int l.length)
  | _ => none
theorem DBs.one {K : PySem.W.Frag} {sc : Option (Addr × Addr)} {T : Addr → Prop} {H : Hp} {xs : List V} {d : PyData} (h : DBs K sc T H xs [d]) : ∃ v, xs = [v] ∧ DB K sc T H v d := by
  cases h with
  | cons a r => cases r; exact ⟨_, rfl, a⟩
theorem DBs.two {K : PySem.W.Frag} {sc : Option (Addr × Addr)} {T : Addr → Prop} {H : Hp} {xs : List V} {d e : PyData} (h : DBs K sc T H xs [d, e]) : ∃ v u, xs = [v, u] ∧ DB K sc T H v d ∧ DB K sc T H u e := by
  cases h with
  | cons a r => cases r with
    | cons b r => cases r; exact ⟨_, _, rfl, a, b⟩
def rLenP (K : PySem.W.Frag) : List V → Hp → VK → Prop := fun xs H Q => ∃ x n, xs = [x] ∧ LenV K x H n ∧ Q (.int n) H
theorem call_lenP : CallR X (.builtin "len") (rLenP X.K) := call_len
theorem ok_len {K : PySem.W.Frag} : CalOk K (rLenP K) fLen := by
  intro sc T H xs ds z Q al hx hf q
  unfold fLen at hf
  split at hf
  · split at hf
    · rename_i hz
      cases hf
      obtain ⟨v, rfl, h⟩ := hx.one
      exact ⟨v, _, rfl, by rw [h.str]; exact ⟨hz, rfl⟩, q _ H (fun _ _ h => h) (.int _)⟩
    · cases hf
  · cases hf
    obtain ⟨v, rfl, h⟩ := hx.one
    obtain ⟨p, vs, rfl, r, dd⟩ := h.list
    exact ⟨_, vs.length, rfl, .inl ⟨vs, .inl r, rfl⟩, by rw [dd.length]; exact q _ H (fun _ _ h => h) (.int _)⟩
  · cases hf
    obtain ⟨v, rfl, h⟩ := hx.one
    obtain ⟨p, vs, rfl, r, dd⟩ := h.tuple
    exact ⟨_, vs.length, rfl, .inr ⟨vs, r.sq, rfl⟩, by rw [dd.length]; exact q _ H (fun _ _ h => h) (.int _)⟩
  · cases hf
theorem pp_len {p : Pos} {m : M (List PyData)} (hg : Gl X "len") (hm : X.mg "len" = none) (ha : PBs X W (e :: es) m) (he : starEach (e :: es) X.env = (false, eval e X.env) :: starEach es X.env := by rfl) (hpl : (backTo pos (starEach es X.env)).any (·.1) = false := by rfl) :
    PP X W (.Call (.Name "len" p) (e :: es) [] pos) (mCal fLen m) := pp_callB call_lenP ok_len hg hm PySem.boot_len ha (by decide) (by decide) he hpl
def fAbs : List PyData → Option PyData
  | [.int i] => some (.int (if i < 0 then -i else i))
  | _ => none
theorem ok_abs {K : PySem.W.Frag} : CalOk K (fun xs H Q => ∃ i, xs = [.int i] ∧ Q (.int (if i < 0 then -i else i)) H) fAbs := by
  intro sc T H xs ds z Q al hx hf q
  unfold fAbs at hf
  split at hf
  · cases hf
    obtain ⟨v, rfl, h⟩ := hx.one
    exact ⟨_, by rw [h.int], q _ H (fun _ _ h => h) (.int _)⟩
  · cases hf
def fInt : List PyData → Option PyData
  | [.int i] => some (.int i)
  | [.bool b] => some (.int (if b then 1 else 0))
  | _ => none
theorem ok_int1 {K : PySem.W.Frag} : CalOk K (fun xs H Q => (∃ i, xs = [.int i] ∧ Q (.int i) H) ∨ ∃ k, xs = [.bl k] ∧ Q (.int (if k then 1 else 0)) H) fInt := by
  intro sc T H xs ds z Q al hx hf q
  unfold fInt at hf
  split at hf
  · cases hf
    obtain ⟨v, rfl, h⟩ := hx.one
    exact .inl ⟨_, by rw [h.int], q _ H (fun _ _ h => h) (.int _)⟩
  · cases hf
    obtain ⟨v, rfl, h⟩ := hx.one
    exact .inr ⟨_, by rw [h.bool], q _ H (fun _ _ h => h) (.int _)⟩
  · cases hf
theorem boot_intP : bootBuiltins "int" = some (.type "int") := by decide +kernel
theorem pp_int1 {p : Pos} {m : M (List PyData)} (hg : Gl X "int") (hm : X.mg "int" = none) (ha : PBs X W (e :: es) m) (he : starEach (e :: es) X.env = (false, eval e X.env) :: starEach es X.env := by rfl) (hpl : (backTo pos (starEach es X.env)).any (·.1) = false := by rfl) :
    PP X W (.Call (.Name "int" p) (e :: es) [] pos) (mCal fInt m) := pp_callTy call_int1 ok_int1 hg hm boot_intP ha (by decide) (by decide) he hpl
/-- all, any of a list of truth values -/
def boolsOf : List PyData → Option (List Bool)
  | [] => some []
  | .bool b :: r => (boolsOf r).map (b :: ·)
  | _ => none
theorem DDs.bools {K : PySem.W.Frag} {T : Addr → Prop} {H : Hp} : ∀ {ds : List PyData} {vs : List V} {bs : List Bool}, DDs K T H vs ds → boolsOf ds = some bs → vs = bs.map V.bl
  | [], _, bs, h, e => by
    cases h; cases e; rfl
  | d :: ds, _, bs, h, e => by
    cases h with
    | cons a r =>
      cases d with
      | bool b =>
        unfold boolsOf at e
        cases hb : boolsOf ds with
        | none => rw [hb] at e; cases e
        | some l =>
          rw [hb] at e; cases e
          rw [a.bl_of, r.bools hb]; rfl
      | none => cases e
      | int _ => cases e
      | str _ => cases e
      | list _ => cases e
      | tuple _ => cases e
      | dict _ => cases e
def fAll : List PyData → Option PyData
  | [.list l] => (boolsOf l).map fun bs => .bool (bs.all id)
  | _ => none
def fAny : List PyData → Option PyData
  | [.list l] => (boolsOf l).map fun bs => .bool (bs.any id)
  | _ => none
theorem ok_all {K : PySem.W.Frag} : CalOk K (rAll K) fAll := by
  intro sc T H xs ds z Q al hx hf q
  unfold fAll at hf
  split at hf
  · rename_i l
    cases hb : boolsOf l with
    | none => rw [hb] at hf; cases hf
    | some bs =>
      rw [hb] at hf; cases hf
      obtain ⟨v, rfl, h⟩ := hx.one
      obtain ⟨p, vs, rfl, r, dd⟩ := h.list
      have ev := dd.bools hb
      subst ev
      exact ⟨p, bs, rfl, .inl r, q _ H (fun _ _ h => h) (.bl _)⟩
  · cases hf
theorem ok_any {K : PySem.W.Frag} : CalOk K (rAny K) fAny := by
  intro sc T H xs ds z Q al hx hf q
  unfold fAny at hf
  split at hf
  · rename_i l
    cases hb : boolsOf l with
    | none => rw [hb] at hf; cases hf
    | some bs =>
      rw [hb] at hf; cases hf
      obtain ⟨v, rfl, h⟩ := hx.one
      obtain ⟨p, vs, rfl, r, dd⟩ := h.list
      have ev := dd.bools hb
      subst ev
      exact ⟨p, bs, rfl, .inl r, q _ H (fun _ _ h => h) (.bl _)⟩
  · cases hf
theorem boot_all : bootBuiltins "all" = some (.builtin "all") := by decide +kernel
theorem boot_any : bootBuiltins "any" = some (.builtin "any") := by decide +kernel
theorem pp_all {p : Pos} {m : M (List PyData)} (hc : X.calm = true) (hg : Gl X "all") (hm : X.mg "all" = none) (ha : PBs X W (e :: es) m) (he : starEach (e :: es) X.env = (false, eval e X.env) :: starEach es X.env := by rfl) (hpl : (backTo pos (starEach es X.env)).any (·.1) = false := by rfl) :
    PP X W (.Call (.Name "all" p) (e :: es) [] pos) (mCal fAll m) := pp_callB (cr_all hc) ok_all hg hm boot_all ha (by decide) (by decide) he hpl
theorem pp_any {p : Pos} {m : M (List PyData)} (hc : X.calm = true) (hg : Gl X "any") (hm : X.mg "any" = none) (ha : PBs X W (e :: es) m) (he : starEach (e :: es) X.env = (false, eval e X.env) :: starEach es X.env := by rfl) (hpl : (backTo pos (starEach es X.env)).any (·.1) = false := by rfl) :
    PP X W (.Call (.Name "any" p) (e :: es) [] pos) (mCal fAny m) := pp_callB (cr_any hc) ok_any hg hm boot_any ha (by decide) (by decide) he hpl
/-- tuple(list), tuple(tuple); list(..) as a new list -/
def fTuple : List PyData → Option PyData
  | [.list l] => some (.tuple l)
  | [.tuple l] => some (.tuple l)
  | _ => none
theorem ok_tuple {K : PySem.W.Frag} : CalOk K (fun xs H Q => ∃ p ys, xs = [.ref p] ∧ ((SqL K H p ys ∧ ∀ l, H l = none → Q (.ref l) (upd H l (.tup ys))) ∨ (SqT K H p ys ∧ Q (.ref p) H))) fTuple := by
  intro sc T H xs ds z Q al hx hf q
  unfold fTuple at hf
  split at hf
  · cases hf
    obtain ⟨v, rfl, h⟩ := hx.one
    obtain ⟨p, vs, rfl, r, dd⟩ := h.list
    exact ⟨p, vs, rfl, .inl ⟨.inl r, fun l hl => q _ _ (Same0.new hl) (DD.newT al hl dd)⟩⟩
  · cases hf
    obtain ⟨v, rfl, h⟩ := hx.one
    obtain ⟨p, vs, rfl, r, dd⟩ := h.tuple
    exact ⟨p, vs, rfl, .inr ⟨r.sq, q _ H (fun _ _ h => h) (.tup r dd)⟩⟩
  · cases hf
theorem boot_tuple : bootBuiltins "tuple" = some (.type "tuple") := by decide +kernel
theorem pp_tuple {p : Pos} {m : M (List PyData)} (hg : Gl X "tuple") (hm : X.mg "tuple" = none) (ha : PBs X W (e :: es) m) (he : starEach (e :: es) X.env = (false, eval e X.env) :: starEach es X.env := by rfl) (hpl : (backTo pos (starEach es X.env)).any (·.1) = false := by rfl) :
    PP X W (.Call (.Name "tuple" p) (e :: es) [] pos) (mCal fTuple m) := pp_callTy call_tuple_of ok_tuple hg hm boot_tuple ha (by decide) (by decide) he hpl
/-! isinstance with a built-in type -/
def tyName : PyData → String
  | .none => "NoneType" | .bool _ => "bool" | .int _ => "int" | .str _ => "str" | .list _ => "list" | .tuple _ => "tuple" | .dict _ => "dict"
theorem DB.ty {K : PySem.W.Frag} {sc : Option (Addr × Addr)} {T : Addr → Prop} {H : Hp} {v : V} {d : PyData} (h : DB K sc T H v d) : TyX K H v (.type (tyName d)) := by
  rcases h with h | ⟨p, vs, l', rfl, rfl, hp, _, hd⟩
  · cases h with
    | non => exact .base .non
    | bl b => exact .base (.bl b)
    | int b => exact .base (.int b)
    | str b => exact .base (.str b)
    | lst q r =>
      rcases q.1 with q | ⟨o, q⟩
      · exact .base (.lst q)
      · exact .base (.frz q)
    | tup q r =>
      rcases q with ⟨q | ⟨o, q⟩, _⟩ | ⟨o, its, n, k, hc, _⟩
      · exact .base (.tup q)
      · exact .fTuple q
      · exact .kTuple k hc
    | dic q r => exact .base (.dK q)
  · exact .base (.lst hp)
def mIsi (t : String) (a : M PyData) : M Sl := fun m => (a m).bind fun d m1 => match kitB (tyName d) t with
  | some b => .ok (.dat (.bool b)) m1
  | none => .bad
theorem boot_isi : bootBuiltins "isinstance" = some (.builtin "isinstance") := by decide +kernel
theorem pp_isi {p p2 : Pos} {m : M PyData} {t : String} {x : Str} (hg : Gl X "isinstance") (hm : X.mg "isinstance" = none) (ht : PE X (.Name x p2) (tC (.ty t))) (ha : PB X W e m)
    (he : starEach [e, .Name x p2] X.env = (false, eval e X.env) :: starEach [.Name x p2] X.env := by rfl) (he2 : starEach [.Name x p2] X.env = (false, eval (.Name x p2) X.env) :: starEach [] X.env := by rfl) (hpl : (backTo pos (starEach [.Name x p2] X.env)).any (·.1) = false := by rfl) :
    PP X W (.Call (.Name "isinstance" p) [e, .Name x p2] [] pos) (mIsi t m) := by
  refine PE.imp (pe_callB call_isi hg hm boot_isi (pa_cons ha (pa_cons ht pa_nil he2) he) (by decide) (by decide) he hpl) fun σ H Q q => ?_
  obtain ⟨w, T, me, ok, lv, q⟩ := q
  refine Rn.seq ok lv q fun T1 me1 v d H1 s1 lv1 p1 q1 => ?_
  cases hk : kitB (tyName d) t with
  | none => rw [hk] at q1; exact q1.elim
  | some k =>
    rw [hk] at q1
    exact ⟨v, .ty t, .type (tyName d), .type t, k, rfl, .ty t, p1.ty, kit_ty hk, q1 _ H1 T1 (Stp.refl _ _ _ _ _) lv1 (.bl _)⟩
/-- a built-in type's name -/
theorem pe_tyN {x : Str} {t : String} {p : Pos} (hg : Gl X x) (hm : X.mg x = none) (hv : bootBuiltins x = some (.type t)) (hn : x ≠ "__name__" := by decide) (hd : (x == ("__debug__" : Str)) = false := by decide) : PE X (.Name x p) (tC (.ty t)) := pe_bltn hg hm hv rfl hn hd
theorem boot_str : bootBuiltins "str" = some (.type "str") := by decide +kernel
theorem boot_bool : bootBuiltins "bool" = some (.type "bool") := by decide +kernel
theorem boot_list : bootBuiltins "list" = some (.type "list") := by decide +kernel
end
end PL
namespace PL
open PySem PySem.Spec PyProof.Rows L2
section
variable {X : Cx} {W : WX} {pos : Pos} {a b c e : Expr} {es rest : List Expr}
/-! ### tests -/
theorem test_of {K : PySem.W.Frag} {mg : Str → Option Value} {m : M Sl} {σ : L2.St} {H : Hp} {Q : Bool → Hp → Prop} (q : tPt K mg W (mTest m) σ H Q) : tP K mg W m σ H (fun x H' => ∃ k, x = .bl k ∧ Q k H') := by
  obtain ⟨w, T, me, ok, lv, q⟩ := q
  refine Rn.seq ok lv q fun T1 me1 v d H1 s1 lv1 p1 q1 => ?_
  split at q1
  · rename_i k
    exact ⟨k, DD.bl_of p1, q1 _ H1 T1 (Stp.refl _ _ _ _ _) lv1 rfl⟩
  · exact q1.elim
theorem ppt_val {m : M Sl} (h : PP X W e m) (he : ∀ whole, isTrue e X.env whole = (do let v ← whole; standAt e.pos; holding [v] (truthy v)) := by intro _; rfl) : PPt X W e (mTest m) :=
  PT.imp (pt_val h he) fun _ _ _ q => test_of q
theorem ppt_cmp {op : CmpOp} {r : R2} {f : PyData → PyData → Option PyData} {x y : M PyData} (ho : OpR X (compareOp op) r) (hr : OpOk X.K r f) (ha : PB X W a x) (hb : PB X W b y) (hm : behindInMarks op b = false) : PPt X W (.Compare a [op] [b] pos) (mTest (mOp f x y)) :=
  PT.imp (pt_cmpR ho ha hb hm) fun _ _ _ q => tOp_ok hr (test_of q)
theorem ppt_eq {x y : M PyData} (hu : X.A.units + 65 < cLine) (ha : PB X W a x) (hb : PB X W b y) : PPt X W (.Compare a [.Eq] [b] pos) (mTest (mOp pEq x y)) := ppt_cmp (op_eqP (by omega)) ok_eq ha hb (nomark _)
theorem ppt_ne {x y : M PyData} (hu : X.A.units + 65 < cLine) (ha : PB X W a x) (hb : PB X W b y) : PPt X W (.Compare a [.NotEq] [b] pos) (mTest (mOp (pNot pEq) x y)) := ppt_cmp (op_neP (by omega)) ok_ne ha hb (nomark _)
theorem ppt_lt {x y : M PyData} (ha : PB X W a x) (hb : PB X W b y) : PPt X W (.Compare a [.Lt] [b] pos) (mTest (mOp pLt x y)) := ppt_cmp op_lt ok_lt ha hb (nomark _)
theorem ppt_le {x y : M PyData} (ha : PB X W a x) (hb : PB X W b y) : PPt X W (.Compare a [.LtE] [b] pos) (mTest (mOp pLe x y)) := ppt_cmp op_le ok_le ha hb (nomark _)
theorem ppt_gt {x y : M PyData} (ha : PB X W a x) (hb : PB X W b y) : PPt X W (.Compare a [.Gt] [b] pos) (mTest (mOp pGt x y)) := ppt_cmp op_gt ok_gt ha hb (nomark _)
theorem ppt_ge {x y : M PyData} (ha : PB X W a x) (hb : PB X W b y) : PPt X W (.Compare a [.GtE] [b] pos) (mTest (mOp pGe x y)) := ppt_cmp op_ge ok_ge ha hb (nomark _)
theorem ppt_in {x y : M PyData} (hu : X.A.units + 65 < cLine) (ha : PB X W a x) (hb : PB X W b y) (hm : behindInMarks .In b = false := by rfl) : PPt X W (.Compare a [.In] [b] pos) (mTest (mOp pIn x y)) := ppt_cmp (op_inP hu) ok_in ha hb hm
theorem ppt_notIn {x y : M PyData} (hu : X.A.units + 65 < cLine) (ha : PB X W a x) (hb : PB X W b y) (hm : behindInMarks .NotIn b = false := by rfl) : PPt X W (.Compare a [.NotIn] [b] pos) (mTest (mOp (pNot pIn) x y)) := ppt_cmp (op_notInP hu) ok_notIn ha hb hm
theorem ppt_is {x y : M PyData} (ha : PB X W a x) (hb : PB X W b y) : PPt X W (.Compare a [.Is] [b] pos) (mTest (mOp pIs x y)) := ppt_cmp op_isN0 ok_is ha hb (nomark _)
theorem ppt_isNot {x y : M PyData} (ha : PB X W a x) (hb : PB X W b y) : PPt X W (.Compare a [.IsNot] [b] pos) (mTest (mOp (pNot pIs) x y)) := ppt_cmp op_notN0 ok_isNot ha hb (nomark _)
theorem tChain_ok {r r' : R2} {f g : PyData → PyData → Option PyData} {x y z : M PyData} (hr : OpOk X.K r f) (hr' : OpOk X.K r' g) {σ : L2.St} {H : Hp} {Q : VK} (q : tP X.K X.mg W (mChain f g x y z) σ H Q) : tChain r r' (tB X.K X.mg W x) (tB X.K X.mg W y) (tB X.K X.mg W z) σ H Q := by
  obtain ⟨w, T, me, ok, lv, q⟩ := q
  refine Rn.seq ok lv q fun T1 me1 v d H1 s1 lv1 p1 q1 => ?_
  refine Rn.seq ok lv1 q1 fun T2 me2 u e H2 s2 lv2 p2 q2 => ?_
  have p1' := p1.fr (s2.fr ok lv1.t0) s2.ex
  split at q2
  · rename_i hf
    refine hr w.sc T2 H2 v u d e _ _ lv2.al p1' p2 hf fun z2 H3 sm dd => ⟨true, dd.bl_of, ?_⟩
    have lv3 := lv2.same sm
    rw [if_pos rfl]
    have q3 := q2
    have fr3 : Fr T2 H2 T2 H3 := sm.fr
    refine Rn.seq (me := me2) (T := T2) (H := H3) (Q := Q) (R := fun w T H v s => SV X.K X.mg w.sc T H v s) (P := fun w T H v d => DB X.K w.sc T H v d) (m := z) (k := fun dz m3 => match g e dz with
      | some (.bool k) => .ok (.dat (.bool k)) m3
      | _ => .bad) ok lv3 ?_ fun T4 me4 t dz H4 s4 lv4 p4 q4 => ?_
    · cases hz : z me2 with
      | bad => rw [hz] at q3; exact q3
      | exc xx m3 =>
        rw [hz] at q3
        exact fun c dd H' T' fr lv' xr => q3 c dd H' T' (fr3.trans fr) lv' xr
      | ok dz m3 =>
        rw [hz] at q3
        simp only [Res.bind_ok] at q3 ⊢
        cases hg : g e dz with
        | none => rw [hg] at q3; exact q3
        | some o =>
          rw [hg] at q3
          cases o with
          | bool k => exact fun v' H' T' s lv' r => q3 v' H' T' ((Stp.same sm).trans s) lv' r
          | none => exact q3
          | int i => exact q3
          | str i => exact q3
          | list i => exact q3
          | tuple i => exact q3
          | dict i => exact q3
    · cases hg : g e dz with
      | none => rw [hg] at q4; exact q4.elim
      | some o =>
        rw [hg] at q4
        cases o with
        | bool k =>
          exact hr' w.sc T4 H4 u t e dz _ Q lv4.al (p2.fr (fr3.trans (s4.fr ok lv3.t0)) (Ex.trans (fun b o _ h => sm b o h) s4.ex)) p4 hg fun v5 H5 sm5 dd5 => q4 v5 H5 T4 (Stp.same sm5) (lv4.same sm5) dd5
        | none => exact q4.elim
        | int i => exact q4.elim
        | str i => exact q4.elim
        | list i => exact q4.elim
        | tuple i => exact q4.elim
        | dict i => exact q4.elim
  · rename_i hf
    refine hr w.sc T2 H2 v u d e _ _ lv2.al p1' p2 hf fun z2 H3 sm dd => ⟨false, dd.bl_of, ?_⟩
    rw [if_neg Bool.false_ne_true]
    exact q2 _ H3 T2 (Stp.same sm) (lv2.same sm) (.bl _)
  · exact q2.elim
theorem ppt_chain {op op' : CmpOp} {r r' : R2} {f g : PyData → PyData → Option PyData} {x y z : M PyData} (ho : OpR X (compareOp op) r) (ho' : OpR X (compareOp op') r') (hr : OpOk X.K r f) (hr' : OpOk X.K r' g) (ha : PB X W a x) (hb : PB X W b y) (hc : PB X W c z)
    (hm : lastMarks [op, op'] [b, c] = false := by rfl) : PPt X W (.Compare a [op, op'] [b, c] pos) (mTest (mChain f g x y z)) :=
  PT.imp (pt_chain ho ho' ha hb hc hm) fun _ _ _ q => tChain_ok hr hr' (test_of q)
/-- truth of a value -/
theorem ppt_tru {m : M PyData} (h : PB X W e m) (he : ∀ whole, isTrue e X.env whole = (do let v ← whole; standAt e.pos; holding [v] (truthy v)) := by intro _; rfl) : PPt X W e (mTru m) := by
  refine PT.imp (pt_truth h he) fun σ H Q q => ?_
  obtain ⟨w, T, me, ok, lv, q⟩ := q
  refine Rn.seq ok lv q fun T1 me1 v d H1 s1 lv1 p1 q1 => ?_
  split at q1
  · refine ⟨_, ?_, q1 _ H1 T1 (Stp.refl _ _ _ _ _) lv1 rfl⟩
    rw [p1.none]; rfl
  · refine ⟨_, ?_, q1 _ H1 T1 (Stp.refl _ _ _ _ _) lv1 rfl⟩
    rw [p1.bool]; rfl
  · refine ⟨_, ?_, q1 _ H1 T1 (Stp.refl _ _ _ _ _) lv1 rfl⟩
    rw [p1.int]; rfl
  · split at q1
    · rename_i hz
      refine ⟨_, ?_, q1 _ H1 T1 (Stp.refl _ _ _ _ _) lv1 rfl⟩
      rw [p1.str]
      refine ⟨hz, ?_⟩
      cases hx : Str.length _ with
      | zero => rfl
      | succ n => rw [bne, bne, Bool.not_inj_iff]; rw [beq_eq_false_iff_ne.mpr (Nat.succ_ne_zero n), beq_eq_false_iff_ne.mpr (by omega)]
    · exact q1.elim
  · refine ⟨_, ?_, q1 _ H1 T1 (Stp.refl _ _ _ _ _) lv1 rfl⟩
    obtain ⟨p, vs, rfl, r, dd⟩ := p1.list
    refine .inl ⟨vs, .inl r, ?_⟩
    cases dd <;> rfl
  · refine ⟨_, ?_, q1 _ H1 T1 (Stp.refl _ _ _ _ _) lv1 rfl⟩
    obtain ⟨p, vs, rfl, r, dd⟩ := p1.tuple
    refine .inr (.inl ⟨vs, r.sq, ?_⟩)
    cases dd <;> rfl
  · exact q1.elim
theorem ppt_not {m : M Bool} (h : PPt X W e m) : PPt X W (.UnaryOp .Not e pos) (mNot m) := by
  refine PT.imp (pt_not h) fun σ H Q q => ?_
  obtain ⟨w, T, me, ok, lv, q⟩ := q
  refine Rn.seq ok lv q fun T1 me1 v d H1 s1 lv1 p1 q1 => ?_
  subst p1
  exact Rn.pure lv1 q1 rfl
theorem PW.imp {e : Expr} {t t' : TT} (h : PW X e t) (f : ∀ σ H Q, t' σ H Q → t σ H Q) : PW X e t' := ⟨fun wh pins s σ H Q I q => h.run wh pins s σ H Q I (f σ H Q q)⟩
theorem pwt_and1 {m : M Bool} (h : PPt X W a m) : PWt X W (.BoolOp .And [a] pos) m := pw_and1 h
theorem pwt_or1 {m : M Bool} (h : PPt X W a m) : PWt X W (.BoolOp .Or [a] pos) m := pw_or1 h
theorem tAnd_ok {m n : M Bool} {σ : L2.St} {H : Hp} {Q : Bool → Hp → Prop} (q : tPt X.K X.mg W (mAnd m n) σ H Q) : tAnd (tPt X.K X.mg W m) (tPt X.K X.mg W n) σ H Q := by
  obtain ⟨w, T, me, ok, lv, q⟩ := q
  refine Rn.seq ok lv q fun T1 me1 v d H1 s1 lv1 p1 q1 => ?_
  subst p1
  cases v with
  | true =>
    rw [if_pos rfl] at q1 ⊢
    exact ⟨w, T1, me1, ok, lv1, q1⟩
  | false =>
    rw [if_neg Bool.false_ne_true] at q1 ⊢
    exact Rn.pure lv1 q1 rfl
theorem tOr_ok {m n : M Bool} {σ : L2.St} {H : Hp} {Q : Bool → Hp → Prop} (q : tPt X.K X.mg W (mOr m n) σ H Q) : tOr (tPt X.K X.mg W m) (tPt X.K X.mg W n) σ H Q := by
  obtain ⟨w, T, me, ok, lv, q⟩ := q
  refine Rn.seq ok lv q fun T1 me1 v d H1 s1 lv1 p1 q1 => ?_
  subst p1
  cases v with
  | true =>
    rw [if_pos rfl] at q1 ⊢
    exact Rn.pure lv1 q1 rfl
  | false =>
    rw [if_neg Bool.false_ne_true] at q1 ⊢
    exact ⟨w, T1, me1, ok, lv1, q1⟩
theorem pwt_and {m n : M Bool} (h : PPt X W a m) (hb : PWt X W (.BoolOp .And (b :: rest) pos) n) : PWt X W (.BoolOp .And (a :: b :: rest) pos) (mAnd m n) := PW.imp (pw_and h hb) fun _ _ _ q => tAnd_ok q
theorem pwt_or {m n : M Bool} (h : PPt X W a m) (hb : PWt X W (.BoolOp .Or (b :: rest) pos) n) : PWt X W (.BoolOp .Or (a :: b :: rest) pos) (mOr m n) := PW.imp (pw_or h hb) fun _ _ _ q => tOr_ok q
theorem ppt_bool {m : M Bool} (h : PWt X W e m) : PPt X W e m := h.pt
/-! and, or, not, if as values (truth values) -/
def mAndV (x y : M Sl) : M Sl := fun m => (mTest x m).bind fun k m1 => if k = true then y m1 else .ok (.dat (.bool false)) m1
def mOrV (x y : M Sl) : M Sl := fun m => (mTest x m).bind fun k m1 => if k = true then .ok (.dat (.bool true)) m1 else y m1
def mNotV (x : M Sl) : M Sl := fun m => (mTest x m).bind fun k m1 => .ok (.dat (.bool (!k))) m1
theorem Rn.test {β γ : Type} {R : Wd → (Addr → Prop) → Hp → β → γ → Prop} {x : M Sl} {k : Bool → Me → Res γ} {σ : L2.St} {H : Hp} {Q : β → Hp → Prop} {Q' : V → Hp → Prop} {w : Wd} {T : Addr → Prop} {me : Me} (ok : w.Ok) (lv : Lv X.K X.mg w T σ H me) (h : Rn X.K X.mg W R σ w T H me Q ((mTest x me).bind k))
    (f : ∀ (T1 : Addr → Prop) (me1 : Me) (c : Bool) (H1 : Hp), Lv X.K X.mg w T1 σ H1 me1 → Rn X.K X.mg W R σ w T1 H1 me1 Q (k c me1) → Q' (.bl c) H1) : tP X.K X.mg W x σ H Q' := by
  have e : (mTest x me).bind k = (x me).bind fun s m' => (match s with | .dat (.bool b) => Res.ok b m' | _ => .bad : Res Bool).bind k := by
    unfold mTest
    cases x me <;> rfl
  rw [e] at h
  refine Rn.seq ok lv h fun T1 me1 v d H1 s1 lv1 p1 q1 => ?_
  split at q1
  · rename_i c
    rw [DD.bl_of p1]
    exact f T1 me1 c H1 lv1 q1
  · exact q1.elim
theorem pp_one {op : BoolOp} {m : M Sl} (h : PP X W a m) : PP X W (.BoolOp op [a] pos) m := pe_one h
theorem pp_and {m n : M Sl} (h : PP X W a m) (hb : PP X W (.BoolOp .And (b :: rest) pos) n) : PP X W (.BoolOp .And (a :: b :: rest) pos) (mAndV m n) := by
  refine PE.imp (pe_and h hb) fun σ H Q q => ?_
  obtain ⟨w, T, me, ok, lv, q⟩ := q
  refine Rn.test ok lv q fun T1 me1 k H1 lv1 q1 => ⟨k, rfl, ?_⟩
  cases k with
  | true =>
    rw [if_pos rfl] at q1 ⊢
    exact ⟨w, T1, me1, ok, lv1, q1⟩
  | false =>
    rw [if_neg Bool.false_ne_true] at q1 ⊢
    exact Rn.pure lv1 q1 (.bl _)
theorem pp_or {m n : M Sl} (h : PP X W a m) (hb : PP X W (.BoolOp .Or (b :: rest) pos) n) : PP X W (.BoolOp .Or (a :: b :: rest) pos) (mOrV m n) := by
  refine PE.imp (pe_or h hb) fun σ H Q q => ?_
  obtain ⟨w, T, me, ok, lv, q⟩ := q
  refine Rn.test ok lv q fun T1 me1 k H1 lv1 q1 => ⟨k, rfl, ?_⟩
  cases k with
  | true =>
    rw [if_pos rfl] at q1 ⊢
    exact Rn.pure lv1 q1 (.bl _)
  | false =>
    rw [if_neg Bool.false_ne_true] at q1 ⊢
    exact ⟨w, T1, me1, ok, lv1, q1⟩
theorem pp_not {m : M Sl} (h : PP X W a m) : PP X W (.UnaryOp .Not a pos) (mNotV m) := by
  refine PE.imp (pe_not h) fun σ H Q q => ?_
  obtain ⟨w, T, me, ok, lv, q⟩ := q
  refine Rn.test ok lv q fun T1 me1 k H1 lv1 q1 => ⟨k, rfl, ?_⟩
  exact Rn.pure lv1 q1 (.bl _)
theorem pp_if {t : M Bool} {m n : M Sl} (ht : PPt X W c t) (h : PP X W a m) (hb : PP X W b n) : PP X W (.IfExp c a b pos) (mIf t m n) := by
  refine PE.imp (pe_ifExp ht h hb) fun σ H Q q => ?_
  obtain ⟨w, T, me, ok, lv, q⟩ := q
  refine Rn.seq ok lv q fun T1 me1 v d H1 s1 lv1 p1 q1 => ?_
  subst p1
  cases v with
  | true =>
    rw [if_pos rfl] at q1 ⊢
    exact ⟨w, T1, me1, ok, lv1, q1⟩
  | false =>
    rw [if_neg Bool.false_ne_true] at q1 ⊢
    exact ⟨w, T1, me1, ok, lv1, q1⟩
/-! ### argument lists, displays -/
theorem pps_nil : PPs X W [] (mArgs []) := PA.imp pa_nil fun σ H Q q => by
  obtain ⟨w, T, me, ok, lv, q⟩ := q
  exact Rn.pure lv q .nil
theorem pps_cons {m : M Sl} {ms : List (M Sl)} (ha : PP X W e m) (hr : PPs X W es (mArgs ms)) (hs : starEach (e :: es) X.env = (false, eval e X.env) :: starEach es X.env := by rfl) : PPs X W (e :: es) (mArgs (m :: ms)) := by
  refine PA.imp (pa_cons ha hr hs) fun σ H Q q => ?_
  obtain ⟨w, T, me, ok, lv, q⟩ := q
  refine Rn.seq ok lv q fun T1 me1 v d H1 s1 lv1 p1 q1 => ?_
  refine Rn.seq ok lv1 q1 fun T2 me2 vs ds H2 s2 lv2 p2 q2 => ?_
  exact Rn.pure lv2 q2 (.cons (SV.fr (s2.fr ok lv1.t0) p1) p2)
def datsOf : List Sl → Option (List PyData)
  | [] => some []
  | .dat d :: r => (datsOf r).map (d :: ·)
  | _ => none
theorem SVs.dats {K : PySem.W.Frag} {mg : Str → Option Value} {sc : Option (Addr × Addr)} {T : Addr → Prop} {H : Hp} {vs : List V} {ss : List Sl} (h : SVs K mg sc T H vs ss) : ∀ {ds : List PyData}, datsOf ss = some ds → DDs K T H vs ds := by
  induction h with
  | nil => intro ds e; cases e; exact .nil
  | @cons v vs s ss a r ih =>
    intro ds e
    cases s with
    | dat d =>
      unfold datsOf at e
      cases hb : datsOf ss with
      | none => rw [hb] at e; cases e
      | some l =>
        rw [hb] at e; cases e
        exact .cons a (ih hb)
    | own l => cases e
    | src => cases e
    | exc x => cases e
def mTup (a : M (List Sl)) : M Sl := fun m => (a m).bind fun xs m1 => match datsOf xs with
  | some ds => if ds.length ≤ sizeLine then .ok (.dat (.tuple ds)) m1 else .bad
  | none => .bad
theorem pp_tup {x1 : Nat} {m : M (List Sl)} (h : PPs X W es m) : PP X W (.Tuple es x1 pos) (mTup m) := by
  refine PE.imp (pe_tup h) fun σ H Q q => ?_
  obtain ⟨w, T, me, ok, lv, q⟩ := q
  refine Rn.seq ok lv q fun T1 me1 vs ss H1 s1 lv1 p1 q1 => ?_
  cases hd : datsOf ss with
  | none => rw [hd] at q1; exact q1.elim
  | some ds =>
    rw [hd] at q1
    have dd := p1.dats hd
    by_cases hz : ds.length ≤ sizeLine
    · simp only [if_pos hz] at q1
      refine ⟨by rw [dd.length]; exact hz, fun p hp => ?_⟩
      exact q1 _ _ T1 (Stp.same (Same0.new hp)) (lv1.same (Same0.new hp)) (DD.newT lv1.al hp dd)
    · simp only [if_neg hz] at q1
      exact q1.elim
/-- own lists of a state one more -/
theorem Lv.grow {K : PySem.W.Frag} {mg : Str → Option Value} {w : Wd} {T : Addr → Prop} {σ : L2.St} {H : Hp} {me : Me} (lv : Lv K mg w T σ H me) {p : Addr} {o : HO} (hp : H p = none) : Lv K mg w (fun b => T b ∨ b = p) σ (upd H p o) me := by
  have sm : Same0 H (upd H p o) := Same0.new hp
  have fr : Fr T H (fun b => T b ∨ b = p) (upd H p o) := fun b u n h => ⟨sm b u h, fun z => z.elim n fun e => by subst e; rw [hp] at h; cases h⟩
  refine ⟨fun b h => .inl (lv.t0 b h), fun b hb => ?_, lv.ex.trans fun b o _ h => sm b o h, fun a c e => ?_, lv.len, fun i s hi => (lv.slot i s hi).fr fr fun p vs l _ _ hp' tp => ⟨.inl tp, sm _ _ hp'⟩, lv.sep⟩
  · rcases hb with hb | hb
    · intro n
      cases q : H b with
      | none => exact lv.al b hb q
      | some o' => rw [sm b o' q] at n; cases n
    · subst hb; rw [upd_same]; exact nofun
  · obtain ⟨n, h1, h2⟩ := lv.src a c e
    exact ⟨n, sm _ _ h1, sm _ _ h2⟩
theorem Ex.free {sc : Option (Addr × Addr)} {H H' : Hp} {p : Addr} (e : Ex sc H H') (ns : ¬ InS sc p) (h : H' p = none) : H p = none := by
  cases q : H p with
  | none => rfl
  | some o => rw [e p o ns q] at h; cases h
theorem Lv.fresh {K : PySem.W.Frag} {mg : Str → Option Value} {w : Wd} {T : Addr → Prop} {σ : L2.St} {H : Hp} {me : Me} (ok : w.Ok) (lv : Lv K mg w T σ H me) {p : Addr} (hp : H p = none) : w.H0 p = none ∧ ¬ T p ∧ ¬ InS w.sc p :=
  have nt : ¬ T p := fun z => lv.al p z hp
  have ns := ok.sNot lv.t0 nt
  ⟨lv.ex.free ns hp, nt, ns⟩
/-- a list display as a value, or as a new list -/
def mLst (a : M (List Sl)) : M (List PyData) := fun m => (a m).bind fun xs m1 => match datsOf xs with
  | some ds => if ds.length ≤ sizeLine then .ok ds m1 else .bad
  | none => .bad
/-- a new list that nothing reaches, at p -/
structure NewL (K : PySem.W.Frag) (mg : Str → Option Value) (w : Wd) (σ : L2.St) (T : Addr → Prop) (H : Hp) (me : Me) (l : List PyData) (me' : Me) (p : Addr) (vs : List V) (T' : Addr → Prop) (H' : Hp) : Prop where
  stp : Stp w σ T H me T' H' me'
  lv : Lv K mg w (fun b => T' b ∨ b = p) σ H' me'
  here : H' p = some (.lst vs)
  nT : ¬ T' p
  h0 : w.H0 p = none
  dd : DDs K (fun b => T' b ∨ b = p) H' vs l
  no : ∀ (i : Nat) (l' : List PyData), me'.env[i]? = some (some (Sl.own l')) → σ[i]? ≠ some (some (V.ref p))
  new : Fr T H (fun b => T' b ∨ b = p) H'
/-- the reading of a new list -/
abbrev tN (K : PySem.W.Frag) (mg : Str → Option Value) (W : WX) (m : M (List PyData)) : TE := fun σ H Q => ∃ (w : Wd) (T : Addr → Prop) (me : Me), w.Ok ∧ Lv K mg w T σ H me ∧ match m me with
    | .ok l me' => ∀ (p : Addr) (vs : List V) (T' : Addr → Prop) (H' : Hp), NewL K mg w σ T H me l me' p vs T' H' → Q (.ref p) H'
    | .exc x me' => ∀ (c : Value) (dd : Option Addr) (H' : Hp) (T' : Addr → Prop), Fr T H T' H' → Lv K mg w T' σ H' me' → XR K mg T' H' c dd x → W c dd σ H'
    | .bad => False
abbrev PN (X : Cx) (W : WX) (e : Expr) (m : M (List PyData)) : Prop := PE X e (tN X.K X.mg W m)
theorem DDs.grow {K : PySem.W.Frag} {T : Addr → Prop} {H : Hp} {vs : List V} {ds : List PyData} {p : Addr} {o : HO} (hp : H p = none) (h : DDs K T H vs ds) : DDs K (fun b => T b ∨ b = p) (upd H p o) vs ds :=
  h.to fun b u n hu => ⟨Same0.new hp b u hu, fun z => z.elim n fun e => by subst e; rw [hp] at hu; cases hu⟩
theorem Lv.noRef {K : PySem.W.Frag} {mg : Str → Option Value} {w : Wd} {T : Addr → Prop} {σ : L2.St} {H : Hp} {me : Me} (lv : Lv K mg w T σ H me) {p : Addr} (hp : H p = none) : ∀ (i : Nat) (l : List PyData), me.env[i]? = some (some (Sl.own l)) → σ[i]? ≠ some (some (V.ref p)) := fun i l h e => by
  obtain ⟨q, vs, e1, tq, h0, hq, hd⟩ := lv.slot i _ h
  rw [e] at e1; cases e1
  rw [hp] at hq; cases hq
theorem pn_lst {m : M (List Sl)} (h : PPs X W es m) : PN X W (.List es pos) (mLst m) := by
  refine PE.imp (pe_lst h) fun σ H Q q => ?_
  obtain ⟨w, T, me, ok, lv, q⟩ := q
  refine ⟨w, T, me, ok, lv, ?_⟩
  unfold mLst at q
  cases hm : m me with
  | bad => rw [hm] at q; exact q
  | exc x me1 => rw [hm] at q; exact q
  | ok ss me1 =>
    rw [hm] at q
    simp only [Res.bind_ok] at q
    intro vs H1 T1 s1 lv1 p1
    cases hd : datsOf ss with
    | none => rw [hd] at q; exact q.elim
    | some ds =>
      rw [hd] at q
      have dd := p1.dats hd
      by_cases hz : ds.length ≤ sizeLine
      · simp only [if_pos hz] at q
        refine ⟨by rw [dd.length]; exact hz, fun p hp => ?_⟩
        obtain ⟨f0, f1, f2⟩ := lv1.fresh ok hp
        have fr1 : Fr T1 H1 (fun b => T1 b ∨ b = p) (upd H1 p (.lst vs)) := fun b u n hu => ⟨Same0.new hp b u hu, fun z => z.elim n fun e => by subst e; rw [hp] at hu; cases hu⟩
        exact q p vs T1 _ ⟨s1.trans (Stp.same (Same0.new hp)), lv1.grow hp, upd_same, f1, f0, dd.grow hp, lv1.noRef hp, (s1.fr ok lv.t0).trans fr1⟩
      · simp only [if_neg hz] at q
theorem Lv.shrink {K : PySem.W.Frag} {mg : Str → Option Value} {w : Wd} {T : Addr → Prop} {σ : L2.St} {H : Hp} {me : Me} {p : Addr} (ok : w.Ok) (lv : Lv K mg w (fun b => T b ∨ b = p) σ H me) (nT : ¬ T p) (h0 : w.H0 p = none) (no : ∀ (i : Nat) (l' : List PyData), me.env[i]? = some (some (Sl.own l')) → σ[i]? ≠ some (some (V.ref p))) : Lv K mg w T σ H me := by
  refine ⟨fun b hb => (lv.t0 b hb).elim id fun z => ?_, fun b hb => lv.al b (.inl hb), lv.ex, lv.src, lv.len, fun i s hi => (lv.slot i s hi).fr (Fr.weak fun _ z => .inl z) fun q vs l es eq hq tq => ⟨tq.elim id fun z => ?_, hq⟩, lv.sep⟩
  · subst z
    exact absurd h0 (ok.al b hb)
  · subst z; subst es
    exact absurd eq (no i l hi)
theorem NewL.val {K : PySem.W.Frag} {mg : Str → Option Value} {w : Wd} {σ : L2.St} {T T' : Addr → Prop} {H H' : Hp} {me me' : Me} {l : List PyData} {p : Addr} {vs : List V} (ok : w.Ok) (n : NewL K mg w σ T H me l me' p vs T' H') : Lv K mg w T' σ H' me' ∧ DD K T' H' (.ref p) (.list l) :=
  ⟨n.lv.shrink ok n.nT n.h0 n.no, .lst ⟨.inl n.here, n.nT⟩ (n.dd.to (Fr.weak fun _ z => .inl z))⟩
def mL (m : M (List PyData)) : M Sl := fun me => (m me).bind fun l me' => .ok (.dat (.list l)) me'
theorem pp_new {m : M (List PyData)} (h : PN X W e m) : PP X W e (mL m) := by
  refine PE.imp h fun σ H Q q => ?_
  obtain ⟨w, T, me, ok, lv, q⟩ := q
  refine ⟨w, T, me, ok, lv, ?_⟩
  unfold mL at q
  cases hm : m me with
  | bad => rw [hm] at q; exact q
  | exc x me1 => rw [hm] at q; exact q
  | ok l me1 =>
    rw [hm] at q
    intro p vs T' H' n
    obtain ⟨a, b⟩ := n.val ok
    exact q (.ref p) H' T' n.stp a b
/-! ### calls of defs -/
inductive CRes
  | ok (s : Sl) (st : SrcSt)
  | exc (x : Xn) (st : SrcSt)
  | bad
/-- a def's promise by a function of its arguments and the source -/
def spP (K : PySem.W.Frag) (mg : Str → Option Value) (n : Nat) (F : List Sl → SrcSt → CRes) : Sp := fun vs H Q E =>
  ∃ (sc : Option (Addr × Addr)) (T : Addr → Prop) (args : List Sl) (st : SrcSt), vs.length = n ∧ (∀ b, InS sc b → T b) ∧ (∀ b, T b → H b ≠ none) ∧ SrcAt sc H st ∧ SVs K mg sc T H vs args ∧ match F args st with
    | .ok s st' => ∀ (v : V) (H' : Hp), Ex sc H H' → SrcAt sc H' st' → SV K mg sc T H' v s → Q v H'
    | .exc x st' => ∀ (c : Value) (dd : Option Addr) (H' : Hp), Ex sc H H' → SrcAt sc H' st' → XR K mg T H' c dd x → E c dd H'
    | .bad => False
def mCall (F : List Sl → SrcSt → CRes) (a : M (List Sl)) : M Sl := fun m => (a m).bind fun xs m1 => match F xs m1.st with
  | .ok s st' => .ok s { m1 with st := st' }
  | .exc x st' => .exc x { m1 with st := st' }
  | .bad => .bad
theorem Lv.call {K : PySem.W.Frag} {mg : Str → Option Value} {w : Wd} {T : Addr → Prop} {σ : L2.St} {H H' : Hp} {me : Me} {st : SrcSt} (ok : w.Ok) (lv : Lv K mg w T σ H me) (ex : Ex w.sc H H') (sr : SrcAt w.sc H' st) : Lv K mg w T σ H' { me with st := st } := by
  have fr : Fr T H T H' := fun b o n h => ⟨ex b o (ok.sNot lv.t0 n) h, n⟩
  refine ⟨lv.t0, fun b hb => ?_, lv.ex.trans ex, sr, lv.len, fun i s hi => (lv.slot i s hi).fr fr fun p vs l es ep hp tp => ⟨tp, ex p _ (fun z => ?_) hp⟩, lv.sep⟩
  · by_cases hs : InS w.sc b
    · obtain ⟨a, c, e, h⟩ := hs
      obtain ⟨_, h1, h2⟩ := sr a c e
      rcases h with h | h
      · rw [h, h1]; exact nofun
      · rw [h, h2]; exact nofun
    · intro n
      cases q : H b with
      | none => exact lv.al b hb q
      | some o => rw [ex b o hs q] at n; cases n
  · subst es
    obtain ⟨p', vs', e1, _, h0, _, _⟩ := lv.slot i _ hi
    rw [ep] at e1; cases e1
    exact ok.al p (ok.s0 p z) h0
theorem Stp.call {w : Wd} {σ : L2.St} {T : Addr → Prop} {H H' : Hp} {m : Me} {st : SrcSt} (s : Ex w.sc H H') : Stp w σ T H m T H' { m with st := st } := ⟨s, fun _ h => h, fun _ a b => absurd a b, fun _ _ h => h⟩
abbrev PassX (X : Cx) (W : WX) : Prop := ∀ σ, PassesAt (L2.CX X.prog X.w) X σ (WE W σ)
theorem passW {X : Cx} {W : WX} (tk : Takes X W) : PassX X W := fun σ => passAt tk σ
/-- nothing is let out -/
abbrev W0 : WX := fun _ _ _ _ => False
theorem pass00 {X : Cx} : PassX X W0 := fun σ pins H s e s' I c => by
  obtain ⟨_, _, _, _, _, _, _, _, _, _, _, _, z⟩ := c
  exact z.elim
theorem mArgs_len : ∀ {ms : List (M Sl)} {me me' : Me} {ss : List Sl}, mArgs ms me = .ok ss me' → ss.length = ms.length
  | [], _, _, _, h => by cases h; rfl
  | a :: r, me, me', ss, h => by
    unfold mArgs at h
    cases ha : a me with
    | bad => rw [ha] at h; cases h
    | exc x m => rw [ha] at h; cases h
    | ok s m1 =>
      rw [ha] at h
      simp only [Res.bind_ok] at h
      cases hr : mArgs r m1 with
      | bad => rw [hr] at h; cases h
      | exc x m => rw [hr] at h; cases h
      | ok l m2 =>
        rw [hr] at h
        cases h
        rw [List.length_cons, List.length_cons, mArgs_len hr]
theorem pp_call {F : List Sl → SrcSt → CRes} {ms : List (M Sl)} {k n : Nat} {f : Addr} {fd : FuncData} {ps : List Str} {x : Str} {p : Pos} (G : FnOk X.prog X.w X.K X.mg X.base (L2.CX X.prog X.w) k f fd ps (spP X.K X.mg n F)) (hr : Room k X.A) (hg : Gl X x) (hm : X.mg x = some (.ref f)) (hk : PySem.W.keepIn X.K (.ref f) = true) (hb : Binds X.K fd ps []) (hx : PassX X W)
    (ha : PPs X W (e :: es) (mArgs ms)) (hn : ms.length = n := by rfl) (hdb : (x == ("__debug__" : Str)) = false := by decide) (he : starEach (e :: es) X.env = (false, eval e X.env) :: starEach es X.env := by rfl) (hpl : (backTo pos (starEach es X.env)).any (·.1) = false := by rfl) :
    PP X W (.Call (.Name x p) (e :: es) [] pos) (mCall F (mArgs ms)) := by
  refine PE.imp (pe_callS G hr hg hm hk hb hx ha hdb he hpl) fun σ H Q q => ?_
  obtain ⟨w, T, me, ok, lv, q⟩ := q
  refine ⟨w, T, me, ok, lv, ?_⟩
  unfold mCall at q
  cases hm : mArgs ms me with
  | bad => rw [hm] at q; exact q
  | exc x me1 => rw [hm] at q; exact q
  | ok ss me1 =>
    rw [hm] at q
    simp only [Res.bind_ok] at q
    intro vs H1 T1 s1 lv1 p1
    have hss := mArgs_len hm
    refine ⟨w.sc, T1, ss, me1.st, by rw [p1.length, hss]; exact hn, fun b hb => lv1.t0 b (ok.s0 b hb), lv1.al, lv1.src, p1, ?_⟩
    cases hf : F ss me1.st with
    | bad => rw [hf] at q; exact q
    | ok s st' =>
      rw [hf] at q
      exact fun v H' ex sr sv => q v H' T1 (s1.trans (Stp.call ex)) (lv1.call ok ex sr) sv
    | exc y st' =>
      rw [hf] at q
      exact fun c dd H' ex sr xr => q c dd H' T1 ((s1.fr ok lv.t0).trans fun b o n h => ⟨ex b o (ok.sNot lv1.t0 n) h, n⟩) (lv1.call ok ex sr) xr
end
end PL
namespace PL
open PySem PySem.Spec PyProof.Rows L2
/-! ### what is walked -/
structure Wk (K : PySem.W.Frag) (T : Addr → Prop) (H : Hp) (J : It) (items : List PyData) : Prop where
  ex : ∃ (G : Hp → Prop) (Y : Nat → Hp → V → Hp → Prop), Walk J items.length G Y ∧ (∀ (T' : Addr → Prop) (H' : Hp), Fr T H T' H' → G H') ∧
    ∀ (T' : Addr → Prop) (H' : Hp) (i : Nat) (x : V) (H'' : Hp), Fr T H T' H' → (∀ b, T' b → H' b ≠ none) → i < items.length → Y i H' x H'' → Same0 H' H'' ∧ ∃ d, items[i]? = some d ∧ DD K T' H'' x d
def itemsOf : PyData → Option (List PyData)
  | .list l => some l
  | .tuple l => some l
  | .str z => some (z.cps.toList.map fun c => .str ⟨#[c]⟩)
  | _ => none
def mIt (a : M Sl) : M (List PyData) := fun m => (mDat a m).bind fun d m1 => match itemsOf d with
  | some l => .ok l m1
  | none => .bad
section
variable {X : Cx} {W : WX} {pos : Pos} {tg a b c e : Expr} {es rest : List Expr}
abbrev PIt (X : Cx) (W : WX) (tg e : Expr) (m : M (List PyData)) : Prop := PI X tg e (tR X.K X.mg W (fun _ T H J items => Wk X.K T H J items) m)
theorem PI.imp {e : Expr} {t t' : TI} (h : PI X tg e t) (f : ∀ σ H Q, t' σ H Q → t σ H Q) : PI X tg e t' := ⟨fun pins s σ H Q I q => h.run pins s σ H Q I (f σ H Q q)⟩
def iSeq (K : PySem.W.Frag) (te : TE) : TI := fun σ H R => te σ H fun x H1 => (∃ a, x = .ref a ∧ (∃ xs, SqL K H1 a xs) ∧ R (Itl K a) H1) ∨ (∃ a, x = .ref a ∧ (∃ xs, SqT K H1 a xs) ∧ R (Itt K a) H1) ∨ ∃ z, x = .str z ∧ R (Its z) H1
theorem pi_seq {te : TE} (hl : PE X e te) : PI X tg e (iSeq X.K te) := by
  refine ⟨fun pins s σ H R I h => ?_⟩
  refine thn (hl.run pins s σ H _ I h) fun v s1 ⟨x, H1, I1, r1, q1⟩ => ?_
  rcases q1 with ⟨a, e, ⟨xs, hq⟩, q⟩ | ⟨a, e, ⟨xs, hq⟩, q⟩ | ⟨x, ex, q⟩
  · subst e
    cases r1
    obtain ⟨its, rv, p, hz⟩ := I1.list hq
    refine wpAny_pyIter_list p.isList ?_
    refine ⟨s1.heap.objs.size, [s1.heap.objs.size], _, _, H1, rfl, I1.kept (t' := s1.toks) fun b o e => Heap.get?_push_of_some _ e, turn_list a _, ⟨_, Heap.get?_push_size _ rfl, rfl, rfl⟩, fun b hb => ?_, q⟩
    have e : b = s1.heap.objs.size := by simpa using hb
    subst e
    exact I1.fpOk (Nat.le_refl _) (I1.hok.fresh (Nat.le_refl _))
  · subst e
    cases r1
    obtain ⟨its, rv, p, hz⟩ := I1.tuple hq
    refine wpAny_pyIter_tuple (show s1.heap.IsTuple a its.toArray from p) ?_
    refine ⟨s1.heap.objs.size, [s1.heap.objs.size], _, _, H1, rfl, I1.kept (t' := s1.toks) fun b o e => Heap.get?_push_of_some _ e, turn_tuple a _, ⟨_, Heap.get?_push_size _ rfl, rfl, rfl⟩, fun b hb => ?_, q⟩
    have e : b = s1.heap.objs.size := by simpa using hb
    subst e
    exact I1.fpOk (Nat.le_refl _) (I1.hok.fresh (Nat.le_refl _))
  · subst ex
    obtain ⟨t, rfl⟩ := r1
    cases ha : x.cps.all (· < 128)
    · exact wpAny_pyIter_wide ha (pi_one (tk := s1.toks) I1 _ (turn_str _ x t "str_iterator" (.inr rfl)) ⟨_, Heap.get?_push_size _ rfl, rfl, rfl⟩ q)
    · exact wpAny_pyIter_ascii ha (pi_one (tk := s1.toks) I1 _ (turn_str _ x t "str_ascii_iterator" (.inl rfl)) ⟨_, Heap.get?_push_size _ rfl, rfl, rfl⟩ q)
theorem wk_list {K : PySem.W.Frag} {T : Addr → Prop} {H : Hp} {a : Addr} {xs : List V} {ds : List PyData} (hq : QL K T H a xs) (hd : DDs K T H xs ds) : Wk K T H (Itl K a) ds := by
  refine ⟨_, _, hd.length ▸ walk_list (xs := xs), fun T' H' f => (hq.fr f).sq, fun T' H' i x H'' f _ hi y => ?_⟩
  obtain ⟨rfl, y⟩ := y
  obtain ⟨d, e, dd⟩ := (hd.to f).getV y
  exact ⟨fun _ _ h => h, d, e, dd⟩
theorem wk_tup {K : PySem.W.Frag} {T : Addr → Prop} {H : Hp} {a : Addr} {xs : List V} {ds : List PyData} (hq : QT K T H a xs) (hd : DDs K T H xs ds) : Wk K T H (Itt K a) ds := by
  refine ⟨_, _, hd.length ▸ walk_tup (xs := xs), fun T' H' f => (hq.fr f).sq, fun T' H' i x H'' f _ hi y => ?_⟩
  obtain ⟨rfl, y⟩ := y
  obtain ⟨d, e, dd⟩ := (hd.to f).getV y
  exact ⟨fun _ _ h => h, d, e, dd⟩
theorem wk_str {K : PySem.W.Frag} {T : Addr → Prop} {H : Hp} {z : Str} : Wk K T H (Its z) (z.cps.toList.map fun c => .str ⟨#[c]⟩) := by
  refine ⟨fun _ => True, fun i H v H' => H' = H ∧ ∃ c, z.cps[i]? = some c ∧ v = .str ⟨#[c]⟩, ?_, fun _ _ _ => trivial, fun T' H' i x H'' f _ hi y => ?_⟩
  · have e : (z.cps.toList.map fun c => PyData.str ⟨#[c]⟩).length = z.cps.size := by simp
    rw [e]
    exact walk_str
  · obtain ⟨rfl, ch, e, rfl⟩ := y
    refine ⟨fun _ _ h => h, .str ⟨#[ch]⟩, ?_, .str _⟩
    rw [List.getElem?_map, Array.getElem?_toList, e]
    rfl
theorem Rn.dat {K : PySem.W.Frag} {mg : Str → Option Value} {β γ : Type} {R : Wd → (Addr → Prop) → Hp → β → γ → Prop} {x : M Sl} {k : PyData → Me → Res γ} {σ : L2.St} {H : Hp} {Q : β → Hp → Prop} {Q' : V → Hp → Prop} {w : Wd} {T : Addr → Prop} {me : Me} (ok : w.Ok) (lv : Lv K mg w T σ H me) (h : Rn K mg W R σ w T H me Q ((mDat x me).bind k))
    (f : ∀ (T1 : Addr → Prop) (me1 : Me) (v : V) (d : PyData) (H1 : Hp), Stp w σ T H me T1 H1 me1 → Lv K mg w T1 σ H1 me1 → DD K T1 H1 v d → Rn K mg W R σ w T1 H1 me1 Q (k d me1) → Q' v H1) : tP K mg W x σ H Q' := by
  have e : (mDat x me).bind k = (x me).bind fun s m' => (match s with | .dat d => Res.ok d m' | _ => .bad : Res PyData).bind k := by
    unfold mDat
    cases x me <;> rfl
  rw [e] at h
  refine Rn.seq ok lv h fun T1 me1 v s H1 s1 lv1 p1 q1 => ?_
  cases s with
  | dat d => exact f T1 me1 v d H1 s1 lv1 p1 q1
  | own l => exact q1.elim
  | src => exact q1.elim
  | exc x => exact q1.elim
theorem pit_seq {m : M Sl} (h : PP X W e m) : PIt X W tg e (mIt m) := by
  refine PI.imp (pi_seq h) fun σ H Q q => ?_
  obtain ⟨w, T, me, ok, lv, q⟩ := q
  refine Rn.dat ok lv q fun T1 me1 v d H1 s1 lv1 p1 q1 => ?_
  cases hi : itemsOf d with
  | none => rw [hi] at q1; exact q1.elim
  | some l =>
    rw [hi] at q1
    unfold itemsOf at hi
    split at hi
    · cases hi
      cases p1 with
      | lst hq hd => exact .inl ⟨_, rfl, ⟨_, hq.sq⟩, q1 _ H1 T1 (Stp.refl _ _ _ _ _) lv1 (wk_list hq hd)⟩
    · cases hi
      cases p1 with
      | tup hq hd => exact .inr (.inl ⟨_, rfl, ⟨_, hq.sq⟩, q1 _ H1 T1 (Stp.refl _ _ _ _ _) lv1 (wk_tup hq hd)⟩)
    · cases hi
      cases p1
      exact .inr (.inr ⟨_, rfl, q1 _ H1 T1 (Stp.refl _ _ _ _ _) lv1 wk_str⟩)
    · cases hi
/-- range(n), range(a, b) -/
def rngD (lo : Int) (n : Nat) : List PyData := (List.range n).map fun i => .int (lo + (i : Nat))
def mRng1 (a : M (List PyData)) : M (List PyData) := fun m => (a m).bind fun ds m1 => match ds with
  | [.int n] => if -(2 ^ 62) ≤ n ∧ n < 2 ^ 62 then .ok (rngD 0 n.toNat) m1 else .bad
  | _ => .bad
def mRng2 (a : M (List PyData)) : M (List PyData) := fun m => (a m).bind fun ds m1 => match ds with
  | [.int i, .int j] => if -(2 ^ 62) ≤ i ∧ i < 2 ^ 62 ∧ -(2 ^ 62) ≤ j ∧ j < 2 ^ 62 then .ok (rngD i (j - i).toNat) m1 else .bad
  | _ => .bad
theorem wk_range {K : PySem.W.Frag} {T : Addr → Prop} {H : Hp} {lo : Int} {n : Nat} : Wk K T H (Itr lo n) (rngD lo n) := by
  have e : (rngD lo n).length = n := by simp [rngD]
  refine ⟨fun _ => True, YFn fun i => .int (lo + i), by rw [e]; exact walk_range, fun _ _ _ => trivial, fun T' H' i x H'' f _ hi y => ?_⟩
  obtain ⟨rfl, rfl⟩ := y
  rw [e] at hi
  exact ⟨fun _ _ h => h, .int (lo + i), by simp [rngD, hi], .int _⟩
theorem pit_range1 {m : M (List PyData)} {p : Pos} (hg : Gl X "range") (hm : X.mg "range" = none) (ha : PBs X W [a] m) (hs : starEach [a] X.env = [(false, eval a X.env)] := by rfl) : PIt X W tg (.Call (.Name "range" p) [a] [] pos) (mRng1 m) := by
  refine PI.imp (pi_range1 hg hm ha hs) fun σ H Q q => ?_
  obtain ⟨w, T, me, ok, lv, q⟩ := q
  refine Rn.seq ok lv q fun T1 me1 v d H1 s1 lv1 p1 q1 => ?_
  split at q1
  · split at q1
    · rename_i hn
      obtain ⟨u, rfl, h⟩ := p1.one
      exact ⟨_, by rw [h.int], hn.1, hn.2, q1 _ H1 T1 (Stp.refl _ _ _ _ _) lv1 wk_range⟩
    · exact q1.elim
  · exact q1.elim
theorem pit_range2 {m : M (List PyData)} {p : Pos} (hg : Gl X "range") (hm : X.mg "range" = none) (ha : PBs X W [a, b] m) (hs : starEach [a, b] X.env = [(false, eval a X.env), (false, eval b X.env)] := by rfl) (hs2 : starEach [b] X.env = [(false, eval b X.env)] := by rfl) : PIt X W tg (.Call (.Name "range" p) [a, b] [] pos) (mRng2 m) := by
  refine PI.imp (pi_range2 hg hm ha hs hs2) fun σ H Q q => ?_
  obtain ⟨w, T, me, ok, lv, q⟩ := q
  refine Rn.seq ok lv q fun T1 me1 v d H1 s1 lv1 p1 q1 => ?_
  split at q1
  · split at q1
    · rename_i hn
      obtain ⟨u, u2, rfl, h, h2⟩ := p1.two
      exact ⟨_, _, by rw [h.int, h2.int], hn, q1 _ H1 T1 (Stp.refl _ _ _ _ _) lv1 wk_range⟩
    · exact q1.elim
  · exact q1.elim
end
/-! ### targets -/
inductive Tg
  | nm (i : Nat)
  | tp (l : List Nat)
def Tg.slots : Tg → List Nat
  | .nm i => [i]
  | .tp l => l
def setE (env : List (Option Sl)) : List Nat → List PyData → List (Option Sl)
  | i :: r, d :: ds => setE (env.set i (some (.dat d))) r ds
  | _, _ => env
def mTgt (t : Tg) (d : PyData) (m : Me) : Option Me := match t with
  | .nm i => if i < m.env.length then some { m with env := m.env.set i (some (.dat d)) } else none
  | .tp l => match d with
    | .tuple ds => if ds.length = l.length ∧ (l.all fun i => decide (i < m.env.length)) = true then some { m with env := setE m.env l ds } else none
    | _ => none
def setV (σ : L2.St) : List Nat → List V → L2.St
  | i :: r, v :: vs => setV (σ.set i (some v)) r vs
  | _, _ => σ
theorem Lv.set {K : PySem.W.Frag} {mg : Str → Option Value} {w : Wd} {T : Addr → Prop} {σ : L2.St} {H : Hp} {me : Me} (lv : Lv K mg w T σ H me) {i : Nat} {v : V} {s : Sl} (hi : i < me.env.length) (h : SlotOk K mg w T H (some (some v)) s) (hs : ∀ l, s ≠ .own l) : Lv K mg w T (σ.set i (some v)) H { me with env := me.env.set i (some s) } := by
  have hi' : i < σ.length := by rw [lv.len]; exact hi
  refine ⟨lv.t0, lv.al, lv.ex, lv.src, by rw [List.length_set, List.length_set]; exact lv.len, fun j s' hj => ?_, fun j k l l' p h1 h2 e1 e2 => ?_⟩
  · by_cases hji : j = i
    · subst hji
      rw [List.getElem?_set_self hi] at hj
      cases hj
      rw [List.getElem?_set_self hi']
      exact h
    · rw [List.getElem?_set_ne (Ne.symm hji)] at hj ⊢
      exact lv.slot j s' hj
  · have g : ∀ (j : Nat) (l : List PyData), (me.env.set i (some s))[j]? = some (some (Sl.own l)) → j ≠ i ∧ me.env[j]? = some (some (Sl.own l)) := fun j l hj => by
      by_cases hji : j = i
      · subst hji; rw [List.getElem?_set_self hi] at hj
        exact absurd (Option.some.inj (Option.some.inj hj)) (hs l)
      · rw [List.getElem?_set_ne (Ne.symm hji)] at hj; exact ⟨hji, hj⟩
    obtain ⟨a1, a2⟩ := g j l h1
    obtain ⟨b1, b2⟩ := g k l' h2
    have e1' : σ[j]? = some (some (V.ref p)) := by rw [← e1]; exact (List.getElem?_set_ne (Ne.symm a1)).symm
    have e2' : σ[k]? = some (some (V.ref p)) := by rw [← e2]; exact (List.getElem?_set_ne (Ne.symm b1)).symm
    exact lv.sep j k l l' p a2 b2 e1' e2'
theorem Lv.setAll {K : PySem.W.Frag} {mg : Str → Option Value} {w : Wd} {T : Addr → Prop} {H : Hp} {st : SrcSt} : ∀ (l : List Nat) (ds : List PyData) (vs : List V) (σ : L2.St) (env : List (Option Sl)), DDs K T H vs ds → (∀ i ∈ l, i < env.length) → Lv K mg w T σ H ⟨env, st⟩ → Lv K mg w T (setV σ l vs) H ⟨setE env l ds, st⟩
  | [], ds, vs, σ, env, hd, hl, lv => by
    unfold setV setE; exact lv
  | i :: r, ds, vs, σ, env, hd, hl, lv => by
    cases hd with
    | nil => unfold setV setE; exact lv
    | @cons v vs d ds a b =>
      unfold setV setE
      refine Lv.setAll r ds vs _ _ b (fun j hj => by rw [List.length_set]; exact hl j (List.mem_cons_of_mem _ hj)) ?_
      exact lv.set (me := ⟨env, st⟩) (hl i List.mem_cons_self) ⟨v, rfl, a⟩ (fun _ => nofun)
/-- what a target does with a value -/
def tTg (K : PySem.W.Frag) (mg : Str → Option Value) (t : Tg) : TG := fun v σ H Q => ∃ (w : Wd) (T : Addr → Prop) (me me' : Me) (d : PyData), Lv K mg w T σ H me ∧ DD K T H v d ∧ mTgt t d me = some me' ∧
  ∀ vs, Lv K mg w T (setV σ t.slots vs) H me' → Q (setV σ t.slots vs) H
section
variable {X : Cx} {W : WX} {pos : Pos} {tg a b c e : Expr} {es rest : List Expr}
theorem PG.imp {e : Expr} {t t' : TG} (h : PG X e t) (f : ∀ v σ H Q, t' v σ H Q → t v σ H Q) : PG X e t' := ⟨fun pins s σ H v u Q I r q => h.run pins s σ H v u Q I r (f v σ H Q q)⟩
theorem ptg_nm {i : Nat} {x : Str} (hN : X.N.Nodup) (hi : X.N[i]? = some x) (hx : Loc X.env.scope x) (hf : X.fn x = true ∨ X.env.scope.names.lookup x = some .local := by first | exact .inl rfl | exact .inr rfl | assumption) : PG X (.Name x pos) (tTg X.K X.mg (.nm i)) := by
  refine PG.imp (pg_name hN hi hx hf) fun v σ H Q q => ?_
  obtain ⟨w, T, me, me', d, lv, dd, e, q⟩ := q
  unfold mTgt at e
  simp only at e
  split at e
  · rename_i hlt
    cases e
    exact q [v] (lv.set hlt ⟨v, rfl, dd⟩ (fun _ => nofun))
  · cases e
/-- names, one behind the other -/
inductive PTn (X : Cx) : List Expr → List Nat → Prop
  | nil : PTn X [] []
  | cons {i : Nat} {x : Str} {pos : Pos} {es : List Expr} {l : List Nat} (hi : X.N[i]? = some x) (hx : Loc X.env.scope x) (hf : X.fn x = true ∨ X.env.scope.names.lookup x = some .local) (hs : (assignEach (.Name x pos :: es) X.env).map (·.2) = assign (.Name x pos) X.env :: (assignEach es X.env).map (·.2)) (r : PTn X es l) : PTn X (.Name x pos :: es) (i :: l)
def gAll : List Nat → TGs
  | [] => gNil
  | i :: r => gCons (gName i) (gAll r)
theorem PTn.pgs (hN : X.N.Nodup) {es : List Expr} {l : List Nat} (h : PTn X es l) : PGs X es (gAll l) := by
  induction h with
  | nil => exact pgs_nil
  | cons hi hx hf hs r ih => exact pgs_cons (pg_name hN hi hx hf) ih hs
theorem gAll_ok : ∀ (l : List Nat) (vs : List V) (σ : L2.St) (H : Hp) (Q : L2.St → Hp → Prop), vs.length = l.length → Q (setV σ l vs) H → gAll l vs σ H Q
  | [], [], σ, H, Q, _, q => ⟨rfl, q⟩
  | i :: r, v :: vs, σ, H, Q, h, q => ⟨v, vs, rfl, gAll_ok r vs (σ.set i (some v)) H Q (by simpa using h) q⟩
theorem ptg_tp {es : List Expr} {k : Nat} {l : List Nat} (hc : X.calm = true) (hN : X.N.Nodup) (h : PTn X es l) (hn : (assignEach es X.env).length = l.length := by rfl) (hst : (assignEach es X.env).findIdx? (·.1) = none := by rfl) : PG X (.Tuple es k pos) (tTg X.K X.mg (.tp l)) := by
  refine PG.imp (pg_tup hc (h.pgs hN) hn hst) fun v σ H Q q => ?_
  obtain ⟨w, T, me, me', d, lv, dd, e, q⟩ := q
  unfold mTgt at e
  simp only at e
  split at e
  · split at e
    · rename_i ds hlt
      cases e
      cases dd with
      | @tup a xs ds hq hd =>
        refine ⟨a, xs, rfl, hq.sq, by rw [hd.length]; exact hlt.1, gAll_ok _ _ _ _ _ (by rw [hd.length]; exact hlt.1) (q xs ?_)⟩
        exact Lv.setAll l ds xs σ me.env hd (fun i hi => of_decide_eq_true (List.all_eq_true.mp hlt.2 i hi)) lv
    · cases e
  · cases e
end
end PL
namespace PL
open PySem PySem.Spec PyProof.Rows L2
/-! ### comprehensions -/
def wipeE (env : List (Option Sl)) : List Nat → List (Option Sl)
  | [] => env
  | v :: vs => (wipeE env vs).set v none
def wipeM (vs : List Nat) (m : Me) : Me := ⟨wipeE m.env vs, m.st⟩
def noX {α : Type} (r : Res α) : Res α := match r with
  | .exc _ _ => .bad
  | r => r
def compL (vs : List Nat) (t : Tg) (c : M Bool) (e : M Sl) : List PyData → M (List PyData)
  | [] => fun m => .ok [] m
  | d :: r => fun m => match mTgt t d m with
    | none => .bad
    | some m0 => (noX (c m0)).bind fun b m1 => if b = true then (noX (mDat e m1)).bind fun z m2 => (compL vs t c e r (wipeM vs m2)).bind fun zs m3 => .ok (z :: zs) m3 else compL vs t c e r (wipeM vs m1)
def mComp (vs : List Nat) (t : Tg) (it : M (List PyData)) (c : M Bool) (e : M Sl) : M (List PyData) := fun m => (it m).bind fun l m1 => if l.length ≤ 1000000 then noX (compL vs t c e l (wipeM vs m1)) else .bad
theorem wipeE_length (env : List (Option Sl)) : ∀ vs : List Nat, (wipeE env vs).length = env.length
  | [] => rfl
  | v :: vs => by unfold wipeE; rw [List.length_set, wipeE_length env vs]
theorem wipeE_get {env : List (Option Sl)} {i : Nat} {s : Sl} : ∀ {vs : List Nat}, (wipeE env vs)[i]? = some (some s) → env[i]? = some (some s) ∧ i ∉ vs
  | [], h => ⟨h, by simp⟩
  | v :: vs, h => by
    unfold wipeE at h
    by_cases hi : v = i
    · subst hi
      by_cases hv : v < (wipeE env vs).length
      · rw [List.getElem?_set_self hv] at h; cases h
      · rw [List.getElem?_eq_none (by simpa using hv)] at h; cases h
    · rw [List.getElem?_set_ne hi] at h
      obtain ⟨h1, h2⟩ := wipeE_get h
      exact ⟨h1, by simp only [List.mem_cons, not_or]; exact ⟨fun e => hi e.symm, h2⟩⟩
theorem wipe_out {σ : L2.St} {i : Nat} : ∀ {vs : List Nat}, i ∉ vs → (wipe σ vs)[i]? = σ[i]?
  | [], _ => rfl
  | v :: vs, h => by
    unfold wipe
    rw [List.getElem?_set_ne (fun e => h (by rw [e]; exact List.mem_cons_self))]
    exact wipe_out fun z => h (List.mem_cons_of_mem _ z)
theorem wipe_in {σ : L2.St} {i : Nat} : ∀ {vs : List Nat}, i ∈ vs → i < σ.length → (wipe σ vs)[i]? = some none
  | v :: vs, h, hl => by
    unfold wipe
    by_cases hi : v = i
    · subst hi
      rw [List.getElem?_set_self (by rw [wipe_length]; exact hl)]
    · rw [List.getElem?_set_ne hi]
      exact wipe_in ((List.mem_cons.mp h).elim (fun e => absurd e.symm hi) id) hl
theorem setV_length : ∀ (l : List Nat) (vs : List V) (σ : L2.St), (setV σ l vs).length = σ.length
  | [], _, _ => by unfold setV; rfl
  | _ :: _, [], _ => by unfold setV; rfl
  | i :: r, v :: vs, σ => by unfold setV; rw [setV_length r vs, List.length_set]
theorem setV_out : ∀ (l : List Nat) (vs : List V) (σ : L2.St) {i : Nat}, i ∉ l → (setV σ l vs)[i]? = σ[i]?
  | [], _, _, _, _ => by unfold setV; rfl
  | _ :: _, [], _, _, _ => by unfold setV; rfl
  | j :: r, v :: vs, σ, i, h => by
    unfold setV
    rw [setV_out r vs _ (fun z => h (List.mem_cons_of_mem _ z)), List.getElem?_set_ne (fun e => h (by rw [e]; exact List.mem_cons_self))]
theorem wipe_eq {σ σ' : L2.St} {vs : List Nat} (hl : σ'.length = σ.length) (h : ∀ i, i ∉ vs → σ'[i]? = σ[i]?) : wipe σ' vs = wipe σ vs := by
  apply List.ext_getElem?
  intro i
  by_cases hi : i ∈ vs
  · by_cases hk : i < σ.length
    · rw [wipe_in hi hk, wipe_in hi (by omega)]
    · rw [List.getElem?_eq_none (by rw [wipe_length]; omega), List.getElem?_eq_none (by rw [wipe_length]; omega)]
  · rw [wipe_out hi, wipe_out hi]
    exact h i hi
theorem setE_length : ∀ (l : List Nat) (ds : List PyData) (env : List (Option Sl)), (setE env l ds).length = env.length
  | [], _, _ => by unfold setE; rfl
  | _ :: _, [], _ => by unfold setE; rfl
  | i :: r, d :: ds, env => by unfold setE; rw [setE_length r ds, List.length_set]
theorem setE_own : ∀ (l : List Nat) (ds : List PyData) (env : List (Option Sl)), ds.length = l.length → ∀ (i : Nat) (x : List PyData), (setE env l ds)[i]? = some (some (Sl.own x)) → env[i]? = some (some (Sl.own x)) ∧ i ∉ l
  | [], _, _, _, i, x, h => by unfold setE at h; exact ⟨h, by simp⟩
  | j :: r, [], _, hl, _, _, _ => by simp at hl
  | j :: r, d :: ds, env, hl, i, x, h => by
    unfold setE at h
    obtain ⟨h1, h2⟩ := setE_own r ds _ (by simpa using hl) i x h
    have hij : j ≠ i := fun e => by
      subst e
      by_cases hj : j < env.length
      · rw [List.getElem?_set_self hj] at h1; cases h1
      · rw [List.getElem?_eq_none (by simpa using hj)] at h1; cases h1
    rw [List.getElem?_set_ne hij] at h1
    exact ⟨h1, by simp only [List.mem_cons, not_or]; exact ⟨fun e => hij e.symm, h2⟩⟩
theorem mTgt_shape {t : Tg} {d : PyData} {m m' : Me} (h : mTgt t d m = some m') : m'.env.length = m.env.length ∧ m'.st = m.st ∧ ∀ (i : Nat) (x : List PyData), m'.env[i]? = some (some (Sl.own x)) → m.env[i]? = some (some (Sl.own x)) ∧ i ∉ t.slots := by
  unfold mTgt at h
  cases t with
  | nm j =>
    simp only at h
    split at h
    · rename_i hj
      cases h
      refine ⟨by simp, rfl, fun i x e => ?_⟩
      have hij : j ≠ i := fun q => by
        subst q
        rw [List.getElem?_set_self hj] at e; cases e
      rw [List.getElem?_set_ne hij] at e
      exact ⟨e, by unfold Tg.slots; simp only [List.mem_singleton]; exact fun q => hij q.symm⟩
    · cases h
  | tp l =>
    simp only at h
    split at h
    · split at h
      · rename_i ds hq
        cases h
        exact ⟨setE_length _ _ _, rfl, fun i x e => setE_own l ds _ hq.1 i x e⟩
      · cases h
    · cases h
/-- slots forgotten, or taken back -/
theorem Lv.forget {K : PySem.W.Frag} {mg : Str → Option Value} {w : Wd} {T : Addr → Prop} {σ σ' : L2.St} {H : Hp} {me : Me} {vs : List Nat} (lv : Lv K mg w T σ H me) (hl : σ'.length = σ.length) (h : ∀ i, i ∉ vs → σ'[i]? = σ[i]?) : Lv K mg w T σ' H (wipeM vs me) := by
  refine ⟨lv.t0, lv.al, lv.ex, lv.src, by show σ'.length = (wipeE me.env vs).length; rw [wipeE_length, hl]; exact lv.len, fun i s hi => ?_, fun i j l l' p h1 h2 e1 e2 => ?_⟩
  · obtain ⟨a, b⟩ := wipeE_get hi
    rw [h i b]
    exact lv.slot i s a
  · obtain ⟨a1, b1⟩ := wipeE_get h1
    obtain ⟨a2, b2⟩ := wipeE_get h2
    rw [h i b1] at e1
    rw [h j b2] at e2
    exact lv.sep i j l l' p a1 a2 e1 e2
/-- an object of our own that is no slot's is changed -/
theorem Lv.mut {K : PySem.W.Frag} {mg : Str → Option Value} {w : Wd} {T : Addr → Prop} {σ : L2.St} {H : Hp} {me : Me} {p : Addr} {o : HO} (ok : w.Ok) (lv : Lv K mg w T σ H me) (tp : T p) (h0 : w.H0 p = none) (no : ∀ (i : Nat) (l' : List PyData), me.env[i]? = some (some (Sl.own l')) → σ[i]? ≠ some (some (V.ref p))) : Lv K mg w T σ (upd H p o) me := by
  have ns : ¬ InS w.sc p := fun z => ok.al p (ok.s0 p z) h0
  have fr : Fr T H T (upd H p o) := fun b u n h => ⟨by rw [upd_ne (fun e => n (by rw [e]; exact tp))]; exact h, n⟩
  refine ⟨lv.t0, fun b hb => ?_, fun b u n h => ?_, fun a c e => ?_, lv.len, fun i s hi => (lv.slot i s hi).fr fr fun q vs l es eq hq tq => ⟨tq, ?_⟩, lv.sep⟩
  · by_cases hbp : b = p
    · subst hbp; rw [upd_same]; exact nofun
    · rw [upd_ne hbp]; exact lv.al b hb
  · rw [upd_ne (fun e => by subst e; rw [h0] at h; cases h)]
    exact lv.ex b u n h
  · obtain ⟨n, h1, h2⟩ := lv.src a c e
    have na : a ≠ p := fun z => ns ⟨a, c, e, .inl z.symm⟩
    have nc : c ≠ p := fun z => ns ⟨a, c, e, .inr z.symm⟩
    exact ⟨n, by rw [upd_ne na]; exact h1, by rw [upd_ne nc]; exact h2⟩
  · subst es
    rw [upd_ne (fun e => by subst e; exact no i l hi eq)]
    exact hq
structure CI (K : PySem.W.Frag) (mg : Str → Option Value) (w : Wd) (vs : List Nat) (σw : L2.St) (Tb : Addr → Prop) (Hb : Hp) (mb : Me) (D : Addr) (T : Addr → Prop) (H : Hp) (m : Me) (acc : List V) (done : List PyData) : Prop where
  lv : Lv K mg w T σw H m
  wp : ∀ (i : Nat) (s : Sl), m.env[i]? = some (some s) → i ∉ vs
  dT : T D
  hD : H D = some (.lst acc)
  dd : DDs K T H acc done
  fr : Fr Tb Hb T H
  ex : ∀ b o, ¬ InS w.sc b → b ≠ D → Hb b = some o → H b = some o
  sub : ∀ b, T b → Tb b
  fz : ∀ b, Tb b → ¬ T b → ∃ (i : Nat) (l : List PyData), mb.env[i]? = some (some (Sl.own l)) ∧ σw[i]? = some (some (V.ref b))
  mono : ∀ (i : Nat) (l : List PyData), m.env[i]? = some (some (Sl.own l)) → mb.env[i]? = some (some (Sl.own l))
theorem noX_ok {α : Type} {r : Res α} {a : α} {m : Me} (h : noX r = .ok a m) : r = .ok a m := by
  cases r with
  | ok a m => exact h
  | exc x m => cases h
  | bad => cases h
theorem bind_ok {α β : Type} {r : Res α} {k : α → Me → Res β} {b : β} {m' : Me} (h : r.bind k = .ok b m') : ∃ a m, r = .ok a m ∧ k a m = .ok b m' := by
  cases r with
  | ok a m => exact ⟨a, m, rfl, h⟩
  | exc x m => cases h
  | bad => cases h
theorem mDat_ok {a : M Sl} {m m' : Me} {d : PyData} (h : mDat a m = .ok d m') : a m = .ok (.dat d) m' := by
  unfold mDat at h
  obtain ⟨s, m1, e, h⟩ := bind_ok h
  cases s with
  | dat d => cases h; exact e
  | own l => cases h
  | src => cases h
  | exc x => cases h
section
variable {X : Cx} {W : WX} {pos : Pos} {tg a b c e : Expr} {es rest : List Expr}
theorem CI.turn {K : PySem.W.Frag} {mg : Str → Option Value} {w : Wd} {σ : L2.St} {vs : List Nat} {Tb : Addr → Prop} {Hb : Hp} {mb : Me} {D : Addr} {T : Addr → Prop} {H H' : Hp} {m mF : Me} {acc : List V} {done zs : List PyData} {t : Tg} {cn : M Bool} {el : M Sl} {d : PyData} {r : List PyData} {x : V}
    (ok : w.Ok) (hsub : ∀ i ∈ t.slots, i ∈ vs) (h0 : w.H0 D = none) (noD : ∀ (i : Nat) (l' : List PyData), mb.env[i]? = some (some (Sl.own l')) → (wipe σ vs)[i]? ≠ some (some (V.ref D)))
    (I : CI K mg w vs (wipe σ vs) Tb Hb mb D T H m acc done) (sm : Same0 H H') (dx : DD K T H' x d) (hz : acc.length < sizeLine) (run : compL vs t cn el (d :: r) m = .ok zs mF)
    (Pn : Hp → Prop) (hP : ∀ T2 H2 m2 acc2 done2 zs2, CI K mg w vs (wipe σ vs) Tb Hb mb D T2 H2 m2 acc2 done2 → compL vs t cn el r m2 = .ok zs2 mF → done2 ++ zs2 = done ++ zs → acc2.length ≤ acc.length + 1 → Pn H2) :
    tTg K mg t x (wipe σ vs) H' fun σ2 H2 => wipe σ2 vs = wipe σ vs ∧ tPt K mg W0 cn σ2 H2 fun b H3 =>
      if b = true then tP K mg W0 el σ2 H3 fun y H4 => ∃ acc, H4 D = some (.lst acc) ∧ acc.length < sizeLine ∧ Pn (upd H4 D (.lst (acc ++ [y]))) else Pn H3 := by
  unfold compL at run
  cases ht : mTgt t d m with
  | none => rw [ht] at run; cases run
  | some m0 =>
    rw [ht] at run
    obtain ⟨bl, m1, hc, run⟩ := bind_ok run
    have hc := noX_ok hc
    obtain ⟨hlen, hst, hown⟩ := mTgt_shape ht
    have ns : ¬ InS w.sc D := fun z => ok.al D (ok.s0 D z) h0
    refine ⟨w, T, m, m0, d, I.lv.same sm, dx, ht, fun us lv0 => ?_⟩
    have slen : (setV (L2.wipe σ vs) t.slots us).length = (L2.wipe σ vs).length := setV_length _ _ _
    have sout : ∀ i, i ∉ vs → (setV (L2.wipe σ vs) t.slots us)[i]? = (L2.wipe σ vs)[i]? := fun i hi => setV_out _ _ _ fun z => hi (hsub i z)
    have soutS : ∀ i, i ∉ t.slots → (setV (L2.wipe σ vs) t.slots us)[i]? = (L2.wipe σ vs)[i]? := fun i hi => setV_out _ _ _ hi
    have wback : ∀ i, i ∉ vs → (L2.wipe σ vs)[i]? = (setV (L2.wipe σ vs) t.slots us)[i]? := fun i hi => (sout i hi).symm
    have weq : L2.wipe (setV (L2.wipe σ vs) t.slots us) vs = L2.wipe σ vs := by
      rw [wipe_eq (σ := L2.wipe σ vs) slen sout]
      exact wipe_eq (wipe_length _ _) fun i hi => PL.wipe_out hi
    refine ⟨weq, ?_⟩
    refine ⟨w, T, m0, ok, lv0, ?_⟩
    rw [hc]
    intro v H3 T3 s3 lv3 ev
    subst ev
    have D3 : H3 D = some (.lst acc) := s3.ex D _ ns (sm _ _ I.hD)
    have ownBack : ∀ (mm : Me), (∀ (i : Nat) (l : List PyData), mm.env[i]? = some (some (Sl.own l)) → m0.env[i]? = some (some (Sl.own l))) → ∀ (i : Nat) (l : List PyData), mm.env[i]? = some (some (Sl.own l)) → mb.env[i]? = some (some (Sl.own l)) ∧ i ∉ t.slots := fun mm q i l hi => by
      obtain ⟨a1, a2⟩ := hown i l (q i l hi)
      exact ⟨I.mono i l a1, a2⟩
    have keepD : ∀ (T' : Addr → Prop), (∀ b, T b → ¬ T' b → ∃ (i : Nat) (l : List PyData), m0.env[i]? = some (some (Sl.own l)) ∧ (setV (L2.wipe σ vs) t.slots us)[i]? = some (some (V.ref b))) → T' D := fun T' q => Classical.byContradiction fun n => by
      obtain ⟨i, l, e1, e2⟩ := q D I.dT n
      obtain ⟨a1, a2⟩ := ownBack m0 (fun _ _ z => z) i l e1
      rw [soutS i a2] at e2
      exact noD i l a1 e2
    have fzAll : ∀ (T' : Addr → Prop), (∀ b, T b → ¬ T' b → ∃ (i : Nat) (l : List PyData), m0.env[i]? = some (some (Sl.own l)) ∧ (setV (L2.wipe σ vs) t.slots us)[i]? = some (some (V.ref b))) → ∀ b, Tb b → ¬ T' b → ∃ (i : Nat) (l : List PyData), mb.env[i]? = some (some (Sl.own l)) ∧ (L2.wipe σ vs)[i]? = some (some (V.ref b)) := fun T' q b hb n => by
      by_cases hT : T b
      · obtain ⟨i, l, e1, e2⟩ := q b hT n
        obtain ⟨a1, a2⟩ := ownBack m0 (fun _ _ z => z) i l e1
        rw [soutS i a2] at e2
        exact ⟨i, l, a1, e2⟩
      · exact I.fz b hb hT
    have fr0 : Fr Tb Hb T H' := I.fr.trans sm.fr
    cases v with
    | false =>
      rw [if_neg Bool.false_ne_true] at run ⊢
      have lv4 := (lv3.forget (σ' := L2.wipe σ vs) (vs := vs) slen.symm wback)
      refine hP T3 H3 (wipeM vs m1) acc done zs ⟨lv4, fun i s h => (wipeE_get h).2, keepD T3 s3.fz, D3, (I.dd.to sm.fr).to (s3.fr ok lv0.t0), fr0.trans (s3.fr ok lv0.t0), fun b o nb nD h => s3.ex b o nb (sm b o (I.ex b o nb nD h)), fun b h => I.sub b (s3.sub b h), fzAll T3 s3.fz, fun i l h => ?_⟩ run rfl (Nat.le_succ _)
      obtain ⟨h1, h2⟩ := wipeE_get h
      exact (ownBack m1 s3.mono i l h1).1
    | true =>
      rw [if_pos rfl] at run ⊢
      obtain ⟨z, m2, hel, run⟩ := bind_ok run
      have hel := noX_ok hel
      obtain ⟨zs2, mF2, hrec, e5⟩ := bind_ok run
      cases e5
      have q4 : ∀ (y : V) (T4 : Addr → Prop) (H4 : Hp), Stp w (setV (L2.wipe σ vs) t.slots us) T3 H3 m1 T4 H4 m2 → Lv K mg w T4 (setV (L2.wipe σ vs) t.slots us) H4 m2 → DD K T4 H4 y z → ∃ acc, H4 D = some (.lst acc) ∧ acc.length < sizeLine ∧ Pn (upd H4 D (.lst (acc ++ [y]))) := fun y T4 H4 s4 lv4 dy => by
        have s34 := s3.trans s4
        have D4 : H4 D = some (.lst acc) := s4.ex D _ ns D3
        have tD4 : T4 D := keepD T4 s34.fz
        have lv5 := (lv4.forget (σ' := L2.wipe σ vs) (vs := vs) slen.symm wback)
        have mono5 : ∀ (i : Nat) (l : List PyData), (wipeM vs m2).env[i]? = some (some (Sl.own l)) → mb.env[i]? = some (some (Sl.own l)) := fun i l h => (ownBack m2 s34.mono i l (wipeE_get h).1).1
        have lv6 := lv5.mut (o := .lst (acc ++ [y])) ok tD4 h0 fun i l h => noD i l (mono5 i l h)
        have frU : Fr T4 H4 T4 (L2.upd H4 D (.lst (acc ++ [y]))) := fun b u n h => ⟨by rw [upd_ne (fun e => n (by rw [e]; exact tD4))]; exact h, n⟩
        have frA : Fr T H' T4 H4 := s34.fr ok lv0.t0
        refine ⟨acc, D4, hz, hP T4 _ (wipeM vs m2) (acc ++ [y]) (done ++ [z]) zs2 ⟨lv6, fun i s h => (wipeE_get h).2, tD4, upd_same, DDs.append (DDs.cons (dy.to frU) .nil) (((I.dd.to sm.fr).to frA).to frU), (fr0.trans frA).trans frU, fun b o nb nD h => ?_, fun b h => I.sub b (s34.sub b h), fzAll T4 s34.fz, mono5⟩ hrec (by simp) (by simp)⟩
        rw [upd_ne nD]
        exact s34.ex b o nb (sm b o (I.ex b o nb nD h))
      refine ⟨w, T3, m1, ok, lv3, ?_⟩
      rw [mDat_ok hel]
      exact fun y H4 T4 s4 lv4 dy => q4 y T4 H4 s4 lv4 dy
/-- the list comprehension as a new list -/
theorem tLc_ok {vs : List Nat} {t : Tg} {it : M (List PyData)} {cn : M Bool} {el : M Sl} {σ : L2.St} {H : Hp} {Q : VK} (hsub : ∀ i ∈ t.slots, i ∈ vs) (q : tN X.K X.mg W (mComp vs t it cn el) σ H Q) :
    tLc (tR X.K X.mg W (fun _ T H J items => Wk X.K T H J items) it) (tTg X.K X.mg t) (tPt X.K X.mg W0 cn) (tP X.K X.mg W0 el) vs σ H Q := by
  obtain ⟨w, T, me, ok, lv, q⟩ := q
  unfold mComp at q
  refine ⟨w, T, me, ok, lv, ?_⟩
  cases hm : it me with
  | bad => rw [hm] at q; exact q
  | exc x me1 => rw [hm] at q; exact q
  | ok l m1 =>
    rw [hm] at q
    simp only [Res.bind_ok] at q
    by_cases hl : l.length ≤ 1000000
    · rw [if_pos hl] at q
      intro J H1 T1 s1 lv1 wk D hD
      cases hrun : compL vs t cn el l (wipeM vs m1) with
      | bad => rw [hrun] at q; exact q.elim
      | exc x m2 => rw [hrun] at q; exact q.elim
      | ok zs mF =>
        rw [hrun] at q
        obtain ⟨f0, f1, f2⟩ := lv1.fresh ok hD
        obtain ⟨G, Y, wa, hG, hY⟩ := wk.ex
        have sout : ∀ i, i ∉ vs → (L2.wipe σ vs)[i]? = σ[i]? := fun i hi => PL.wipe_out hi
        have lvb : Lv X.K X.mg w (fun b => T1 b ∨ b = D) (L2.wipe σ vs) (L2.upd H1 D (.lst [])) (wipeM vs m1) := (lv1.grow hD).forget (wipe_length _ _) sout
        have noD : ∀ (i : Nat) (l' : List PyData), (wipeM vs m1).env[i]? = some (some (Sl.own l')) → (L2.wipe σ vs)[i]? ≠ some (some (V.ref D)) := fun i l' h e => by
          obtain ⟨a1, a2⟩ := wipeE_get h
          rw [sout i a2] at e
          exact lv1.noRef hD i l' a1 e
        have frb : Fr T1 H1 (fun b => T1 b ∨ b = D) (L2.upd H1 D (.lst [])) := fun b u n hu => ⟨Same0.new hD b u hu, fun z => z.elim n fun e => by subst e; rw [hD] at hu; cases hu⟩
        refine lc_it wa (fun i H' => ∃ (T' : Addr → Prop) (m' : Me) (acc : List V) (done zs' : List PyData), CI X.K X.mg w vs (L2.wipe σ vs) (fun b => T1 b ∨ b = D) (L2.upd H1 D (.lst [])) (wipeM vs m1) D T' H' m' acc done ∧ compL vs t cn el (l.drop i) m' = .ok zs' mF ∧ done ++ zs' = zs ∧ acc.length ≤ i)
          ⟨_, _, [], [], zs, ⟨lvb, fun i s h => (wipeE_get h).2, .inr rfl, upd_same, .nil, Fr.refl _ _, fun _ _ _ _ h => h, fun _ h => h, fun _ a b => absurd a b, fun _ _ h => h⟩, by rw [List.drop_zero]; exact hrun, rfl, Nat.le_refl _⟩ (fun i H' _ p => ?_) (fun i x H' H'' hi p y => ?_) (fun H' p => ?_)
        · obtain ⟨T', m', acc, done, zs', I, _⟩ := p
          exact hG T' H' (frb.trans I.fr)
        · obtain ⟨T', m', acc, done, zs', I, run, ez, la⟩ := p
          obtain ⟨sm, d, ed, dx⟩ := hY T' H' i x H'' (frb.trans I.fr) I.lv.al hi y
          have hdrop : l.drop i = d :: l.drop (i + 1) := by
            rw [List.getElem?_eq_getElem hi] at ed
            rw [List.drop_eq_getElem_cons hi, Option.some.inj ed]
          rw [hdrop] at run
          have hz : acc.length < sizeLine := by
            have : i < 1000000 := by omega
            have e : sizeLine = 16777216 := sizeLine_eq
            omega
          refine CI.turn ok hsub f0 noD I sm dx hz run _ fun T2 H2 m2 acc2 done2 zs2 I2 run2 e2 l2 => ?_
          exact ⟨T2, m2, acc2, done2, zs2, I2, run2, e2.trans ez, by omega⟩
        · obtain ⟨T', m', acc, done, zs', I, run, ez, la⟩ := p
          have hd0 : l.drop l.length = [] := List.drop_length
          rw [hd0] at run
          cases run
          rw [List.append_nil] at ez
          subst ez
          have no2 : ∀ (i : Nat) (l' : List PyData), mF.env[i]? = some (some (Sl.own l')) → σ[i]? ≠ some (some (V.ref D)) := fun i l' h e => by
            obtain ⟨a1, a2⟩ := wipeE_get (I.mono i l' h)
            exact lv1.noRef hD i l' a1 e
          have eT : (fun b => (T' b ∧ b ≠ D) ∨ b = D) = T' := funext fun b => propext ⟨fun z => z.elim (fun z => z.1) fun e => by rw [e]; exact I.dT, fun z => (Classical.em (b = D)).elim .inr fun n => .inl ⟨z, n⟩⟩
          have lvF : Lv X.K X.mg w T' σ H' mF := by
            refine ⟨I.lv.t0, I.lv.al, I.lv.ex, I.lv.src, by rw [← I.lv.len, wipe_length], fun i s hi => ?_, fun i j l1 l2 p h1 h2 e1 e2 => ?_⟩
            · rw [← sout i (I.wp i s hi)]
              exact I.lv.slot i s hi
            · rw [← sout i (I.wp i _ h1)] at e1
              rw [← sout j (I.wp j _ h2)] at e2
              exact I.lv.sep i j l1 l2 p h1 h2 e1 e2
          have exAll : Ex w.sc H H' := s1.ex.trans fun b o nb h => I.ex b o nb (fun e => by subst e; rw [hD] at h; cases h) (Same0.new hD b o h)
          refine q D acc (fun b => T' b ∧ b ≠ D) H' ⟨⟨exAll, fun b h => s1.sub b ((I.sub b h.1).elim id fun e => absurd e h.2), fun b hb nb => ?_, fun i l' h => s1.mono i l' (wipeE_get (I.mono i l' h)).1⟩, by rw [eT]; exact lvF, I.hD, fun z => z.2 rfl, f0, by rw [eT]; exact I.dd, no2, by rw [eT]; exact ((s1.fr ok lv.t0).trans frb).trans I.fr⟩
          by_cases h1 : T1 b
          · have nT' : ¬ T' b := fun z => nb ⟨z, fun e => f1 (by rw [← e]; exact h1)⟩
            obtain ⟨i, l', e1, e2⟩ := I.fz b (.inl h1) nT'
            obtain ⟨a1, a2⟩ := wipeE_get e1
            rw [sout i a2] at e2
            exact ⟨i, l', s1.mono i l' a1, e2⟩
          · exact s1.fz b hb h1
    · rw [if_neg hl] at q
      exact q.elim
theorem pn_lc {vs : List Nat} {t : Tg} {it : M (List PyData)} {cn : M Bool} {el : M Sl} {elt iter : Expr} {ifs : List Expr} {scope : Scope} {own : List (Str × Nat)} (hc : X.calm = true) (hN : X.N.Nodup) (hi : PIt X W tg iter it) (ok : BlkOk X.N X.env.scope scope own) (hv : own.map (·.2) = vs) (hsub : ∀ i ∈ t.slots, i ∈ vs)
    (hg : ∀ (s : Shared) (H : Hp) (C : Addr) (cl : List (Str × Addr)) (fp : List Addr), PG (X.blk s H scope (compEnvC scope cl C X.env) fp) tg (tTg X.K X.mg t)) (ht : ∀ (s : Shared) (H : Hp) (C : Addr) (cl : List (Str × Addr)) (fp : List Addr), PTs (X.blk s H scope (compEnvC scope cl C X.env) fp) ifs (tPt X.K X.mg W0 cn))
    (he : ∀ (s : Shared) (H : Hp) (C : Addr) (cl : List (Str × Addr)) (fp : List Addr), PE (X.blk s H scope (compEnvC scope cl C X.env) fp) elt (tP X.K X.mg W0 el)) (hs : ∀ x, foldedSetIterable iter X.env x = pure x := by intro _; rfl) :
    PN X W (.ListComp elt [⟨tg, iter, ifs, 0⟩] scope pos) (mComp vs t it cn el) :=
  PE.imp (pe_lc hc hN hi ok hg ht he hs) fun σ H Q q => by rw [hv]; exact tLc_ok hsub q
def mYes : M Bool := fun m => .ok true m
theorem pts_yes {K : PySem.W.Frag} {mg : Str → Option Value} {Y : Cx} : PTs Y [] (tPt K mg W mYes) := ⟨fun pins s σ H Q I q => by
  obtain ⟨w, T, me, ok, lv, q⟩ := q
  exact pts_nil.run pins s σ H Q I (Rn.pure lv q rfl)⟩
theorem pts_if {K : PySem.W.Frag} {mg : Str → Option Value} {Y : Cx} {c : Expr} {m : M Bool} (h : PT Y c (tPt K mg W m)) : PTs Y [c] (tPt K mg W m) := pts_one h
end
end PL
namespace PL
open PySem PySem.Spec PyProof.Rows L2
/-! ### statements -/
def SRn (K : PySem.W.Frag) (mg : Str → Option Value) (W : WX) (D : Ends) (w : Wd) (T : Addr → Prop) (H : Hp) (r : Res Flow) : Prop := match r with
  | .ok .next me' => ∀ (σ' : L2.St) (H' : Hp) (T' : Addr → Prop), Fr T H T' H' → Lv K mg w T' σ' H' me' → D.nx σ' H'
  | .ok .brk me' => ∀ (σ' : L2.St) (H' : Hp) (T' : Addr → Prop), Fr T H T' H' → Lv K mg w T' σ' H' me' → D.bk σ' H'
  | .ok .cont me' => ∀ (σ' : L2.St) (H' : Hp) (T' : Addr → Prop), Fr T H T' H' → Lv K mg w T' σ' H' me' → D.ct σ' H'
  | .ok (.ret s) me' => ∀ (v : V) (H' : Hp), Ex w.sc w.H0 H' → SrcAt w.sc H' me'.st → SV K mg w.sc w.T0 H' v s → D.rt v H'
  | .exc x me' => ∀ (c : Value) (dd : Option Addr) (σ' : L2.St) (H' : Hp) (T' : Addr → Prop), Fr T H T' H' → Lv K mg w T' σ' H' me' → XR K mg T' H' c dd x → W c dd σ' H'
  | .bad => False
def tS (K : PySem.W.Frag) (mg : Str → Option Value) (W : WX) (m : M Flow) : TS := fun D σ H => ∃ (w : Wd) (T : Addr → Prop) (me : Me), w.Ok ∧ Lv K mg w T σ H me ∧ SRn K mg W D w T H (m me)
theorem SRn.after {K : PySem.W.Frag} {mg : Str → Option Value} {W : WX} {D : Ends} {w : Wd} {T T1 : Addr → Prop} {H H1 : Hp} {r : Res Flow} (f : Fr T H T1 H1) (q : SRn K mg W D w T H r) : SRn K mg W D w T1 H1 r := by
  cases r with
  | bad => exact q
  | exc x m => exact fun c dd σ' H' T' fr lv xr => q c dd σ' H' T' (f.trans fr) lv xr
  | ok fl m =>
    cases fl with
    | next => exact fun σ' H' T' fr lv => q σ' H' T' (f.trans fr) lv
    | brk => exact fun σ' H' T' fr lv => q σ' H' T' (f.trans fr) lv
    | cont => exact fun σ' H' T' fr lv => q σ' H' T' (f.trans fr) lv
    | ret s => exact q
/-- first m, then the rest of a statement -/
theorem SRn.seq {α β : Type} {K : PySem.W.Frag} {mg : Str → Option Value} {W : WX} {P : Wd → (Addr → Prop) → Hp → β → α → Prop} {m : M α} {k : α → Me → Res Flow} {σ : L2.St} {H : Hp} {D : Ends} {Q' : β → Hp → Prop}
    {w : Wd} {T : Addr → Prop} {me : Me} (ok : w.Ok) (lv : Lv K mg w T σ H me) (h : SRn K mg W D w T H ((m me).bind k))
    (f : ∀ (T1 : Addr → Prop) (me1 : Me) (v : β) (x : α) (H1 : Hp), Stp w σ T H me T1 H1 me1 → Lv K mg w T1 σ H1 me1 → P w T1 H1 v x → SRn K mg W D w T1 H1 (k x me1) → Q' v H1) : tR K mg W P m σ H Q' := by
  refine ⟨w, T, me, ok, lv, ?_⟩
  cases hm : m me with
  | bad => rw [hm] at h; exact h
  | exc x me1 =>
    rw [hm] at h
    exact fun c dd H' T' fr lv' xr => h c dd σ H' T' fr lv' xr
  | ok x me1 =>
    rw [hm] at h
    simp only [Res.bind_ok] at h
    exact fun v H1 T1 s1 lv1 p1 => f T1 me1 v x H1 s1 lv1 p1 (h.after (s1.fr ok lv.t0))
theorem SRn.nx {K : PySem.W.Frag} {mg : Str → Option Value} {W : WX} {D : Ends} {w : Wd} {T : Addr → Prop} {σ : L2.St} {H : Hp} {me : Me} (lv : Lv K mg w T σ H me) (h : SRn K mg W D w T H (.ok .next me)) : D.nx σ H := h σ H T (Fr.refl _ _) lv

def mNext : M Flow := fun m => .ok .next m
def mBrk : M Flow := fun m => .ok .brk m
def mCont : M Flow := fun m => .ok .cont m
def mSeq (a b : M Flow) : M Flow := fun m => (a m).bind fun f m1 => match f with
  | .next => b m1
  | f => .ok f m1
def mIfS (c : M Bool) (a b : M Flow) : M Flow := fun m => (c m).bind fun x m1 => if x = true then a m1 else b m1
def putE (i : Nat) (s : Sl) (m : Me) : Option Me := match s with
  | .own _ => none
  | s => if i < m.env.length then some { m with env := m.env.set i (some s) } else none
def mSet (i : Nat) (e : M Sl) : M Flow := fun m => (e m).bind fun s m1 => match putE i s m1 with
  | some m2 => .ok .next m2
  | none => .bad
def mSetN (i : Nat) (e : M (List PyData)) : M Flow := fun m => (e m).bind fun l m1 => if i < m1.env.length then .ok .next { m1 with env := m1.env.set i (some (.own l)) } else .bad
def mAsg (t : Tg) (e : M Sl) : M Flow := fun m => (mDat e m).bind fun d m1 => match mTgt t d m1 with
  | some m2 => .ok .next m2
  | none => .bad
def mDrop (e : M Sl) : M Flow := fun m => (e m).bind fun _ m1 => .ok .next m1
def mRet (e : M Sl) : M Flow := fun m => (e m).bind fun s m1 => .ok (.ret s) m1
def mRetN : M Flow := fun m => .ok (.ret (.dat .none)) m
def mRaise (x : Xn) : M Flow := fun m => .exc x m
def mApp (i : Nat) (e : M Sl) : M Flow := fun m => match m.env[i]? with
  | some (some (.own l)) => (mDat e m).bind fun d m1 => match m1.env[i]? with
    | some (some (.own l)) => if l.length < sizeLine then .ok .next { m1 with env := m1.env.set i (some (.own (l ++ [d]))) } else .bad
    | _ => .bad
  | _ => .bad
def mAug (f : Int → Int → Int) (i : Nat) (e : M PyData) : M Flow := fun m => match m.env[i]? with
  | some (some (.dat (.int a))) => (e m).bind fun d m1 => match d with
    | .int b => .ok .next { m1 with env := m1.env.set i (some (.dat (.int (f a b)))) }
    | _ => .bad
  | _ => .bad
def forL (t : Tg) (b : M Flow) : List PyData → M Flow
  | [] => fun m => .ok .next m
  | d :: r => fun m => match mTgt t d m with
    | none => .bad
    | some m0 => (b m0).bind fun f m1 => match f with
      | .next => forL t b r m1
      | .cont => forL t b r m1
      | .brk => .ok .next m1
      | .ret s => .ok (.ret s) m1
def mFor (t : Tg) (it : M (List PyData)) (b : M Flow) : M Flow := fun m => (it m).bind fun l m1 => forL t b l m1
def whileN (c : M Bool) (b : M Flow) : Nat → M Flow
  | 0 => fun _ => .bad
  | n + 1 => fun m => (c m).bind fun k m1 => if k = true then (b m1).bind fun f m2 => match f with
      | .next => whileN c b n m2
      | .cont => whileN c b n m2
      | .brk => .ok .next m2
      | .ret s => .ok (.ret s) m2
    else .ok .next m1
section
variable {X : Cx} {W : WX} {pos : Pos} {tg a b c e : Expr} {es : List Expr} {st : Stmt} {rest body : List Stmt}
abbrev PPS (X : Cx) (W : WX) (s : Stmt) (m : M Flow) : Prop := PS X s (tS X.K X.mg W m)
abbrev PPSs (X : Cx) (W : WX) (s : List Stmt) (m : M Flow) : Prop := PSs X s (tS X.K X.mg W m)
theorem ppss_nil : PPSs X W [] mNext := PSs.imp pss_nil fun D σ H q => by
  obtain ⟨w, T, me, ok, lv, q⟩ := q
  exact q.nx lv
theorem ppss_one {m : M Flow} (h : PPS X W st m) : PPSs X W [st] m := pss_one h
theorem ppss_cons {m n : M Flow} (h : PPS X W st m) (hr : PPSs X W rest n) : PPSs X W (st :: rest) (mSeq m n) := by
  refine PSs.imp (pss_cons h hr) fun D σ H q => ?_
  obtain ⟨w, T, me, ok, lv, q⟩ := q
  refine ⟨w, T, me, ok, lv, ?_⟩
  unfold mSeq at q
  cases hm : m me with
  | bad => rw [hm] at q; exact q
  | exc x me1 => rw [hm] at q; exact q
  | ok f me1 =>
    rw [hm] at q
    simp only [Res.bind_ok] at q
    cases f with
    | next => exact fun σ' H' T' fr lv' => ⟨w, T', me1, ok, lv', q.after fr⟩
    | brk => exact q
    | cont => exact q
    | ret s => exact q
theorem pps_pass : PPS X W (.Pass pos) mNext := PS.imp ps_pass fun D σ H q => by
  obtain ⟨w, T, me, ok, lv, q⟩ := q
  exact q.nx lv
theorem pps_break : PPS X W (.Break pos) mBrk := PS.imp ps_break fun D σ H q => by
  obtain ⟨w, T, me, ok, lv, q⟩ := q
  exact q σ H T (Fr.refl _ _) lv
theorem pps_continue : PPS X W (.Continue pos) mCont := PS.imp ps_continue fun D σ H q => by
  obtain ⟨w, T, me, ok, lv, q⟩ := q
  exact q σ H T (Fr.refl _ _) lv
theorem pps_if {cn : M Bool} {m n : M Flow} {sa sb : List Stmt} (hc : PPt X W c cn) (ha : PPSs X W sa m) (hb : PPSs X W sb n) : PPS X W (.If c sa sb pos) (mIfS cn m n) := by
  refine PS.imp (ps_if hc ha hb) fun D σ H q => ?_
  obtain ⟨w, T, me, ok, lv, q⟩ := q
  refine SRn.seq ok lv q fun T1 me1 v x H1 s1 lv1 p1 q1 => ?_
  subst p1
  cases v with
  | true =>
    rw [if_pos rfl] at q1 ⊢
    exact ⟨w, T1, me1, ok, lv1, q1⟩
  | false =>
    rw [if_neg Bool.false_ne_true] at q1 ⊢
    exact ⟨w, T1, me1, ok, lv1, q1⟩
theorem putE_ok {K : PySem.W.Frag} {mg : Str → Option Value} {w : Wd} {T : Addr → Prop} {σ : L2.St} {H : Hp} {me me' : Me} {i : Nat} {v : V} {s : Sl} (lv : Lv K mg w T σ H me) (sv : SV K mg w.sc T H v s) (e : putE i s me = some me') : Lv K mg w T (σ.set i (some v)) H me' := by
  unfold putE at e
  split at e
  · exact sv.elim
  · split at e
    · rename_i hno hi
      cases e
      refine lv.set hi ?_ (fun l z => hno l z)
      cases s with
      | own l => exact sv.elim
      | dat d => exact ⟨v, rfl, sv⟩
      | src => exact ⟨v, rfl, sv⟩
      | exc x => exact ⟨v, rfl, sv⟩
    · cases e
theorem pps_set {m : M Sl} {i : Nat} {x : Str} {pos' : Pos} (hN : X.N.Nodup) (he : PP X W e m) (hi : X.N[i]? = some x := by rfl) (hx : Loc X.env.scope x := by first | exact .inl rfl | exact .inr rfl) (hs : swapsWith e (some (.Name x pos')) pos.line X.env = pure false := by rfl)
    (hf : X.fn x = true ∨ X.env.scope.names.lookup x = some .local := by first | exact .inl rfl | exact .inr rfl) : PPS X W (.Assign [.Name x pos'] e pos) (mSet i m) := by
  refine PS.imp (ps_set hN hi hx he hs hf) fun D σ H q => ?_
  obtain ⟨w, T, me, ok, lv, q⟩ := q
  refine SRn.seq ok lv q fun T1 me1 v s H1 s1 lv1 p1 q1 => ?_
  cases hp : putE i s me1 with
  | none => rw [hp] at q1; exact q1.elim
  | some m2 =>
    rw [hp] at q1
    exact q1.nx (putE_ok lv1 p1 hp)
theorem Lv.setOwn {K : PySem.W.Frag} {mg : Str → Option Value} {w : Wd} {T : Addr → Prop} {σ : L2.St} {H : Hp} {me : Me} (lv : Lv K mg w T σ H me) {i : Nat} {p : Addr} {vs : List V} {l : List PyData} (hi : i < me.env.length) (tp : T p) (h0 : w.H0 p = none) (hp : H p = some (.lst vs)) (hd : DDs K T H vs l)
    (no : ∀ (j : Nat) (l' : List PyData), j ≠ i → me.env[j]? = some (some (Sl.own l')) → σ[j]? ≠ some (some (V.ref p))) : Lv K mg w T (σ.set i (some (.ref p))) H { me with env := me.env.set i (some (.own l)) } := by
  have hi' : i < σ.length := by rw [lv.len]; exact hi
  refine ⟨lv.t0, lv.al, lv.ex, lv.src, by rw [List.length_set, List.length_set]; exact lv.len, fun j s' hj => ?_, fun j k l1 l2 q h1 h2 e1 e2 => ?_⟩
  · by_cases hji : j = i
    · subst hji
      rw [List.getElem?_set_self hi] at hj
      cases hj
      rw [List.getElem?_set_self hi']
      exact ⟨p, vs, rfl, tp, h0, hp, hd⟩
    · rw [List.getElem?_set_ne (Ne.symm hji)] at hj ⊢
      exact lv.slot j s' hj
  · by_cases hj : j = i
    · subst hj
      by_cases hk : k = j
      · exact hk.symm
      · rw [List.getElem?_set_self hi'] at e1
        cases e1
        rw [List.getElem?_set_ne (Ne.symm hk)] at h2 e2
        exact absurd e2 (no k l2 hk h2)
    · by_cases hk : k = i
      · subst hk
        rw [List.getElem?_set_self hi'] at e2
        cases e2
        rw [List.getElem?_set_ne (Ne.symm hj)] at h1 e1
        exact absurd e1 (no j l1 hj h1)
      · rw [List.getElem?_set_ne (Ne.symm hj)] at h1 e1
        rw [List.getElem?_set_ne (Ne.symm hk)] at h2 e2
        exact lv.sep j k l1 l2 q h1 h2 e1 e2
theorem tN_set {m : M (List PyData)} {i : Nat} {D : Ends} {σ : L2.St} {H : Hp} (q : tS X.K X.mg W (mSetN i m) D σ H) : tAsg (tN X.K X.mg W m) (gName i) D σ H := by
  obtain ⟨w, T, me, ok, lv, q⟩ := q
  refine ⟨w, T, me, ok, lv, ?_⟩
  unfold mSetN at q
  cases hm : m me with
  | bad => rw [hm] at q; exact q
  | exc x me1 =>
    rw [hm] at q
    exact fun c dd H' T' fr lv' xr => q c dd σ H' T' fr lv' xr
  | ok l me1 =>
    rw [hm] at q
    simp only [Res.bind_ok] at q
    intro p vs T' H' n
    by_cases hi : i < me1.env.length
    · rw [if_pos hi] at q
      exact q _ H' _ n.new (n.lv.setOwn hi (.inr rfl) n.h0 n.here n.dd fun j l' _ h => n.no j l' h)
    · rw [if_neg hi] at q
      exact q.elim
theorem pps_setN {m : M (List PyData)} {i : Nat} {x : Str} {pos' : Pos} (hN : X.N.Nodup) (he : PN X W e m) (hi : X.N[i]? = some x := by rfl) (hx : Loc X.env.scope x := by first | exact .inl rfl | exact .inr rfl) (hs : swapsWith e (some (.Name x pos')) pos.line X.env = pure false := by rfl)
    (hf : X.fn x = true ∨ X.env.scope.names.lookup x = some .local := by first | exact .inl rfl | exact .inr rfl) : PPS X W (.Assign [.Name x pos'] e pos) (mSetN i m) :=
  PS.imp (ps_set hN hi hx he hs hf) fun _ _ _ q => tN_set q
theorem pps_setLc {i : Nat} {y : Str} {py : Pos} {vs : List Nat} {t : Tg} {it : M (List PyData)} {cn : M Bool} {el : M Sl} {elt iter : Expr} {ifs : List Expr} {scope : Scope} {own : List (Str × Nat)} {pos spos : Pos} (hc : X.calm = true) (hN : X.N.Nodup) (hi : PIt X W tg iter it) (ok : BlkOk X.N X.env.scope scope own) (hv : own.map (·.2) = vs) (hsub : ∀ i ∈ t.slots, i ∈ vs)
    (hg : ∀ (s : Shared) (H : Hp) (C : Addr) (cl : List (Str × Addr)) (fp : List Addr), PG (X.blk s H scope (compEnvC scope cl C X.env) fp) tg (tTg X.K X.mg t)) (ht : ∀ (s : Shared) (H : Hp) (C : Addr) (cl : List (Str × Addr)) (fp : List Addr), PTs (X.blk s H scope (compEnvC scope cl C X.env) fp) ifs (tPt X.K X.mg W0 cn))
    (he : ∀ (s : Shared) (H : Hp) (C : Addr) (cl : List (Str × Addr)) (fp : List Addr), PE (X.blk s H scope (compEnvC scope cl C X.env) fp) elt (tP X.K X.mg W0 el)) (hy : X.N[i]? = some y) (hyl : X.env.scope.names.lookup y = some .local)
    (hsw : swapsWith (.ListComp elt [⟨tg, iter, ifs, 0⟩] scope pos) (some (.Name y py)) spos.line X.env = pure true) (hs : ∀ x, foldedSetIterable iter X.env x = pure x := by intro _; rfl) :
    PPS X W (.Assign [.Name y py] (.ListComp elt [⟨tg, iter, ifs, 0⟩] scope pos) spos) (mSetN i (mComp vs t it cn el)) :=
  PS.imp (ps_setLc hc hN hy hyl hsw hi ok hg ht he hs) fun D σ H q => by
    rw [hv]
    obtain ⟨w, T, me, ok, lv, q⟩ := q
    refine tLc_ok (W := W) (X := X) hsub ?_
    exact tN_set (X := X) (W := W) ⟨w, T, me, ok, lv, q⟩
theorem pps_asg {m : M Sl} {t : Tg} (he : PP X W e m) (hg : PG X tg (tTg X.K X.mg t)) (hs : swapsWithSole [tg] e pos.line X.env = pure false := by rfl) (hw : swappedStores [tg] e X.env = pure none := by rfl) (h1 : (assignEach [tg] X.env).map (·.2) = [assign tg X.env] := by rfl) : PPS X W (.Assign [tg] e pos) (mAsg t m) := by
  refine PS.imp (ps_asg he hg hs hw h1) fun D σ H q => ?_
  obtain ⟨w, T, me, ok, lv, q⟩ := q
  have q' : tP X.K X.mg W m σ H (fun x H1 => tTg X.K X.mg t x σ H1 D.nx) := by
    refine ⟨w, T, me, ok, lv, ?_⟩
    unfold mAsg at q
    cases hm : m me with
    | bad => unfold mDat at q; rw [hm] at q; exact q
    | exc x me1 =>
      unfold mDat at q; rw [hm] at q
      exact fun c dd H' T' fr lv' xr => q c dd σ H' T' fr lv' xr
    | ok s me1 =>
      unfold mDat at q; rw [hm] at q
      simp only [Res.bind_ok] at q
      intro v H1 T1 s1 lv1 p1
      cases s with
      | own l => exact q.elim
      | src => exact q.elim
      | exc x => exact q.elim
      | dat d =>
        simp only [Res.bind_ok] at q
        cases ht : mTgt t d me1 with
        | none => rw [ht] at q; exact q.elim
        | some m2 =>
          rw [ht] at q
          exact ⟨w, T1, me1, m2, d, lv1, p1, ht, fun vs lv2 => q _ H1 T1 (s1.fr ok lv.t0) lv2⟩
  exact q'
theorem pps_expr {m : M Sl} (he : PP X W e m) (hs : swapsWith e none pos.line X.env = pure false := by rfl) : PPS X W (.Expr e pos) (mDrop m) := by
  refine PS.imp (ps_expr he hs) fun D σ H q => ?_
  obtain ⟨w, T, me, ok, lv, q⟩ := q
  exact SRn.seq ok lv q fun T1 me1 v s H1 s1 lv1 p1 q1 => q1.nx lv1
theorem pps_ret {m : M Sl} (he : PP X W e m) : PPS X W (.Return (some e) pos) (mRet m) := by
  refine PS.imp (ps_ret he) fun D σ H q => ?_
  obtain ⟨w, T, me, ok, lv, q⟩ := q
  exact SRn.seq ok lv q fun T1 me1 v s H1 s1 lv1 p1 q1 => q1 v H1 lv1.ex lv1.src (SV.fr (Fr.weak lv1.t0) p1)
theorem pps_retN : PPS X W (.Return none pos) mRetN := by
  refine PS.imp ps_retN fun D σ H q => ?_
  obtain ⟨w, T, me, ok, lv, q⟩ := q
  exact q .non H lv.ex lv.src .non
theorem pps_doc {x : Str} {j : Nat} {pos' : Pos} : PPS X W (.Expr (.Constant (.str x) j pos) pos') mNext := PS.imp ps_doc fun D σ H q => by
  obtain ⟨w, T, me, ok, lv, q⟩ := q
  exact q.nx lv
theorem pps_for {t : Tg} {it : M (List PyData)} {m : M Flow} {iter : Expr} (hp : PassesOwn (model X.prog X.w) X.A X.env X.xe) (hc : X.calm = true) (hi : PIt X W tg iter it) (hg : PG X tg (tTg X.K X.mg t)) (hb : PPSs X W body m) (hs : ∀ x, foldedSetIterable iter X.env x = pure x := by intro _; rfl) : PPS X W (.For tg iter body [] pos) (mFor t it m) := by
  refine PS.imp (ps_for hp hc hi hg hb hs) fun D σ H q => ?_
  obtain ⟨w, T, me, ok, lv, q⟩ := q
  refine SRn.seq ok lv q fun T1 me1 J l H1 s1 lv1 wk q1 => ?_
  obtain ⟨G, Y, wa, hG, hY⟩ := wk.ex
  refine for_it wa (fun i σ' H' => ∃ (T' : Addr → Prop) (m' : Me), Fr T1 H1 T' H' ∧ Lv X.K X.mg w T' σ' H' m' ∧ SRn X.K X.mg W D w T' H' (forL t m (l.drop i) m')) ⟨T1, me1, Fr.refl _ _, lv1, by rw [List.drop_zero]; exact q1⟩ (fun i σ' H' _ p => ?_) (fun i x σ' H' H'' hi p y => ?_) (fun σ' H' p => ?_)
  · obtain ⟨T', m', fr, _⟩ := p
    exact hG T' H' fr
  · obtain ⟨T', m', fr, lv', q'⟩ := p
    obtain ⟨sm, d, ed, dx⟩ := hY T' H' i x H'' fr lv'.al hi y
    have hdrop : l.drop i = d :: l.drop (i + 1) := by
      rw [List.getElem?_eq_getElem hi] at ed
      rw [List.drop_eq_getElem_cons hi, Option.some.inj ed]
    rw [hdrop] at q'
    unfold forL at q'
    cases ht : mTgt t d m' with
    | none => rw [ht] at q'; exact q'.elim
    | some m0 =>
      rw [ht] at q'
      refine ⟨w, T', m', m0, d, lv'.same sm, dx, ht, fun vs lv0 => ⟨w, T', m0, ok, lv0, ?_⟩⟩
      simp only at q'
      have q2 := q'.after sm.fr
      cases hm : m m0 with
      | bad => rw [hm] at q2; exact q2
      | exc z m1 => rw [hm] at q2; exact q2
      | ok f m1 =>
        rw [hm] at q2
        simp only [Res.bind_ok] at q2
        cases f with
        | next => exact fun σ3 H3 T3 fr3 lv3 => ⟨T3, m1, (fr.trans sm.fr).trans fr3, lv3, q2.after fr3⟩
        | cont => exact fun σ3 H3 T3 fr3 lv3 => ⟨T3, m1, (fr.trans sm.fr).trans fr3, lv3, q2.after fr3⟩
        | brk => exact q2
        | ret s => exact q2
  · obtain ⟨T', m', fr, lv', q'⟩ := p
    rw [List.drop_length] at q'
    exact q'.nx lv'
theorem pps_while {cn : M Bool} {m : M Flow} (n : Nat) (hp : PassesOwn (model X.prog X.w) X.A X.env X.xe) (hc : PPt X W c cn) (hb : PPSs X W body m) : PPS X W (.While c body [] pos) (whileN cn m n) := by
  refine PS.imp (ps_while hp hc hb) fun D σ H q => ?_
  obtain ⟨w, T, me, ok, lv, q⟩ := q
  refine ⟨fun n σ' H' => ∃ (T' : Addr → Prop) (m' : Me), Fr T H T' H' ∧ Lv X.K X.mg w T' σ' H' m' ∧ SRn X.K X.mg W D w T' H' (whileN cn m n m'), ⟨n, T, me, Fr.refl _ _, lv, q⟩, fun n σ' H' p => ?_⟩
  obtain ⟨T', m', fr, lv', q'⟩ := p
  cases n with
  | zero => exact q'.elim
  | succ n =>
    unfold whileN at q'
    refine SRn.seq ok lv' q' fun T1 me1 v x H1 s1 lv1 p1 q1 => ?_
    subst p1
    cases v with
    | false =>
      rw [if_neg Bool.false_ne_true] at q1 ⊢
      exact q1.nx lv1
    | true =>
      rw [if_pos rfl] at q1 ⊢
      refine ⟨fun σ2 H2 => ∃ (T' : Addr → Prop) (m' : Me), Fr T H T' H2 ∧ Lv X.K X.mg w T' σ2 H2 m' ∧ SRn X.K X.mg W D w T' H2 (whileN cn m n m'), fun σ2 H2 p2 => ⟨n, Nat.lt_succ_self n, p2⟩, w, T1, me1, ok, lv1, ?_⟩
      cases hm : m me1 with
      | bad => rw [hm] at q1; exact q1
      | exc z m1 => rw [hm] at q1; exact q1
      | ok f m1 =>
        rw [hm] at q1
        simp only [Res.bind_ok] at q1
        have fr1 := fr.trans (s1.fr ok lv'.t0)
        cases f with
        | next => exact fun σ3 H3 T3 fr3 lv3 => ⟨T3, m1, fr1.trans fr3, lv3, q1.after fr3⟩
        | cont => exact fun σ3 H3 T3 fr3 lv3 => ⟨T3, m1, fr1.trans fr3, lv3, q1.after fr3⟩
        | brk => exact q1
        | ret s => exact q1
theorem pps_aug {op : Operator} {f : Int → Int → Int} {m : M PyData} {i : Nat} {x : Str} {pos' : Pos} (hN : X.N.Nodup) (he : PB X W e m) (ho : PIp X op (ipI f)) (hi : X.N[i]? = some x := by rfl) (hx : Loc X.env.scope x := by first | exact .inl rfl | exact .inr rfl) (hf : X.fn x = true ∨ X.env.scope.names.lookup x = some .local := by first | exact .inl rfl | exact .inr rfl) :
    PPS X W (.AugAssign (.Name x pos') op e pos) (mAug f i m) := by
  refine PS.imp (ps_aug hN hi hx he ho hf) fun D σ H q => ?_
  obtain ⟨w, T, me, ok, lv, q⟩ := q
  unfold mAug at q
  split at q
  · rename_i z hz
    obtain ⟨v, ev, sv⟩ := lv.get hz (fun _ => nofun)
    refine ⟨v, ev, ?_⟩
    refine SRn.seq ok lv q fun T1 me1 u d H1 s1 lv1 p1 q1 => ?_
    split at q1
    · have hlt : i < me1.env.length := by
        rw [← lv1.len, lv.len]
        exact (List.getElem?_eq_some_iff.mp hz).1
      cases sv
      exact ⟨_, _, rfl, p1.int, q1.nx (lv1.set hlt (s := .dat (.int _)) ⟨_, rfl, .int _⟩ (fun _ z => nomatch z))⟩
    · exact q1.elim
  · exact q.elim
theorem pps_append {m : M Sl} {i : Nat} {x : Str} {p1 p2 p3 : Pos} (he : PP X W e m) (hN : X.N[i]? = some x := by rfl) (hv : Vis X.env.scope x := by first | exact Or.inl rfl | exact Or.inr (Or.inl rfl) | exact Or.inr (Or.inr rfl)) (hd : (x == ("__debug__" : Str)) = false := by decide) (hcd : (x == ("__classdict__" : Str)) = false := by decide)
    (hbase : attributeBase (.Name x p1) "append" X.env (eval (.Name x p1) X.env) = eval (.Name x p1) X.env := by rfl)
    (hfew : ((backTo p3 (starEach [e] X.env)).all (fun x => !x.1) && (backToKw p3 (keywordEach [] X.env)).all (fun x => x.1.isSome) && decide ([e].length + ([] : List Keyword).length + (if ([] : List Keyword).isEmpty then 0 else 1) < 30)) = true := by rfl)
    (hline : (p2.endLine == p3.line) = true := by rfl) (hs : starEach [e] X.env = (false, eval e X.env) :: starEach [] X.env := by rfl) (hpl : (backTo p3 (starEach [] X.env)).any (·.1) = false := by rfl)
    (hs2 : swapsWith (.Call (.Attribute (.Name x p1) "append" p2) [e] [] p3) none pos.line X.env = pure false := by rfl) : PPS X W (.Expr (.Call (.Attribute (.Name x p1) "append" p2) [e] [] p3) pos) (mApp i m) := by
  refine PS.imp (ps_expr (pe_bm PySem.F.plainAttrs_list PySem.F.slot_list_append PySem.F.type_list_append mt_append (pe_var hN hv hd hcd) (pa_cons he pa_nil hs) hbase hfew hline hs hpl) hs2) fun D σ H q => ?_
  obtain ⟨w, T, me, ok, lv, q⟩ := q
  unfold mApp at q
  split at q
  · rename_i l0 hz
    obtain ⟨p, vs0, ep, tp, h0, hp, hd0⟩ := lv.slot i _ hz
    refine ⟨.ref p, ep, .inl ⟨rfl, vs0, .inl (.inl hp)⟩, ?_⟩
    have ns : ¬ InS w.sc p := fun z => ok.al p (ok.s0 p z) h0
    refine ⟨w, T, me, ok, lv, ?_⟩
    unfold mDat at q
    cases hm : m me with
    | bad => rw [hm] at q; exact q
    | exc x me1 =>
      rw [hm] at q
      exact fun c dd H' T' fr lv' xr => q c dd σ H' T' fr lv' xr
    | ok s me1 =>
      rw [hm] at q
      simp only [Res.bind_ok] at q
      intro v H1 T1 s1 lv1 p1
      cases s with
      | own l => exact q.elim
      | src => exact q.elim
      | exc x => exact q.elim
      | dat d =>
        simp only [Res.bind_ok] at q
        split at q
        · rename_i l hz1
          split at q
          · rename_i hlen
            obtain ⟨p', vs, ep', tp', h0', hp', hd'⟩ := lv1.slot i _ hz1
            rw [ep] at ep'; cases ep'
            refine ⟨p, vs, v, rfl, rfl, hp', by rw [hd'.length]; exact hlen, ?_⟩
            have frU : Fr T1 H1 T1 (L2.upd H1 p (.lst (vs ++ [v]))) := fun b u n h => ⟨by rw [upd_ne (fun e => n (by rw [e]; exact tp'))]; exact h, n⟩
            have hlt : i < me1.env.length := (List.getElem?_eq_some_iff.mp hz1).1
            -- the slot is given up, the list turned, the slot taken again
            obtain ⟨_, T2, _, s2, lv2, _⟩ := lv1.freeze ok hz1
            have key : Lv X.K X.mg w T1 σ (L2.upd H1 p (.lst (vs ++ [v]))) { me1 with env := me1.env.set i (some (.own (l ++ [d]))) } := by
              refine ⟨lv1.t0, fun b hb => ?_, fun b u n h => ?_, fun a c e => ?_, by rw [List.length_set]; exact lv1.len, fun j s' hj => ?_, fun j k l1 l2 q h1 h2 e1 e2 => ?_⟩
              · by_cases hbp : b = p
                · subst hbp; rw [upd_same]; exact nofun
                · rw [upd_ne hbp]; exact lv1.al b hb
              · rw [upd_ne (fun e => by subst e; rw [h0'] at h; cases h)]
                exact lv1.ex b u n h
              · obtain ⟨n, g1, g2⟩ := lv1.src a c e
                exact ⟨n, by rw [upd_ne (fun z => ns ⟨a, c, e, .inl z.symm⟩)]; exact g1, by rw [upd_ne (fun z => ns ⟨a, c, e, .inr z.symm⟩)]; exact g2⟩
              · by_cases hji : j = i
                · subst hji
                  rw [List.getElem?_set_self hlt] at hj
                  cases hj
                  exact ⟨p, _, ep, tp', h0', upd_same, DDs.append (DDs.cons (DD.to p1 frU) .nil) (hd'.to frU)⟩
                · rw [List.getElem?_set_ne (Ne.symm hji)] at hj
                  refine (lv1.slot j s' hj).fr frU fun q vs' l' es eq hq tq => ⟨tq, ?_⟩
                  subst es
                  rw [upd_ne (fun e => by subst e; exact hji (lv1.sep j i l' l q hj hz1 eq ep))]
                  exact hq
              · have g : ∀ (j : Nat) (l' : List PyData), (me1.env.set i (some (Sl.own (l ++ [d]))))[j]? = some (some (Sl.own l')) → ∃ l'', me1.env[j]? = some (some (Sl.own l'')) := fun j l' hj => by
                  by_cases hji : j = i
                  · subst hji; exact ⟨l, hz1⟩
                  · rw [List.getElem?_set_ne (Ne.symm hji)] at hj; exact ⟨l', hj⟩
                obtain ⟨m1, g1⟩ := g j l1 h1
                obtain ⟨m2, g2⟩ := g k l2 h2
                exact lv1.sep j k m1 m2 q g1 g2 e1 e2
            exact q σ _ T1 ((s1.fr ok lv.t0).trans frU) key
          · exact q.elim
        · exact q.elim
  · exact q.elim
end
/-! ### a def's contract -/
def callOf (n : Nat) (body : M Flow) (args : List Sl) (st : SrcSt) : CRes := match body ⟨args.map some ++ List.replicate (n - args.length) none, st⟩ with
  | .ok .next m => .ok (.dat .none) m.st
  | .ok (.ret s) m => .ok s m.st
  | .ok _ _ => .bad
  | .exc x m => .exc x m.st
  | .bad => .bad
theorem SVs.get {K : PySem.W.Frag} {mg : Str → Option Value} {sc : Option (Addr × Addr)} {T : Addr → Prop} {H : Hp} {vs : List V} {ss : List Sl} (h : SVs K mg sc T H vs ss) : ∀ {i : Nat} {s : Sl}, ss[i]? = some s → ∃ v, vs[i]? = some v ∧ SV K mg sc T H v s := by
  induction h with
  | nil => intro i s e; simp at e
  | @cons v vs s ss a r ih =>
    intro i s' e
    cases i with
    | zero => exact ⟨v, rfl, (Option.some.inj e) ▸ a⟩
    | succ i => exact ih (by simpa using e)
theorem start_slot {args : List Sl} {n i : Nat} {s : Sl} (h : (args.map some ++ List.replicate n none)[i]? = some (some s)) : args[i]? = some s := by
  by_cases hi : i < args.length
  · rw [List.getElem?_append_left (by simpa using hi), List.getElem?_map] at h
    cases q : args[i]? with
    | none => rw [q] at h; cases h
    | some z => rw [q] at h; exact Option.some.inj h
  · rw [List.getElem?_append_right (by simpa using hi)] at h
    rw [List.getElem?_replicate] at h
    split at h <;> cases h
theorem okP {P : Program} {w : World} {K : PySem.W.Frag} {mg : Str → Option Value} {base : Heap} {x qual : Str} {st : Stmt} {f : Addr} {fd : FuncData} {N ps : List Str} {k n : Nat} {body : M Flow} (F : Fun K x qual st f fd) (S : FnScope N ps (defScope st)) (hn : ps.length = n) (hle : n ≤ N.length)
    (hb : ∀ (cdv : Value) (A : Around) (outer : List Env) (s : Shared) (H : Hp) (E : XK), Room k (A.deeper (envOfC qual (defScope st) s.heap.objs.size f cdv)) →
      PSs (cxOf (L2.CX P w) P w K mg base N qual (defScope st) f cdv A outer s H E) (defBody st) (tS K mg (fun c d _ H => E c d H) body)) : FnOk P w K mg base (L2.CX P w) (k + 1) f fd ps (spP K mg n (callOf N.length body)) := by
  refine F.okX S (fun vs H Q E h => ?_) (fun cdv A outer s H vs Q E hr h => ⟨_, hb cdv A outer s H E hr, ?_⟩)
  · obtain ⟨_, _, _, _, h, _⟩ := h
    rw [h, hn]
  · obtain ⟨sc, T, args, sst, hl, hs, al, sr, sv, h⟩ := h
    have hla := sv.length
    refine ⟨⟨sc, H, T⟩, T, ⟨args.map some ++ List.replicate (N.length - args.length) none, sst⟩, ⟨hs, al⟩, ⟨fun _ h => h, al, Ex.refl _ _, sr, ?_, fun i s hi => ?_, fun i j l l' p h1 h2 e1 e2 => ?_⟩, ?_⟩
    · unfold L2.start
      simp only [List.length_append, List.length_map, List.length_replicate]
      omega
    · have e := start_slot hi
      obtain ⟨v, ev, q⟩ := sv.get e
      have hv : (L2.start N vs)[i]? = some (some v) := by
        unfold L2.start
        have hlt := (List.getElem?_eq_some_iff.mp ev).1
        rw [List.getElem?_append_left (by simpa using hlt), List.getElem?_map, ev]
        rfl
      rw [hv]
      cases s with
      | own l => exact q.elim
      | dat d => exact ⟨v, rfl, q⟩
      | src => exact ⟨v, rfl, q⟩
      | exc x => exact ⟨v, rfl, q⟩
    · obtain ⟨v, ev, q⟩ := sv.get (start_slot h1)
      exact q.elim
    · unfold callOf at h
      cases hm : body ⟨args.map some ++ List.replicate (N.length - args.length) none, sst⟩ with
      | bad => rw [hm] at h; exact h
      | exc y m =>
        rw [hm] at h
        exact fun c dd σ' H' T' fr lv xr => h c dd H' lv.ex lv.src (xr.fr (Fr.weak lv.t0))
      | ok fl m =>
        rw [hm] at h
        cases fl with
        | next => exact fun σ' H' T' fr lv => h .non H' lv.ex lv.src .non
        | ret s => exact fun v H' ex sr sv => h v H' ex sr sv
        | brk => exact h.elim
        | cont => exact h.elim
end PL
namespace PL
open PySem PySem.Spec PyProof.Rows L2
/-! ### texts put together -/
def strsOf : List PyData → Option (List Str)
  | [] => some []
  | .str b :: r => (strsOf r).map (b :: ·)
  | _ => none
theorem DD.str_of {K : PySem.W.Frag} {T : Addr → Prop} {H : Hp} {v : V} {k : Str} (h : DD K T H v (.str k)) : v = .str k := by cases h; rfl
theorem DDs.strs {K : PySem.W.Frag} {T : Addr → Prop} {H : Hp} : ∀ {ds : List PyData} {vs : List V} {bs : List Str}, DDs K T H vs ds → strsOf ds = some bs → vs = bs.map V.str
  | [], _, bs, h, e => by
    cases h; cases e; rfl
  | d :: ds, _, bs, h, e => by
    cases h with
    | cons a r =>
      cases d with
      | str b =>
        unfold strsOf at e
        cases hb : strsOf ds with
        | none => rw [hb] at e; cases e
        | some l =>
          rw [hb] at e; cases e
          rw [a.str_of, r.strs hb]; rfl
      | none => cases e
      | int _ => cases e
      | bool _ => cases e
      | list _ => cases e
      | tuple _ => cases e
      | dict _ => cases e
def pJoin (s : PyData) (l : PyData) : Option PyData := match s, l with
  | .str a, .list ds => match strsOf ds with
    | some ys => if (ys.map (·.length)).sum + ys.length * a.length ≤ 16777216 then some (.str (Txt.join a ys)) else none
    | none => none
  | .str a, .tuple ds => match strsOf ds with
    | some ys => if (ys.map (·.length)).sum + ys.length * a.length ≤ 16777216 then some (.str (Txt.join a ys)) else none
    | none => none
  | _, _ => none
def mStr (x : M PyData) : M PyData := fun m => (x m).bind fun d m1 => match d with
  | .str s => .ok (.str s) m1
  | _ => .bad
section
variable {X : Cx} {W : WX} {pos : Pos} {tg a b c e o : Expr} {es : List Expr}
theorem Rn.str {K : PySem.W.Frag} {mg : Str → Option Value} {β γ : Type} {R : Wd → (Addr → Prop) → Hp → β → γ → Prop} {x : M PyData} {k : PyData → Me → Res γ} {σ : L2.St} {H : Hp} {Q : β → Hp → Prop} {Q' : V → Hp → Prop} {w : Wd} {T : Addr → Prop} {me : Me} (ok : w.Ok) (lv : Lv K mg w T σ H me) (h : Rn K mg W R σ w T H me Q ((mStr x me).bind k))
    (f : ∀ (T1 : Addr → Prop) (me1 : Me) (s : Str) (H1 : Hp), Stp w σ T H me T1 H1 me1 → Lv K mg w T1 σ H1 me1 → Rn K mg W R σ w T1 H1 me1 Q (k (.str s) me1) → Q' (.str s) H1) : tB K mg W x σ H Q' := by
  have e : (mStr x me).bind k = (x me).bind fun d m' => (match d with | .str s => Res.ok (.str s) m' | _ => .bad : Res PyData).bind k := by
    unfold mStr
    cases x me <;> rfl
  rw [e] at h
  refine Rn.seq ok lv h fun T1 me1 v s H1 s1 lv1 p1 q1 => ?_
  split at q1
  · rw [p1.str]
    exact f T1 me1 _ H1 s1 lv1 q1
  · exact q1.elim
theorem pp_join {apos : Pos} {x y : M PyData} (ho : PB X W o x) (he : PB X W e y) (hs : starEach [e] X.env = [(false, eval e X.env)] := by rfl) (hbase : attributeBase o "join" X.env (eval o X.env) = eval o X.env := by rfl) (hline : (apos.endLine == pos.line) = true := by rfl) :
    PP X W (.Call (.Attribute o "join" apos) [e] [] pos) (mOp pJoin (mStr x) y) := by
  refine PE.imp (pe_join ho he hs hbase hline) fun σ H Q q => ?_
  obtain ⟨w, T, me, ok, lv, q⟩ := q
  refine Rn.str ok lv q fun T1 me1 s H1 s1 lv1 q1 => ⟨⟨s, rfl⟩, ?_⟩
  refine Rn.seq ok lv1 q1 fun T2 me2 u d H2 s2 lv2 p2 q2 => ?_
  cases hf : pJoin (.str s) d with
  | none => rw [hf] at q2; exact q2.elim
  | some z =>
    rw [hf] at q2
    unfold pJoin at hf
    split at hf
    · rename_i a0 ds e1
      cases e1
      split at hf
      · rename_i ys hy
        split at hf
        · rename_i hz
          cases hf
          obtain ⟨p, vs, rfl, r, dd⟩ := p2.list
          have ev := dd.strs hy
          subst ev
          exact ⟨_, p, ys, rfl, rfl, .inl (.inl r), hz, q2 _ H2 T2 (Stp.refl _ _ _ _ _) lv2 (.str _)⟩
        · cases hf
      · cases hf
    · rename_i a0 ds e1
      cases e1
      split at hf
      · rename_i ys hy
        split at hf
        · rename_i hz
          cases hf
          obtain ⟨p, vs, rfl, r, dd⟩ := p2.tuple
          have ev := dd.strs hy
          subst ev
          exact ⟨_, p, ys, rfl, rfl, .inr r.sq, hz, q2 _ H2 T2 (Stp.refl _ _ _ _ _) lv2 (.str _)⟩
        · cases hf
      · cases hf
    · cases hf
/-! f-strings -/
abbrev tSt (K : PySem.W.Frag) (mg : Str → Option Value) (W : WX) (m : M Str) : TE := tR K mg W (fun _ _ _ v s => v = V.str s) m
def mFmt (x : M PyData) : M Str := fun m => (x m).bind fun d m1 => match d with
  | .str s => if s.length ≤ sizeLine then .ok s m1 else .bad
  | .int i => if i.natAbs.log2 < 1920 then .ok (toString i) m1 else .bad
  | _ => .bad
theorem pf_c {x : Str} {j : Nat} : PE X (.Constant (.str x) j pos) (tSt X.K X.mg W (mC x)) := PE.imp pe_str fun σ H Q q => by
  obtain ⟨w, T, me, ok, lv, q⟩ := q
  exact q _ H T (Stp.refl _ _ _ _ _) lv rfl
theorem pf_fmt {x : M PyData} (h : PB X W e x) : PE X (.FormattedValue e (-1) none pos) (tSt X.K X.mg W (mFmt x)) := by
  refine PE.imp (pe_fmt h) fun σ H Q q => ?_
  obtain ⟨w, T, me, ok, lv, q⟩ := q
  refine Rn.seq ok lv q fun T1 me1 v d H1 s1 lv1 p1 q1 => ?_
  split at q1
  · split at q1
    · rename_i hz
      exact .inl ⟨_, p1.str, hz, q1 _ H1 T1 (Stp.refl _ _ _ _ _) lv1 rfl⟩
    · exact q1.elim
  · split at q1
    · rename_i hz
      exact .inr ⟨_, p1.int, hz, q1 _ H1 T1 (Stp.refl _ _ _ _ _) lv1 rfl⟩
    · exact q1.elim
  · exact q1.elim
/-- the parts one behind the other -/
def mJs : List (M Str) → Str → M Str
  | [], acc => fun m => .ok acc m
  | x :: r, acc => fun m => (x m).bind fun s m1 => if (acc ++ s).length ≤ sizeLine then mJs r (acc ++ s) m1 else .bad
def mJoined (l : List (M Str)) : M Sl := fun m => (mJs l Str.empty m).bind fun s m1 => .ok (.dat (.str s)) m1
inductive PJm (X : Cx) (W : WX) : List Expr → List (M Str) → Prop where
  | nil : PJm X W [] []
  | cons {e : Expr} {t : M Str} {es : List Expr} {ts : List (M Str)} (h : PE X e (tSt X.K X.mg W t)) (r : PJm X W es ts) : PJm X W (e :: es) (t :: ts)
theorem PJm.pj {es : List Expr} {ms : List (M Str)} (h : PJm X W es ms) : PJ X es (ms.map (tSt X.K X.mg W)) := by
  induction h with
  | nil => exact .nil
  | cons h r ih => exact .cons h ih
theorem tJs_ok {w : Wd} (ok : w.Ok) {σ : L2.St} {Q : V → Hp → Prop} : ∀ (ms : List (M Str)) (acc : Str) (T : Addr → Prop) (H : Hp) (me : Me), Lv X.K X.mg w T σ H me →
    Rn X.K X.mg W (fun w T H v s => SV X.K X.mg w.sc T H v s) σ w T H me Q ((mJs ms acc me).bind fun s m1 => .ok (.dat (.str s)) m1) → tJs (ms.map (tSt X.K X.mg W)) acc σ H (fun out H1 => Q (.str out) H1)
  | [], acc, T, H, me, lv, q => q _ H T (Stp.refl _ _ _ _ _) lv (.str _)
  | x :: r, acc, T, H, me, lv, q => by
    have e : (mJs (x :: r) acc me).bind (fun s m1 => Res.ok (Sl.dat (.str s)) m1) = (x me).bind fun s m1 => (if (acc ++ s).length ≤ sizeLine then mJs r (acc ++ s) m1 else .bad : Res Str).bind fun s m1 => Res.ok (Sl.dat (.str s)) m1 := by
      show ((x me).bind fun s m1 => if (acc ++ s).length ≤ sizeLine then mJs r (acc ++ s) m1 else .bad).bind _ = _
      cases x me <;> rfl
    rw [e] at q
    refine Rn.seq ok lv q fun T1 me1 v s H1 s1 lv1 p1 q1 => ⟨s, p1, ?_⟩
    by_cases hz : (acc ++ s).length ≤ sizeLine
    · rw [if_pos hz] at q1
      exact ⟨hz, tJs_ok ok r (acc ++ s) T1 H1 me1 lv1 q1⟩
    · rw [if_neg hz] at q1
      exact q1.elim
theorem pp_joined {v1 v2 : Expr} {rest : List Expr} {ms : List (M Str)} (h : PJm X W (v1 :: v2 :: rest) ms) : PP X W (.JoinedStr (v1 :: v2 :: rest) pos) (mJoined ms) := by
  refine PE.imp (pe_joined h.pj) fun σ H Q q => ?_
  obtain ⟨w, T, me, ok, lv, q⟩ := q
  exact tJs_ok ok ms Str.empty T H me lv q
/-! ### errors raised -/
theorem xr_none {K : PySem.W.Frag} {mg : Str → Option Value} {T : Addr → Prop} {H : Hp} {x : Str} {C : Addr} (g : mg x = some (.ref C)) : XR K mg T H (.ref C) none ⟨x, []⟩ :=
  ⟨C, rfl, g, .inl rfl, fun f e h => by simp at h⟩
theorem pps_raise {C : Addr} {bmB : List Value} {B newId initId : String} {x m : Str} {j : Nat} {p p2 pos2 : Pos} (hc : X.calm = true) (tk : Takes X W) (F : ExcBaseFacts B newId initId bmB) (q : PySem.W.excIn X.K C bmB newId = true) (gC : X.mg x = some (.ref C)) (kC : PySem.W.keepIn X.K (.ref C) = true) (r : Raises X (.ref C)) (hg : Gl X x)
    (hdb : (x == ("__debug__" : Str)) = false := by decide) : PPS X W (.Raise (some (.Call (.Name x p) [.Constant (.str m) j p2] [] pos)) none pos2) (mRaise ⟨x, []⟩) := by
  refine PS.imp (ps_raise hc tk (pmk_own F q gC kC r hg hdb)) fun D σ H q => ?_
  obtain ⟨w, T, me, ok, lv, q⟩ := q
  exact q (.ref C) none σ H T (Fr.refl _ _) lv (xr_none gC)
/-- an __init__ that keeps one argument | two arguments -/
def spIn1 (C : Addr) (f : Str) : Sp := fun vs H Q _ => ∃ (a : Addr) (y : V), vs = [.ref a, y] ∧ H a = some (exo a C none) ∧ ∀ dx, H dx = none → dx ≠ a → Q .non (upd (upd H dx (exd dx [(f, y)])) a (exo a C (some dx)))
def spIn2 (C : Addr) (f g : Str) : Sp := fun vs H Q _ => ∃ (a : Addr) (y z : V), vs = [.ref a, y, z] ∧ H a = some (exo a C none) ∧ ∀ dx, H dx = none → dx ≠ a → Q .non (upd (upd (upd H dx (exd dx [(f, y)])) a (exo a C (some dx))) dx (exd dx [(g, z), (f, y)]))
def mRaise1 (x f : Str) (a : M (List Sl)) : M Flow := fun m => (a m).bind fun ss m1 => match datsOf ss with
  | some [d] => .exc ⟨x, [(f, d)]⟩ m1
  | _ => .bad
def mRaise2 (x f g : Str) (a : M (List Sl)) : M Flow := fun m => (a m).bind fun ss m1 => match datsOf ss with
  | some [d, e] => .exc ⟨x, [(g, e), (f, d)]⟩ m1
  | _ => .bad
theorem lk1 {α : Type} {f n : Str} {y z : α} (h : List.lookup n [(f, y)] = some z) : n = f ∧ y = z := by
  unfold List.lookup at h
  split at h
  · rename_i e
    exact ⟨by simpa using e, Option.some.inj h⟩
  · simp [List.lookup] at h
theorem lkself {α : Type} {f : Str} {y : α} {r : List (Str × α)} : List.lookup f ((f, y) :: r) = some y := by simp [List.lookup]
theorem pps_raise1 {CX : CXT} {x f : Str} {C fI : Addr} {k : Nat} {fd : FuncData} {ps : List Str} {m : M (List Sl)} {p pos2 : Pos} (hc : X.calm = true) (tk : Takes X W) (T : OexC X.K C) (iC : PySem.W.findIn X.K (.ref C) "__init__" = some (some (.ref fI))) (tI : PySem.W.typeIn X.K (.ref fI) = some (.type "function"))
    (F1 : FnOk X.prog X.w X.K X.mg X.base CX k fI fd ps (spIn1 C f)) (hr : Room (k + 1) X.A) (hb : Binds X.K fd ps []) (hx : Passes CX X (fun _ _ _ => False)) (hg : Gl X x) (hm : X.mg x = some (.ref C)) (ha : PPs X W [e] m)
    (hdb : (x == ("__debug__" : Str)) = false := by decide) (he : starEach [e] X.env = (false, eval e X.env) :: starEach [] X.env := by rfl) (hpl : (backTo pos (starEach [] X.env)).any (·.1) = false := by rfl) :
    PPS X W (.Raise (some (.Call (.Name x p) [e] [] pos)) none pos2) (mRaise1 x f m) := by
  refine PS.imp (ps_raise hc tk (pmk_oex T iC tI F1 hr hb .nil hx hg hm ha hdb he hpl)) fun D σ H q => ?_
  obtain ⟨w, TT, me, ok, lv, q⟩ := q
  refine SRn.seq ok lv q fun T1 me1 vs ss H1 s1 lv1 p1 q1 => ?_
  split at q1
  · rename_i d hd
    have dd := p1.dats hd
    cases dd with
    | @cons y vs' _ _ dy r =>
      cases r
      refine ⟨by show 1 ≤ 1000; decide, fun a ha0 => ⟨a, y, rfl, upd_same, fun dx hdx nda => ⟨rfl, dx, [(f, y)], upd_same, by rw [upd_ne nda, upd_same], ?_, ?_⟩⟩⟩
      · rw [upd_ne nda] at hdx; exact hdx
      · have hdx1 : H1 dx = none := by rw [upd_ne nda] at hdx; exact hdx
        have sm : Same0 H1 (upd (L2.del (upd (upd (upd H1 a (exo a C none)) dx (exd dx [(f, y)])) a (exo a C (some dx))) a) dx (.xd [(f, y)])) := fun b o h => by
          have h1 : b ≠ dx := ne_of_none h hdx1
          have h2 : b ≠ a := ne_of_none h ha0
          rw [upd_ne h1, L2.del_ne h2, upd_ne h2, upd_ne h1, upd_ne h2]
          exact h
        refine q1 (.ref C) (some dx) σ _ T1 sm.fr (lv1.same sm) ⟨C, rfl, hm, .inr ⟨dx, _, rfl, upd_same, nT_new lv1.al hdx1⟩, fun n z hz => ?_⟩
        obtain ⟨e1, e2⟩ := lk1 hz
        subst e1; subst e2
        exact ⟨dx, [(n, y)], y, rfl, upd_same, nT_new lv1.al hdx1, lkself, dy.to sm.fr⟩
  · exact q1.elim
/-- the __init__ of an own error that keeps its one argument -/
theorem ok_init1 {P : Program} {w : World} {K : PySem.W.Frag} {mg : Str → Option Value} {base : Heap} {qual f : Str} {st : Stmt} {fI C : Addr} {fd : FuncData} {p1 p2 p3 p4 : Pos} (F : Fun K "__init__" qual st fI fd) (S : FnScope ["self", f] ["self", f] (defScope st)) (T : OexC K C) (hno : PySem.W.findIn K (.ref C) f = some none)
    (hb : defBody st = [.Assign [.Attribute (.Name "self" p1) f p2] (.Name f p3) p4]) (h0 : (defScope st).names.lookup ("self" : Str) = some NameKind.local) (h1 : (defScope st).names.lookup f = some NameKind.local) (d1 : (f == ("__debug__" : Str)) = false) (d2 : (f == ("__classdict__" : Str)) = false)
    (hs : ∀ (env : Env), env.scope = defScope st → swapsWith (.Name f p3) (some (.Attribute (.Name "self" p1) f p2)) p4.line env = pure false) : FnOk P w K mg base CX0 1 fI fd ["self", f] (spIn1 C f) := by
  refine F.ok S (fun vs H Q E h => ?_) (fun cdv A outer s H vs Q E hr h => ?_)
  · obtain ⟨a, y, rfl, _⟩ := h
    rfl
  · obtain ⟨a, y, rfl, ha, q⟩ := h
    rw [hb]
    refine ⟨_, pss_one (ps_ost (pe_var (i := 0) rfl (.inl h0)) (pe_var (i := 1) rfl (.inl h1) d1 d2) (hs _ rfl)), ?_⟩
    exact ⟨y, rfl, .ref a, rfl, a, C, rfl, T, hno, .inl ⟨ha, fun dx hdx nda => q dx hdx nda⟩⟩
theorem ok_init2 {P : Program} {w : World} {K : PySem.W.Frag} {mg : Str → Option Value} {base : Heap} {qual f g : Str} {st : Stmt} {fI C : Addr} {fd : FuncData} {p1 p2 p3 p4 q1 q2 q3 q4 : Pos} (F : Fun K "__init__" qual st fI fd) (S : FnScope ["self", f, g] ["self", f, g] (defScope st)) (T : OexC K C) (hno : PySem.W.findIn K (.ref C) f = some none) (hno2 : PySem.W.findIn K (.ref C) g = some none)
    (hb : defBody st = [.Assign [.Attribute (.Name "self" p1) f p2] (.Name f p3) p4, .Assign [.Attribute (.Name "self" q1) g q2] (.Name g q3) q4]) (h0 : (defScope st).names.lookup ("self" : Str) = some NameKind.local) (h1 : (defScope st).names.lookup f = some NameKind.local) (h2 : (defScope st).names.lookup g = some NameKind.local) (d1 : (f == ("__debug__" : Str)) = false) (d2 : (f == ("__classdict__" : Str)) = false) (e1 : (g == ("__debug__" : Str)) = false) (e2 : (g == ("__classdict__" : Str)) = false)
    (hs : ∀ (env : Env), env.scope = defScope st → swapsWith (.Name f p3) (some (.Attribute (.Name "self" p1) f p2)) p4.line env = pure false) (hs2 : ∀ (env : Env), env.scope = defScope st → swapsWith (.Name g q3) (some (.Attribute (.Name "self" q1) g q2)) q4.line env = pure false) : FnOk P w K mg base CX0 1 fI fd ["self", f, g] (spIn2 C f g) := by
  refine F.ok S (fun vs H Q E h => ?_) (fun cdv A outer s H vs Q E hr h => ?_)
  · obtain ⟨a, y, z, rfl, _⟩ := h
    rfl
  · obtain ⟨a, y, z, rfl, ha, q⟩ := h
    rw [hb]
    refine ⟨_, pss_cons (ps_ost (pe_var (i := 0) rfl (.inl h0)) (pe_var (i := 1) rfl (.inl h1) d1 d2) (hs _ rfl)) (pss_one (ps_ost (pe_var (i := 0) rfl (.inl h0)) (pe_var (i := 2) rfl (.inl h2) e1 e2) (hs2 _ rfl))), ?_⟩
    refine ⟨y, rfl, .ref a, rfl, a, C, rfl, T, hno, .inl ⟨ha, fun dx hdx nda => ?_⟩⟩
    refine ⟨z, rfl, .ref a, rfl, a, C, rfl, T, hno2, .inr ⟨dx, [(f, y)], upd_same, by rw [upd_ne nda, upd_same], by show 1 ≤ 900; decide, ?_⟩⟩
    exact q dx hdx nda
/-! ### short words for printed proofs -/
theorem u65 {k : Nat} {A : Around} (hr : Room k A) : A.units + 65 < cLine := by have := hr.un; omega
theorem pp_gS {x s : Str} (hg : Gl X x) (h : ∃ t, X.mg x = some (.str s t)) (hd : (x == ("__debug__" : Str)) = false := by decide) : PP X W (.Name x pos) (mC (.dat (.str s))) := by
  obtain ⟨t, h⟩ := h
  exact pp_glob (v := .str s) hg h ⟨t, rfl⟩ (fun _ _ => .str s) hd
theorem pp_gI {x : Str} {i : Int} (hg : Gl X x) (h : ∃ t, X.mg x = some (.int i t)) (hd : (x == ("__debug__" : Str)) = false := by decide) : PP X W (.Name x pos) (mC (.dat (.int i))) := by
  obtain ⟨t, h⟩ := h
  exact pp_glob (v := .int i) hg h ⟨t, rfl⟩ (fun _ _ => .int i) hd
/-- names, each with its own value, stored at once -/
def mPar2 (i j : Nat) (a : M (List Sl)) : M Flow := fun m => (a m).bind fun ss m1 => match ss with
  | [s, t] => match putE i s m1 with
    | some m2 => match putE j t m2 with
      | some m3 => .ok .next m3
      | none => .bad
    | none => .bad
  | _ => .bad
theorem SVs.two {K : PySem.W.Frag} {mg : Str → Option Value} {sc : Option (Addr × Addr)} {T : Addr → Prop} {H : Hp} {vs : List V} {s t : Sl} (h : SVs K mg sc T H vs [s, t]) : ∃ v u, vs = [v, u] ∧ SV K mg sc T H v s ∧ SV K mg sc T H u t := by
  cases h with
  | cons a r => cases r with
    | cons b r => cases r; exact ⟨_, _, rfl, a, b⟩
theorem SVs.three {K : PySem.W.Frag} {mg : Str → Option Value} {sc : Option (Addr × Addr)} {T : Addr → Prop} {H : Hp} {vs : List V} {s t z : Sl} (h : SVs K mg sc T H vs [s, t, z]) : ∃ v u w, vs = [v, u, w] ∧ SV K mg sc T H v s ∧ SV K mg sc T H u t ∧ SV K mg sc T H w z := by
  cases h with
  | cons a r => cases r with
    | cons b r => cases r with
      | cons c r => cases r; exact ⟨_, _, _, rfl, a, b, c⟩
theorem pps_par2 {i j : Nat} {x y : Str} {m : M (List Sl)} {px py pt : Pos} {kt k2 : Nat} {pt2 : Pos} (hc : X.calm = true) (hN : X.N.Nodup) (hi : X.N[i]? = some x) (hj : X.N[j]? = some y) (hij : i ≠ j)
    (hx : X.env.scope.names.lookup x = some .local) (hy : X.env.scope.names.lookup y = some .local) (ha : PPs X W [a, b] m)
    (hw : swappedStores [.Tuple [.Name x px, .Name y py] kt pt] (.Tuple [a, b] k2 pt2) X.env = pure (some [x, y]) := by rfl)
    (hs : swapsWithSole [.Tuple [.Name x px, .Name y py] kt pt] (.Tuple [a, b] k2 pt2) pos.line X.env = pure false := by rfl) :
    PPS X W (.Assign [.Tuple [.Name x px, .Name y py] kt pt] (.Tuple [a, b] k2 pt2) pos) (mPar2 i j m) := by
  refine PS.imp (ps_par hc hN hi hj hij hx hy ha hw hs) fun D σ H q => ?_
  obtain ⟨w, T, me, ok, lv, q⟩ := q
  refine SRn.seq ok lv q fun T1 me1 vs ss H1 s1 lv1 p1 q1 => ?_
  split at q1
  · rename_i s t
    obtain ⟨v, u, rfl, h1, h2⟩ := p1.two
    cases hp : putE i s me1 with
    | none => rw [hp] at q1; exact q1.elim
    | some m2 =>
      rw [hp] at q1
      simp only at q1
      cases hp2 : putE j t m2 with
      | none => rw [hp2] at q1; exact q1.elim
      | some m3 =>
        rw [hp2] at q1
        exact ⟨v, u, rfl, q1.nx (putE_ok (putE_ok lv1 h1 hp) h2 hp2)⟩
  · exact q1.elim
end
end PL
namespace PL
open PySem PySem.Spec PyProof.Rows L2
/-! ### a law's source of draws -/
def mixD (c t : Int) : Int :=
  let n := (c % 2147483629 * 48271 + t * t * 69621 + 11) % 2147483647
  let n := n * n % 2147483629
  n * n % 2147483587
def SrcIn (st : SrcSt) : Prop := st.1 ≠ [] ∧ st.1.length ≤ 100000 ∧ 0 ≤ st.2 ∧ st.2 < 2 ^ 62
instance (st : SrcSt) : Decidable (SrcIn st) := by unfold SrcIn; infer_instance
def drawF : List Sl → SrcSt → CRes
  | [.src, .dat (.int lim)], st => if SrcIn st ∧ 0 < lim ∧ lim < 2 ^ 30 then
      (if 10 ^ 18 ≤ st.1.getD (st.2 % (st.1.length : Int)).toNat 0 then .ok (.dat (.int (st.1.getD (st.2 % (st.1.length : Int)).toNat 0 % lim))) (st.1.set (st.2 % (st.1.length : Int)).toNat (st.1.getD (st.2 % (st.1.length : Int)).toNat 0 / lim), st.2 + 1)
      else .ok (.dat (.int (mixD (st.1.getD (st.2 % (st.1.length : Int)).toNat 0) st.2 % lim))) (st.1, st.2 + 1)) else .bad
  | _, _ => .bad
theorem drawF_shape {args : List Sl} {st : SrcSt} (h : drawF args st ≠ .bad) : ∃ lim, args = [.src, .dat (.int lim)] ∧ SrcIn st ∧ 0 < lim ∧ lim < 2 ^ 30 := by
  unfold drawF at h
  split at h
  · split at h
    · rename_i lim hc
      exact ⟨lim, rfl, hc⟩
    · exact absurd rfl h
  · exact absurd rfl h
theorem SV.src {K : PySem.W.Frag} {mg : Str → Option Value} {sc : Option (Addr × Addr)} {T : Addr → Prop} {H : Hp} {v : V} (h : SV K mg sc T H v .src) : ∃ a c, sc = some (a, c) ∧ v = .ref a := h
theorem SV.int {K : PySem.W.Frag} {mg : Str → Option Value} {sc : Option (Addr × Addr)} {T : Addr → Prop} {H : Hp} {v : V} {i : Int} (h : SV K mg sc T H v (.dat (.int i))) : v = .int i := by
  have h' : DD K T H v (.int i) := h
  cases h'; rfl
end PL
namespace PL
open PySem PySem.Spec PyProof.Rows L2
theorem canLay_ints : ∀ ns : List Int, PyData.canLayAll0 (ns.map PyData.int) = true
  | [] => rfl
  | n :: r => by
    show (PyData.canLay0 (.int n) && PyData.canLayAll0 (r.map PyData.int)) = true
    rw [canLay_ints r]; rfl
theorem depth_ints : ∀ ns : List Int, PyData.depthAll (ns.map PyData.int) ≤ PyData.depth (.int 0)
  | [] => by simp [PyData.depthAll]
  | n :: r => by
    have h := depth_ints r
    simp only [List.map_cons, PyData.depthAll, PyData.depth] at h ⊢
    omega
theorem shaped_ints (ns : List Int) : SeqAt.shaped (.list (ns.map PyData.int)) = true := by
  unfold SeqAt.shaped
  have h := depth_ints ns
  rw [Bool.and_eq_true]
  refine ⟨?_, decide_eq_true ?_⟩
  · show PyData.canLayAll0 (ns.map PyData.int) = true
    exact canLay_ints ns
  · simp only [PyData.depth] at h ⊢
    omega
theorem dp_ints {K : PySem.W.Frag} {H : Hp} : ∀ ns : List Int, DpAll K H (ns.map V.int) (ns.map PyData.int)
  | [] => .nil
  | n :: r => .cons (.int n) (dp_ints r)
theorem eqv_nil (ns : List Int) : PyData.eqv (.list (ns.map PyData.int)) (.list []) = ns.isEmpty := by
  cases ns <;> rfl
/-- what _law_source promises -/
def spSource (K : PySem.W.Frag) : Sp := fun vs H Q _ => ∃ (a0 : Addr) (ns : List Int), vs = [.ref a0] ∧ SqL K H a0 (ns.map V.int) ∧ ns.length ≤ 63 ∧
  ∀ (H' : Hp) (a c : Addr) (cells : List Int), Same0 H H' → H a = none → H c = none → a ≠ c → H' a = some (.lst [.ref c, .int 0]) → H' c = some (.lst (cells.map V.int)) → cells ≠ [] → cells.length ≤ 63 → Q (.ref a) H'
end PL
namespace PL
open PySem PySem.Spec PyProof.Rows L2
/-- what a law promises -/
def spLaw (K : PySem.W.Frag) : Sp := fun vs _H Q _ => ∃ (a : Addr) (ns : List Int), vs = [.ref a] ∧ SqL K _H a (ns.map V.int) ∧ ns.length ≤ 63 ∧ ∀ H', Q (.bl true) H'
/-- the source alone stands at slot 1 -/
def env1 (n : Nat) : List (Option Sl) := none :: some .src :: List.replicate n none
theorem env1_get {n i : Nat} {s : Sl} (h : (env1 n)[i]? = some (some s)) : i = 1 ∧ s = .src := by
  unfold env1 at h
  match i, h with
  | 0, h => cases h
  | 1, h => cases h; exact ⟨rfl, rfl⟩
  | i + 2, h =>
    rw [List.getElem?_cons_succ, List.getElem?_cons_succ, List.getElem?_replicate] at h
    split at h <;> cases h
theorem law_rest {K : PySem.W.Frag} {mg : Str → Option Value} {W : WX} {m : M Flow} {σ : L2.St} {H : Hp} {a c : Addr} {cells : List Int} {n : Nat} {m' : Me} {D : Ends} (hl : σ.length = n + 2) (h1 : σ[1]? = some (some (.ref a))) (nac : a ≠ c) (ha : H a = some (.lst [.ref c, .int 0])) (hc : H c = some (.lst (cells.map V.int)))
    (hm : m ⟨env1 n, (cells, 0)⟩ = .ok (.ret (.dat (.bool true))) m') (hq : ∀ H'', D.rt (.bl true) H'') : tS K mg W m D σ H := by
  have al : ∀ b, (b = a ∨ b = c) → H b ≠ none := fun b hb => by
    rcases hb with e | e
    · rw [e, ha]; exact nofun
    · rw [e, hc]; exact nofun
  refine ⟨⟨some (a, c), H, fun b => b = a ∨ b = c⟩, fun b => b = a ∨ b = c, ⟨env1 n, (cells, 0)⟩, ⟨fun b hb => ?_, al⟩, ⟨fun _ h => h, al, Ex.refl _ _, fun a' c' e => ?_, ?_, fun i s hi => ?_, fun i j l l' p g1 g2 e1 e2 => ?_⟩, ?_⟩
  · obtain ⟨a', c', e, hb⟩ := hb
    cases e; exact hb
  · cases e; exact ⟨nac, ha, hc⟩
  · show σ.length = (env1 n).length
    rw [hl]; simp [env1]
  · obtain ⟨rfl, rfl⟩ := env1_get hi
    exact ⟨.ref a, h1, a, c, rfl, rfl⟩
  · obtain ⟨_, z⟩ := env1_get g1
    cases z
  · rw [hm]
    intro v H' _ _ sv
    have sv' : DD K _ H' v (.bool true) := sv
    cases sv'
    exact hq H'
theorem noCX {P : Program} {w : World} {H : Hp} {s : Shared} {e : Value} {s' : Shared} (h : L2.CX P w [] H s (fun _ _ _ => False) e s') : False := by
  obtain ⟨_, _, _, _, _, _, _, _, _, _, _, _, z⟩ := h
  exact z
end PL
namespace PL
open PySem PySem.Spec PyProof.Rows L2
/-! ### try: a suite whose exception may be kept -/
theorem exk_obj {P : Program} {w : World} {H : Hp} {h : Heap} {a C : Addr} {d : Option Addr} {oe : Obj} {vs : Array Value} (e : h.get? a = some oe) (z : Zc (.ref C) d oe) (q : oe.data = .fields vs) : ObjOk P w H h a (exk a C d) :=
  ⟨⟨oe, vs, e, z, q⟩, ⟨oe, e⟩, fun _ _ ⟨o, v, x, y⟩ k => ⟨o, v, k o x, y⟩⟩
section
variable {X : Cx} {pins : List (Addr × Obj)} {σ : L2.St} {H : Hp} {s : Shared}
/-- an object that nothing tracked is tracked as a kept exception -/
theorem keep_exc {sI : Shared} {a C : Addr} {d : Option Addr} {oe : Obj} {vs : Array Value} (I : Inv X pins σ H s) (J : Inv X pins σ H sI) (n0 : sI.heap.get? a = none) (e : s.heap.get? a = some oe) (z : Zc (.ref C) d oe) (q : oe.data = .fields vs) (na : H a = none)
    (hx : X.ex = []) (nL : a ≠ X.env.locals) : Inv X pins σ (upd H a (exk a C d)) s where
  ok := I.ok
  os := I.os
  bare := I.bare
  base := by
    have old : ∀ b o, X.s_0.heap.get? b = some o → b ≠ a := fun b o e1 e2 => by
      obtain ⟨o', e3⟩ := J.base.there b o e1 (by rw [hx]; exact fun k => nomatch k)
      rw [e2, n0] at e3
      cases e3
    have trk : ∀ b o, H b = some o → b ≠ a := fun b o e1 e2 => by rw [e2, na] at e1; cases e1
    refine ⟨I.base.keep, I.base.slot, fun b o e1 e2 e3 => ?_, I.base.there, fun b xs e1 => ?_, fun b o u e1 => ?_, fun b ps e1 => ?_⟩
    · rw [upd_ne (old b o e1)]; exact I.base.free b o e1 e2 e3
    · have t := I.base.tups b xs e1
      rw [upd_ne (trk b _ t)]; exact t
    · have t := I.base.frzs b o u e1
      rw [upd_ne (trk b _ t)]; exact t
    · obtain ⟨more, t⟩ := I.base.tbls b ps e1
      exact ⟨more, by rw [upd_ne (trk b _ t)]; exact t⟩
  loc := I.loc
  cell := I.cell
  free := by rw [upd_ne nL.symm]; exact I.free
  freeC := fun x c ec => by
    have nc : c ≠ a := fun k => by
      obtain ⟨v, o, e1, e2⟩ := I.cell x c ec
      rw [k, e] at e1
      cases e1
      rw [q] at e2
      cases e2
    rw [upd_ne nc]; exact I.freeC x c ec
  pin := fun p hp => by
    obtain ⟨p1, p2, p3, p4, p5⟩ := I.pin p hp
    have np : p.1 ≠ a := fun k => by
      have r := (J.pin p hp).1
      rw [k, n0] at r
      cases r
    exact ⟨p1, by rw [upd_ne np]; exact p2, p3, p4, p5⟩
  hok := fun b u e1 => by
    by_cases hb : b = a
    · subst hb
      rw [upd_same] at e1
      cases e1
      exact exk_obj e z q
    · rw [upd_ne hb] at e1
      exact (I.hok b u e1).stay (fun _ _ _ k => k) (fun c k => by rw [upd_ne (ne_of_none k na)]; exact k) fun c xs k => by rw [upd_ne (ne_of_none k na)]; exact k
  len := I.len
/-- into the suite, and out of it -/
theorem suite_in {a : Addr} (I : Inv X pins σ H s) : Inv (X.suite a (X.pn ++ pins)) [] σ H s where
  ok := Cx.Ok.suite I.ok a (X.pn ++ pins)
  os := I.os
  bare := I.bare
  base := I.base
  loc := I.loc
  cell := I.cell
  free := I.free
  freeC := I.freeC
  pin := fun p hp => I.pin p (by rw [List.append_nil] at hp; exact hp)
  hok := I.hok
  len := I.len
theorem suite_out {a : Addr} {pn' : List (Addr × Obj)} (I : Inv (X.suite a (X.pn ++ pins)) pn' σ H s) (ok : X.Ok) : Inv X pins σ H s where
  ok := ok
  os := I.os
  bare := I.bare
  base := I.base
  loc := I.loc
  cell := I.cell
  free := I.free
  freeC := I.freeC
  pin := fun p hp => I.pin p (List.mem_append_left _ hp)
  hok := I.hok
  len := I.len
end
/-- every exception of the body is of the class c: the suite runs with it at slot i, kept -/
def wKeep (K : PySem.W.Frag) (c : Value) (i : Nat) (ts : TS) (D : Ends) : WX := fun cls d σ H =>
  PySem.W.exmOne K cls c = some true ∧ ∃ C, cls = .ref C ∧ ∀ a, H a = none → ts ⟨fun σ' H' => D.nx (σ'.set i none) H', D.rt, fun σ' H' => D.bk (σ'.set i none) H', fun σ' H' => D.ct (σ'.set i none) H'⟩ (σ.set i (some (.ref a))) (upd H a (exk a C d))
section
variable {X : Cx} {x n : Str} {c : Value} {i : Nat} {body suite : List Stmt} {b0 : Stmt} {np pos pos2 : Pos} {tb : WX → TS} {ts : TS}
theorem ps_keep (hst : X.stack = X.env :: X.outer) (hfr : X.env.frame = some X.env.locals) (hN : X.N.Nodup) (hi : X.N[i]? = some n) (hk : X.env.kindOf n = some .local) (hc : Names X x c) (hex : X.ex = [])
    (hb : ∀ (W : WX) (pn : List (Addr × Obj)) (xe : Value → Shared → Prop), Takes (X.tr pn xe) W → PassesOwn (model X.prog X.w) X.A X.env xe → PSs (X.tr pn xe) body (tb W))
    (hsu : ∀ (a : Addr) (pn : List (Addr × Obj)), PSs (X.suite a pn) (b0 :: suite) ts) :
    PS X (.Try body [.ExceptHandler (some (.Name x np)) (some n) (b0 :: suite) pos2] [] [] pos) (fun D σ H => tb (wKeep X.K c i ts D) D σ H) where
  run pins s σ H D I h := by
    have ok := I.ok
    have fs : X.A.frames = some (X.env :: X.outer) := by rw [ok.frames, hst]
    apply wpAny_Try_except
    refine wpAny_mono ((hb (wKeep X.K c i ts D) (X.pn ++ pins) _ ?_ PassesOwn.looking).run [] s σ H D (I.toTry _) h) ?_ fun _ _ k => k
    · rintro u s1 ⟨a, B, sI, pns, σ1, H1, cls, d, rfl, J0, nb, up, sky, na, os, ag, hyes, C, rfl, hts⟩
      have J : Inv X pins σ1 H1 sI := J0.ofTry ok
      rw [show (X.tr (X.pn ++ pins) _).stack = X.env :: X.outer from hst] at sky
      refine Sky.land Zc.steady fs hfr sky fun h2 fl2 up2 => ?_
      have I2 : Inv X pins σ1 H1 { s1 with heap := h2 } := J.landed nb fl2.1 (up.trans up2) os ag
      obtain ⟨o2, v2, e2, z2, q2⟩ := fl2.there
      -- the exception's object is no frame, and new
      have nfr : a ∉ frs (X.env :: X.outer) := fun hm => by
        obtain ⟨_, o', e', k⟩ := fl2.2.2.1.mem hm
        rw [e2] at e'
        cases e'
        exact k _ q2
      have n0 : sI.heap.get? a = none := by
        cases hz : sI.heap.get? a with
        | none => rfl
        | some o =>
          have k := nb a o hz (by rw [show (X.tr (X.pn ++ pins) _).stack = X.env :: X.outer from hst]; exact nfr)
          rw [fl2.2.1] at k
          cases k
      have nL : a ≠ X.env.locals := fun k => nfr (List.mem_filterMap.mpr ⟨X.env, List.mem_cons_self, by rw [hfr, k]⟩)
      have kept : ∀ {h3 : Heap}, Inv X pins σ1 H1 { s1 with heap := h3 } → (∃ oe vs, h3.get? a = some oe ∧ Zc (.ref C) d oe ∧ oe.data = .fields vs) → Inv X pins σ1 (upd H1 a (exk a C d)) { s1 with heap := h3 } := fun I3 ⟨_, _, e3, z3, q3⟩ => keep_exc I3 J n0 e3 z3 q3 na hex nL
      -- the clause's class
      refine wpAny_handleBy_cons (codeAny_handlers_test ?_) (fun k => nomatch k)
      have cls2 : ∀ {Q : Value → Shared → Prop} {E : Value → Shared → Prop}, Q c { s1 with heap := h2 } → wpAny (model X.prog X.w) (X.A.mark (some (.ref a))) (eval (.Name x np) X.env) Q E { s1 with heap := h2 } := fun {Q E} k => by
        have S2 : Inv (X.suite a (X.pn ++ pins)) [] σ1 H1 { s1 with heap := h2 } := suite_in I2
        rcases hc with ⟨hg, hd, hm | ⟨hm, hv, hn⟩⟩
        · exact ld_glob S2 hg hm k hd
        · exact ld_blt S2 hg hm hv k hn hd
      apply cls2
      have lt : PySem.W.Looks (model X.prog X.w) h2 (typeOf (.ref a)) (.ref C) := fun A Q E s k r => wpAny_typeOf_ref (k _ _ e2) (by rw [z2.1]; exact r)
      apply (PySem.W.exm_one (M := model X.prog X.w) I2.kIn lt hyes).here
      -- the suite
      apply codeAny_handlers_suite_as
      refine HandSPX.lands_againZ fl2 fun h3 fl3 up3 => ?_
      have I3 : Inv X pins σ1 H1 { s1 with heap := h3 } := J.landed nb fl3.1 ((up.trans up2).trans up3) os ag
      have S3 : Inv (X.suite a (X.pn ++ pins)) [] σ1 (upd H1 a (exk a C d)) { s1 with heap := h3 } := suite_in (kept I3 fl3.there)
      refine store_ok (X := X.suite a (X.pn ++ pins)) (v := .ref a) S3 hN hi (.inl hk) rfl (fun s4 S4 => ?_) (.inr hk)
      refine wpAny_mono ((hsu a (X.pn ++ pins)).run [] s4 _ _ _ S4 (hts a na)) ?_ fun _ _ k => k.elim
      have away : ∀ {σ5 : L2.St} {H5 : Hp} {s5 : Shared} {Q : Shared → Prop}, Inv (X.suite a (X.pn ++ pins)) [] σ5 H5 s5 → (∀ s6, Inv X pins (σ5.set i none) H5 s6 → Q s6) → wpAny (model X.prog X.w) X.A (do bindName X.env n .none; unbindBehindTheSuite X.env n pos2) (fun _ s6 => Q s6) X.xe s5 :=
        fun S5 k => gone_ok (suite_out S5 ok) hN hi hk k
      intro f s5 hf
      cases f with
      | next => rcases hf with ⟨σ5, H5, S5, k⟩; exact away S5 fun _ K5 => ⟨_, _, K5, k⟩
      | brk => rcases hf with ⟨σ5, H5, S5, k⟩; exact away S5 fun _ K5 => ⟨_, _, K5, k⟩
      | cont => rcases hf with ⟨σ5, H5, S5, k⟩; exact away S5 fun _ K5 => ⟨_, _, K5, k⟩
      | ret u => rcases hf with ⟨v5, σ5, H5, S5, r5, k⟩; exact away S5 fun _ K5 => ⟨_, _, _, K5, r5, k⟩
    · intro f s1 hf
      cases f with
      | next => rcases hf with ⟨σ1, H1, J, k⟩; exact wpAny_execs_nil ⟨σ1, H1, J.ofTry ok, k⟩
      | brk => rcases hf with ⟨σ1, H1, J, k⟩; exact ⟨σ1, H1, J.ofTry ok, k⟩
      | cont => rcases hf with ⟨σ1, H1, J, k⟩; exact ⟨σ1, H1, J.ofTry ok, k⟩
      | ret u => rcases hf with ⟨v1, σ1, H1, J, r1, k⟩; exact ⟨v1, σ1, H1, J.ofTry ok, r1, k⟩
end
end PL
namespace PL
open PySem PySem.Spec PyProof.Rows L2
/-! ### try, kept exceptions: pure readings -/
/-- try: body / except .. as i: suite; tab tells by a class's name whether the clause takes it -/
def mTry (tab : Str → Option Bool) (i : Nat) (body suite : M Flow) : M Flow := fun m => match body m with
  | .exc x m1 => if tab x.cls = some true then (match putE i (.exc x) m1 with
      | some m2 => (match suite m2 with
          | .ok f m3 => .ok f ⟨m3.env.set i none, m3.st⟩
          | _ => .bad)
      | none => .bad) else .bad
  | r => r
/-- what tab says is so: of the class c -/
def TabX (X : Cx) (tab : Str → Option Bool) (c : Value) : Prop := ∀ (n : Str) (C : Addr), X.mg n = some (.ref C) → tab n = some true → PySem.W.exmOne X.K (.ref C) c = some true
/-- what tab says is so: isinstance with the class c -/
def TabI (X : Cx) (tab : Str → Option Bool) (c : Value) : Prop := ∀ (n : Str) (C : Addr) (b : Bool), X.mg n = some (.ref C) → tab n = some b → ExcC X.K C ∧ PySem.W.kitOne X.K (.ref C) c = some b
section
variable {X : Cx} {W : WX} {pos : Pos} {e : Expr} {x n : Str} {c : Value} {i : Nat} {body suite : List Stmt} {b0 : Stmt} {np pos2 : Pos} {tab : Str → Option Bool}
theorem Lv.gone {K : PySem.W.Frag} {mg : Str → Option Value} {w : Wd} {T : Addr → Prop} {σ : L2.St} {H : Hp} {me : Me} (lv : Lv K mg w T σ H me) (i : Nat) : Lv K mg w T (σ.set i none) H ⟨me.env.set i none, me.st⟩ :=
  Lv.forget (vs := [i]) lv (by rw [List.length_set]) fun j hj => by rw [List.getElem?_set_ne (fun z => hj (by rw [z]; exact List.mem_singleton.2 rfl))]
theorem pps_try {mb ms : M Flow} (hst : X.stack = X.env :: X.outer) (hfr : X.env.frame = some X.env.locals) (hN : X.N.Nodup) (hc : Names X x c) (hex : X.ex = []) (ht : TabX X tab c)
    (hb : ∀ (W : WX) (pn : List (Addr × Obj)) (xe : Value → Shared → Prop), Takes (X.tr pn xe) W → PassesOwn (model X.prog X.w) X.A X.env xe → PPSs (X.tr pn xe) W body mb)
    (hsu : ∀ (a : Addr) (pn : List (Addr × Obj)), PPSs (X.suite a pn) W0 (b0 :: suite) ms) (hi : X.N[i]? = some n := by rfl) (hk : X.env.kindOf n = some .local := by rfl) :
    PPS X W (.Try body [.ExceptHandler (some (.Name x np)) (some n) (b0 :: suite) pos2] [] [] pos) (mTry tab i mb ms) := by
  refine PS.imp (ps_keep (tb := fun W => tS X.K X.mg W mb) (ts := tS X.K X.mg W0 ms) hst hfr hN hi hk hc hex hb hsu) fun D σ H q => ?_
  obtain ⟨w, T, me, ok, lv, q⟩ := q
  refine ⟨w, T, me, ok, lv, ?_⟩
  unfold mTry at q
  cases hm : mb me with
  | bad => rw [hm] at q; exact q
  | ok f m1 => rw [hm] at q; cases f <;> exact q
  | exc y m1 =>
    rw [hm] at q
    dsimp only at q
    split at q
    · rename_i hy
      split at q
      · rename_i m2 hp
        split at q
        · rename_i f m3 hs
          intro c' dd σ' H' T' fr lv' xr
          obtain ⟨C, rfl, g, xr2⟩ := xr
          refine ⟨ht _ C g hy, C, rfl, fun a na => ?_⟩
          have sm : Same0 H' (upd H' a (exk a C dd)) := Same0.new na
          have sv : SV X.K X.mg w.sc T' (upd H' a (exk a C dd)) (.ref a) (.exc y) := ⟨a, C, dd, rfl, upd_same, nT_new lv'.al na, XR.fr sm.fr ⟨C, rfl, g, xr2⟩⟩
          refine ⟨w, T', m2, ok, putE_ok (lv'.same sm) sv hp, ?_⟩
          rw [hs]
          cases f with
          | next => exact fun σ6 H6 T6 fr6 lv6 => q (σ6.set i none) H6 T6 (fr.trans (sm.fr.trans fr6)) (lv6.gone i)
          | brk => exact fun σ6 H6 T6 fr6 lv6 => q (σ6.set i none) H6 T6 (fr.trans (sm.fr.trans fr6)) (lv6.gone i)
          | cont => exact fun σ6 H6 T6 fr6 lv6 => q (σ6.set i none) H6 T6 (fr.trans (sm.fr.trans fr6)) (lv6.gone i)
          | ret s => exact q
        · exact q.elim
      · exact q.elim
    · exact q.elim
/-- a kept exception's object, as the library looks at it -/
theorem exk_inst {pins : List (Addr × Obj)} {σ : L2.St} {H : Hp} {s : Shared} {a C : Addr} {dd : Option Addr} {T : Addr → Prop} {y : Xn} (I : Inv X pins σ H s) (ha : H a = some (exk a C dd)) (xr : XR X.K X.mg T H (.ref C) dd y) :
    ∃ ox od, PySem.W.InstAt s.heap a ox C od ∧ ox.dict = dd ∧ ∀ d0, dd = some d0 → ∃ o, od = some o ∧ s.heap.get? d0 = some o := by
  obtain ⟨⟨oe, vs, e1, ⟨z1, z2⟩, e2⟩, _, _⟩ := (show ObjOk X.prog X.w H s.heap a (exk a C dd) from I.hok a _ ha)
  have hn : PySem.W.notCls oe = true := by unfold PySem.W.notCls; rw [e2]
  obtain ⟨C', hC, _, hd, _⟩ := xr
  rcases hd with hd | ⟨d0, fs, hd, hx, _⟩
  · subst hd
    exact ⟨oe, none, ⟨e1, z1, hn, by rw [z2]; trivial⟩, z2, fun d0 k => nomatch k⟩
  · subst hd
    obtain ⟨mA, hns, _⟩ := (show ObjOk X.prog X.w H s.heap d0 (.xd fs) from I.hok d0 _ hx)
    obtain ⟨od, ho, _⟩ := lookIn_ns hns
    exact ⟨oe, some od, ⟨e1, z1, hn, by rw [z2]; exact ho⟩, z2, fun d1 k => by cases k; exact ⟨od, rfl, ho⟩⟩
/-- isinstance(e, c) of a kept exception -/
def rIsK (X : Cx) (tab : Str → Option Bool) (c : Value) : List V → Hp → VK → Prop := fun xs H Q => ∃ (v cv : V) (T : Addr → Prop) (y : Xn) (b : Bool), xs = [v, cv] ∧ ClsV cv c ∧ XV X.K X.mg T H v y ∧ tab y.cls = some b ∧ Q (.bl b) H
theorem call_isK (ht : TabI X tab c) : CallR X (.builtin "isinstance") (rIsK X tab c) := by
  intro pins s σ H xs us Q I r h
  obtain ⟨v, cv, T, y, b, rfl, k, xv, hb, q⟩ := h
  obtain ⟨a, C, dd, rfl, ha, nT, xr⟩ := xv
  obtain ⟨u1, u2, rfl, r1, r2⟩ := vals2 r
  obtain rfl : u1 = Value.ref a := r1
  have ec := k.eq r2
  subst ec
  obtain ⟨C', hC, g, _⟩ := id xr
  cases hC
  obtain ⟨E, ke⟩ := ht _ C b g hb
  obtain ⟨ox, od, J, _⟩ := exk_inst I ha xr
  have hcl : (PySem.W.clsIn X.K C).isSome = true := by
    obtain ⟨cd, hc, _⟩ := PySem.W.any_some E.hd
    rw [hc]; rfl
  exact PySem.W.kia_one (PySem.W.kitx_exc hcl E.hg E.hk E.hs E.ha E.hn E.ht E.hm) I.kIn J ke (fun z => nomatch z) fun tk => ⟨.bl b, H, I.kept (t' := tk) fun _ _ z => z, rfl, q⟩
def mIsX (tab : Str → Option Bool) (a : M Sl) : M Sl := fun m => (a m).bind fun s m1 => match s with
  | .exc y => (match tab y.cls with
      | some b => .ok (.dat (.bool b)) m1
      | none => .bad)
  | _ => .bad
theorem pp_isX {p p2 : Pos} {m : M Sl} {y : Str} {cv : V} (hg : Gl X "isinstance") (hm : X.mg "isinstance" = none) (hv : ClsV cv c) (hcl : PE X (.Name y p2) (tC cv)) (ht : TabI X tab c) (ha : PP X W e m)
    (he : starEach [e, .Name y p2] X.env = (false, eval e X.env) :: starEach [.Name y p2] X.env := by rfl) (he2 : starEach [.Name y p2] X.env = (false, eval (.Name y p2) X.env) :: starEach [] X.env := by rfl) (hpl : (backTo pos (starEach [.Name y p2] X.env)).any (·.1) = false := by rfl) :
    PP X W (.Call (.Name "isinstance" p) [e, .Name y p2] [] pos) (mIsX tab m) := by
  refine PE.imp (pe_callB (call_isK ht) hg hm boot_isi (pa_cons ha (pa_cons hcl pa_nil he2) he) (by decide) (by decide) he hpl) fun σ H Q q => ?_
  obtain ⟨w, T, me, ok, lv, q⟩ := q
  refine Rn.seq ok lv q fun T1 me1 v s H1 s1 lv1 p1 q1 => ?_
  split at q1
  · rename_i z
    split at q1
    · rename_i b hb
      exact ⟨v, cv, T1, z, b, rfl, hv, p1, hb, q1 _ H1 T1 (Stp.refl _ _ _ _ _) lv1 (.bl _)⟩
    · exact q1.elim
  · exact q1.elim
end
end PL
namespace PL
open PySem PySem.Spec PyProof.Rows L2
/-! ### a kept exception's field, is None, {}, three names at once -/
section
variable {X : Cx} {W : WX} {pos : Pos} {a b c e : Expr}
def mFld (okc : Str → Bool) (f : Str) (a : M Sl) : M Sl := fun m => (a m).bind fun s m1 => match s with
  | .exc y => if okc y.cls = true then (match y.fs.lookup f with
      | some d => .ok (.dat d) m1
      | none => .bad) else .bad
  | _ => .bad
/-- the classes whose field f may be read -/
def TabF (X : Cx) (okc : Str → Bool) (f : Str) : Prop := ∀ (n : Str) (C : Addr), X.mg n = some (.ref C) → okc n = true → XfC X.K C ∧ PySem.W.findIn X.K (.ref C) f = some none
theorem pp_fld {okc : Str → Bool} {f : Str} {m : M Sl} (hf : TabF X okc f) (ha : PP X W e m) (hb : attributeBase e f X.env (eval e X.env) = eval e X.env := by rfl) : PP X W (.Attribute e f pos) (mFld okc f m) := by
  refine ⟨fun pins s σ H Q I q => ?_⟩
  obtain ⟨w, T, me, ok, lv, q⟩ := q
  have q2 : tP X.K X.mg W m σ H (fun v H1 => ∃ (y : Xn) (d : PyData) (T1 : Addr → Prop), XV X.K X.mg T1 H1 v y ∧ okc y.cls = true ∧ y.fs.lookup f = some d ∧ ∀ v', DD X.K T1 H1 v' d → Q v' H1) := by
    refine Rn.seq ok lv q fun T1 me1 v sl H1 s1 lv1 p1 q1 => ?_
    split at q1
    · rename_i y
      split at q1
      · rename_i ho
        split at q1
        · rename_i d hd
          exact ⟨y, d, T1, p1, ho, hd, fun v' dv => q1 v' H1 T1 (Stp.refl _ _ _ _ _) lv1 dv⟩
        · exact q1.elim
      · exact q1.elim
    · exact q1.elim
  refine attr_of hb (thn (ha.run pins s σ H _ I q2) fun u s1 hh => ?_)
  obtain ⟨v, H1, I1, rv, y, d, T1, xv, ho, hd, k⟩ := hh
  obtain ⟨ad, C, dd, rfl, hx, nT, xr⟩ := xv
  obtain rfl : u = Value.ref ad := rv
  obtain ⟨C', hC, g, _, fld⟩ := id xr
  cases hC
  obtain ⟨d0, fs, v, rfl, h2, _, h4, h5⟩ := fld f d hd
  obtain ⟨F, hno⟩ := hf _ C g ho
  obtain ⟨ox, od, J, _, hod⟩ := exk_inst I1 hx xr
  obtain ⟨o, rfl, ho2⟩ := hod d0 rfl
  obtain ⟨mA, hns, hr⟩ := (show ObjOk X.prog X.w H1 s1.heap d0 (.xd fs) from I1.hok d0 _ h2)
  obtain ⟨od2, ho3, hl⟩ := lookIn_ns hns
  rw [ho2] at ho3
  cases ho3
  obtain ⟨u2, hu, ru⟩ := RelO.some_of (v := v) (o := mA f) (by rw [← h4]; exact hr f)
  exact HandSPX.exc_get I1.kIn J F.ga F.gg F.exC (PySem.W.findObj_own F.hdC hno rfl (by rw [hl, hu])) (handed_of ru) ⟨v, H1, I1.tok _, ru, k v h5⟩
/-- e is None, e perhaps an exception -/
def mIsNx (a : M Sl) : M Sl := fun m => (a m).bind fun s m1 => match s with
  | .exc _ => .ok (.dat (.bool false)) m1
  | .dat d => .ok (.dat (.bool (isN d))) m1
  | _ => .bad
theorem tIsNx_ok {x : M Sl} {σ : L2.St} {H : Hp} {Q : VK} (q : tP X.K X.mg W (mIsNx x) σ H Q) : tP X.K X.mg W x σ H (fun v H1 => rIsN0 v .non H1 Q) := by
  obtain ⟨w, T, me, ok, lv, q⟩ := q
  refine Rn.seq ok lv q fun T1 me1 v s H1 s1 lv1 p1 q1 => ?_
  split at q1
  · obtain ⟨ad, C, dd, rfl, _⟩ := p1
    exact ⟨rfl, q1 _ H1 T1 (Stp.refl _ _ _ _ _) lv1 (.bl _)⟩
  · rename_i d
    have hd : DB X.K w.sc T1 H1 v d := .inl p1
    exact ⟨rfl, by rw [hd.isNon]; exact q1 _ H1 T1 (Stp.refl _ _ _ _ _) lv1 (.bl _)⟩
  · exact q1.elim
theorem pp_isNx {x : M Sl} (ha : PP X W a x) (hb : PE X b (tC .non)) (hm : behindInMarks .Is b = false) : PP X W (.Compare a [.Is] [b] pos) (mIsNx x) :=
  PE.imp (pe_cmpR op_isN0 ha hb hm) fun _ _ _ => tIsNx_ok
theorem ppt_isNx {x : M Sl} (ha : PP X W a x) (hb : PE X b (tC .non)) (hm : behindInMarks .Is b = false) : PPt X W (.Compare a [.Is] [b] pos) (mTest (mIsNx x)) :=
  PT.imp (pt_cmpR op_isN0 ha hb hm) fun _ _ _ q => tIsNx_ok (test_of q)
theorem pp_dict0 : PP X W (.Dict [] [] pos) (mC (.dat (.dict []))) := by
  refine PE.imp pe_dnewK fun σ H Q q => ?_
  obtain ⟨w, T, me, ok, lv, q⟩ := q
  intro p hp
  have sm : Same0 H (upd H p (.dK [])) := Same0.new hp
  refine q (.ref p) _ T ⟨fun b o _ h => sm b o h, fun _ h => h, fun _ a b => absurd a b, fun _ _ h => h⟩ (lv.same sm) (.dic upd_same (nT_new lv.al hp))
def mPar3 (i j k : Nat) (a : M (List Sl)) : M Flow := fun m => (a m).bind fun ss m1 => match ss with
  | [s, t, u] => match putE i s m1 with
    | some m2 => match putE j t m2 with
      | some m3 => match putE k u m3 with
        | some m4 => .ok .next m4
        | none => .bad
      | none => .bad
    | none => .bad
  | _ => .bad
theorem pps_par3 {i j l : Nat} {x y z : Str} {m : M (List Sl)} {px py pz pt : Pos} {kt k2 : Nat} {pt2 : Pos} (hc : X.calm = true) (hN : X.N.Nodup) (hi : X.N[i]? = some x) (hj : X.N[j]? = some y) (hl : X.N[l]? = some z) (hij : i ≠ j) (hil : i ≠ l) (hjl : j ≠ l)
    (hx : X.env.scope.names.lookup x = some .local) (hy : X.env.scope.names.lookup y = some .local) (hz : X.env.scope.names.lookup z = some .local) (ha : PPs X W [a, b, c] m)
    (hw : swappedStores [.Tuple [.Name x px, .Name y py, .Name z pz] kt pt] (.Tuple [a, b, c] k2 pt2) X.env = pure (some [x, y, z]) := by rfl)
    (hs : swapsWithSole [.Tuple [.Name x px, .Name y py, .Name z pz] kt pt] (.Tuple [a, b, c] k2 pt2) pos.line X.env = pure false := by rfl) :
    PPS X W (.Assign [.Tuple [.Name x px, .Name y py, .Name z pz] kt pt] (.Tuple [a, b, c] k2 pt2) pos) (mPar3 i j l m) := by
  refine PS.imp (ps_par3 hc hN hi hj hl hij hil hjl hx hy hz ha hw hs) fun D σ H q => ?_
  obtain ⟨w, T, me, ok, lv, q⟩ := q
  refine SRn.seq ok lv q fun T1 me1 vs ss H1 s1 lv1 p1 q1 => ?_
  split at q1
  · rename_i s t u
    obtain ⟨v1, v2, v3, rfl, h1, h2, h3⟩ := p1.three
    cases hp : putE i s me1 with
    | none => rw [hp] at q1; exact q1.elim
    | some m2 =>
      rw [hp] at q1
      simp only at q1
      cases hp2 : putE j t m2 with
      | none => rw [hp2] at q1; exact q1.elim
      | some m3 =>
        rw [hp2] at q1
        simp only at q1
        cases hp3 : putE l u m3 with
        | none => rw [hp3] at q1; exact q1.elim
        | some m4 =>
          rw [hp3] at q1
          exact ⟨v1, v2, v3, rfl, q1.nx (putE_ok (putE_ok (putE_ok lv1 h1 hp) h2 hp2) h3 hp3)⟩
  · exact q1.elim
/-! list.count of truth values -/
def eqb (k : Bool) (v : Value) : Bool := match v with
  | .bool n => n == k
  | _ => false
theorem eqb_gives (n k : Bool) : MeetsSeq.EqGives (.bool n) (.bool k) (n == k) := fun prog w A E s Q h => by
  unfold eqBool
  show wpAny _ _ (if (Value.bool n == Value.bool k) = true then _ else _) Q E s
  by_cases hab : (Value.bool n == Value.bool k) = true
  · rw [if_pos hab]
    have e : n = k := by have := eq_of_beq hab; injection this
    subst e
    exact wpAny_bind (wpAny_rule (wpAny_pure (by simpa using h)))
  · rw [if_neg hab]
    exact wpAny_bind (eq_bool (wpAny_truthy_bool h))
theorem bls_vals : ∀ {bs : List Bool} {us : List Value}, Vals (bs.map V.bl) us → us = bs.map Value.bool
  | [], _, .nil => rfl
  | b :: bs, _, .cons r t => by
    have := bls_vals t
    subst this
    cases (show _ = Value.bool b from r)
    rfl
theorem eqb_count (k : Bool) : ∀ bs : List Bool, (bs.map Value.bool).countP (eqb k) = bs.count k
  | [] => rfl
  | b :: bs => by
    have ih := eqb_count k bs
    rw [List.map_cons, List.countP_cons, List.count_cons, ih] <;> rfl
def rCntB (K : PySem.W.Frag) : V → List V → Hp → VK → Prop := fun x xs H Q => ∃ (p : Addr) (bs : List Bool) (k : Bool), x = .ref p ∧ xs = [.bl k] ∧ SqL K H p (bs.map V.bl) ∧ Q (.int (bs.count k : Nat)) H
theorem mt_bcount : MtR X "list.count" (rCntB X.K) := by
  intro pins s σ H x xs v us Q I rx rxs h
  obtain ⟨p, bs, k, rfl, rfl, hs, q⟩ := h
  cases rx
  obtain ⟨u, rfl, ru⟩ := rxs.one
  cases (show u = Value.bool k from ru)
  obtain ⟨its, rv, ⟨⟨cls, dd, data, sl⟩, n, ho, hc, hdn, hd⟩, hlen⟩ := I.list hs
  simp only at hc hd
  subst hc hd
  have hi := bls_vals rv
  subst hi
  have gv : ∀ y ∈ (bs.map Value.bool), MeetsSeq.EqGives y (.bool k) (eqb k y) := fun y hy => by
    obtain ⟨b, _, rfl⟩ := List.mem_map.1 hy
    exact eqb_gives b k
  have ec := eqb_count k bs
  refine call_meets PySem.F.slot_list_count ⟨_, ho, rfl⟩ PySem.F.entry_list_count (PySem.F.args_list_count_2 _ _) (SeqAt.list_countAt p (bs.map Value.bool).toArray n dd sl (.bool k) (eqb k))
    ⟨ho, fun y hy => (gv y (by simpa using hy)).at _ _, .int (bs.count k : Nat), H, I.tok _, ⟨s.toks, ?_⟩, q⟩
  show Value.int (((bs.map Value.bool).toArray.toList.countP (eqb k) : Nat) : Int) s.toks = _
  rw [show (bs.map Value.bool).toArray.toList = bs.map Value.bool from rfl, ec]
def pCnt (k : Bool) (x : PyData) : Option PyData := match x with
  | .list l => (boolsOf l).map fun bs => .int (bs.count k : Nat)
  | _ => none
theorem pp_count {x : M PyData} {k : Bool} {p2 p3 : Pos} (ha : PB X W a x) (hb : PE X b (tC (.bl k)))
    (hbase : attributeBase a "count" X.env (eval a X.env) = eval a X.env := by rfl)
    (hfew : ((backTo p3 (starEach [b] X.env)).all (fun x => !x.1) && (backToKw p3 (keywordEach [] X.env)).all (fun x => x.1.isSome) && decide ([b].length + ([] : List Keyword).length + (if ([] : List Keyword).isEmpty then 0 else 1) < 30)) = true := by rfl)
    (hline : (p2.endLine == p3.line) = true := by rfl) (hs : starEach [b] X.env = (false, eval b X.env) :: starEach [] X.env := by rfl) (hpl : (backTo p3 (starEach [] X.env)).any (·.1) = false := by rfl) :
    PP X W (.Call (.Attribute a "count" p2) [b] [] p3) (mOp1 (pCnt k) x) := by
  refine PE.imp (pe_bm PySem.F.plainAttrs_list PySem.F.slot_list_count PySem.F.type_list_count mt_bcount ha (pa_cons hb pa_nil hs) hbase hfew hline hs hpl) fun σ H Q q => ?_
  obtain ⟨w, T, me, ok, lv, q⟩ := q
  refine Rn.seq ok lv q fun T1 me1 v d H1 s1 lv1 p1 q1 => ?_
  cases hf : pCnt k d with
  | none => rw [hf] at q1; exact q1.elim
  | some z =>
    rw [hf] at q1
    unfold pCnt at hf
    split at hf
    · rename_i l
      cases hb2 : boolsOf l with
      | none => rw [hb2] at hf; cases hf
      | some bs =>
        rw [hb2] at hf
        cases hf
        obtain ⟨p, vs, rfl, r, dd⟩ := p1.list
        have ev := dd.bools hb2
        subst ev
        exact ⟨.inl ⟨rfl, _, .inl r⟩, p, bs, k, rfl, rfl, .inl r, q1 _ H1 T1 (Stp.refl _ _ _ _ _) lv1 (DD.int (bs.count k : Nat))⟩
    · cases hf
def pNeg : PyData → Option PyData
  | .int i => some (.int (-i))
  | _ => none
theorem pp_neg {x : M PyData} (ha : PB X W a x) : PP X W (.UnaryOp .USub a pos) (mOp1 pNeg x) := by
  refine PE.imp (pe_un un_neg ha) fun σ H Q q => ?_
  obtain ⟨w, T, me, ok, lv, q⟩ := q
  refine Rn.seq ok lv q fun T1 me1 v d H1 s1 lv1 p1 q1 => ?_
  cases hf : pNeg d with
  | none => rw [hf] at q1; exact q1.elim
  | some z =>
    rw [hf] at q1
    unfold pNeg at hf
    split at hf
    · cases hf
      exact ⟨_, p1.int, q1 _ H1 T1 (Stp.refl _ _ _ _ _) lv1 (DD.int _)⟩
    · cases hf
end
end PL
namespace PL.RF
open PySem PySem.Spec PyProof.Rows L2
def topS (i : Nat) : Stmt := PySem.Challenge.pw_restingfixes_k04_wrong_texts.main.body.getD i (.Pass ⟨0, 0, 0, 0⟩)
abbrev fuel : Nat := 1000000
abbrev sF_check_book : Stmt := topS 8
abbrev sF_is_book : Stmt := topS 9
abbrev sF_is_fix : Stmt := topS 10
abbrev sF_is_word : Stmt := topS 11
abbrev sF_book_text : Stmt := topS 14
abbrev sF_read_book : Stmt := topS 15
abbrev sF_read_fixes : Stmt := topS 16
abbrev sF_read_fix : Stmt := topS 17
abbrev sF_read_word : Stmt := topS 18
abbrev sF_skip_blanks : Stmt := topS 19
abbrev sF_skip_sign : Stmt := topS 20
abbrev sF__law_source : Stmt := topS 22
abbrev sF__law_draw : Stmt := topS 23
abbrev sF__law_pick : Stmt := topS 24
abbrev sF__law_word : Stmt := topS 25
abbrev sF__law_fix : Stmt := topS 26
abbrev sF__law_book : Stmt := topS 27
abbrev sF__law_end : Stmt := topS 28
abbrev sF__law_due : Stmt := topS 29
abbrev sF__law_is_book : Stmt := topS 30
abbrev sF__law_read : Stmt := topS 31
abbrev sF__law_fits : Stmt := topS 32
abbrev sF__law_bent : Stmt := topS 33
abbrev sF_law : Stmt := topS 34
abbrev sI_InvalidText : Stmt := inClass (topS 4) 0
theorem sc_check_book : FnScope ["book"] ["book"] (defScope sF_check_book) := ⟨rfl, rfl, rfl, by decide +kernel, rfl, by decide +kernel, by decide +kernel⟩
theorem sc_is_book : FnScope ["value", "fix"] ["value"] (defScope sF_is_book) := ⟨rfl, rfl, rfl, by decide +kernel, rfl, by decide +kernel, by decide +kernel⟩
theorem sc_is_fix : FnScope ["value", "ahead", "old", "new", "behind", "sides"] ["value"] (defScope sF_is_fix) := ⟨rfl, rfl, rfl, by decide +kernel, rfl, by decide +kernel, by decide +kernel⟩
theorem sc_is_word : FnScope ["value", "least", "most", "letter"] ["value", "least", "most"] (defScope sF_is_word) := ⟨rfl, rfl, rfl, by decide +kernel, rfl, by decide +kernel, by decide +kernel⟩
theorem sc_book_text : FnScope ["book", "ahead", "old", "new", "behind"] ["book"] (defScope sF_book_text) := ⟨rfl, rfl, rfl, by decide +kernel, rfl, by decide +kernel, by decide +kernel⟩
theorem sc_read_book : FnScope ["text", "book"] ["text"] (defScope sF_read_book) := ⟨rfl, rfl, rfl, by decide +kernel, rfl, by decide +kernel, by decide +kernel⟩
theorem sc_read_fixes : FnScope ["text", "fix", "at", "fixes"] ["text"] (defScope sF_read_fixes) := ⟨rfl, rfl, rfl, by decide +kernel, rfl, by decide +kernel, by decide +kernel⟩
theorem sc_read_fix : FnScope ["text", "at", "words", "sign", "word"] ["text", "at"] (defScope sF_read_fix) := ⟨rfl, rfl, rfl, by decide +kernel, rfl, by decide +kernel, by decide +kernel⟩
theorem sc_read_word : FnScope ["text", "at", "begin", "end"] ["text", "at"] (defScope sF_read_word) := ⟨rfl, rfl, rfl, by decide +kernel, rfl, by decide +kernel, by decide +kernel⟩
theorem sc_skip_blanks : FnScope ["text", "at"] ["text", "at"] (defScope sF_skip_blanks) := ⟨rfl, rfl, rfl, by decide +kernel, rfl, by decide +kernel, by decide +kernel⟩
theorem sc_skip_sign : FnScope ["text", "at", "sign"] ["text", "at", "sign"] (defScope sF_skip_sign) := ⟨rfl, rfl, rfl, by decide +kernel, rfl, by decide +kernel, by decide +kernel⟩
theorem sc__law_source : FnScope ["script", "cells", "k"] ["script"] (defScope sF__law_source) := ⟨rfl, rfl, rfl, by decide +kernel, rfl, by decide +kernel, by decide +kernel⟩
theorem sc__law_draw : FnScope ["source", "limit", "cells", "turn", "place", "cell", "number"] ["source", "limit"] (defScope sF__law_draw) := ⟨rfl, rfl, rfl, by decide +kernel, rfl, by decide +kernel, by decide +kernel⟩
theorem sc__law_pick : FnScope ["source", "values"] ["source", "values"] (defScope sF__law_pick) := ⟨rfl, rfl, rfl, by decide +kernel, rfl, by decide +kernel, by decide +kernel⟩
theorem sc__law_word : FnScope ["source", "alphabet", "least", "most", "k"] ["source", "alphabet", "least", "most"] (defScope sF__law_word) := ⟨rfl, rfl, rfl, by decide +kernel, rfl, by decide +kernel, by decide +kernel⟩
theorem sc__law_fix : FnScope ["source", "alphabet", "ahead", "behind"] ["source", "alphabet"] (defScope sF__law_fix) := ⟨rfl, rfl, rfl, by decide +kernel, rfl, by decide +kernel, by decide +kernel⟩
theorem sc__law_book : FnScope ["source", "alphabet", "most", "k"] ["source", "alphabet", "most"] (defScope sF__law_book) := ⟨rfl, rfl, rfl, by decide +kernel, rfl, by decide +kernel, by decide +kernel⟩
theorem sc__law_end : FnScope ["text", "at", "alphabet", "end"] ["text", "at", "alphabet"] (defScope sF__law_end) := ⟨rfl, rfl, rfl, by decide +kernel, rfl, by decide +kernel, by decide +kernel⟩
theorem sc__law_due : FnScope ["text", "at", "found", "fix", "end"] ["text"] (defScope sF__law_due) := ⟨rfl, rfl, rfl, by decide +kernel, rfl, by decide +kernel, by decide +kernel⟩
theorem sc__law_is_book : FnScope ["book", "ahead", "old", "new", "behind"] ["book"] (defScope sF__law_is_book) := ⟨rfl, rfl, rfl, by decide +kernel, rfl, by decide +kernel, by decide +kernel⟩
theorem sc__law_read : FnScope ["text", "caught", "found", "e", "hits"] ["text"] (defScope sF__law_read) := ⟨rfl, rfl, rfl, by decide +kernel, rfl, by decide +kernel, by decide +kernel⟩
theorem sc__law_fits : FnScope ["text", "due"] ["text"] (defScope sF__law_fits) := ⟨rfl, rfl, rfl, by decide +kernel, rfl, by decide +kernel, by decide +kernel⟩
theorem sc__law_bent : FnScope ["source", "text", "signs", "at", "way"] ["source", "text"] (defScope sF__law_bent) := ⟨rfl, rfl, rfl, by decide +kernel, rfl, by decide +kernel, by decide +kernel⟩
theorem sc_law : FnScope ["script", "source", "turn", "text", "k", "value", "some"] ["script"] (defScope sF_law) := ⟨rfl, rfl, rfl, by decide +kernel, rfl, by decide +kernel, by decide +kernel⟩
theorem sc_I_InvalidText : FnScope ["self", "at"] ["self", "at"] (defScope sI_InvalidText) := ⟨rfl, rfl, rfl, by decide +kernel, rfl, by decide +kernel, by decide +kernel⟩
abbrev c_ALPHABET : Str := "abcdefghijklmnopqrstuvwxyz"
abbrev c_SIGNS : Str := "/>/"
/-! ### where things stand -/
structure Ads where
  a_check_book : Addr
  fd_check_book : FuncData
  a_is_book : Addr
  fd_is_book : FuncData
  a_is_fix : Addr
  fd_is_fix : FuncData
  a_is_word : Addr
  fd_is_word : FuncData
  a_book_text : Addr
  fd_book_text : FuncData
  a_read_book : Addr
  fd_read_book : FuncData
  a_read_fixes : Addr
  fd_read_fixes : FuncData
  a_read_fix : Addr
  fd_read_fix : FuncData
  a_read_word : Addr
  fd_read_word : FuncData
  a_skip_blanks : Addr
  fd_skip_blanks : FuncData
  a_skip_sign : Addr
  fd_skip_sign : FuncData
  a__law_source : Addr
  fd__law_source : FuncData
  a__law_draw : Addr
  fd__law_draw : FuncData
  a__law_pick : Addr
  fd__law_pick : FuncData
  a__law_word : Addr
  fd__law_word : FuncData
  a__law_fix : Addr
  fd__law_fix : FuncData
  a__law_book : Addr
  fd__law_book : FuncData
  a__law_end : Addr
  fd__law_end : FuncData
  a__law_due : Addr
  fd__law_due : FuncData
  a__law_is_book : Addr
  fd__law_is_book : FuncData
  a__law_read : Addr
  fd__law_read : FuncData
  a__law_fits : Addr
  fd__law_fits : FuncData
  a__law_bent : Addr
  fd__law_bent : FuncData
  a_law : Addr
  fd_law : FuncData
  C_InvalidBook : Addr
  C_InvalidText : Addr
  C_FixError : Addr
  C_InvalidWord : Addr
  i_InvalidText : Addr
  fi_InvalidText : FuncData
structure Txt (K : PySem.W.Frag) (mg : Str → Option Value) (A : Ads) : Prop where
  F_check_book : Fun K "check_book" "check_book" sF_check_book A.a_check_book A.fd_check_book
  B_check_book : Binds K A.fd_check_book ["book"] []
  G_check_book : mg "check_book" = some (.ref A.a_check_book)
  F_is_book : Fun K "is_book" "is_book" sF_is_book A.a_is_book A.fd_is_book
  B_is_book : Binds K A.fd_is_book ["value"] []
  G_is_book : mg "is_book" = some (.ref A.a_is_book)
  F_is_fix : Fun K "is_fix" "is_fix" sF_is_fix A.a_is_fix A.fd_is_fix
  B_is_fix : Binds K A.fd_is_fix ["value"] []
  G_is_fix : mg "is_fix" = some (.ref A.a_is_fix)
  F_is_word : Fun K "is_word" "is_word" sF_is_word A.a_is_word A.fd_is_word
  B_is_word : Binds K A.fd_is_word ["value", "least", "most"] []
  G_is_word : mg "is_word" = some (.ref A.a_is_word)
  F_book_text : Fun K "book_text" "book_text" sF_book_text A.a_book_text A.fd_book_text
  B_book_text : Binds K A.fd_book_text ["book"] []
  G_book_text : mg "book_text" = some (.ref A.a_book_text)
  F_read_book : Fun K "read_book" "read_book" sF_read_book A.a_read_book A.fd_read_book
  B_read_book : Binds K A.fd_read_book ["text"] []
  G_read_book : mg "read_book" = some (.ref A.a_read_book)
  F_read_fixes : Fun K "read_fixes" "read_fixes" sF_read_fixes A.a_read_fixes A.fd_read_fixes
  B_read_fixes : Binds K A.fd_read_fixes ["text"] []
  G_read_fixes : mg "read_fixes" = some (.ref A.a_read_fixes)
  F_read_fix : Fun K "read_fix" "read_fix" sF_read_fix A.a_read_fix A.fd_read_fix
  B_read_fix : Binds K A.fd_read_fix ["text", "at"] []
  G_read_fix : mg "read_fix" = some (.ref A.a_read_fix)
  F_read_word : Fun K "read_word" "read_word" sF_read_word A.a_read_word A.fd_read_word
  B_read_word : Binds K A.fd_read_word ["text", "at"] []
  G_read_word : mg "read_word" = some (.ref A.a_read_word)
  F_skip_blanks : Fun K "skip_blanks" "skip_blanks" sF_skip_blanks A.a_skip_blanks A.fd_skip_blanks
  B_skip_blanks : Binds K A.fd_skip_blanks ["text", "at"] []
  G_skip_blanks : mg "skip_blanks" = some (.ref A.a_skip_blanks)
  F_skip_sign : Fun K "skip_sign" "skip_sign" sF_skip_sign A.a_skip_sign A.fd_skip_sign
  B_skip_sign : Binds K A.fd_skip_sign ["text", "at", "sign"] []
  G_skip_sign : mg "skip_sign" = some (.ref A.a_skip_sign)
  F__law_source : Fun K "_law_source" "_law_source" sF__law_source A.a__law_source A.fd__law_source
  B__law_source : Binds K A.fd__law_source ["script"] []
  G__law_source : mg "_law_source" = some (.ref A.a__law_source)
  F__law_draw : Fun K "_law_draw" "_law_draw" sF__law_draw A.a__law_draw A.fd__law_draw
  B__law_draw : Binds K A.fd__law_draw ["source", "limit"] []
  G__law_draw : mg "_law_draw" = some (.ref A.a__law_draw)
  F__law_pick : Fun K "_law_pick" "_law_pick" sF__law_pick A.a__law_pick A.fd__law_pick
  B__law_pick : Binds K A.fd__law_pick ["source", "values"] []
  G__law_pick : mg "_law_pick" = some (.ref A.a__law_pick)
  F__law_word : Fun K "_law_word" "_law_word" sF__law_word A.a__law_word A.fd__law_word
  B__law_word : Binds K A.fd__law_word ["source", "alphabet", "least", "most"] []
  G__law_word : mg "_law_word" = some (.ref A.a__law_word)
  F__law_fix : Fun K "_law_fix" "_law_fix" sF__law_fix A.a__law_fix A.fd__law_fix
  B__law_fix : Binds K A.fd__law_fix ["source", "alphabet"] []
  G__law_fix : mg "_law_fix" = some (.ref A.a__law_fix)
  F__law_book : Fun K "_law_book" "_law_book" sF__law_book A.a__law_book A.fd__law_book
  B__law_book : Binds K A.fd__law_book ["source", "alphabet", "most"] []
  G__law_book : mg "_law_book" = some (.ref A.a__law_book)
  F__law_end : Fun K "_law_end" "_law_end" sF__law_end A.a__law_end A.fd__law_end
  B__law_end : Binds K A.fd__law_end ["text", "at", "alphabet"] []
  G__law_end : mg "_law_end" = some (.ref A.a__law_end)
  F__law_due : Fun K "_law_due" "_law_due" sF__law_due A.a__law_due A.fd__law_due
  B__law_due : Binds K A.fd__law_due ["text"] []
  G__law_due : mg "_law_due" = some (.ref A.a__law_due)
  F__law_is_book : Fun K "_law_is_book" "_law_is_book" sF__law_is_book A.a__law_is_book A.fd__law_is_book
  B__law_is_book : Binds K A.fd__law_is_book ["book"] []
  G__law_is_book : mg "_law_is_book" = some (.ref A.a__law_is_book)
  F__law_read : Fun K "_law_read" "_law_read" sF__law_read A.a__law_read A.fd__law_read
  B__law_read : Binds K A.fd__law_read ["text"] []
  G__law_read : mg "_law_read" = some (.ref A.a__law_read)
  F__law_fits : Fun K "_law_fits" "_law_fits" sF__law_fits A.a__law_fits A.fd__law_fits
  B__law_fits : Binds K A.fd__law_fits ["text"] []
  G__law_fits : mg "_law_fits" = some (.ref A.a__law_fits)
  F__law_bent : Fun K "_law_bent" "_law_bent" sF__law_bent A.a__law_bent A.fd__law_bent
  B__law_bent : Binds K A.fd__law_bent ["source", "text"] []
  G__law_bent : mg "_law_bent" = some (.ref A.a__law_bent)
  F_law : Fun K "law" "law" sF_law A.a_law A.fd_law
  Z_ValueError : mg "ValueError" = none
  Z_abs : mg "abs" = none
  Z_all : mg "all" = none
  Z_int : mg "int" = none
  Z_isinstance : mg "isinstance" = none
  Z_len : mg "len" = none
  Z_range : mg "range" = none
  Z_str : mg "str" = none
  Z_tuple : mg "tuple" = none
  K_ALPHABET : ∃ t, mg "ALPHABET" = some (.str c_ALPHABET t)
  K_MOST_FIXES : ∃ t, mg "MOST_FIXES" = some (.int 5 t)
  K_SIGNS : ∃ t, mg "SIGNS" = some (.str c_SIGNS t)
  G_InvalidBook : mg "InvalidBook" = some (.ref A.C_InvalidBook)
  X_InvalidBook : PySem.W.excIn K A.C_InvalidBook [.type "ValueError", .type "Exception", .type "BaseException", .type "object"] "ValueError.__new__" = true
  P_InvalidBook : PySem.W.keepIn K (.ref A.C_InvalidBook) = true
  S_InvalidBook : PySem.W.subIn K (.ref A.C_InvalidBook) (.type "BaseException") = some true
  Y_InvalidBook : PySem.W.typeIn K (.ref A.C_InvalidBook) = some (.type "type")
  G_InvalidText : mg "InvalidText" = some (.ref A.C_InvalidText)
  O_InvalidText : OexC K A.C_InvalidText
  I_InvalidText : PySem.W.findIn K (.ref A.C_InvalidText) "__init__" = some (some (.ref A.i_InvalidText))
  J_InvalidText : PySem.W.typeIn K (.ref A.i_InvalidText) = some (.type "function")
  FI_InvalidText : Fun K "__init__" "InvalidText.__init__" sI_InvalidText A.i_InvalidText A.fi_InvalidText
  BI_InvalidText : Binds K A.fi_InvalidText ["self", "at"] []
  N_InvalidText_at : PySem.W.findIn K (.ref A.C_InvalidText) "at" = some none
  G_FixError : mg "FixError" = some (.ref A.C_FixError)
  G_InvalidWord : mg "InvalidWord" = some (.ref A.C_InvalidWord)
  HS_FixError : PySem.W.subIn K (.ref A.C_FixError) (.type "BaseException") = some true
  HY_FixError : PySem.W.typeIn K (.ref A.C_FixError) = some (.type "type")
  HD_FixError : PySem.W.hasDictIn K A.C_FixError = true
  SB_InvalidBook_FixError : PySem.W.subIn K (.ref A.C_InvalidBook) (.ref A.C_FixError) = some true
  SB_InvalidText_FixError : PySem.W.subIn K (.ref A.C_InvalidText) (.ref A.C_FixError) = some true
  EC_InvalidBook : ExcC K A.C_InvalidBook
  EC_InvalidText : ExcC K A.C_InvalidText
  KI_InvalidBook_InvalidBook : PySem.W.kitOne K (.ref A.C_InvalidBook) (.ref A.C_InvalidBook) = some true
  KI_InvalidText_InvalidBook : PySem.W.kitOne K (.ref A.C_InvalidText) (.ref A.C_InvalidBook) = some false
  KI_InvalidBook_InvalidText : PySem.W.kitOne K (.ref A.C_InvalidBook) (.ref A.C_InvalidText) = some false
  KI_InvalidText_InvalidText : PySem.W.kitOne K (.ref A.C_InvalidText) (.ref A.C_InvalidText) = some true
  KI_InvalidBook_InvalidWord : PySem.W.kitOne K (.ref A.C_InvalidBook) (.ref A.C_InvalidWord) = some false
  KI_InvalidText_InvalidWord : PySem.W.kitOne K (.ref A.C_InvalidText) (.ref A.C_InvalidWord) = some false
  KI_InvalidBook_ValueError : PySem.W.kitOne K (.ref A.C_InvalidBook) (.type "ValueError") = some true
  KI_InvalidText_ValueError : PySem.W.kitOne K (.ref A.C_InvalidText) (.type "ValueError") = some true
def txn_FixError (n : Str) : Option Bool := if n = "InvalidBook" then some true else if n = "InvalidText" then some true else none
theorem tx_FixError {X : Cx} {K : PySem.W.Frag} {mg : Str → Option Value} {A : Ads} (T : Txt K mg A) (hK : X.K = K := by rfl) (hm : X.mg = mg := by rfl) : TabX X txn_FixError (.ref A.C_FixError) := by
  subst hK; subst hm
  intro n C hC ht
  unfold txn_FixError at ht
  split at ht
  · rename_i e; subst e
    have e2 := T.G_InvalidBook.symm.trans hC
    cases e2
    exact PySem.W.exm_ref T.HS_FixError T.HD_FixError T.HY_FixError T.SB_InvalidBook_FixError
  split at ht
  · rename_i e; subst e
    have e2 := T.G_InvalidText.symm.trans hC
    cases e2
    exact PySem.W.exm_ref T.HS_FixError T.HD_FixError T.HY_FixError T.SB_InvalidText_FixError
  cases ht
def tin_InvalidBook (n : Str) : Option Bool := if n = "InvalidBook" then some true else if n = "InvalidText" then some false else none
theorem ti_InvalidBook {X : Cx} {K : PySem.W.Frag} {mg : Str → Option Value} {A : Ads} (T : Txt K mg A) (hK : X.K = K := by rfl) (hm : X.mg = mg := by rfl) : TabI X tin_InvalidBook (.ref A.C_InvalidBook) := by
  subst hK; subst hm
  intro n C b hC ht
  unfold tin_InvalidBook at ht
  split at ht
  · rename_i e; subst e
    have e2 := T.G_InvalidBook.symm.trans hC
    cases e2
    cases ht
    exact ⟨T.EC_InvalidBook, T.KI_InvalidBook_InvalidBook⟩
  split at ht
  · rename_i e; subst e
    have e2 := T.G_InvalidText.symm.trans hC
    cases e2
    cases ht
    exact ⟨T.EC_InvalidText, T.KI_InvalidText_InvalidBook⟩
  cases ht
def tin_InvalidText (n : Str) : Option Bool := if n = "InvalidBook" then some false else if n = "InvalidText" then some true else none
theorem ti_InvalidText {X : Cx} {K : PySem.W.Frag} {mg : Str → Option Value} {A : Ads} (T : Txt K mg A) (hK : X.K = K := by rfl) (hm : X.mg = mg := by rfl) : TabI X tin_InvalidText (.ref A.C_InvalidText) := by
  subst hK; subst hm
  intro n C b hC ht
  unfold tin_InvalidText at ht
  split at ht
  · rename_i e; subst e
    have e2 := T.G_InvalidBook.symm.trans hC
    cases e2
    cases ht
    exact ⟨T.EC_InvalidBook, T.KI_InvalidBook_InvalidText⟩
  split at ht
  · rename_i e; subst e
    have e2 := T.G_InvalidText.symm.trans hC
    cases e2
    cases ht
    exact ⟨T.EC_InvalidText, T.KI_InvalidText_InvalidText⟩
  cases ht
def tin_InvalidWord (n : Str) : Option Bool := if n = "InvalidBook" then some false else if n = "InvalidText" then some false else none
theorem ti_InvalidWord {X : Cx} {K : PySem.W.Frag} {mg : Str → Option Value} {A : Ads} (T : Txt K mg A) (hK : X.K = K := by rfl) (hm : X.mg = mg := by rfl) : TabI X tin_InvalidWord (.ref A.C_InvalidWord) := by
  subst hK; subst hm
  intro n C b hC ht
  unfold tin_InvalidWord at ht
  split at ht
  · rename_i e; subst e
    have e2 := T.G_InvalidBook.symm.trans hC
    cases e2
    cases ht
    exact ⟨T.EC_InvalidBook, T.KI_InvalidBook_InvalidWord⟩
  split at ht
  · rename_i e; subst e
    have e2 := T.G_InvalidText.symm.trans hC
    cases e2
    cases ht
    exact ⟨T.EC_InvalidText, T.KI_InvalidText_InvalidWord⟩
  cases ht
def tin_ValueError (n : Str) : Option Bool := if n = "InvalidBook" then some true else if n = "InvalidText" then some true else none
theorem ti_ValueError {X : Cx} {K : PySem.W.Frag} {mg : Str → Option Value} {A : Ads} (T : Txt K mg A) (hK : X.K = K := by rfl) (hm : X.mg = mg := by rfl) : TabI X tin_ValueError (.type "ValueError") := by
  subst hK; subst hm
  intro n C b hC ht
  unfold tin_ValueError at ht
  split at ht
  · rename_i e; subst e
    have e2 := T.G_InvalidBook.symm.trans hC
    cases e2
    cases ht
    exact ⟨T.EC_InvalidBook, T.KI_InvalidBook_ValueError⟩
  split at ht
  · rename_i e; subst e
    have e2 := T.G_InvalidText.symm.trans hC
    cases e2
    cases ht
    exact ⟨T.EC_InvalidText, T.KI_InvalidText_ValueError⟩
  cases ht
def tfn_at (n : Str) : Bool := if n = "InvalidText" then true else false
theorem tf_at {X : Cx} {K : PySem.W.Frag} {mg : Str → Option Value} {A : Ads} (T : Txt K mg A) (hK : X.K = K := by rfl) (hm : X.mg = mg := by rfl) : TabF X tfn_at "at" := by
  subst hK; subst hm
  intro n C hC ht
  unfold tfn_at at ht
  split at ht
  · rename_i e; subst e
    have e2 := T.G_InvalidText.symm.trans hC
    cases e2
    exact ⟨⟨T.EC_InvalidText.hg, T.EC_InvalidText.hk, T.EC_InvalidText.hs, T.EC_InvalidText.hd⟩, T.N_InvalidText_at⟩
  cases ht
/-! ### the meaning of each def -/
abbrev F__law_draw : List Sl → SrcSt → CRes := drawF
def m_is_word : M Flow := (mSeq (mIfS (mOr (mNot (mTest (mIsi "str" (mBor 0)))) (mNot (mTest (mChain pLe pLe (mBor 1) (mDat (mCal fLen (mBs [(mBor 0)]))) (mBor 2))))) (mRet (mC (.dat (.bool false)))) mNext)
  (mRet (mCal fAll (mBs [(mDat (mL (mComp [3] (.nm 3) (mIt (mVar 0)) mYes (mOp pIn (mBor 3) (mDat (mC (.dat (.str c_ALPHABET))))))))]))))
def F_is_word : List Sl → SrcSt → CRes := callOf 4 m_is_word
def m_is_fix : M Flow := (mSeq (mIfS (mOr (mNot (mTest (mIsi "tuple" (mBor 0)))) (mTest (mOp (pNot pEq) (mDat (mCal fLen (mBs [(mBor 0)]))) (mDat (mC (.dat (.int 4))))))) (mRet (mC (.dat (.bool false)))) mNext)
  (mSeq (mAsg (.tp [1, 2, 3, 4]) (mVar 0))
  (mSeq (mSet 5 (mAndV (mCall F_is_word (mArgs [(mVar 1), (mC (.dat (.int 0))), (mC (.dat (.int 1)))])) (mCall F_is_word (mArgs [(mVar 4), (mC (.dat (.int 0))), (mC (.dat (.int 1)))]))))
  (mRet (mAndV (mVar 5) (mAndV (mCall F_is_word (mArgs [(mVar 2), (mC (.dat (.int 1))), (mC (.dat (.int 3)))])) (mCall F_is_word (mArgs [(mVar 3), (mC (.dat (.int 0))), (mC (.dat (.int 3)))]))))))))
def F_is_fix : List Sl → SrcSt → CRes := callOf 6 m_is_fix
def m_is_book : M Flow := (mSeq (mIfS (mOr (mNot (mTest (mIsi "tuple" (mBor 0)))) (mTest (mOp pGt (mDat (mCal fLen (mBs [(mBor 0)]))) (mDat (mC (.dat (.int 5))))))) (mRet (mC (.dat (.bool false)))) mNext)
  (mRet (mCal fAll (mBs [(mDat (mL (mComp [1] (.nm 1) (mIt (mVar 0)) mYes (mCall F_is_fix (mArgs [(mVar 1)])))))]))))
def F_is_book : List Sl → SrcSt → CRes := callOf 2 m_is_book
def m_check_book : M Flow := (mIfS (mNot (mTest (mCall F_is_book (mArgs [(mVar 0)])))) (mRaise ⟨"InvalidBook", []⟩) mNext)
def F_check_book : List Sl → SrcSt → CRes := callOf 1 m_check_book
def m_book_text : M Flow := (mSeq (mDrop (mCall F_check_book (mArgs [(mVar 0)])))
  (mRet (mOp pJoin (mStr (mDat (mC (.dat (.str ", "))))) (mDat (mL (mComp [1, 2, 3, 4] (.tp [1, 2, 3, 4]) (mIt (mVar 0)) mYes (mJoined [(mFmt (mBor 1)), (mC "/"), (mFmt (mBor 2)), (mC ">"), (mFmt (mBor 3)), (mC "/"), (mFmt (mBor 4))])))))))
def F_book_text : List Sl → SrcSt → CRes := callOf 5 m_book_text
def m_skip_blanks : M Flow := (mSeq (whileN (mAnd (mTest (mOp pLt (mBor 1) (mDat (mCal fLen (mBs [(mBor 0)]))))) (mTest (mOp pEq (mDat (mOp pIx (mBor 0) (mBor 1))) (mDat (mC (.dat (.str " "))))))) (mAug (fun i j => i + j) 1 (mDat (mC (.dat (.int 1))))) fuel)
  (mRet (mVar 1)))
def F_skip_blanks : List Sl → SrcSt → CRes := callOf 2 m_skip_blanks
def m_read_word : M Flow := (mSeq (mSet 2 (mCall F_skip_blanks (mArgs [(mVar 0), (mVar 1)])))
  (mSeq (mSet 3 (mVar 2))
  (mSeq (whileN (mAnd (mTest (mOp pLt (mBor 3) (mDat (mCal fLen (mBs [(mBor 0)]))))) (mTest (mOp pIn (mDat (mOp pIx (mBor 0) (mBor 3))) (mDat (mC (.dat (.str c_ALPHABET))))))) (mAug (fun i j => i + j) 3 (mDat (mC (.dat (.int 1))))) fuel)
  (mRet (mTup (mArgs [(mCut (mBor 0) (some (mBor 2)) (some (mBor 3))), (mCall F_skip_blanks (mArgs [(mVar 0), (mVar 3)]))]))))))
def F_read_word : List Sl → SrcSt → CRes := callOf 4 m_read_word
def m_skip_sign : M Flow := (mSeq (mIfS (mOr (mTest (mOp pEq (mBor 1) (mDat (mCal fLen (mBs [(mBor 0)]))))) (mTest (mOp (pNot pEq) (mDat (mOp pIx (mBor 0) (mBor 1))) (mBor 2)))) (mRaise1 "InvalidText" "at" (mArgs [(mVar 1)])) mNext)
  (mRet (mOp pAdd (mBor 1) (mDat (mC (.dat (.int 1)))))))
def F_skip_sign : List Sl → SrcSt → CRes := callOf 3 m_skip_sign
def m_read_fix : M Flow := (mSeq (mSetN 2 (mLst (mArgs [])))
  (mSeq (mFor (.nm 3) (mIt (mC (.dat (.str c_SIGNS)))) (mSeq (mAsg (.tp [4, 1]) (mCall F_read_word (mArgs [(mVar 0), (mVar 1)])))
  (mSeq (mApp 2 (mVar 4))
  (mSet 1 (mCall F_skip_sign (mArgs [(mVar 0), (mVar 1), (mVar 3)]))))))
  (mSeq (mAsg (.tp [4, 1]) (mCall F_read_word (mArgs [(mVar 0), (mVar 1)])))
  (mSeq (mApp 2 (mVar 4))
  (mRet (mTup (mArgs [(mCal fTuple (mBs [(mBor 2)])), (mVar 1)])))))))
def F_read_fix : List Sl → SrcSt → CRes := callOf 5 m_read_fix
def m_read_fixes : M Flow := (mSeq (mIfS (mTest (mOp pEq (mDat (mCall F_skip_blanks (mArgs [(mVar 0), (mC (.dat (.int 0)))]))) (mDat (mCal fLen (mBs [(mBor 0)]))))) (mRet (mTup (mArgs []))) mNext)
  (mSeq (mAsg (.tp [1, 2]) (mCall F_read_fix (mArgs [(mVar 0), (mC (.dat (.int 0)))])))
  (mSeq (mSetN 3 (mLst (mArgs [(mVar 1)])))
  (mSeq (whileN (mTest (mOp pLt (mBor 2) (mDat (mCal fLen (mBs [(mBor 0)]))))) (mSeq (mAsg (.tp [1, 2]) (mCall F_read_fix (mArgs [(mVar 0), (mCall F_skip_sign (mArgs [(mVar 0), (mVar 2), (mC (.dat (.str ",")))]))])))
  (mApp 3 (mVar 1))) fuel)
  (mRet (mCal fTuple (mBs [(mBor 3)])))))))
def F_read_fixes : List Sl → SrcSt → CRes := callOf 4 m_read_fixes
def m_read_book : M Flow := (mSeq (mIfS (mNot (mTest (mIsi "str" (mBor 0)))) (mRaise1 "InvalidText" "at" (mArgs [(mC (.dat (.int 0)))])) mNext)
  (mSeq (mSet 1 (mCall F_read_fixes (mArgs [(mVar 0)])))
  (mSeq (mDrop (mCall F_check_book (mArgs [(mVar 1)])))
  (mRet (mVar 1)))))
def F_read_book : List Sl → SrcSt → CRes := callOf 2 m_read_book
def m__law_pick : M Flow := (mRet (mOp pIx (mBor 1) (mDat (mCall F__law_draw (mArgs [(mVar 0), (mCal fLen (mBs [(mBor 1)]))])))))
def F__law_pick : List Sl → SrcSt → CRes := callOf 2 m__law_pick
def m__law_word : M Flow := (mRet (mOp pJoin (mStr (mDat (mC (.dat (.str ""))))) (mDat (mL (mComp [4] (.nm 4) (mRng1 (mBs [(mDat (mOp pAdd (mBor 2) (mDat (mCall F__law_draw (mArgs [(mVar 0), (mOp pAdd (mDat (mOp pSub (mBor 3) (mBor 2))) (mDat (mC (.dat (.int 1)))))])))))])) mYes (mCall F__law_pick (mArgs [(mVar 0), (mVar 1)])))))))
def F__law_word : List Sl → SrcSt → CRes := callOf 5 m__law_word
def m__law_fix : M Flow := (mSeq (mSet 2 (mCall F__law_pick (mArgs [(mVar 0), (mL (mLst (mArgs [(mC (.dat (.str ""))), (mC (.dat (.str ""))), (mC (.dat (.str ""))), (mCall F__law_pick (mArgs [(mVar 0), (mVar 1)]))])))])))
  (mSeq (mSet 3 (mCall F__law_pick (mArgs [(mVar 0), (mL (mLst (mArgs [(mC (.dat (.str ""))), (mC (.dat (.str ""))), (mC (.dat (.str ""))), (mCall F__law_pick (mArgs [(mVar 0), (mVar 1)]))])))])))
  (mRet (mTup (mArgs [(mVar 2), (mCall F__law_word (mArgs [(mVar 0), (mVar 1), (mC (.dat (.int 1))), (mC (.dat (.int 3)))])), (mCall F__law_word (mArgs [(mVar 0), (mVar 1), (mC (.dat (.int 0))), (mC (.dat (.int 3)))])), (mVar 3)])))))
def F__law_fix : List Sl → SrcSt → CRes := callOf 4 m__law_fix
def m__law_book : M Flow := (mRet (mCal fTuple (mBs [(mDat (mL (mComp [3] (.nm 3) (mRng1 (mBs [(mDat (mCall F__law_draw (mArgs [(mVar 0), (mOp pAdd (mBor 2) (mDat (mC (.dat (.int 1)))))])))])) mYes (mCall F__law_fix (mArgs [(mVar 0), (mVar 1)])))))])))
def F__law_book : List Sl → SrcSt → CRes := callOf 4 m__law_book
def m__law_end : M Flow := (mSeq (mSet 3 (mVar 1))
  (mSeq (whileN (mAnd (mTest (mOp pLt (mBor 3) (mDat (mCal fLen (mBs [(mBor 0)]))))) (mTest (mOp pIn (mDat (mOp pIx (mBor 0) (mBor 3))) (mBor 2)))) (mSet 3 (mOp pAdd (mBor 3) (mDat (mC (.dat (.int 1)))))) fuel)
  (mRet (mVar 3))))
def F__law_end : List Sl → SrcSt → CRes := callOf 4 m__law_end
def m__law_due : M Flow := (mSeq (mIfS (mNot (mTest (mIsi "str" (mBor 0)))) (mRet (mL (mLst (mArgs [(mC (.dat (.str "wrong"))), (mC (.dat (.int 0)))])))) mNext)
  (mSeq (mPar3 1 2 3 (mArgs [(mCall F__law_end (mArgs [(mVar 0), (mC (.dat (.int 0))), (mC (.dat (.str " ")))])), (mL (mLst (mArgs []))), (mL (mLst (mArgs [])))]))
  (mSeq (mIfS (mTest (mOp pEq (mBor 1) (mDat (mCal fLen (mBs [(mBor 0)]))))) (mRet (mL (mLst (mArgs [(mC (.dat (.str "good"))), (mTup (mArgs []))])))) mNext)
  (mSeq (whileN (mTest (mOp pLe (mBor 1) (mDat (mCal fLen (mBs [(mBor 0)]))))) (mSeq (mSet 4 (mCall F__law_end (mArgs [(mVar 0), (mVar 1), (mC (.dat (.str "abcdefghijklmnopqrstuvwxyz")))])))
  (mSeq (mSet 3 (mOp pAdd (mBor 3) (mDat (mL (mLst (mArgs [(mCut (mBor 0) (some (mBor 1)) (some (mBor 4)))]))))))
  (mSeq (mSet 1 (mCall F__law_end (mArgs [(mVar 0), (mVar 4), (mC (.dat (.str " ")))])))
  (mSeq (mIfS (mTest (mOp pEq (mDat (mCal fLen (mBs [(mBor 3)]))) (mDat (mC (.dat (.int 4)))))) (mSeq (mPar2 2 3 (mArgs [(mOp pAdd (mBor 2) (mDat (mL (mLst (mArgs [(mCal fTuple (mBs [(mBor 3)]))]))))), (mL (mLst (mArgs [])))]))
  (mIfS (mTest (mOp pEq (mBor 1) (mDat (mCal fLen (mBs [(mBor 0)]))))) (mRet (mL (mLst (mArgs [(mC (.dat (.str "good"))), (mCal fTuple (mBs [(mBor 2)]))])))) mNext)) mNext)
  (mSeq (mIfS (mTest (mOp (pNot pEq) (mDat (mCut (mBor 0) (some (mBor 1)) (some (mDat (mOp pAdd (mBor 1) (mDat (mC (.dat (.int 1))))))))) (mDat (mOp pIx (mDat (mL (mLst (mArgs [(mC (.dat (.str ","))), (mC (.dat (.str "/"))), (mC (.dat (.str ">"))), (mC (.dat (.str "/")))])))) (mDat (mCal fLen (mBs [(mBor 3)]))))))) (mRet (mL (mLst (mArgs [(mC (.dat (.str "wrong"))), (mVar 1)])))) mNext)
  (mSet 1 (mCall F__law_end (mArgs [(mVar 0), (mOp pAdd (mBor 1) (mDat (mC (.dat (.int 1))))), (mC (.dat (.str " ")))])))))))) fuel)
  (mRet (mL (mLst (mArgs [(mC (.dat (.str "wrong"))), (mCal fLen (mBs [(mBor 0)]))]))))))))
def F__law_due : List Sl → SrcSt → CRes := callOf 5 m__law_due
def m__law_is_book : M Flow := (mSeq (mIfS (mTest (mOp pGt (mDat (mCal fLen (mBs [(mBor 0)]))) (mDat (mC (.dat (.int 5)))))) (mRet (mC (.dat (.bool false)))) mNext)
  (mSeq (mFor (.tp [1, 2, 3, 4]) (mIt (mVar 0)) (mIfS (mOr (mTest (mOp pGt (mDat (mCal fLen (mBs [(mBor 1)]))) (mDat (mC (.dat (.int 1)))))) (mOr (mTest (mOp pGt (mDat (mCal fLen (mBs [(mBor 2)]))) (mDat (mC (.dat (.int 3)))))) (mOr (mTest (mOp pGt (mDat (mCal fLen (mBs [(mBor 3)]))) (mDat (mC (.dat (.int 3)))))) (mOr (mTest (mOp pGt (mDat (mCal fLen (mBs [(mBor 4)]))) (mDat (mC (.dat (.int 1)))))) (mTest (mOp pEq (mBor 2) (mDat (mC (.dat (.str "")))))))))) (mRet (mC (.dat (.bool false)))) mNext))
  (mRet (mC (.dat (.bool true))))))
def F__law_is_book : List Sl → SrcSt → CRes := callOf 5 m__law_is_book
def m__law_read : M Flow := (mSeq (mSet 1 (mC (.dat .none)))
  (mSeq (mSet 2 (mC (.dat .none)))
  (mSeq (mTry txn_FixError 3 (mSet 2 (mCall F_read_book (mArgs [(mVar 0)]))) (mSet 1 (mVar 3)))
  (mSeq (mIfS (mTest (mIsNx (mVar 1))) (mRet (mL (mLst (mArgs [(mC (.dat (.str "good"))), (mVar 2)])))) mNext)
  (mSeq (mSetN 4 (mLst (mArgs [(mIsX tin_InvalidText (mVar 1)), (mIsX tin_InvalidBook (mVar 1)), (mIsX tin_InvalidWord (mVar 1))])))
  (mSeq (mIfS (mOr (mTest (mOp (pNot pEq) (mDat (mOp1 (pCnt true) (mBor 4))) (mDat (mC (.dat (.int 1)))))) (mOr (mTest (mOp pIx (mBor 4) (mDat (mC (.dat (.int 2)))))) (mNot (mTest (mIsX tin_ValueError (mVar 1)))))) (mRet (mL (mLst (mArgs [(mC (.dat (.str "other"))), (mC (.dat .none))])))) mNext)
  (mSeq (mIfS (mTest (mOp pIx (mBor 4) (mDat (mC (.dat (.int 0)))))) (mRet (mL (mLst (mArgs [(mC (.dat (.str "wrong"))), (mFld tfn_at "at" (mVar 1))])))) mNext)
  (mRet (mL (mLst (mArgs [(mC (.dat (.str "book"))), (mC (.dat .none))])))))))))))
def F__law_read : List Sl → SrcSt → CRes := callOf 5 m__law_read
def m__law_fits : M Flow := (mSeq (mSet 1 (mCall F__law_due (mArgs [(mVar 0)])))
  (mSeq (mIfS (mAnd (mTest (mOp pEq (mDat (mOp pIx (mBor 1) (mDat (mC (.dat (.int 0)))))) (mDat (mC (.dat (.str "good")))))) (mNot (mTest (mCall F__law_is_book (mArgs [(mOp pIx (mBor 1) (mDat (mC (.dat (.int 1)))))]))))) (mSetN 1 (mLst (mArgs [(mC (.dat (.str "book"))), (mC (.dat .none))]))) mNext)
  (mRet (mOp pEq (mDat (mCall F__law_read (mArgs [(mVar 0)]))) (mBor 1)))))
def F__law_fits : List Sl → SrcSt → CRes := callOf 2 m__law_fits
def m__law_bent : M Flow := (mSeq (mSetN 2 (mLst (mArgs [(mC (.dat (.str "a"))), (mC (.dat (.str "b"))), (mC (.dat (.str "/"))), (mC (.dat (.str ">"))), (mC (.dat (.str ","))), (mC (.dat (.str " "))), (mC (.dat (.str "z"))), (mC (.dat (.str "A"))), (mC (.dat (.str "0"))), (mC (.dat (.str "-"))), (mC (.dat (.str "\t"))), (mC (.dat (.str "\n"))), (mC (.dat (.str "/>"))), (mC (.dat (.str "a/b>c/d"))), (mC (.dat (.str ", "))), (mC (.dat (.str "//")))])))
  (mSeq (mSet 2 (mOp pAdd (mBor 2) (mDat (mL (mLst (mArgs [(mC (.dat (.str "abcd"))), (mC (.dat (.str "<"))), (mC (.dat (.str "ab ")))]))))))
  (mSeq (mSet 3 (mCall F__law_draw (mArgs [(mVar 0), (mOp pAdd (mDat (mCal fLen (mBs [(mBor 1)]))) (mDat (mC (.dat (.int 1)))))])))
  (mSeq (mSet 4 (mCall F__law_draw (mArgs [(mVar 0), (mC (.dat (.int 5)))])))
  (mSeq (mIfS (mTest (mOp pEq (mBor 4) (mDat (mC (.dat (.int 0)))))) (mRet (mCut (mBor 1) none (some (mBor 3)))) mNext)
  (mSeq (mIfS (mTest (mOp pEq (mBor 4) (mDat (mC (.dat (.int 1)))))) (mRet (mOp pAdd (mDat (mCut (mBor 1) none (some (mBor 3)))) (mDat (mCut (mBor 1) (some (mDat (mOp pAdd (mBor 3) (mDat (mC (.dat (.int 1))))))) none)))) mNext)
  (mRet (mOp pAdd (mDat (mOp pAdd (mDat (mCut (mBor 1) none (some (mBor 3)))) (mDat (mCall F__law_pick (mArgs [(mVar 0), (mVar 2)]))))) (mDat (mCut (mBor 1) (some (mDat (mOp pAdd (mBor 3) (mDat (mOp pMod (mBor 4) (mDat (mC (.dat (.int 2))))))))) none))))))))))
def F__law_bent : List Sl → SrcSt → CRes := callOf 5 m__law_bent
def m_law : M Flow := (mSeq (mFor (.nm 2) (mRng1 (mBs [(mDat (mC (.dat (.int 60))))])) (mSeq (mSet 3 (mCall F_book_text (mArgs [(mCall F__law_book (mArgs [(mVar 1), (mCall F__law_pick (mArgs [(mVar 1), (mL (mLst (mArgs [(mC (.dat (.str "ab"))), (mC (.dat (.str "abc"))), (mC (.dat (.str "az")))])))])), (mC (.dat (.int 5)))]))])))
  (mSeq (mFor (.nm 4) (mRng1 (mBs [(mDat (mOp pAdd (mDat (mC (.dat (.int 1)))) (mDat (mCall F__law_draw (mArgs [(mVar 1), (mC (.dat (.int 3)))])))))])) (mSet 3 (mCall F__law_bent (mArgs [(mVar 1), (mVar 3)]))))
  (mIfS (mNot (mTest (mCall F__law_fits (mArgs [(mVar 3)])))) (mRet (mC (.dat (.bool false)))) mNext))))
  (mSeq (mFor (.nm 5) (mIt (mL (mLst (mArgs [(mC (.dat .none)), (mC (.dat (.int 0))), (mC (.dat (.int 12))), (mC (.dat (.bool true))), (mTup (mArgs [])), (mL (mLst (mArgs []))), (mC (.dat (.dict []))), (mL (mLst (mArgs [(mC (.dat (.str "/a>b/")))]))), (mTup (mArgs [(mC (.dat (.str ""))), (mC (.dat (.str "a"))), (mC (.dat (.str "b"))), (mC (.dat (.str "")))]))])))) (mIfS (mTest (mOp (pNot pEq) (mDat (mCall F__law_read (mArgs [(mVar 5)]))) (mDat (mL (mLst (mArgs [(mC (.dat (.str "wrong"))), (mC (.dat (.int 0)))])))))) (mRet (mC (.dat (.bool false)))) mNext))
  (mSeq (mSetN 6 (mLst (mArgs [(mC (.dat (.str ""))), (mC (.dat (.str " "))), (mC (.dat (.str "/"))), (mC (.dat (.str "/a"))), (mC (.dat (.str "/a>"))), (mC (.dat (.str "/a>/"))), (mC (.dat (.str "/>/"))), (mC (.dat (.str "/a>b/"))), (mC (.dat (.str "a/a>b/a"))), (mC (.dat (.str "a"))), (mC (.dat (.str "a>b"))), (mC (.dat (.str "/a>b"))), (mC (.dat (.str "/a/b")))])))
  (mSeq (mSet 6 (mOp pAdd (mBor 6) (mDat (mL (mLst (mArgs [(mC (.dat (.str "/a>b/,"))), (mC (.dat (.str "/a>b/ ,"))), (mC (.dat (.str "/a>b/, /a>b/"))), (mC (.dat (.str "/a>b/ /a>b/"))), (mC (.dat (.str "/a>b/,,/a>b/"))), (mC (.dat (.str ",/a>b/"))), (mC (.dat (.str "/a>b/c d")))]))))))
  (mSeq (mSet 6 (mOp pAdd (mBor 6) (mDat (mL (mLst (mArgs [(mC (.dat (.str "/a b>c/"))), (mC (.dat (.str "ab/a>b/"))), (mC (.dat (.str "/abcd>a/"))), (mC (.dat (.str "/a>abcd/"))), (mC (.dat (.str "/a>b/cd"))), (mC (.dat (.str "/A>b/"))), (mC (.dat (.str "/a>B/"))), (mC (.dat (.str "/a > b /")))]))))))
  (mSeq (mSet 6 (mOp pAdd (mBor 6) (mDat (mL (mLst (mArgs [(mC (.dat (.str " / a>b/ "))), (mC (.dat (.str "/a>>b/"))), (mC (.dat (.str "//a>b/"))), (mC (.dat (.str "/a>b//"))), (mC (.dat (.str "\t/a>b/")))]))))))
  (mSeq (mFor (.nm 3) (mIt (mCut (mBor 6) none none)) (mSet 6 (mOp pAdd (mBor 6) (mDat (mL (mLst (mArgs [(mOp pAdd (mBor 3) (mDat (mC (.dat (.str " "))))), (mOp pAdd (mBor 3) (mDat (mC (.dat (.str "a"))))), (mCut (mBor 3) none (some (mDat (mOp1 pNeg (mDat (mC (.dat (.int 1)))))))), (mOp pAdd (mBor 3) (mDat (mC (.dat (.str ", /b>a/"))))), (mOp pAdd (mDat (mOp pMul (mDat (mOp pAdd (mBor 3) (mDat (mC (.dat (.str ", ")))))) (mDat (mC (.dat (.int 5)))))) (mBor 3))])))))))
  (mRet (mOp pEq (mDat (mL (mComp [3] (.nm 3) (mIt (mVar 6)) (mNot (mTest (mCall F__law_fits (mArgs [(mVar 3)])))) (mVar 3)))) (mDat (mL (mLst (mArgs [])))))))))))))
section
variable {P : Program} {w : World} {K : PySem.W.Frag} {mg : Str → Option Value} {base : Heap} {A : Ads}
theorem ok__law_draw (T : Txt K mg A) : FnOk P w K mg base (L2.CX P w) 1 A.a__law_draw A.fd__law_draw ["source", "limit"] (spP K mg 2 drawF) := by
  refine T.F__law_draw.okX sc__law_draw (fun vs H Q E h => ?_) (fun cdv A' outer s H vs Q E hr h => ?_)
  · obtain ⟨_, _, _, _, h, _⟩ := h
    exact h
  · obtain ⟨sc, T0, args, st, hl, hs, al, sr, sv, h⟩ := h
    have hne : drawF args st ≠ .bad := fun z => by rw [z] at h; exact h
    obtain ⟨lim, rfl, ⟨c0, cl, t0, t1⟩, l0, l1⟩ := drawF_shape hne
    obtain ⟨v, u, rfl, hv, hu⟩ := sv.two
    obtain ⟨a, c, rfl, rfl⟩ := hv.src
    obtain rfl := hu.int
    obtain ⟨cells, turn⟩ := st
    obtain ⟨nac, ha, hc⟩ := sr a c rfl
    have hlen : 0 < cells.length := List.length_pos_iff.mpr c0
    have hlenI : (0 : Int) < (cells.length : Int) := by omega
    have hp0 : 0 ≤ turn % (cells.length : Int) := Int.emod_nonneg _ (by omega)
    have hp1 : turn % (cells.length : Int) < (cells.length : Int) := Int.emod_lt_of_pos _ hlenI
    obtain ⟨p, hp⟩ : ∃ p : Nat, turn % (cells.length : Int) = (p : Int) := ⟨(turn % (cells.length : Int)).toNat, by omega⟩
    have hpl : p < cells.length := by omega
    unfold drawF at h
    simp only [hp, Int.toNat_natCast] at h
    rw [if_pos ⟨⟨c0, cl, t0, t1⟩, l0, l1⟩] at h
    have hcell : (cells.map V.int)[p]? = some (.int (cells.getD p 0)) := by
      rw [List.getElem?_map, List.getElem?_eq_getElem hpl, List.getD_eq_getElem?_getD, List.getElem?_eq_getElem hpl]
      rfl
    generalize hcv : cells.getD p 0 = cell at h hcell
    refine ⟨_, pss_cons (ps_asg (pv 0) (pg_unl rfl (pgs_cons (pg_name (i := 2) sc__law_draw.nd rfl (.inl rfl)) (pgs_cons (pg_name (i := 3) sc__law_draw.nd rfl (.inl rfl)) pgs_nil))))
      (pss_cons (ps_set (i := 4) sc__law_draw.nd rfl (.inl rfl) (pe_op op_mod (pe_callTy call_int1 (by rfl) T.Z_int boot_intP (pa_cons (pv 3) pa_nil)) (pe_callB call_len_seq (by rfl) T.Z_len PySem.boot_len (pa_cons (pv 2) pa_nil))))
      (pss_cons (ps_set (i := 5) sc__law_draw.nd rfl (.inl rfl) (pe_ix ix_list (pv 2) (pv 4) (fun _ _ => rfl)))
      (pss_cons (ps_asg (pe_op op_add (pv 3) pe_int) (pg_sub (pv 0) pe_int set_list))
      (pss_cons (ps_if (pt_cmpR op_ge (pv 5) (pe_op op_pow pe_int pe_int) (nomark _))
        (pss_cons (ps_asg (pe_op op_fdiv (pv 5) (pv 1)) (pg_sub (pv 2) (pv 4) set_list))
          (pss_one (ps_ret (pe_op op_mod (pe_callTy call_int1 (by rfl) T.Z_int boot_intP (pa_cons (pv 5) pa_nil)) (pv 1))))) pss_nil)
      (pss_cons (ps_set (i := 6) sc__law_draw.nd rfl (.inl rfl) (pe_op op_mod (pe_callTy call_int1 (by rfl) T.Z_int boot_intP (pa_cons
          (pe_op op_add (pe_op op_add (pe_op op_mul (pe_op op_mod (pe_callTy call_int1 (by rfl) T.Z_int boot_intP (pa_cons (pv 5) pa_nil)) pe_int) pe_int) (pe_op op_mul (pe_op op_mul (pv 3) (pv 3)) pe_int)) pe_int) pa_nil)) pe_int))
      (pss_cons (ps_set (i := 6) sc__law_draw.nd rfl (.inl rfl) (pe_op op_mod (pe_callTy call_int1 (by rfl) T.Z_int boot_intP (pa_cons (pe_op op_mul (pv 6) (pv 6)) pa_nil)) pe_int))
      (pss_cons (ps_set (i := 6) sc__law_draw.nd rfl (.inl rfl) (pe_op op_mod (pe_callTy call_int1 (by rfl) T.Z_int boot_intP (pa_cons (pe_op op_mul (pv 6) (pv 6)) pa_nil)) pe_int))
      (pss_one (ps_ret (pe_op op_mod (pe_callTy call_int1 (by rfl) T.Z_int boot_intP (pa_cons (pv 6) pa_nil)) (pv 1))))))))))), ?_⟩
    -- cells, turn = source
    refine ⟨.ref a, rfl, a, _, rfl, .inl (.inl ha), rfl, .ref c, _, rfl, .int turn, _, rfl, rfl, ?_⟩
    -- place
    refine ⟨.int turn, rfl, .inl ⟨turn, rfl, .ref c, rfl, c, _, rfl, .inl (.inl (.inl hc)), turn, _, rfl, rfl, by rw [List.length_map]; exact hlenI, ?_⟩⟩
    have ep : turn % ((List.map V.int cells).length : Int) = (p : Int) := by rw [List.length_map]; exact hp
    dsimp only
    rw [ep]
    -- cell
    refine ⟨.ref c, rfl, .int p, rfl, c, _, _, _, rfl, rfl, .inl (.inl hc), atI_nat hcell, ?_⟩
    -- source[1] = turn + 1
    refine ⟨.int turn, rfl, turn, 1, rfl, rfl, .ref a, rfl, a, _, 1, 1, rfl, rfl, ha, rfl, ?_⟩
    have hc1 : (L2.upd H a (.lst ([V.ref c, V.int turn].set 1 (.int (turn + 1))))) c = some (.lst (cells.map V.int)) := by rw [upd_ne nac.symm]; exact hc
    -- if
    refine ⟨.int cell, rfl, 10, 18, rfl, rfl, ⟨by decide, by decide, by decide⟩, cell, _, rfl, rfl, _, rfl, ?_⟩
    have e10 : ((10 : Int) ^ (18 : Int).toNat) = 10 ^ 18 := rfl
    rw [e10]
    refine ite2 (fun hb => ?_) (fun hb => ?_)
    · have hb' := of_decide_eq_true hb
      rw [if_pos hb'] at h
      -- cells[place] = cell // limit
      refine ⟨.int cell, rfl, .int lim, rfl, cell, lim, rfl, rfl, ⟨l0, by omega⟩, .ref c, rfl, .int p, rfl, c, _, p, p, rfl, rfl, hc1, by unfold ixN; rw [if_pos (by omega), if_pos (by rw [List.length_map]; omega)]; simp, ?_⟩
      refine ⟨.int cell, rfl, .inl ⟨cell, rfl, .int lim, rfl, cell, lim, rfl, rfl, l0, ?_⟩⟩
      refine h _ _ (fun b o ns hb0 => ?_) (fun a' c' e' => ?_) (DD.int _)
      · rw [upd_ne (fun z => ns ⟨a, c, rfl, .inr z⟩), upd_ne (fun z => ns ⟨a, c, rfl, .inl z⟩)]
        exact hb0
      · cases e'
        refine ⟨nac, ?_, ?_⟩
        · rw [upd_ne nac, upd_same]; rfl
        · rw [upd_same, List.map_set]
    · have hb' : ¬ 10 ^ 18 ≤ cell := fun z => hb (decide_eq_true z)
      rw [if_neg hb'] at h
      -- number
      have hm1 : ∀ x : Int, 0 ≤ x % 2147483647 ∧ x % 2147483647 < 2147483647 := fun x => ⟨Int.emod_nonneg _ (by decide), Int.emod_lt_of_pos _ (by decide)⟩
      have hm2 : ∀ x : Int, 0 ≤ x % 2147483629 ∧ x % 2147483629 < 2147483629 := fun x => ⟨Int.emod_nonneg _ (by decide), Int.emod_lt_of_pos _ (by decide)⟩
      refine ⟨.int cell, rfl, .inl ⟨cell, rfl, cell, 2147483629, rfl, rfl, (by show (0 : Int) < 2147483629; decide), _, 48271, rfl, rfl, .inr ⟨by decide, by decide⟩, .int turn, rfl, .int turn, rfl, turn, turn, rfl, rfl, .inl ⟨by omega, by omega⟩, _, 69621, rfl, rfl, .inr ⟨by decide, by decide⟩, _, _, rfl, rfl, _, 11, rfl, rfl, .inl ⟨_, rfl, _, 2147483647, rfl, rfl, (by show (0 : Int) < 2147483647; decide), ?_⟩⟩⟩
      obtain ⟨n1, hn1⟩ : ∃ n1 : Int, (cell % 2147483629 * 48271 + turn * turn * 69621 + 11) % 2147483647 = n1 := ⟨_, rfl⟩
      have b1 := hm1 (cell % 2147483629 * 48271 + turn * turn * 69621 + 11)
      rw [hn1] at b1
      dsimp only
      rw [hn1]
      refine ⟨.int n1, rfl, .int n1, rfl, n1, n1, rfl, rfl, .inl ⟨by omega, by omega⟩, .inl ⟨_, rfl, _, 2147483629, rfl, rfl, (by show (0 : Int) < 2147483629; decide), ?_⟩⟩
      obtain ⟨n2, hn2⟩ : ∃ n2 : Int, n1 * n1 % 2147483629 = n2 := ⟨_, rfl⟩
      have b2 := hm2 (n1 * n1)
      rw [hn2] at b2
      dsimp only
      rw [hn2]
      refine ⟨.int n2, rfl, .int n2, rfl, n2, n2, rfl, rfl, .inl ⟨by omega, by omega⟩, .inl ⟨_, rfl, _, 2147483587, rfl, rfl, (by show (0 : Int) < 2147483587; decide), ?_⟩⟩
      refine ⟨_, rfl, .inl ⟨_, rfl, .int lim, rfl, _, lim, rfl, rfl, l0, ?_⟩⟩
      have em : mixD cell turn = n2 * n2 % 2147483587 := by
        unfold mixD
        simp only [hn1, hn2]
      rw [em] at h
      refine h _ _ (fun b o ns hb0 => ?_) (fun a' c' e' => ?_) (DD.int _)
      · rw [upd_ne (fun z => ns ⟨a, c, rfl, .inl z⟩)]
        exact hb0
      · cases e'
        exact ⟨nac, by rw [upd_same]; rfl, hc1⟩

theorem ok__law_source (T : Txt K mg A) : FnOk P w K mg base (L2.CX P w) 1 A.a__law_source A.fd__law_source ["script"] (spSource K) := by
  refine T.F__law_source.okX sc__law_source (fun vs H Q E h => ?_) (fun cdv A' outer s H vs Q E hr h => ?_)
  · obtain ⟨_, _, rfl, _⟩ := h
    rfl
  · obtain ⟨a0, ns, rfl, hS, hn, q⟩ := h
    refine ⟨_, pss_cons (ps_set (i := 1) sc__law_source.nd rfl (.inl rfl) (pe_slice sl_list (pv 0) po_none (po_some pe_int)))
      (pss_cons (ps_for (passes_of rfl) rfl (pi_range1 (by rfl) T.Z_range (pa_cons (pe_callB call_len_seq (by rfl) T.Z_len PySem.boot_len (pa_cons (pv 1) pa_nil)) pa_nil)) (pg_name (i := 2) sc__law_source.nd rfl (.inl rfl))
        (pss_one (ps_if (pt_cmpR op_ge (pe_callB call_abs (by rfl) T.Z_abs (by decide +kernel) (pa_cons (pe_ix ix_list (pv 1) (pv 2) (fun _ _ => rfl)) pa_nil)) (pe_op op_pow pe_int pe_int) (nomark _))
          (pss_one (ps_asg (pe_op op_mod (pe_callTy call_int1 (by rfl) T.Z_int boot_intP (pa_cons (pe_ix ix_list (pv 1) (pv 2) (fun _ _ => rfl)) pa_nil)) (pe_op op_powW (pe_op op_powW pe_int pe_int) pe_int)) (pg_sub (pv 1) (pv 2) set_list))) pss_nil)))
      (pss_cons (ps_if (pt_cmpR (op_eqD hr.units) (pv 1) (pe_lst pa_nil) (nomark _)) (pss_one (ps_set (i := 1) sc__law_source.nd rfl (.inl rfl) (pe_lst (pa_cons pe_int pa_nil)))) pss_nil)
      (pss_one (ps_ret (pe_lst (pa_cons (pv 1) (pa_cons pe_int pa_nil))))))), ?_⟩
    -- cells = script[:63]
    refine ⟨.ref a0, rfl, 63, rfl, a0, _, rfl, hS, fun c hc => ?_⟩
    have ecut : cutV (ns.map V.int) none (some 63) = ns.map V.int := by
      unfold cutV
      have e1 : HT.sIx (ns.map V.int).length 0 none = 0 := rfl
      have e2 : HT.sIx (ns.map V.int).length (ns.map V.int).length (some 63) = (ns.map V.int).length := by
        rw [show (63 : Int) = ((63 : Nat) : Int) from rfl, HT.sIx_nat, List.length_map]
        omega
      rw [e1, e2, List.drop_zero, Nat.sub_zero, List.take_length]
    rw [ecut]
    have hc0 : (L2.upd H c (.lst (ns.map V.int))) c = some (.lst (ns.map V.int)) := upd_same
    -- the loop
    refine ⟨.ref c, rfl, c, _, rfl, .inl (.inl (.inl hc0)), _, rfl, by omega, by rw [List.length_map]; omega, for_range (lo := 0) (n := _) (fun i σ H' => ∃ (cells : List Int) (z : Option V), σ = [some (.ref a0), some (.ref c), z] ∧ cells.length = ns.length ∧ H' = L2.upd H c (.lst (cells.map V.int))) ⟨ns, none, rfl, rfl, rfl⟩ ?_ ?_⟩
    · rintro i σ H' hi ⟨cells, z, rfl, hl, rfl⟩
      have hi' : i < cells.length := by
        rw [hl]
        have e : ((((List.map V.int ns).length : Nat) : Int)).toNat = ns.length := by rw [List.length_map]; omega
        omega
      have hget : (cells.map V.int)[i]? = some (.int cells[i]) := by rw [List.getElem?_map, List.getElem?_eq_getElem hi']; rfl
      have hcc : (L2.upd H c (.lst (cells.map V.int))) c = some (.lst (cells.map V.int)) := upd_same
      have e0 : (0 : Int) + (i : Int) = (i : Int) := Int.zero_add _
      refine ⟨.ref c, rfl, .int (0 + (i : Int)), rfl, c, _, _, _, rfl, rfl, .inl (.inl hcc), by rw [e0]; exact atI_nat hget, _, rfl, 10, 18, rfl, rfl, ⟨by decide, by decide, by decide⟩, _, _, rfl, rfl, _, rfl, ?_⟩
      refine ite2 (fun hb => ?_) (fun hb => ?_)
      · refine ⟨.ref c, rfl, .int (0 + (i : Int)), rfl, c, _, _, _, rfl, rfl, .inl (.inl hcc), by rw [e0]; exact atI_nat hget, .inl ⟨_, rfl, 10, 60, rfl, rfl, ⟨by decide, by decide +kernel⟩, _, 20, rfl, rfl, ⟨by decide, by decide +kernel⟩, _, _, rfl, rfl, (by show (0 : Int) < (10 ^ (60 : Int).toNat) ^ (20 : Int).toNat; decide +kernel), ?_⟩⟩
        refine ⟨.ref c, rfl, .int (0 + (i : Int)), rfl, c, _, _, i, rfl, rfl, hcc, by rw [e0]; unfold ixN; rw [if_pos (by omega), if_pos (by rw [List.length_map]; omega)]; simp, ?_⟩
        refine ⟨cells.set i (cells[i] % (10 ^ (60 : Int).toNat) ^ (20 : Int).toNat), _, rfl, by rw [List.length_set]; exact hl, ?_⟩
        rw [upd_upd, List.map_set]
      · exact ⟨cells, _, rfl, hl, rfl⟩
    · rintro σ H' ⟨cells, z, rfl, hl, rfl⟩
      have hcc : (L2.upd H c (.lst (cells.map V.int))) c = some (.lst (cells.map V.int)) := upd_same
      have sm1 : Same0 H (L2.upd H c (.lst (cells.map V.int))) := Same0.new hc
      -- if cells == []
      refine ⟨.ref c, rfl, Nat.zero_le _, fun e he => ?_⟩
      have hce : (L2.upd (L2.upd H c (.lst (cells.map V.int))) e (.lst [])) c = some (.lst (cells.map V.int)) := Same0.new he c _ hcc
      refine ⟨.list (cells.map PyData.int), .list [], .lst (.inl (.inl hce)) (dp_ints cells), .lst (.inl (.inl upd_same)) .nil, shaped_ints cells, rfl, _, rfl, ?_⟩
      rw [eqv_nil]
      have he0 : H e = none := by
        cases hh : H e with
        | none => rfl
        | some o => rw [sm1 e o hh] at he; cases he
      cases cells with
      | nil =>
        refine ⟨by show 1 ≤ sizeLine; decide, fun c2 hc2 => ?_⟩
        refine ⟨.ref c2, rfl, by show 2 ≤ sizeLine; decide, fun a ha => ?_⟩
        have sm2 : Same0 H (L2.upd (L2.upd H c (.lst [])) e (.lst [])) := fun b o h => Same0.new he b o (sm1 b o h)
        have sm3 : Same0 H (L2.upd (L2.upd (L2.upd H c (.lst [])) e (.lst [])) c2 (.lst [V.int 0])) := fun b o h => Same0.new hc2 b o (sm2 b o h)
        have nac : a ≠ c2 := fun z => by rw [z, upd_same] at ha; cases ha
        have fr : ∀ (G : Hp) (p : Addr), Same0 H G → G p = none → H p = none := fun G p s n => by
          cases hh : H p with
          | none => rfl
          | some o => rw [s p o hh] at n; cases n
        exact q _ a c2 [0] (fun b o h => Same0.new ha b o (sm3 b o h)) (fr _ a sm3 ha) (fr _ c2 sm2 hc2) nac upd_same (by rw [upd_ne nac.symm, upd_same]; rfl) (by decide) (by decide)
      | cons x r =>
        refine ⟨.ref c, rfl, by show 2 ≤ sizeLine; decide, fun a ha => ?_⟩
        have sm2 : Same0 H (L2.upd (L2.upd H c (.lst ((x :: r).map V.int))) e (.lst [])) := fun b o h => Same0.new he b o (sm1 b o h)
        have nac : a ≠ c := fun z => by rw [z, hce] at ha; cases ha
        have ha0 : H a = none := by
          cases hh : H a with
          | none => rfl
          | some o => rw [sm2 a o hh] at ha; cases ha
        exact q _ a c (x :: r) (fun b o h => Same0.new ha b o (sm2 b o h)) ha0 hc nac upd_same (by rw [upd_ne nac.symm]; exact hce) (by simp) (by omega)

theorem okI_InvalidText (T : Txt K mg A) : FnOk P w K mg base CX0 1 A.i_InvalidText A.fi_InvalidText ["self", "at"] (spIn1 A.C_InvalidText "at") := ok_init1 T.FI_InvalidText sc_I_InvalidText T.O_InvalidText T.N_InvalidText_at rfl (by decide +kernel) (by decide +kernel) (by decide) (by decide) (fun env he => by obtain ⟨⟩ := env; cases he; rfl)
theorem ok_is_word (T : Txt K mg A) : FnOk P w K mg base (L2.CX P w) 1 A.a_is_word A.fd_is_word ["value", "least", "most"] (spP K mg 3 F_is_word) :=
  okP (N := ["value", "least", "most", "letter"]) T.F_is_word sc_is_word rfl (by decide) fun cdv A' outer s H E hr => by
  have tk := takes_of (X := cxOf (L2.CX P w) P w K mg base ["value", "least", "most", "letter"] "is_word" (defScope sF_is_word) A.a_is_word cdv A' outer s H E) (E := E) rfl rfl rfl rfl
  exact (ppss_cons (pps_if (ppt_bool (pwt_or (ppt_not (ppt_val (pp_isi (by rfl) T.Z_isinstance (pe_tyN (by rfl) T.Z_str boot_str) (pb_var 0)))) (pwt_or1 (ppt_not (ppt_chain op_le op_le ok_le ok_le (pb_var 1) (pb_of (pp_len (by rfl) T.Z_len (pbs_cons (pb_var 0) pbs_nil))) (pb_var 2)))))) (ppss_one (pps_ret pp_bl)) ppss_nil)
  (ppss_one (pps_ret (pp_all rfl (by rfl) T.Z_all (pbs_cons (pb_of (pp_new (pn_lc (own := [("letter", 3)]) rfl sc_is_word.nd (pit_seq (pp_var 0)) (blkOk_by (N := ["value", "least", "most", "letter"]) (sc := defScope sF_is_word) (by decide +kernel)) rfl (by decide) (fun _ _ _ _ _ => (ptg_nm sc_is_word.nd (i := 3) rfl (by first | exact .inl rfl | exact .inr rfl))) (fun _ _ _ _ _ => pts_yes) (fun _ _ _ _ _ => (pp_in (u65 hr) (pb_var 3) (pb_of (pp_gS (by rfl) T.K_ALPHABET))))))) pbs_nil)))))
theorem ok_is_fix (T : Txt K mg A) (G_is_word : FnOk P w K mg base (L2.CX P w) 1 A.a_is_word A.fd_is_word ["value", "least", "most"] (spP K mg 3 F_is_word)) : FnOk P w K mg base (L2.CX P w) 2 A.a_is_fix A.fd_is_fix ["value"] (spP K mg 1 F_is_fix) :=
  okP (N := ["value", "ahead", "old", "new", "behind", "sides"]) T.F_is_fix sc_is_fix rfl (by decide) fun cdv A' outer s H E hr => by
  have tk := takes_of (X := cxOf (L2.CX P w) P w K mg base ["value", "ahead", "old", "new", "behind", "sides"] "is_fix" (defScope sF_is_fix) A.a_is_fix cdv A' outer s H E) (E := E) rfl rfl rfl rfl
  exact (ppss_cons (pps_if (ppt_bool (pwt_or (ppt_not (ppt_val (pp_isi (by rfl) T.Z_isinstance (pe_tyN (by rfl) T.Z_tuple boot_tuple) (pb_var 0)))) (pwt_or1 (ppt_ne (u65 hr) (pb_of (pp_len (by rfl) T.Z_len (pbs_cons (pb_var 0) pbs_nil))) (pb_of pp_int))))) (ppss_one (pps_ret pp_bl)) ppss_nil)
  (ppss_cons (pps_asg (pp_var 0) (ptg_tp rfl sc_is_fix.nd (PTn.cons (i := 1) rfl (by first | exact .inl rfl | exact .inr rfl) (by first | exact .inl rfl | exact .inr rfl) rfl (PTn.cons (i := 2) rfl (by first | exact .inl rfl | exact .inr rfl) (by first | exact .inl rfl | exact .inr rfl) rfl (PTn.cons (i := 3) rfl (by first | exact .inl rfl | exact .inr rfl) (by first | exact .inl rfl | exact .inr rfl) rfl (PTn.cons (i := 4) rfl (by first | exact .inl rfl | exact .inr rfl) (by first | exact .inl rfl | exact .inr rfl) rfl PTn.nil))))))
  (ppss_cons (pps_set (i := 5) sc_is_fix.nd (pp_and (pp_call G_is_word (hr.mono (by decide)) (by rfl) T.G_is_word T.F_is_word.kp T.B_is_word (passW tk) (pps_cons (pp_var 1) (pps_cons pp_int (pps_cons pp_int pps_nil)))) (pp_one (pp_call G_is_word (hr.mono (by decide)) (by rfl) T.G_is_word T.F_is_word.kp T.B_is_word (passW tk) (pps_cons (pp_var 4) (pps_cons pp_int (pps_cons pp_int pps_nil)))))))
  (ppss_one (pps_ret (pp_and (pp_var 5) (pp_and (pp_call G_is_word (hr.mono (by decide)) (by rfl) T.G_is_word T.F_is_word.kp T.B_is_word (passW tk) (pps_cons (pp_var 2) (pps_cons pp_int (pps_cons pp_int pps_nil)))) (pp_one (pp_call G_is_word (hr.mono (by decide)) (by rfl) T.G_is_word T.F_is_word.kp T.B_is_word (passW tk) (pps_cons (pp_var 3) (pps_cons pp_int (pps_cons pp_int pps_nil))))))))))))
theorem ok_is_book (T : Txt K mg A) (G_is_fix : FnOk P w K mg base (L2.CX P w) 2 A.a_is_fix A.fd_is_fix ["value"] (spP K mg 1 F_is_fix)) : FnOk P w K mg base (L2.CX P w) 3 A.a_is_book A.fd_is_book ["value"] (spP K mg 1 F_is_book) :=
  okP (N := ["value", "fix"]) T.F_is_book sc_is_book rfl (by decide) fun cdv A' outer s H E hr => by
  have tk := takes_of (X := cxOf (L2.CX P w) P w K mg base ["value", "fix"] "is_book" (defScope sF_is_book) A.a_is_book cdv A' outer s H E) (E := E) rfl rfl rfl rfl
  exact (ppss_cons (pps_if (ppt_bool (pwt_or (ppt_not (ppt_val (pp_isi (by rfl) T.Z_isinstance (pe_tyN (by rfl) T.Z_tuple boot_tuple) (pb_var 0)))) (pwt_or1 (ppt_gt (pb_of (pp_len (by rfl) T.Z_len (pbs_cons (pb_var 0) pbs_nil))) (pb_of (pp_gI (by rfl) T.K_MOST_FIXES)))))) (ppss_one (pps_ret pp_bl)) ppss_nil)
  (ppss_one (pps_ret (pp_all rfl (by rfl) T.Z_all (pbs_cons (pb_of (pp_new (pn_lc (own := [("fix", 1)]) rfl sc_is_book.nd (pit_seq (pp_var 0)) (blkOk_by (N := ["value", "fix"]) (sc := defScope sF_is_book) (by decide +kernel)) rfl (by decide) (fun _ _ _ _ _ => (ptg_nm sc_is_book.nd (i := 1) rfl (by first | exact .inl rfl | exact .inr rfl))) (fun _ _ _ _ _ => pts_yes) (fun _ _ _ _ _ => (pp_call G_is_fix (hr.mono (by decide)) (by rfl) T.G_is_fix T.F_is_fix.kp T.B_is_fix pass00 (pps_cons (pp_var 1) pps_nil)))))) pbs_nil)))))
theorem ok_check_book (T : Txt K mg A) (G_is_book : FnOk P w K mg base (L2.CX P w) 3 A.a_is_book A.fd_is_book ["value"] (spP K mg 1 F_is_book)) : FnOk P w K mg base (L2.CX P w) 4 A.a_check_book A.fd_check_book ["book"] (spP K mg 1 F_check_book) :=
  okP (N := ["book"]) T.F_check_book sc_check_book rfl (by decide) fun cdv A' outer s H E hr => by
  have tk := takes_of (X := cxOf (L2.CX P w) P w K mg base ["book"] "check_book" (defScope sF_check_book) A.a_check_book cdv A' outer s H E) (E := E) rfl rfl rfl rfl
  exact (ppss_one (pps_if (ppt_not (ppt_val (pp_call G_is_book (hr.mono (by decide)) (by rfl) T.G_is_book T.F_is_book.kp T.B_is_book (passW tk) (pps_cons (pp_var 0) pps_nil)))) (ppss_one (pps_raise rfl tk PySem.F.excBase_ValueError T.X_InvalidBook T.G_InvalidBook T.P_InvalidBook (raises_own T.S_InvalidBook T.Y_InvalidBook) (by rfl))) ppss_nil))
theorem ok_book_text (T : Txt K mg A) (G_check_book : FnOk P w K mg base (L2.CX P w) 4 A.a_check_book A.fd_check_book ["book"] (spP K mg 1 F_check_book)) : FnOk P w K mg base (L2.CX P w) 5 A.a_book_text A.fd_book_text ["book"] (spP K mg 1 F_book_text) :=
  okP (N := ["book", "ahead", "old", "new", "behind"]) T.F_book_text sc_book_text rfl (by decide) fun cdv A' outer s H E hr => by
  have tk := takes_of (X := cxOf (L2.CX P w) P w K mg base ["book", "ahead", "old", "new", "behind"] "book_text" (defScope sF_book_text) A.a_book_text cdv A' outer s H E) (E := E) rfl rfl rfl rfl
  exact (ppss_cons (pps_expr (pp_call G_check_book (hr.mono (by decide)) (by rfl) T.G_check_book T.F_check_book.kp T.B_check_book (passW tk) (pps_cons (pp_var 0) pps_nil)))
  (ppss_one (pps_ret (pp_join (pb_of pp_str) (pb_of (pp_new (pn_lc (own := [("ahead", 1), ("old", 2), ("new", 3), ("behind", 4)]) rfl sc_book_text.nd (pit_seq (pp_var 0)) (blkOk_by (N := ["book", "ahead", "old", "new", "behind"]) (sc := defScope sF_book_text) (by decide +kernel)) rfl (by decide) (fun _ _ _ _ _ => (ptg_tp rfl sc_book_text.nd (PTn.cons (i := 1) rfl (by first | exact .inl rfl | exact .inr rfl) (by first | exact .inl rfl | exact .inr rfl) rfl (PTn.cons (i := 2) rfl (by first | exact .inl rfl | exact .inr rfl) (by first | exact .inl rfl | exact .inr rfl) rfl (PTn.cons (i := 3) rfl (by first | exact .inl rfl | exact .inr rfl) (by first | exact .inl rfl | exact .inr rfl) rfl (PTn.cons (i := 4) rfl (by first | exact .inl rfl | exact .inr rfl) (by first | exact .inl rfl | exact .inr rfl) rfl PTn.nil)))))) (fun _ _ _ _ _ => pts_yes) (fun _ _ _ _ _ => (pp_joined (PJm.cons (pf_fmt (pb_var 1)) (PJm.cons pf_c (PJm.cons (pf_fmt (pb_var 2)) (PJm.cons pf_c (PJm.cons (pf_fmt (pb_var 3)) (PJm.cons pf_c (PJm.cons (pf_fmt (pb_var 4)) PJm.nil))))))))))))))))
theorem ok_skip_blanks (T : Txt K mg A) : FnOk P w K mg base (L2.CX P w) 1 A.a_skip_blanks A.fd_skip_blanks ["text", "at"] (spP K mg 2 F_skip_blanks) :=
  okP (N := ["text", "at"]) T.F_skip_blanks sc_skip_blanks rfl (by decide) fun cdv A' outer s H E hr => by
  have tk := takes_of (X := cxOf (L2.CX P w) P w K mg base ["text", "at"] "skip_blanks" (defScope sF_skip_blanks) A.a_skip_blanks cdv A' outer s H E) (E := E) rfl rfl rfl rfl
  exact (ppss_cons (pps_while fuel (passes_of rfl) (ppt_bool (pwt_and (ppt_lt (pb_var 1) (pb_of (pp_len (by rfl) T.Z_len (pbs_cons (pb_var 0) pbs_nil)))) (pwt_and1 (ppt_eq (u65 hr) (pb_of (pp_item (pb_var 0) (pb_var 1))) (pb_of pp_str))))) (ppss_one (pps_aug (i := 1) sc_skip_blanks.nd (pb_of pp_int) ip_add)))
  (ppss_one (pps_ret (pp_var 1))))
theorem ok_read_word (T : Txt K mg A) (G_skip_blanks : FnOk P w K mg base (L2.CX P w) 1 A.a_skip_blanks A.fd_skip_blanks ["text", "at"] (spP K mg 2 F_skip_blanks)) : FnOk P w K mg base (L2.CX P w) 2 A.a_read_word A.fd_read_word ["text", "at"] (spP K mg 2 F_read_word) :=
  okP (N := ["text", "at", "begin", "end"]) T.F_read_word sc_read_word rfl (by decide) fun cdv A' outer s H E hr => by
  have tk := takes_of (X := cxOf (L2.CX P w) P w K mg base ["text", "at", "begin", "end"] "read_word" (defScope sF_read_word) A.a_read_word cdv A' outer s H E) (E := E) rfl rfl rfl rfl
  exact (ppss_cons (pps_set (i := 2) sc_read_word.nd (pp_call G_skip_blanks (hr.mono (by decide)) (by rfl) T.G_skip_blanks T.F_skip_blanks.kp T.B_skip_blanks (passW tk) (pps_cons (pp_var 0) (pps_cons (pp_var 1) pps_nil))))
  (ppss_cons (pps_set (i := 3) sc_read_word.nd (pp_var 2))
  (ppss_cons (pps_while fuel (passes_of rfl) (ppt_bool (pwt_and (ppt_lt (pb_var 3) (pb_of (pp_len (by rfl) T.Z_len (pbs_cons (pb_var 0) pbs_nil)))) (pwt_and1 (ppt_in (u65 hr) (pb_of (pp_item (pb_var 0) (pb_var 3))) (pb_of (pp_gS (by rfl) T.K_ALPHABET)))))) (ppss_one (pps_aug (i := 3) sc_read_word.nd (pb_of pp_int) ip_add)))
  (ppss_one (pps_ret (pp_tup (pps_cons (pp_slice (pb_var 0) (ppo_some (pb_var 2)) (ppo_some (pb_var 3))) (pps_cons (pp_call G_skip_blanks (hr.mono (by decide)) (by rfl) T.G_skip_blanks T.F_skip_blanks.kp T.B_skip_blanks (passW tk) (pps_cons (pp_var 0) (pps_cons (pp_var 3) pps_nil))) pps_nil))))))))
theorem ok_skip_sign (T : Txt K mg A) (GI_InvalidText : FnOk P w K mg base CX0 1 A.i_InvalidText A.fi_InvalidText ["self", "at"] (spIn1 A.C_InvalidText "at")) : FnOk P w K mg base (L2.CX P w) 3 A.a_skip_sign A.fd_skip_sign ["text", "at", "sign"] (spP K mg 3 F_skip_sign) :=
  okP (N := ["text", "at", "sign"]) T.F_skip_sign sc_skip_sign rfl (by decide) fun cdv A' outer s H E hr => by
  have tk := takes_of (X := cxOf (L2.CX P w) P w K mg base ["text", "at", "sign"] "skip_sign" (defScope sF_skip_sign) A.a_skip_sign cdv A' outer s H E) (E := E) rfl rfl rfl rfl
  exact (ppss_cons (pps_if (ppt_bool (pwt_or (ppt_eq (u65 hr) (pb_var 1) (pb_of (pp_len (by rfl) T.Z_len (pbs_cons (pb_var 0) pbs_nil)))) (pwt_or1 (ppt_ne (u65 hr) (pb_of (pp_item (pb_var 0) (pb_var 1))) (pb_var 2))))) (ppss_one (pps_raise1 rfl tk T.O_InvalidText T.I_InvalidText T.J_InvalidText GI_InvalidText (hr.mono (by decide)) T.BI_InvalidText pass0 (by rfl) T.G_InvalidText (pps_cons (pp_var 1) pps_nil))) ppss_nil)
  (ppss_one (pps_ret (pp_add (pb_var 1) (pb_of pp_int)))))
theorem ok_read_fix (T : Txt K mg A) (G_read_word : FnOk P w K mg base (L2.CX P w) 2 A.a_read_word A.fd_read_word ["text", "at"] (spP K mg 2 F_read_word)) (G_skip_sign : FnOk P w K mg base (L2.CX P w) 3 A.a_skip_sign A.fd_skip_sign ["text", "at", "sign"] (spP K mg 3 F_skip_sign)) : FnOk P w K mg base (L2.CX P w) 4 A.a_read_fix A.fd_read_fix ["text", "at"] (spP K mg 2 F_read_fix) :=
  okP (N := ["text", "at", "words", "sign", "word"]) T.F_read_fix sc_read_fix rfl (by decide) fun cdv A' outer s H E hr => by
  have tk := takes_of (X := cxOf (L2.CX P w) P w K mg base ["text", "at", "words", "sign", "word"] "read_fix" (defScope sF_read_fix) A.a_read_fix cdv A' outer s H E) (E := E) rfl rfl rfl rfl
  exact (ppss_cons (pps_setN (i := 2) sc_read_fix.nd (pn_lst pps_nil))
  (ppss_cons (pps_for (passes_of rfl) rfl (pit_seq (pp_gS (by rfl) T.K_SIGNS)) (ptg_nm sc_read_fix.nd (i := 3) rfl (by first | exact .inl rfl | exact .inr rfl)) (ppss_cons (pps_asg (pp_call G_read_word (hr.mono (by decide)) (by rfl) T.G_read_word T.F_read_word.kp T.B_read_word (passW tk) (pps_cons (pp_var 0) (pps_cons (pp_var 1) pps_nil))) (ptg_tp rfl sc_read_fix.nd (PTn.cons (i := 4) rfl (by first | exact .inl rfl | exact .inr rfl) (by first | exact .inl rfl | exact .inr rfl) rfl (PTn.cons (i := 1) rfl (by first | exact .inl rfl | exact .inr rfl) (by first | exact .inl rfl | exact .inr rfl) rfl PTn.nil))))
  (ppss_cons (pps_append (i := 2) (pp_var 4))
  (ppss_one (pps_set (i := 1) sc_read_fix.nd (pp_call G_skip_sign (hr.mono (by decide)) (by rfl) T.G_skip_sign T.F_skip_sign.kp T.B_skip_sign (passW tk) (pps_cons (pp_var 0) (pps_cons (pp_var 1) (pps_cons (pp_var 3) pps_nil)))))))))
  (ppss_cons (pps_asg (pp_call G_read_word (hr.mono (by decide)) (by rfl) T.G_read_word T.F_read_word.kp T.B_read_word (passW tk) (pps_cons (pp_var 0) (pps_cons (pp_var 1) pps_nil))) (ptg_tp rfl sc_read_fix.nd (PTn.cons (i := 4) rfl (by first | exact .inl rfl | exact .inr rfl) (by first | exact .inl rfl | exact .inr rfl) rfl (PTn.cons (i := 1) rfl (by first | exact .inl rfl | exact .inr rfl) (by first | exact .inl rfl | exact .inr rfl) rfl PTn.nil))))
  (ppss_cons (pps_append (i := 2) (pp_var 4))
  (ppss_one (pps_ret (pp_tup (pps_cons (pp_tuple (by rfl) T.Z_tuple (pbs_cons (pb_var 2) pbs_nil)) (pps_cons (pp_var 1) pps_nil)))))))))
theorem ok_read_fixes (T : Txt K mg A) (G_skip_blanks : FnOk P w K mg base (L2.CX P w) 1 A.a_skip_blanks A.fd_skip_blanks ["text", "at"] (spP K mg 2 F_skip_blanks)) (G_read_fix : FnOk P w K mg base (L2.CX P w) 4 A.a_read_fix A.fd_read_fix ["text", "at"] (spP K mg 2 F_read_fix)) (G_skip_sign : FnOk P w K mg base (L2.CX P w) 3 A.a_skip_sign A.fd_skip_sign ["text", "at", "sign"] (spP K mg 3 F_skip_sign)) : FnOk P w K mg base (L2.CX P w) 5 A.a_read_fixes A.fd_read_fixes ["text"] (spP K mg 1 F_read_fixes) :=
  okP (N := ["text", "fix", "at", "fixes"]) T.F_read_fixes sc_read_fixes rfl (by decide) fun cdv A' outer s H E hr => by
  have tk := takes_of (X := cxOf (L2.CX P w) P w K mg base ["text", "fix", "at", "fixes"] "read_fixes" (defScope sF_read_fixes) A.a_read_fixes cdv A' outer s H E) (E := E) rfl rfl rfl rfl
  exact (ppss_cons (pps_if (ppt_eq (u65 hr) (pb_of (pp_call G_skip_blanks (hr.mono (by decide)) (by rfl) T.G_skip_blanks T.F_skip_blanks.kp T.B_skip_blanks (passW tk) (pps_cons (pp_var 0) (pps_cons pp_int pps_nil)))) (pb_of (pp_len (by rfl) T.Z_len (pbs_cons (pb_var 0) pbs_nil)))) (ppss_one (pps_ret (pp_tup pps_nil))) ppss_nil)
  (ppss_cons (pps_asg (pp_call G_read_fix (hr.mono (by decide)) (by rfl) T.G_read_fix T.F_read_fix.kp T.B_read_fix (passW tk) (pps_cons (pp_var 0) (pps_cons pp_int pps_nil))) (ptg_tp rfl sc_read_fixes.nd (PTn.cons (i := 1) rfl (by first | exact .inl rfl | exact .inr rfl) (by first | exact .inl rfl | exact .inr rfl) rfl (PTn.cons (i := 2) rfl (by first | exact .inl rfl | exact .inr rfl) (by first | exact .inl rfl | exact .inr rfl) rfl PTn.nil))))
  (ppss_cons (pps_setN (i := 3) sc_read_fixes.nd (pn_lst (pps_cons (pp_var 1) pps_nil)))
  (ppss_cons (pps_while fuel (passes_of rfl) (ppt_lt (pb_var 2) (pb_of (pp_len (by rfl) T.Z_len (pbs_cons (pb_var 0) pbs_nil)))) (ppss_cons (pps_asg (pp_call G_read_fix (hr.mono (by decide)) (by rfl) T.G_read_fix T.F_read_fix.kp T.B_read_fix (passW tk) (pps_cons (pp_var 0) (pps_cons (pp_call G_skip_sign (hr.mono (by decide)) (by rfl) T.G_skip_sign T.F_skip_sign.kp T.B_skip_sign (passW tk) (pps_cons (pp_var 0) (pps_cons (pp_var 2) (pps_cons pp_str pps_nil)))) pps_nil))) (ptg_tp rfl sc_read_fixes.nd (PTn.cons (i := 1) rfl (by first | exact .inl rfl | exact .inr rfl) (by first | exact .inl rfl | exact .inr rfl) rfl (PTn.cons (i := 2) rfl (by first | exact .inl rfl | exact .inr rfl) (by first | exact .inl rfl | exact .inr rfl) rfl PTn.nil))))
  (ppss_one (pps_append (i := 3) (pp_var 1)))))
  (ppss_one (pps_ret (pp_tuple (by rfl) T.Z_tuple (pbs_cons (pb_var 3) pbs_nil))))))))
theorem ok_read_book (T : Txt K mg A) (G_read_fixes : FnOk P w K mg base (L2.CX P w) 5 A.a_read_fixes A.fd_read_fixes ["text"] (spP K mg 1 F_read_fixes)) (G_check_book : FnOk P w K mg base (L2.CX P w) 4 A.a_check_book A.fd_check_book ["book"] (spP K mg 1 F_check_book)) (GI_InvalidText : FnOk P w K mg base CX0 1 A.i_InvalidText A.fi_InvalidText ["self", "at"] (spIn1 A.C_InvalidText "at")) : FnOk P w K mg base (L2.CX P w) 6 A.a_read_book A.fd_read_book ["text"] (spP K mg 1 F_read_book) :=
  okP (N := ["text", "book"]) T.F_read_book sc_read_book rfl (by decide) fun cdv A' outer s H E hr => by
  have tk := takes_of (X := cxOf (L2.CX P w) P w K mg base ["text", "book"] "read_book" (defScope sF_read_book) A.a_read_book cdv A' outer s H E) (E := E) rfl rfl rfl rfl
  exact (ppss_cons (pps_if (ppt_not (ppt_val (pp_isi (by rfl) T.Z_isinstance (pe_tyN (by rfl) T.Z_str boot_str) (pb_var 0)))) (ppss_one (pps_raise1 rfl tk T.O_InvalidText T.I_InvalidText T.J_InvalidText GI_InvalidText (hr.mono (by decide)) T.BI_InvalidText pass0 (by rfl) T.G_InvalidText (pps_cons pp_int pps_nil))) ppss_nil)
  (ppss_cons (pps_set (i := 1) sc_read_book.nd (pp_call G_read_fixes (hr.mono (by decide)) (by rfl) T.G_read_fixes T.F_read_fixes.kp T.B_read_fixes (passW tk) (pps_cons (pp_var 0) pps_nil)))
  (ppss_cons (pps_expr (pp_call G_check_book (hr.mono (by decide)) (by rfl) T.G_check_book T.F_check_book.kp T.B_check_book (passW tk) (pps_cons (pp_var 1) pps_nil)))
  (ppss_one (pps_ret (pp_var 1))))))
theorem ok__law_pick (T : Txt K mg A) (G__law_draw : FnOk P w K mg base (L2.CX P w) 1 A.a__law_draw A.fd__law_draw ["source", "limit"] (spP K mg 2 F__law_draw)) : FnOk P w K mg base (L2.CX P w) 2 A.a__law_pick A.fd__law_pick ["source", "values"] (spP K mg 2 F__law_pick) :=
  okP (N := ["source", "values"]) T.F__law_pick sc__law_pick rfl (by decide) fun cdv A' outer s H E hr => by
  have tk := takes_of (X := cxOf (L2.CX P w) P w K mg base ["source", "values"] "_law_pick" (defScope sF__law_pick) A.a__law_pick cdv A' outer s H E) (E := E) rfl rfl rfl rfl
  exact (ppss_one (pps_ret (pp_item (pb_var 1) (pb_of (pp_call G__law_draw (hr.mono (by decide)) (by rfl) T.G__law_draw T.F__law_draw.kp T.B__law_draw (passW tk) (pps_cons (pp_var 0) (pps_cons (pp_len (by rfl) T.Z_len (pbs_cons (pb_var 1) pbs_nil)) pps_nil)))))))
theorem ok__law_word (T : Txt K mg A) (G__law_draw : FnOk P w K mg base (L2.CX P w) 1 A.a__law_draw A.fd__law_draw ["source", "limit"] (spP K mg 2 F__law_draw)) (G__law_pick : FnOk P w K mg base (L2.CX P w) 2 A.a__law_pick A.fd__law_pick ["source", "values"] (spP K mg 2 F__law_pick)) : FnOk P w K mg base (L2.CX P w) 3 A.a__law_word A.fd__law_word ["source", "alphabet", "least", "most"] (spP K mg 4 F__law_word) :=
  okP (N := ["source", "alphabet", "least", "most", "k"]) T.F__law_word sc__law_word rfl (by decide) fun cdv A' outer s H E hr => by
  have tk := takes_of (X := cxOf (L2.CX P w) P w K mg base ["source", "alphabet", "least", "most", "k"] "_law_word" (defScope sF__law_word) A.a__law_word cdv A' outer s H E) (E := E) rfl rfl rfl rfl
  exact (ppss_one (pps_ret (pp_join (pb_of pp_str) (pb_of (pp_new (pn_lc (own := [("k", 4)]) rfl sc__law_word.nd (pit_range1 (by rfl) T.Z_range (pbs_cons (pb_of (pp_add (pb_var 2) (pb_of (pp_call G__law_draw (hr.mono (by decide)) (by rfl) T.G__law_draw T.F__law_draw.kp T.B__law_draw (passW tk) (pps_cons (pp_var 0) (pps_cons (pp_add (pb_of (pp_sub (pb_var 3) (pb_var 2))) (pb_of pp_int)) pps_nil)))))) pbs_nil)) (blkOk_by (N := ["source", "alphabet", "least", "most", "k"]) (sc := defScope sF__law_word) (by decide +kernel)) rfl (by decide) (fun _ _ _ _ _ => (ptg_nm sc__law_word.nd (i := 4) rfl (by first | exact .inl rfl | exact .inr rfl))) (fun _ _ _ _ _ => pts_yes) (fun _ _ _ _ _ => (pp_call G__law_pick (hr.mono (by decide)) (by rfl) T.G__law_pick T.F__law_pick.kp T.B__law_pick pass00 (pps_cons (pp_var 0) (pps_cons (pp_var 1) pps_nil))))))))))
theorem ok__law_fix (T : Txt K mg A) (G__law_pick : FnOk P w K mg base (L2.CX P w) 2 A.a__law_pick A.fd__law_pick ["source", "values"] (spP K mg 2 F__law_pick)) (G__law_word : FnOk P w K mg base (L2.CX P w) 3 A.a__law_word A.fd__law_word ["source", "alphabet", "least", "most"] (spP K mg 4 F__law_word)) : FnOk P w K mg base (L2.CX P w) 4 A.a__law_fix A.fd__law_fix ["source", "alphabet"] (spP K mg 2 F__law_fix) :=
  okP (N := ["source", "alphabet", "ahead", "behind"]) T.F__law_fix sc__law_fix rfl (by decide) fun cdv A' outer s H E hr => by
  have tk := takes_of (X := cxOf (L2.CX P w) P w K mg base ["source", "alphabet", "ahead", "behind"] "_law_fix" (defScope sF__law_fix) A.a__law_fix cdv A' outer s H E) (E := E) rfl rfl rfl rfl
  exact (ppss_cons (pps_set (i := 2) sc__law_fix.nd (pp_call G__law_pick (hr.mono (by decide)) (by rfl) T.G__law_pick T.F__law_pick.kp T.B__law_pick (passW tk) (pps_cons (pp_var 0) (pps_cons (pp_new (pn_lst (pps_cons pp_str (pps_cons pp_str (pps_cons pp_str (pps_cons (pp_call G__law_pick (hr.mono (by decide)) (by rfl) T.G__law_pick T.F__law_pick.kp T.B__law_pick (passW tk) (pps_cons (pp_var 0) (pps_cons (pp_var 1) pps_nil))) pps_nil)))))) pps_nil))))
  (ppss_cons (pps_set (i := 3) sc__law_fix.nd (pp_call G__law_pick (hr.mono (by decide)) (by rfl) T.G__law_pick T.F__law_pick.kp T.B__law_pick (passW tk) (pps_cons (pp_var 0) (pps_cons (pp_new (pn_lst (pps_cons pp_str (pps_cons pp_str (pps_cons pp_str (pps_cons (pp_call G__law_pick (hr.mono (by decide)) (by rfl) T.G__law_pick T.F__law_pick.kp T.B__law_pick (passW tk) (pps_cons (pp_var 0) (pps_cons (pp_var 1) pps_nil))) pps_nil)))))) pps_nil))))
  (ppss_one (pps_ret (pp_tup (pps_cons (pp_var 2) (pps_cons (pp_call G__law_word (hr.mono (by decide)) (by rfl) T.G__law_word T.F__law_word.kp T.B__law_word (passW tk) (pps_cons (pp_var 0) (pps_cons (pp_var 1) (pps_cons pp_int (pps_cons pp_int pps_nil))))) (pps_cons (pp_call G__law_word (hr.mono (by decide)) (by rfl) T.G__law_word T.F__law_word.kp T.B__law_word (passW tk) (pps_cons (pp_var 0) (pps_cons (pp_var 1) (pps_cons pp_int (pps_cons pp_int pps_nil))))) (pps_cons (pp_var 3) pps_nil)))))))))
theorem ok__law_book (T : Txt K mg A) (G__law_draw : FnOk P w K mg base (L2.CX P w) 1 A.a__law_draw A.fd__law_draw ["source", "limit"] (spP K mg 2 F__law_draw)) (G__law_fix : FnOk P w K mg base (L2.CX P w) 4 A.a__law_fix A.fd__law_fix ["source", "alphabet"] (spP K mg 2 F__law_fix)) : FnOk P w K mg base (L2.CX P w) 5 A.a__law_book A.fd__law_book ["source", "alphabet", "most"] (spP K mg 3 F__law_book) :=
  okP (N := ["source", "alphabet", "most", "k"]) T.F__law_book sc__law_book rfl (by decide) fun cdv A' outer s H E hr => by
  have tk := takes_of (X := cxOf (L2.CX P w) P w K mg base ["source", "alphabet", "most", "k"] "_law_book" (defScope sF__law_book) A.a__law_book cdv A' outer s H E) (E := E) rfl rfl rfl rfl
  exact (ppss_one (pps_ret (pp_tuple (by rfl) T.Z_tuple (pbs_cons (pb_of (pp_new (pn_lc (own := [("k", 3)]) rfl sc__law_book.nd (pit_range1 (by rfl) T.Z_range (pbs_cons (pb_of (pp_call G__law_draw (hr.mono (by decide)) (by rfl) T.G__law_draw T.F__law_draw.kp T.B__law_draw (passW tk) (pps_cons (pp_var 0) (pps_cons (pp_add (pb_var 2) (pb_of pp_int)) pps_nil)))) pbs_nil)) (blkOk_by (N := ["source", "alphabet", "most", "k"]) (sc := defScope sF__law_book) (by decide +kernel)) rfl (by decide) (fun _ _ _ _ _ => (ptg_nm sc__law_book.nd (i := 3) rfl (by first | exact .inl rfl | exact .inr rfl))) (fun _ _ _ _ _ => pts_yes) (fun _ _ _ _ _ => (pp_call G__law_fix (hr.mono (by decide)) (by rfl) T.G__law_fix T.F__law_fix.kp T.B__law_fix pass00 (pps_cons (pp_var 0) (pps_cons (pp_var 1) pps_nil))))))) pbs_nil))))
theorem ok__law_end (T : Txt K mg A) : FnOk P w K mg base (L2.CX P w) 1 A.a__law_end A.fd__law_end ["text", "at", "alphabet"] (spP K mg 3 F__law_end) :=
  okP (N := ["text", "at", "alphabet", "end"]) T.F__law_end sc__law_end rfl (by decide) fun cdv A' outer s H E hr => by
  have tk := takes_of (X := cxOf (L2.CX P w) P w K mg base ["text", "at", "alphabet", "end"] "_law_end" (defScope sF__law_end) A.a__law_end cdv A' outer s H E) (E := E) rfl rfl rfl rfl
  exact (ppss_cons (pps_set (i := 3) sc__law_end.nd (pp_var 1))
  (ppss_cons (pps_while fuel (passes_of rfl) (ppt_bool (pwt_and (ppt_lt (pb_var 3) (pb_of (pp_len (by rfl) T.Z_len (pbs_cons (pb_var 0) pbs_nil)))) (pwt_and1 (ppt_in (u65 hr) (pb_of (pp_item (pb_var 0) (pb_var 3))) (pb_var 2))))) (ppss_one (pps_set (i := 3) sc__law_end.nd (pp_add (pb_var 3) (pb_of pp_int)))))
  (ppss_one (pps_ret (pp_var 3)))))
theorem ok__law_due (T : Txt K mg A) (G__law_end : FnOk P w K mg base (L2.CX P w) 1 A.a__law_end A.fd__law_end ["text", "at", "alphabet"] (spP K mg 3 F__law_end)) : FnOk P w K mg base (L2.CX P w) 2 A.a__law_due A.fd__law_due ["text"] (spP K mg 1 F__law_due) :=
  okP (N := ["text", "at", "found", "fix", "end"]) T.F__law_due sc__law_due rfl (by decide) fun cdv A' outer s H E hr => by
  have tk := takes_of (X := cxOf (L2.CX P w) P w K mg base ["text", "at", "found", "fix", "end"] "_law_due" (defScope sF__law_due) A.a__law_due cdv A' outer s H E) (E := E) rfl rfl rfl rfl
  exact (ppss_cons (pps_if (ppt_not (ppt_val (pp_isi (by rfl) T.Z_isinstance (pe_tyN (by rfl) T.Z_str boot_str) (pb_var 0)))) (ppss_one (pps_ret (pp_new (pn_lst (pps_cons pp_str (pps_cons pp_int pps_nil)))))) ppss_nil)
  (ppss_cons (pps_par3 (i := 1) (j := 2) (l := 3) rfl sc__law_due.nd rfl rfl rfl (by decide) (by decide) (by decide) rfl rfl rfl (pps_cons (pp_call G__law_end (hr.mono (by decide)) (by rfl) T.G__law_end T.F__law_end.kp T.B__law_end (passW tk) (pps_cons (pp_var 0) (pps_cons pp_int (pps_cons pp_str pps_nil)))) (pps_cons (pp_new (pn_lst pps_nil)) (pps_cons (pp_new (pn_lst pps_nil)) pps_nil))))
  (ppss_cons (pps_if (ppt_eq (u65 hr) (pb_var 1) (pb_of (pp_len (by rfl) T.Z_len (pbs_cons (pb_var 0) pbs_nil)))) (ppss_one (pps_ret (pp_new (pn_lst (pps_cons pp_str (pps_cons (pp_tup pps_nil) pps_nil)))))) ppss_nil)
  (ppss_cons (pps_while fuel (passes_of rfl) (ppt_le (pb_var 1) (pb_of (pp_len (by rfl) T.Z_len (pbs_cons (pb_var 0) pbs_nil)))) (ppss_cons (pps_set (i := 4) sc__law_due.nd (pp_call G__law_end (hr.mono (by decide)) (by rfl) T.G__law_end T.F__law_end.kp T.B__law_end (passW tk) (pps_cons (pp_var 0) (pps_cons (pp_var 1) (pps_cons pp_str pps_nil)))))
  (ppss_cons (pps_set (i := 3) sc__law_due.nd (pp_add (pb_var 3) (pb_of (pp_new (pn_lst (pps_cons (pp_slice (pb_var 0) (ppo_some (pb_var 1)) (ppo_some (pb_var 4))) pps_nil))))))
  (ppss_cons (pps_set (i := 1) sc__law_due.nd (pp_call G__law_end (hr.mono (by decide)) (by rfl) T.G__law_end T.F__law_end.kp T.B__law_end (passW tk) (pps_cons (pp_var 0) (pps_cons (pp_var 4) (pps_cons pp_str pps_nil)))))
  (ppss_cons (pps_if (ppt_eq (u65 hr) (pb_of (pp_len (by rfl) T.Z_len (pbs_cons (pb_var 3) pbs_nil))) (pb_of pp_int)) (ppss_cons (pps_par2 (i := 2) (j := 3) rfl sc__law_due.nd rfl rfl (by decide) rfl rfl (pps_cons (pp_add (pb_var 2) (pb_of (pp_new (pn_lst (pps_cons (pp_tuple (by rfl) T.Z_tuple (pbs_cons (pb_var 3) pbs_nil)) pps_nil))))) (pps_cons (pp_new (pn_lst pps_nil)) pps_nil)))
  (ppss_one (pps_if (ppt_eq (u65 hr) (pb_var 1) (pb_of (pp_len (by rfl) T.Z_len (pbs_cons (pb_var 0) pbs_nil)))) (ppss_one (pps_ret (pp_new (pn_lst (pps_cons pp_str (pps_cons (pp_tuple (by rfl) T.Z_tuple (pbs_cons (pb_var 2) pbs_nil)) pps_nil)))))) ppss_nil))) ppss_nil)
  (ppss_cons (pps_if (ppt_ne (u65 hr) (pb_of (pp_slice (pb_var 0) (ppo_some (pb_var 1)) (ppo_some (pb_of (pp_add (pb_var 1) (pb_of pp_int)))))) (pb_of (pp_item (pb_of (pp_new (pn_lst (pps_cons pp_str (pps_cons pp_str (pps_cons pp_str (pps_cons pp_str pps_nil))))))) (pb_of (pp_len (by rfl) T.Z_len (pbs_cons (pb_var 3) pbs_nil)))))) (ppss_one (pps_ret (pp_new (pn_lst (pps_cons pp_str (pps_cons (pp_var 1) pps_nil)))))) ppss_nil)
  (ppss_one (pps_set (i := 1) sc__law_due.nd (pp_call G__law_end (hr.mono (by decide)) (by rfl) T.G__law_end T.F__law_end.kp T.B__law_end (passW tk) (pps_cons (pp_var 0) (pps_cons (pp_add (pb_var 1) (pb_of pp_int)) (pps_cons pp_str pps_nil))))))))))))
  (ppss_one (pps_ret (pp_new (pn_lst (pps_cons pp_str (pps_cons (pp_len (by rfl) T.Z_len (pbs_cons (pb_var 0) pbs_nil)) pps_nil))))))))))
theorem ok__law_is_book (T : Txt K mg A) : FnOk P w K mg base (L2.CX P w) 1 A.a__law_is_book A.fd__law_is_book ["book"] (spP K mg 1 F__law_is_book) :=
  okP (N := ["book", "ahead", "old", "new", "behind"]) T.F__law_is_book sc__law_is_book rfl (by decide) fun cdv A' outer s H E hr => by
  have tk := takes_of (X := cxOf (L2.CX P w) P w K mg base ["book", "ahead", "old", "new", "behind"] "_law_is_book" (defScope sF__law_is_book) A.a__law_is_book cdv A' outer s H E) (E := E) rfl rfl rfl rfl
  exact (ppss_cons (pps_if (ppt_gt (pb_of (pp_len (by rfl) T.Z_len (pbs_cons (pb_var 0) pbs_nil))) (pb_of pp_int)) (ppss_one (pps_ret pp_bl)) ppss_nil)
  (ppss_cons (pps_for (passes_of rfl) rfl (pit_seq (pp_var 0)) (ptg_tp rfl sc__law_is_book.nd (PTn.cons (i := 1) rfl (by first | exact .inl rfl | exact .inr rfl) (by first | exact .inl rfl | exact .inr rfl) rfl (PTn.cons (i := 2) rfl (by first | exact .inl rfl | exact .inr rfl) (by first | exact .inl rfl | exact .inr rfl) rfl (PTn.cons (i := 3) rfl (by first | exact .inl rfl | exact .inr rfl) (by first | exact .inl rfl | exact .inr rfl) rfl (PTn.cons (i := 4) rfl (by first | exact .inl rfl | exact .inr rfl) (by first | exact .inl rfl | exact .inr rfl) rfl PTn.nil))))) (ppss_one (pps_if (ppt_bool (pwt_or (ppt_gt (pb_of (pp_len (by rfl) T.Z_len (pbs_cons (pb_var 1) pbs_nil))) (pb_of pp_int)) (pwt_or (ppt_gt (pb_of (pp_len (by rfl) T.Z_len (pbs_cons (pb_var 2) pbs_nil))) (pb_of pp_int)) (pwt_or (ppt_gt (pb_of (pp_len (by rfl) T.Z_len (pbs_cons (pb_var 3) pbs_nil))) (pb_of pp_int)) (pwt_or (ppt_gt (pb_of (pp_len (by rfl) T.Z_len (pbs_cons (pb_var 4) pbs_nil))) (pb_of pp_int)) (pwt_or1 (ppt_eq (u65 hr) (pb_var 2) (pb_of pp_str)))))))) (ppss_one (pps_ret pp_bl)) ppss_nil)))
  (ppss_one (pps_ret pp_bl))))
theorem ok__law_read (T : Txt K mg A) (G_read_book : FnOk P w K mg base (L2.CX P w) 6 A.a_read_book A.fd_read_book ["text"] (spP K mg 1 F_read_book)) : FnOk P w K mg base (L2.CX P w) 7 A.a__law_read A.fd__law_read ["text"] (spP K mg 1 F__law_read) :=
  okP (N := ["text", "caught", "found", "e", "hits"]) T.F__law_read sc__law_read rfl (by decide) fun cdv A' outer s H E hr => by
  have tk := takes_of (X := cxOf (L2.CX P w) P w K mg base ["text", "caught", "found", "e", "hits"] "_law_read" (defScope sF__law_read) A.a__law_read cdv A' outer s H E) (E := E) rfl rfl rfl rfl
  exact (ppss_cons (pps_set (i := 1) sc__law_read.nd pp_non)
  (ppss_cons (pps_set (i := 2) sc__law_read.nd pp_non)
  (ppss_cons (pps_try (i := 3) rfl rfl sc__law_read.nd ⟨by rfl, by decide, .inl T.G_FixError⟩ rfl (tx_FixError T) (fun _ _ _ tk _ => (ppss_one (pps_set (i := 2) sc__law_read.nd (pp_call G_read_book (hr.mono (by decide)) (by rfl) T.G_read_book T.F_read_book.kp T.B_read_book (passW tk) (pps_cons (pp_var 0) pps_nil))))) (fun _ _ => (ppss_one (pps_set (i := 1) sc__law_read.nd (pp_var 3)))))
  (ppss_cons (pps_if (ppt_isNx (pp_var 1) pe_non rfl) (ppss_one (pps_ret (pp_new (pn_lst (pps_cons pp_str (pps_cons (pp_var 2) pps_nil)))))) ppss_nil)
  (ppss_cons (pps_setN (i := 4) sc__law_read.nd (pn_lst (pps_cons (pp_isX (by rfl) T.Z_isinstance (.own _) (pe_glob (v := .ref A.C_InvalidText) (by rfl) T.G_InvalidText rfl) (ti_InvalidText T) (pp_var 1)) (pps_cons (pp_isX (by rfl) T.Z_isinstance (.own _) (pe_glob (v := .ref A.C_InvalidBook) (by rfl) T.G_InvalidBook rfl) (ti_InvalidBook T) (pp_var 1)) (pps_cons (pp_isX (by rfl) T.Z_isinstance (.own _) (pe_glob (v := .ref A.C_InvalidWord) (by rfl) T.G_InvalidWord rfl) (ti_InvalidWord T) (pp_var 1)) pps_nil)))))
  (ppss_cons (pps_if (ppt_bool (pwt_or (ppt_ne (u65 hr) (pb_of (pp_count (pb_var 4) pe_bl)) (pb_of pp_int)) (pwt_or (ppt_val (pp_item (pb_var 4) (pb_of pp_int))) (pwt_or1 (ppt_not (ppt_val (pp_isX (by rfl) T.Z_isinstance (.ty _) (pe_tyN (by rfl) T.Z_ValueError (by decide +kernel)) (ti_ValueError T) (pp_var 1)))))))) (ppss_one (pps_ret (pp_new (pn_lst (pps_cons pp_str (pps_cons pp_non pps_nil)))))) ppss_nil)
  (ppss_cons (pps_if (ppt_val (pp_item (pb_var 4) (pb_of pp_int))) (ppss_one (pps_ret (pp_new (pn_lst (pps_cons pp_str (pps_cons (pp_fld (tf_at T) (pp_var 1)) pps_nil)))))) ppss_nil)
  (ppss_one (pps_ret (pp_new (pn_lst (pps_cons pp_str (pps_cons pp_non pps_nil)))))))))))))
theorem ok__law_fits (T : Txt K mg A) (G__law_due : FnOk P w K mg base (L2.CX P w) 2 A.a__law_due A.fd__law_due ["text"] (spP K mg 1 F__law_due)) (G__law_is_book : FnOk P w K mg base (L2.CX P w) 1 A.a__law_is_book A.fd__law_is_book ["book"] (spP K mg 1 F__law_is_book)) (G__law_read : FnOk P w K mg base (L2.CX P w) 7 A.a__law_read A.fd__law_read ["text"] (spP K mg 1 F__law_read)) : FnOk P w K mg base (L2.CX P w) 8 A.a__law_fits A.fd__law_fits ["text"] (spP K mg 1 F__law_fits) :=
  okP (N := ["text", "due"]) T.F__law_fits sc__law_fits rfl (by decide) fun cdv A' outer s H E hr => by
  have tk := takes_of (X := cxOf (L2.CX P w) P w K mg base ["text", "due"] "_law_fits" (defScope sF__law_fits) A.a__law_fits cdv A' outer s H E) (E := E) rfl rfl rfl rfl
  exact (ppss_cons (pps_set (i := 1) sc__law_fits.nd (pp_call G__law_due (hr.mono (by decide)) (by rfl) T.G__law_due T.F__law_due.kp T.B__law_due (passW tk) (pps_cons (pp_var 0) pps_nil)))
  (ppss_cons (pps_if (ppt_bool (pwt_and (ppt_eq (u65 hr) (pb_of (pp_item (pb_var 1) (pb_of pp_int))) (pb_of pp_str)) (pwt_and1 (ppt_not (ppt_val (pp_call G__law_is_book (hr.mono (by decide)) (by rfl) T.G__law_is_book T.F__law_is_book.kp T.B__law_is_book (passW tk) (pps_cons (pp_item (pb_var 1) (pb_of pp_int)) pps_nil))))))) (ppss_one (pps_setN (i := 1) sc__law_fits.nd (pn_lst (pps_cons pp_str (pps_cons pp_non pps_nil))))) ppss_nil)
  (ppss_one (pps_ret (pp_eq (u65 hr) (pb_of (pp_call G__law_read (hr.mono (by decide)) (by rfl) T.G__law_read T.F__law_read.kp T.B__law_read (passW tk) (pps_cons (pp_var 0) pps_nil))) (pb_var 1))))))
theorem ok__law_bent (T : Txt K mg A) (G__law_draw : FnOk P w K mg base (L2.CX P w) 1 A.a__law_draw A.fd__law_draw ["source", "limit"] (spP K mg 2 F__law_draw)) (G__law_pick : FnOk P w K mg base (L2.CX P w) 2 A.a__law_pick A.fd__law_pick ["source", "values"] (spP K mg 2 F__law_pick)) : FnOk P w K mg base (L2.CX P w) 3 A.a__law_bent A.fd__law_bent ["source", "text"] (spP K mg 2 F__law_bent) :=
  okP (N := ["source", "text", "signs", "at", "way"]) T.F__law_bent sc__law_bent rfl (by decide) fun cdv A' outer s H E hr => by
  have tk := takes_of (X := cxOf (L2.CX P w) P w K mg base ["source", "text", "signs", "at", "way"] "_law_bent" (defScope sF__law_bent) A.a__law_bent cdv A' outer s H E) (E := E) rfl rfl rfl rfl
  exact (ppss_cons (pps_setN (i := 2) sc__law_bent.nd (pn_lst (pps_cons pp_str (pps_cons pp_str (pps_cons pp_str (pps_cons pp_str (pps_cons pp_str (pps_cons pp_str (pps_cons pp_str (pps_cons pp_str (pps_cons pp_str (pps_cons pp_str (pps_cons pp_str (pps_cons pp_str (pps_cons pp_str (pps_cons pp_str (pps_cons pp_str (pps_cons pp_str pps_nil))))))))))))))))))
  (ppss_cons (pps_set (i := 2) sc__law_bent.nd (pp_add (pb_var 2) (pb_of (pp_new (pn_lst (pps_cons pp_str (pps_cons pp_str (pps_cons pp_str pps_nil))))))))
  (ppss_cons (pps_set (i := 3) sc__law_bent.nd (pp_call G__law_draw (hr.mono (by decide)) (by rfl) T.G__law_draw T.F__law_draw.kp T.B__law_draw (passW tk) (pps_cons (pp_var 0) (pps_cons (pp_add (pb_of (pp_len (by rfl) T.Z_len (pbs_cons (pb_var 1) pbs_nil))) (pb_of pp_int)) pps_nil))))
  (ppss_cons (pps_set (i := 4) sc__law_bent.nd (pp_call G__law_draw (hr.mono (by decide)) (by rfl) T.G__law_draw T.F__law_draw.kp T.B__law_draw (passW tk) (pps_cons (pp_var 0) (pps_cons pp_int pps_nil))))
  (ppss_cons (pps_if (ppt_eq (u65 hr) (pb_var 4) (pb_of pp_int)) (ppss_one (pps_ret (pp_slice (pb_var 1) ppo_none (ppo_some (pb_var 3))))) ppss_nil)
  (ppss_cons (pps_if (ppt_eq (u65 hr) (pb_var 4) (pb_of pp_int)) (ppss_one (pps_ret (pp_add (pb_of (pp_slice (pb_var 1) ppo_none (ppo_some (pb_var 3)))) (pb_of (pp_slice (pb_var 1) (ppo_some (pb_of (pp_add (pb_var 3) (pb_of pp_int)))) ppo_none))))) ppss_nil)
  (ppss_one (pps_ret (pp_add (pb_of (pp_add (pb_of (pp_slice (pb_var 1) ppo_none (ppo_some (pb_var 3)))) (pb_of (pp_call G__law_pick (hr.mono (by decide)) (by rfl) T.G__law_pick T.F__law_pick.kp T.B__law_pick (passW tk) (pps_cons (pp_var 0) (pps_cons (pp_var 2) pps_nil)))))) (pb_of (pp_slice (pb_var 1) (ppo_some (pb_of (pp_add (pb_var 3) (pb_of (pp_mod (pb_var 4) (pb_of pp_int)))))) ppo_none)))))))))))
def Pure : Prop := ∀ cells : List Int, cells ≠ [] → cells.length ≤ 63 → ∃ m', m_law ⟨env1 5, (cells, 0)⟩ = .ok (.ret (.dat (.bool true))) m'
theorem ok_law (T : Txt K mg A) (GS : FnOk P w K mg base (L2.CX P w) 1 A.a__law_source A.fd__law_source ["script"] (spSource K)) (G_book_text : FnOk P w K mg base (L2.CX P w) 5 A.a_book_text A.fd_book_text ["book"] (spP K mg 1 F_book_text)) (G__law_book : FnOk P w K mg base (L2.CX P w) 5 A.a__law_book A.fd__law_book ["source", "alphabet", "most"] (spP K mg 3 F__law_book)) (G__law_pick : FnOk P w K mg base (L2.CX P w) 2 A.a__law_pick A.fd__law_pick ["source", "values"] (spP K mg 2 F__law_pick)) (G__law_draw : FnOk P w K mg base (L2.CX P w) 1 A.a__law_draw A.fd__law_draw ["source", "limit"] (spP K mg 2 F__law_draw)) (G__law_bent : FnOk P w K mg base (L2.CX P w) 3 A.a__law_bent A.fd__law_bent ["source", "text"] (spP K mg 2 F__law_bent)) (G__law_fits : FnOk P w K mg base (L2.CX P w) 8 A.a__law_fits A.fd__law_fits ["text"] (spP K mg 1 F__law_fits)) (G__law_read : FnOk P w K mg base (L2.CX P w) 7 A.a__law_read A.fd__law_read ["text"] (spP K mg 1 F__law_read)) (pure : Pure) : FnOk P w K mg base (L2.CX P w) 9 A.a_law A.fd_law ["script"] (spLaw K) := by
  refine T.F_law.okX sc_law (fun vs H Q E h => ?_) (fun cdv A' outer s H vs Q E hr h => ?_)
  · obtain ⟨_, _, rfl, _⟩ := h
    rfl
  · obtain ⟨a0, ns, rfl, hS, hn, q⟩ := h
    have tk := takes_of (X := cxOf (L2.CX P w) P w K mg base ["script", "source", "turn", "text", "k", "value", "some"] "law" (defScope sF_law) A.a_law cdv A' outer s H E) (E := E) rfl rfl rfl rfl
    refine ⟨tSeq (tAsg (tCallS (spSource K) (WE (fun c d _ H => E c d H)) (tCons (tVar 0) tNil)) (gName 1)) (tS K mg (fun c d _ H => E c d H) m_law), pss_cons (ps_set (i := 1) sc_law.nd rfl (.inl rfl) (pe_callS GS (hr.mono (by decide)) (by rfl) T.G__law_source T.F__law_source.kp T.B__law_source (passW tk) (pa_cons (pv 0) pa_nil))) (ppss_cons (pps_for (passes_of rfl) rfl (pit_range1 (by rfl) T.Z_range (pbs_cons (pb_of pp_int) pbs_nil)) (ptg_nm sc_law.nd (i := 2) rfl (by first | exact .inl rfl | exact .inr rfl)) (ppss_cons (pps_set (i := 3) sc_law.nd (pp_call G_book_text (hr.mono (by decide)) (by rfl) T.G_book_text T.F_book_text.kp T.B_book_text (passW tk) (pps_cons (pp_call G__law_book (hr.mono (by decide)) (by rfl) T.G__law_book T.F__law_book.kp T.B__law_book (passW tk) (pps_cons (pp_var 1) (pps_cons (pp_call G__law_pick (hr.mono (by decide)) (by rfl) T.G__law_pick T.F__law_pick.kp T.B__law_pick (passW tk) (pps_cons (pp_var 1) (pps_cons (pp_new (pn_lst (pps_cons pp_str (pps_cons pp_str (pps_cons pp_str pps_nil))))) pps_nil))) (pps_cons pp_int pps_nil)))) pps_nil)))
  (ppss_cons (pps_for (passes_of rfl) rfl (pit_range1 (by rfl) T.Z_range (pbs_cons (pb_of (pp_add (pb_of pp_int) (pb_of (pp_call G__law_draw (hr.mono (by decide)) (by rfl) T.G__law_draw T.F__law_draw.kp T.B__law_draw (passW tk) (pps_cons (pp_var 1) (pps_cons pp_int pps_nil)))))) pbs_nil)) (ptg_nm sc_law.nd (i := 4) rfl (by first | exact .inl rfl | exact .inr rfl)) (ppss_one (pps_set (i := 3) sc_law.nd (pp_call G__law_bent (hr.mono (by decide)) (by rfl) T.G__law_bent T.F__law_bent.kp T.B__law_bent (passW tk) (pps_cons (pp_var 1) (pps_cons (pp_var 3) pps_nil))))))
  (ppss_one (pps_if (ppt_not (ppt_val (pp_call G__law_fits (hr.mono (by decide)) (by rfl) T.G__law_fits T.F__law_fits.kp T.B__law_fits (passW tk) (pps_cons (pp_var 3) pps_nil)))) (ppss_one (pps_ret pp_bl)) ppss_nil)))))
  (ppss_cons (pps_for (passes_of rfl) rfl (pit_seq (pp_new (pn_lst (pps_cons pp_non (pps_cons pp_int (pps_cons pp_int (pps_cons pp_bl (pps_cons (pp_tup pps_nil) (pps_cons (pp_new (pn_lst pps_nil)) (pps_cons pp_dict0 (pps_cons (pp_new (pn_lst (pps_cons pp_str pps_nil))) (pps_cons (pp_tup (pps_cons pp_str (pps_cons pp_str (pps_cons pp_str (pps_cons pp_str pps_nil))))) pps_nil)))))))))))) (ptg_nm sc_law.nd (i := 5) rfl (by first | exact .inl rfl | exact .inr rfl)) (ppss_one (pps_if (ppt_ne (u65 hr) (pb_of (pp_call G__law_read (hr.mono (by decide)) (by rfl) T.G__law_read T.F__law_read.kp T.B__law_read (passW tk) (pps_cons (pp_var 5) pps_nil))) (pb_of (pp_new (pn_lst (pps_cons pp_str (pps_cons pp_int pps_nil)))))) (ppss_one (pps_ret pp_bl)) ppss_nil)))
  (ppss_cons (pps_setN (i := 6) sc_law.nd (pn_lst (pps_cons pp_str (pps_cons pp_str (pps_cons pp_str (pps_cons pp_str (pps_cons pp_str (pps_cons pp_str (pps_cons pp_str (pps_cons pp_str (pps_cons pp_str (pps_cons pp_str (pps_cons pp_str (pps_cons pp_str (pps_cons pp_str pps_nil)))))))))))))))
  (ppss_cons (pps_set (i := 6) sc_law.nd (pp_add (pb_var 6) (pb_of (pp_new (pn_lst (pps_cons pp_str (pps_cons pp_str (pps_cons pp_str (pps_cons pp_str (pps_cons pp_str (pps_cons pp_str (pps_cons pp_str pps_nil))))))))))))
  (ppss_cons (pps_set (i := 6) sc_law.nd (pp_add (pb_var 6) (pb_of (pp_new (pn_lst (pps_cons pp_str (pps_cons pp_str (pps_cons pp_str (pps_cons pp_str (pps_cons pp_str (pps_cons pp_str (pps_cons pp_str (pps_cons pp_str pps_nil)))))))))))))
  (ppss_cons (pps_set (i := 6) sc_law.nd (pp_add (pb_var 6) (pb_of (pp_new (pn_lst (pps_cons pp_str (pps_cons pp_str (pps_cons pp_str (pps_cons pp_str (pps_cons pp_str pps_nil))))))))))
  (ppss_cons (pps_for (passes_of rfl) rfl (pit_seq (pp_slice (pb_var 6) ppo_none ppo_none)) (ptg_nm sc_law.nd (i := 3) rfl (by first | exact .inl rfl | exact .inr rfl)) (ppss_one (pps_set (i := 6) sc_law.nd (pp_add (pb_var 6) (pb_of (pp_new (pn_lst (pps_cons (pp_add (pb_var 3) (pb_of pp_str)) (pps_cons (pp_add (pb_var 3) (pb_of pp_str)) (pps_cons (pp_slice (pb_var 3) ppo_none (ppo_some (pb_of (pp_neg (pb_of pp_int))))) (pps_cons (pp_add (pb_var 3) (pb_of pp_str)) (pps_cons (pp_add (pb_of (pp_mul (pb_of (pp_add (pb_var 3) (pb_of pp_str))) (pb_of pp_int))) (pb_var 3)) pps_nil))))))))))))
  (ppss_one (pps_ret (pp_eq (u65 hr) (pb_of (pp_new (pn_lc (own := [("text", 3)]) rfl sc_law.nd (pit_seq (pp_var 6)) (blkOk_by (N := ["script", "source", "turn", "text", "k", "value", "some"]) (sc := defScope sF_law) (by decide +kernel)) rfl (by decide) (fun _ _ _ _ _ => (ptg_nm sc_law.nd (i := 3) rfl (by first | exact .inl rfl | exact .inr rfl))) (fun _ _ _ _ _ => (pts_if (ppt_not (ppt_val (pp_call G__law_fits (hr.mono (by decide)) (by rfl) T.G__law_fits T.F__law_fits.kp T.B__law_fits pass00 (pps_cons (pp_var 3) pps_nil)))))) (fun _ _ _ _ _ => (pp_var 3))))) (pb_of (pp_new (pn_lst pps_nil))))))))))))), ?_⟩
    refine ⟨.ref a0, rfl, a0, ns, rfl, hS, hn, fun H' a c cells sm na nc nac ha hc hne hl => ?_⟩
    obtain ⟨m', hm⟩ := pure cells hne hl
    exact law_rest (n := 5) rfl rfl nac ha hc hm q
theorem all_ok (T : Txt K mg A) (pure : Pure) : FnOk P w K mg base (L2.CX P w) 9 A.a_law A.fd_law ["script"] (spLaw K) := by
  have GI_InvalidText := okI_InvalidText (P := P) (w := w) (base := base) T
  have GS := ok__law_source (P := P) (w := w) (base := base) T
  have G_is_word := ok_is_word (P := P) (w := w) (base := base) T 
  have G_is_fix := ok_is_fix (P := P) (w := w) (base := base) T G_is_word
  have G_is_book := ok_is_book (P := P) (w := w) (base := base) T G_is_fix
  have G_check_book := ok_check_book (P := P) (w := w) (base := base) T G_is_book
  have G_book_text := ok_book_text (P := P) (w := w) (base := base) T G_check_book
  have G_skip_blanks := ok_skip_blanks (P := P) (w := w) (base := base) T 
  have G_read_word := ok_read_word (P := P) (w := w) (base := base) T G_skip_blanks
  have G_skip_sign := ok_skip_sign (P := P) (w := w) (base := base) T GI_InvalidText
  have G_read_fix := ok_read_fix (P := P) (w := w) (base := base) T G_read_word G_skip_sign
  have G_read_fixes := ok_read_fixes (P := P) (w := w) (base := base) T G_skip_blanks G_read_fix G_skip_sign
  have G_read_book := ok_read_book (P := P) (w := w) (base := base) T G_read_fixes G_check_book GI_InvalidText
  have G__law_draw := ok__law_draw (P := P) (w := w) (base := base) T
  have G__law_pick := ok__law_pick (P := P) (w := w) (base := base) T G__law_draw
  have G__law_word := ok__law_word (P := P) (w := w) (base := base) T G__law_draw G__law_pick
  have G__law_fix := ok__law_fix (P := P) (w := w) (base := base) T G__law_pick G__law_word
  have G__law_book := ok__law_book (P := P) (w := w) (base := base) T G__law_draw G__law_fix
  have G__law_end := ok__law_end (P := P) (w := w) (base := base) T 
  have G__law_due := ok__law_due (P := P) (w := w) (base := base) T G__law_end
  have G__law_is_book := ok__law_is_book (P := P) (w := w) (base := base) T 
  have G__law_read := ok__law_read (P := P) (w := w) (base := base) T G_read_book
  have G__law_fits := ok__law_fits (P := P) (w := w) (base := base) T G__law_due G__law_is_book G__law_read
  have G__law_bent := ok__law_bent (P := P) (w := w) (base := base) T G__law_draw G__law_pick
  exact ok_law T GS G_book_text G__law_book G__law_pick G__law_draw G__law_bent G__law_fits G__law_read pure
end
end PL.RF
namespace PL.RF
open PySem PySem.Spec PyProof.Rows L2
/-! ### texts as lists of code points -/
def tx (l : List Nat) : Str := ⟨l.toArray⟩
abbrev dt (l : List Nat) : PyData := .str (tx l)
abbrev sd (l : List Nat) : Sl := .dat (.str (tx l))
abbrev nd (n : Nat) : PyData := .int (n : Int)
abbrev sn (n : Nat) : Sl := .dat (.int (n : Int))
theorem tx_len (l : List Nat) : (tx l).length = l.length := rfl
theorem tx_cps (l : List Nat) : (tx l).cps.toList = l := rfl
theorem tx_one (c : Nat) : (⟨#[c]⟩ : Str) = tx [c] := rfl
theorem tx_inj {a b : List Nat} : tx a = tx b ↔ a = b := by
  constructor
  · intro h
    have := congrArg (fun s : Str => s.cps.toList) h
    exact this
  · rintro rfl; rfl
theorem tx_app (a b : List Nat) : tx a ++ tx b = tx (a ++ b) := by
  show (⟨a.toArray ++ b.toArray⟩ : Str) = ⟨(a ++ b).toArray⟩
  simp
theorem tx_empty : Str.empty = tx [] := rfl
theorem tx_cut (l : List Nat) (i j : Nat) (hi : i ≤ l.length) (hj : j ≤ l.length) : cutS (tx l) (some (i : Int)) (some (j : Int)) = tx ((l.drop i).take (j - i)) := by
  unfold cutS
  rw [HT.sIx_nat, HT.sIx_nat, tx_cps, tx_len, Nat.min_eq_left hi, Nat.min_eq_left hj]
  rfl
theorem tx_fold (ls : List (List Nat)) : ∀ acc : List Nat, ((ls.map tx).foldl (fun (ac : Array Nat) (p : Str) => ac ++ (tx []).cps ++ p.cps) acc.toArray) = (acc ++ ls.flatten).toArray := by
  induction ls with
  | nil => intro acc; simp
  | cons x r ih =>
    intro acc
    have e : acc.toArray ++ (tx []).cps ++ (tx x).cps = (acc ++ x).toArray := by simp [tx]
    rw [List.map_cons, List.foldl_cons, e, ih]
    simp
theorem tx_join0 (ls : List (List Nat)) : Txt.join (tx []) (ls.map tx) = tx ls.flatten := by
  show Builtin.Str.glued _ _ = _
  rw [StrLaws.glued_eq_join]
  induction ls with
  | nil => rfl
  | cons x r ih =>
    cases r with
    | nil => simp [Str.join]
    | cons y r =>
      show tx x ++ tx [] ++ Str.join (tx []) (List.map tx (y :: r)) = _
      rw [ih, tx_app, tx_app]
      simp
def joinL (sep : List Nat) : List (List Nat) → List Nat
  | [] => []
  | [x] => x
  | x :: r => x ++ sep ++ joinL sep r
theorem tx_join (sep : List Nat) (ls : List (List Nat)) : Txt.join (tx sep) (ls.map tx) = tx (joinL sep ls) := by
  show Builtin.Str.glued _ _ = _
  rw [StrLaws.glued_eq_join]
  induction ls with
  | nil => rfl
  | cons x r ih =>
    cases r with
    | nil => rfl
    | cons y r =>
      show tx x ++ tx sep ++ Str.join (tx sep) (List.map tx (y :: r)) = _
      rw [ih, tx_app, tx_app]
      rfl
def bl (n : Nat) : List Nat := List.replicate n 32
theorem bl_len (n : Nat) : (bl n).length = n := List.length_replicate
theorem tx_mul (n : Nat) : Txt.mul (tx [32]) (n : Int) = tx (bl n) := by
  have g : ∀ (k : Nat) (acc : List Nat), (List.replicate k (tx [32]).cps).foldl (· ++ ·) acc.toArray = (acc ++ bl k).toArray := by
    intro k
    induction k with
    | zero => intro acc; simp [bl]
    | succ k ih =>
      intro acc
      have e : acc.toArray ++ (tx [32]).cps = (acc ++ [32]).toArray := by simp [tx]
      rw [List.replicate_succ, List.foldl_cons, e, ih]
      simp [bl, List.replicate_succ]
  unfold Txt.mul
  split
  · rename_i h
    have : n = 0 := by omega
    subst this; rfl
  · split
    · rename_i h h2
      have : n = 1 := by
        simp only [Bool.or_eq_true, beq_iff_eq] at h2
        rcases h2 with h2 | h2
        · omega
        · cases h2
      subst this; rfl
    · have := g n []
      simp only [Int.toNat_natCast]
      show (⟨_⟩ : Str) = _
      rw [this]; rfl
def isL (c : Nat) : Bool := decide (97 ≤ c ∧ c ≤ 122)
theorem alpha_list : c_ALPHABET.cps.toList = (List.range 26).map (· + 97) := by decide +kernel
theorem alpha_mem (c : Nat) : (c ∈ c_ALPHABET.cps.toList) ↔ (97 ≤ c ∧ c ≤ 122) := by
  rw [alpha_list, List.mem_map]
  constructor
  · rintro ⟨a, h, rfl⟩
    have := List.mem_range.1 h
    omega
  · intro h
    exact ⟨c - 97, List.mem_range.2 (by omega), by omega⟩
theorem lit_blank : (Str.ofString " ") = tx [32] := by decide +kernel
theorem lit_comma : (Str.ofString ",") = tx [44] := by decide +kernel
theorem lit_cb : (Str.ofString ", ") = tx [44, 32] := by decide +kernel
theorem lit_slash : (Str.ofString "/") = tx [47] := by decide +kernel
theorem lit_gt : (Str.ofString ">") = tx [62] := by decide +kernel
theorem lit_nil : (Str.ofString "") = tx [] := by decide +kernel
theorem lit_signs : c_SIGNS = tx [47, 62, 47] := by decide +kernel
/-! ### operations at numbers and texts -/
theorem sl_eq : sizeLine = 16777216 := sizeLine_eq
theorem atI_nat' {α : Type} {l : List α} {n : Nat} {x : α} (h : l[n]? = some x) : atI l (n : Int) = some x := atI_nat h
theorem pIx_tx {l : List Nat} {n c : Nat} (h : l[n]? = some c) (hl : l.length ≤ 100000) : pIx (dt l) (nd n) = some (dt [c]) := by
  show (if (tx l).length ≤ sizeLine then (atI (tx l).cps.toList (n : Int)).map fun c => PyData.str ⟨#[c]⟩ else none) = _
  rw [if_pos (by rw [tx_len, sl_eq]; omega), tx_cps, atI_nat' h]
  rfl
theorem fLen_tx {l : List Nat} (hl : l.length ≤ 100000) : fLen [dt l] = some (nd l.length) := by
  show (if (tx l).length ≤ sizeLine then some (PyData.int (tx l).length) else none) = _
  rw [if_pos (by rw [tx_len, sl_eq]; omega), tx_len]
theorem pEq_tx (a b : List Nat) : pEq (dt a) (dt b) = some (.bool (decide (a = b))) := by
  show some (PyData.bool (decide (tx a = tx b))) = _
  rw [decide_eq_decide.2 tx_inj]
theorem pEq_nd (a b : Nat) : pEq (nd a) (nd b) = some (.bool (decide (a = b))) := by
  show some (PyData.bool (decide ((a : Int) = (b : Int)))) = _
  rw [decide_eq_decide.2 Int.natCast_inj]
theorem pLt_nd (a b : Nat) : pLt (nd a) (nd b) = some (.bool (decide (a < b))) := by
  show some (PyData.bool (decide ((a : Int) < (b : Int)))) = _
  rw [decide_eq_decide.2 Int.ofNat_lt]
theorem pIn_tx (c : Nat) : pIn (dt [c]) (.str c_ALPHABET) = some (.bool (isL c)) := by
  show (if (tx [c]).cps.size = 1 then some (PyData.bool (decide ((tx [c]).cps.getD 0 0 ∈ c_ALPHABET.cps.toList))) else none) = _
  rw [if_pos (show (tx [c]).cps.size = 1 from rfl)]
  unfold isL
  rw [decide_eq_decide.2 (alpha_mem _)]
  rfl
end PL.RF
namespace PL.RF
open PySem PySem.Spec PyProof.Rows L2
/-! ### the readers of texts -/
theorem get_mid {a s : List Nat} {c : Nat} : (a ++ c :: s)[a.length]? = some c := by simp
theorem e0 {α : Type} (a : α) (l : List α) : (a :: l)[0]? = some a := rfl
theorem e1 {α : Type} (a b : α) (l : List α) : (a :: b :: l)[1]? = some b := rfl
theorem e2 {α : Type} (a b c : α) (l : List α) : (a :: b :: c :: l)[2]? = some c := rfl
theorem e3 {α : Type} (a b c d : α) (l : List α) : (a :: b :: c :: d :: l)[3]? = some d := rfl
theorem e4 {α : Type} (a b c d e : α) (l : List α) : (a :: b :: c :: d :: e :: l)[4]? = some e := rfl
def stops (p : Nat → Bool) (s : List Nat) : Prop := ∀ c r, s = c :: r → p c = false
theorem r_seq {a b : M Flow} {m m1 : Me} (h : a m = .ok .next m1) : mSeq a b m = b m1 := by unfold mSeq; rw [h]; rfl
theorem r_seq_ret {a b : M Flow} {m m1 : Me} {s : Sl} (h : a m = .ok (.ret s) m1) : mSeq a b m = .ok (.ret s) m1 := by unfold mSeq; rw [h]; rfl
theorem r_seq_exc {a b : M Flow} {m m1 : Me} {x : Xn} (h : a m = .exc x m1) : mSeq a b m = .exc x m1 := by unfold mSeq; rw [h]; rfl
theorem r_if_t {c : M Bool} {a b : M Flow} {m m1 : Me} (h : c m = .ok true m1) : mIfS c a b m = a m1 := by unfold mIfS; rw [h]; rfl
theorem r_if_f {c : M Bool} {a b : M Flow} {m m1 : Me} (h : c m = .ok false m1) : mIfS c a b m = b m1 := by unfold mIfS; rw [h]; rfl
theorem r_wh_t {c : M Bool} {b : M Flow} {n : Nat} {m m1 m2 : Me} (h : c m = .ok true m1) (hb : b m1 = .ok .next m2) : whileN c b (n + 1) m = whileN c b n m2 := by
  show (c m).bind _ = _
  rw [h]
  show (if true = true then (b m1).bind _ else Res.ok Flow.next m1) = _
  rw [if_pos rfl, hb]
  rfl
theorem r_wh_f {c : M Bool} {b : M Flow} {n : Nat} {m m1 : Me} (h : c m = .ok false m1) : whileN c b (n + 1) m = .ok .next m1 := by
  show (c m).bind _ = _
  rw [h]
  rfl
theorem r_set {i : Nat} {e : M Sl} {m : Me} {d : PyData} {env : List (Option Sl)} {st : SrcSt} (h : e m = .ok (.dat d) ⟨env, st⟩) (hi : i < env.length) : mSet i e m = .ok .next ⟨env.set i (some (.dat d)), st⟩ := by
  unfold mSet; rw [h]
  show (match (if i < env.length then some (⟨env.set i (some (.dat d)), st⟩ : Me) else none) with | some m2 => Res.ok Flow.next m2 | none => Res.bad) = _
  rw [if_pos hi]
theorem r_ret {e : M Sl} {m m1 : Me} {s : Sl} (h : e m = .ok s m1) : mRet e m = .ok (.ret s) m1 := by unfold mRet; rw [h]; rfl
theorem r_call {F : List Sl → SrcSt → CRes} {a : M (List Sl)} {m m1 : Me} {xs : List Sl} {s : Sl} {st' : SrcSt} (h : a m = .ok xs m1) (hf : F xs m1.st = .ok s st') : mCall F a m = .ok s { m1 with st := st' } := by
  unfold mCall; rw [h]
  show (match F xs m1.st with | .ok s st' => Res.ok s { m1 with st := st' } | .exc x st' => .exc x { m1 with st := st' } | .bad => .bad) = _
  rw [hf]
theorem r_def {n : Nat} {b : M Flow} {args : List Sl} {st : SrcSt} {env : List (Option Sl)} {s : Sl} {m : Me} (he : args.map some ++ List.replicate (n - args.length) none = env) (h : b ⟨env, st⟩ = .ok (.ret s) m) : callOf n b args st = .ok s m.st := by
  unfold callOf; rw [he, h]
theorem r_def_nx {n : Nat} {b : M Flow} {args : List Sl} {st : SrcSt} {env : List (Option Sl)} {m : Me} (he : args.map some ++ List.replicate (n - args.length) none = env) (h : b ⟨env, st⟩ = .ok .next m) : callOf n b args st = .ok (.dat .none) m.st := by
  unfold callOf; rw [he, h]
/-! skip_blanks -/
abbrev cBl : M Bool := mAnd (mTest (mOp pLt (mBor 1) (mDat (mCal fLen (mBs [(mBor 0)]))))) (mTest (mOp pEq (mDat (mOp pIx (mBor 0) (mBor 1))) (mDat (mC (.dat (.str " "))))))
abbrev bBl : M Flow := mAug (fun i j => i + j) 1 (mDat (mC (.dat (.int 1))))
theorem bl_end {a s : List Nat} {st : SrcSt} (hl : (a ++ s).length ≤ 100000) (hs : stops (· == 32) s) : cBl ⟨[some (sd (a ++ s)), some (sn a.length)], st⟩ = .ok false ⟨[some (sd (a ++ s)), some (sn a.length)], st⟩ := by
  cases s with
  | nil =>
    simp only [mAnd, mTest, mOp, mBor, mDat, mCal, mBs, e0, e1, Res.bind_ok, fLen_tx hl, pLt_nd]
    simp
  | cons c r =>
    have hc : c ≠ 32 := by have := hs c r rfl; simpa using this
    simp only [mAnd, mTest, mOp, mBor, mDat, mCal, mBs, mC, e0, e1, Res.bind_ok, fLen_tx hl, pLt_nd, pIx_tx get_mid hl, lit_blank, pEq_tx]
    simp [hc]
theorem bl_more {a s : List Nat} {st : SrcSt} (hl : (a ++ 32 :: s).length ≤ 100000) : cBl ⟨[some (sd (a ++ 32 :: s)), some (sn a.length)], st⟩ = .ok true ⟨[some (sd (a ++ 32 :: s)), some (sn a.length)], st⟩ := by
  simp only [mAnd, mTest, mOp, mBor, mDat, mCal, mBs, mC, e0, e1, Res.bind_ok, fLen_tx hl, pLt_nd, pIx_tx get_mid hl, lit_blank, pEq_tx]
  simp
theorem bl_run {s : List Nat} {st : SrcSt} (hs : stops (· == 32) s) : ∀ (k n : Nat) (a : List Nat), k < n → (a ++ (bl k ++ s)).length ≤ 100000 →
    whileN cBl bBl n ⟨[some (sd (a ++ (bl k ++ s))), some (sn a.length)], st⟩ = .ok .next ⟨[some (sd (a ++ (bl k ++ s))), some (sn (a.length + k))], st⟩
  | 0, n + 1, a, _, hl => r_wh_f (bl_end hl hs)
  | k + 1, n + 1, a, hn, hl => by
    have e : a ++ (bl (k + 1) ++ s) = a ++ 32 :: (bl k ++ s) := by simp [bl, List.replicate_succ]
    have e' : a ++ 32 :: (bl k ++ s) = (a ++ [32]) ++ (bl k ++ s) := by simp
    rw [e] at hl ⊢
    have := bl_run hs k n (a ++ [32]) (by omega) (by rw [← e']; exact hl) (st := st)
    rw [← e'] at this
    have ea : (a ++ [32]).length = a.length + 1 := by simp
    rw [ea] at this
    rw [show a.length + (k + 1) = a.length + 1 + k by omega]
    exact (r_wh_t (c := cBl) (b := bBl) (bl_more hl) rfl).trans this
theorem skip_blanks_at {l a s : List Nat} {k : Nat} {st : SrcSt} (e : l = a ++ (bl k ++ s)) (hs : stops (· == 32) s) (hl : l.length ≤ 100000) : F_skip_blanks [sd l, sn a.length] st = .ok (sn (a.length + k)) st := by
  subst e
  have hk : k < 1000000 := by
    have := hl
    simp only [List.length_append, bl_len] at this
    omega
  refine r_def (n := 2) (b := m_skip_blanks) (m := ⟨[some (sd (a ++ (bl k ++ s))), some (sn (a.length + k))], st⟩) (env := [some (sd (a ++ (bl k ++ s))), some (sn a.length)]) rfl ?_
  refine (r_seq (bl_run hs k 1000000 a hk hl)).trans ?_
  exact r_ret rfl
/-! read_word -/
abbrev cWd : M Bool := mAnd (mTest (mOp pLt (mBor 3) (mDat (mCal fLen (mBs [(mBor 0)]))))) (mTest (mOp pIn (mDat (mOp pIx (mBor 0) (mBor 3))) (mDat (mC (.dat (.str c_ALPHABET))))))
abbrev bWd : M Flow := mAug (fun i j => i + j) 3 (mDat (mC (.dat (.int 1))))
theorem wd_end {a s : List Nat} {x y : Option Sl} {st : SrcSt} (hl : (a ++ s).length ≤ 100000) (hs : stops isL s) : cWd ⟨[some (sd (a ++ s)), x, y, some (sn a.length)], st⟩ = .ok false ⟨[some (sd (a ++ s)), x, y, some (sn a.length)], st⟩ := by
  cases s with
  | nil =>
    simp only [mAnd, mTest, mOp, mBor, mDat, mCal, mBs, e0, e3, Res.bind_ok, fLen_tx hl, pLt_nd]
    simp
  | cons c r =>
    have hc : isL c = false := hs c r rfl
    simp only [mAnd, mTest, mOp, mBor, mDat, mCal, mBs, mC, e0, e3, Res.bind_ok, fLen_tx hl, pLt_nd, pIx_tx get_mid hl, pIn_tx]
    simp [hc]
theorem wd_more {a s : List Nat} {c : Nat} {x y : Option Sl} {st : SrcSt} (hl : (a ++ c :: s).length ≤ 100000) (hc : isL c = true) : cWd ⟨[some (sd (a ++ c :: s)), x, y, some (sn a.length)], st⟩ = .ok true ⟨[some (sd (a ++ c :: s)), x, y, some (sn a.length)], st⟩ := by
  simp only [mAnd, mTest, mOp, mBor, mDat, mCal, mBs, mC, e0, e3, Res.bind_ok, fLen_tx hl, pLt_nd, pIx_tx get_mid hl, pIn_tx]
  simp [hc]
theorem wd_run {s : List Nat} {x y : Option Sl} {st : SrcSt} (hs : stops isL s) : ∀ (w : List Nat) (n : Nat) (a : List Nat), (∀ c ∈ w, isL c = true) → w.length < n → (a ++ (w ++ s)).length ≤ 100000 →
    whileN cWd bWd n ⟨[some (sd (a ++ (w ++ s))), x, y, some (sn a.length)], st⟩ = .ok .next ⟨[some (sd (a ++ (w ++ s))), x, y, some (sn (a.length + w.length))], st⟩
  | [], n + 1, a, _, _, hl => r_wh_f (wd_end hl hs)
  | c :: w, n + 1, a, hw, hn, hl => by
    have e' : a ++ (c :: w ++ s) = (a ++ [c]) ++ (w ++ s) := by simp
    have := wd_run hs w n (a ++ [c]) (fun d hd => hw d (List.mem_cons_of_mem _ hd)) (by simp at hn; omega) (by rw [← e']; exact hl) (st := st) (x := x) (y := y)
    rw [← e'] at this
    have ea : (a ++ [c]).length = a.length + 1 := by simp
    rw [ea] at this
    rw [show a.length + (c :: w).length = a.length + 1 + w.length by simp; omega]
    exact (r_wh_t (c := cWd) (b := bWd) (wd_more (s := w ++ s) hl (hw c List.mem_cons_self)) rfl).trans this
theorem bl_add (n k : Nat) : bl (n + k) = bl n ++ bl k := (List.replicate_append_replicate).symm
theorem stops_bl {k : Nat} {s : List Nat} (hs : stops isL s) : stops isL (bl k ++ s) := by
  cases k with
  | zero => exact hs
  | succ k =>
    intro c r e
    have : bl (k + 1) ++ s = 32 :: (bl k ++ s) := by simp [bl, List.replicate_succ]
    rw [this] at e
    cases e
    rfl
theorem read_word_at {l a w s : List Nat} {n k : Nat} {st : SrcSt} (e : l = a ++ (bl n ++ (w ++ (bl k ++ s)))) (hw : ∀ c ∈ w, isL c = true) (hs : stops (· == 32) s) (hs2 : stops isL s) (hl : l.length ≤ 100000) :
    F_read_word [sd l, sn a.length] st = .ok (.dat (.tuple [dt w, nd (a.length + n + w.length + k)])) st := by
  subst e
  have hlen : a.length + (n + (w.length + (k + s.length))) ≤ 100000 := by
    have := hl
    simp only [List.length_append, bl_len] at this
    exact this
  have key : ∀ (p j : List Nat) (b : Nat), (a ++ (bl n ++ (w ++ (bl k ++ s)))) = p ++ (w ++ (bl b ++ s)) → F_skip_blanks [sd (a ++ (bl n ++ (w ++ (bl k ++ s)))), sn a.length] st = .ok (sn p.length) st → p.length + w.length + b = a.length + n + w.length + k →
      F_read_word [sd (a ++ (bl n ++ (w ++ (bl k ++ s)))), sn a.length] st = .ok (.dat (.tuple [dt w, nd (a.length + n + w.length + k)])) st := by
    intro p j b ep hb hn
    have hlp : (p ++ (w ++ (bl b ++ s))).length ≤ 100000 := by rw [← ep]; exact hl
    have hcut : pCut (dt (p ++ (w ++ (bl b ++ s)))) (some ((p.length : Nat) : Int)) (some ((p.length + w.length : Nat) : Int)) = some (dt w) := by
      show (if (tx (p ++ (w ++ (bl b ++ s)))).length ≤ sizeLine then some (PyData.str (cutS (tx (p ++ (w ++ (bl b ++ s)))) (some ((p.length : Nat) : Int)) (some ((p.length + w.length : Nat) : Int)))) else none) = _
      rw [if_pos (by rw [tx_len, sl_eq]; omega), tx_cut _ _ _ (by simp) (by simp), List.drop_left, show p.length + w.length - p.length = w.length by omega, List.take_left]
    have hsk : F_skip_blanks [sd (p ++ (w ++ (bl b ++ s))), sn (p.length + w.length)] st = .ok (sn (a.length + n + w.length + k)) st := by
      have := skip_blanks_at (l := p ++ (w ++ (bl b ++ s))) (a := p ++ w) (s := s) (k := b) (st := st) (by simp) hs hlp
      rw [List.length_append, hn] at this
      exact this
    rw [ep] at hb ⊢
    refine r_def (n := 4) (b := m_read_word) (m := ⟨[some (sd (p ++ (w ++ (bl b ++ s)))), some (sn a.length), some (sn p.length), some (sn (p.length + w.length))], st⟩) (env := [some (sd (p ++ (w ++ (bl b ++ s)))), some (sn a.length), none, none]) rfl ?_
    refine (r_seq (m1 := ⟨[some (sd (p ++ (w ++ (bl b ++ s)))), some (sn a.length), some (sn p.length), none], st⟩) (r_set (env := [some (sd (p ++ (w ++ (bl b ++ s)))), some (sn a.length), none, none]) (r_call (xs := [sd (p ++ (w ++ (bl b ++ s))), sn a.length]) (m1 := ⟨_, st⟩) rfl hb) (by simp))).trans ?_
    refine (r_seq (m1 := ⟨[some (sd (p ++ (w ++ (bl b ++ s)))), some (sn a.length), some (sn p.length), some (sn p.length)], st⟩) rfl).trans ?_
    refine (r_seq (wd_run (stops_bl hs2) w 1000000 p hw (by omega) hlp)).trans ?_
    refine r_ret ?_
    simp only [mTup, mArgs, mCut, mCall, mBor, mVar, mPart, e0, e1, e2, e3, Res.bind_ok, hcut, hsk]
    rfl
  by_cases hw0 : w = []
  · subst hw0
    exact key (a ++ bl (n + k)) [] 0 (by simp [bl_add]; rfl) (by rw [List.length_append, bl_len]; exact skip_blanks_at (by simp [bl_add]) hs hl) (by simp [bl_len, Nat.add_assoc])
  · have hst : stops (· == 32) (w ++ (bl k ++ s)) := by
      intro c r e
      cases w with
      | nil => exact absurd rfl hw0
      | cons d w =>
        cases e
        have := hw c List.mem_cons_self
        unfold isL at this
        simp at this ⊢
        omega
    exact key (a ++ bl n) [] k (by simp) (by rw [List.length_append, bl_len]; exact skip_blanks_at rfl hst hl) (by simp [bl_len])
/-! skip_sign -/
theorem skip_sign_at {l a s : List Nat} {c : Nat} {st : SrcSt} (e : l = a ++ c :: s) (hl : l.length ≤ 100000) : F_skip_sign [sd l, sn a.length, sd [c]] st = .ok (sn (a.length + 1)) st := by
  subst e
  refine r_def (n := 3) (b := m_skip_sign) (m := ⟨[some (sd (a ++ c :: s)), some (sn a.length), some (sd [c])], st⟩) (env := [some (sd (a ++ c :: s)), some (sn a.length), some (sd [c])]) rfl ?_
  refine (r_seq (m1 := ⟨[some (sd (a ++ c :: s)), some (sn a.length), some (sd [c])], st⟩) ((r_if_f (m1 := ⟨[some (sd (a ++ c :: s)), some (sn a.length), some (sd [c])], st⟩) ?_).trans rfl)).trans (r_ret rfl)
  simp only [mOr, mTest, mOp, mBor, mDat, mCal, mBs, mC, e0, e1, e2, Res.bind_ok, fLen_tx hl, pEq_nd, pIx_tx get_mid hl, pNot, pEq_tx]
  simp
end PL.RF
namespace PL.RF
open PySem PySem.Spec PyProof.Rows L2
theorem r_asg {t : Tg} {e : M Sl} {m m1 m2 : Me} {d : PyData} (h : e m = .ok (.dat d) m1) (ht : mTgt t d m1 = some m2) : mAsg t e m = .ok .next m2 := by
  unfold mAsg mDat; rw [h]
  show (match mTgt t d m1 with | some m2 => Res.ok Flow.next m2 | none => Res.bad) = _
  rw [ht]
theorem r_app {i : Nat} {e : M Sl} {env : List (Option Sl)} {m : Me} {st : SrcSt} {d : PyData} {l l0 : List PyData} (h0 : m.env[i]? = some (some (.own l0))) (h : e m = .ok (.dat d) ⟨env, st⟩) (h1 : env[i]? = some (some (.own l))) (hl : l.length < sizeLine) : mApp i e m = .ok .next ⟨env.set i (some (.own (l ++ [d]))), st⟩ := by
  unfold mApp mDat; rw [h0]
  show ((e m).bind _).bind _ = _
  rw [h]
  show (match env[i]? with | some (some (.own l)) => if l.length < sizeLine then Res.ok Flow.next (⟨env.set i (some (.own (l ++ [d]))), st⟩ : Me) else .bad | _ => .bad) = _
  rw [h1]
  show (if l.length < sizeLine then Res.ok Flow.next (⟨env.set i (some (.own (l ++ [d]))), st⟩ : Me) else .bad) = _
  rw [if_pos hl]
theorem r_for {t : Tg} {b : M Flow} {d : PyData} {r : List PyData} {m m0 m1 : Me} (ht : mTgt t d m = some m0) (hb : b m0 = .ok .next m1) : forL t b (d :: r) m = forL t b r m1 := by
  show (match mTgt t d m with | none => Res.bad | some m0 => (b m0).bind _) = _
  rw [ht]
  show (b m0).bind _ = _
  rw [hb]
  rfl
theorem r_setN {i : Nat} {e : M (List PyData)} {m : Me} {d : List PyData} {env : List (Option Sl)} {st : SrcSt} (h : e m = .ok d ⟨env, st⟩) (hi : i < env.length) : mSetN i e m = .ok .next ⟨env.set i (some (.own d)), st⟩ := by
  unfold mSetN; rw [h]
  show (if i < env.length then Res.ok Flow.next (⟨env.set i (some (.own d)), st⟩ : Me) else .bad) = _
  rw [if_pos hi]
/-! places in a text -/
def At (l : List Nat) (i : Nat) (s : List Nat) : Prop := ∃ a, l = a ++ s ∧ i = a.length
theorem At.skip {l : List Nat} {i : Nat} {x s : List Nat} (h : At l i (x ++ s)) : At l (i + x.length) s := by
  obtain ⟨a, rfl, rfl⟩ := h
  exact ⟨a ++ x, by simp, by simp⟩
theorem At.cons {l : List Nat} {i c : Nat} {s : List Nat} (h : At l i (c :: s)) : At l (i + 1) s := h.skip (x := [c])
theorem At.word {l : List Nat} {i n k : Nat} {w s : List Nat} (h : At l i (bl n ++ (w ++ (bl k ++ s)))) : At l (i + n + w.length + k) s := by
  have := h.skip.skip.skip
  rw [bl_len, bl_len] at this
  exact this
theorem At.end {l : List Nat} {i : Nat} {s : List Nat} (h : At l i s) : i + s.length = l.length := by
  obtain ⟨a, rfl, rfl⟩ := h
  simp
theorem At.nil {l : List Nat} {i : Nat} (h : At l i []) : i = l.length := by have := h.end; simpa using this
def isW (w : List Nat) : Prop := ∀ c ∈ w, isL c = true
def sig (s : List Nat) : Prop := stops (· == 32) s ∧ stops isL s
theorem sig_cons {c : Nat} {s : List Nat} (h1 : c ≠ 32) (h2 : isL c = false) : sig (c :: s) := ⟨fun d r e => by cases e; simpa using h1, fun d r e => by cases e; exact h2⟩
theorem sig_nil : sig [] := by
  constructor
  · intro d r e; cases e
  · intro d r e; cases e
theorem word_at {l w s : List Nat} {i n k : Nat} {st : SrcSt} (h : At l i (bl n ++ (w ++ (bl k ++ s)))) (hw : isW w) (hs : sig s) (hl : l.length ≤ 100000) : F_read_word [sd l, sn i] st = .ok (.dat (.tuple [dt w, nd (i + n + w.length + k)])) st := by
  obtain ⟨a, e, rfl⟩ := h
  exact read_word_at e hw hs.1 hs.2 hl
theorem sign_at {l s : List Nat} {i c : Nat} {st : SrcSt} (h : At l i (c :: s)) (hl : l.length ≤ 100000) : F_skip_sign [sd l, sn i, sd [c]] st = .ok (sn (i + 1)) st := by
  obtain ⟨a, e, rfl⟩ := h
  exact skip_sign_at e hl
/-! read_fix -/
abbrev bFx : M Flow := (mSeq (mAsg (.tp [4, 1]) (mCall F_read_word (mArgs [(mVar 0), (mVar 1)])))
  (mSeq (mApp 2 (mVar 4))
  (mSet 1 (mCall F_skip_sign (mArgs [(mVar 0), (mVar 1), (mVar 3)])))))
theorem fx_step {l w s : List Nat} {i n k c : Nat} {ws : List PyData} {x y : Option Sl} {st : SrcSt} {r : List PyData} (h : At l i (bl n ++ (w ++ (bl k ++ c :: s)))) (hw : isW w) (h1 : c ≠ 32) (h2 : isL c = false) (hl : l.length ≤ 100000) (hn : ws.length ≤ 10) :
    forL (.nm 3) bFx (dt [c] :: r) ⟨[some (sd l), some (sn i), some (.own ws), x, y], st⟩ = forL (.nm 3) bFx r ⟨[some (sd l), some (sn (i + n + w.length + k + 1)), some (.own (ws ++ [dt w])), some (sd [c]), some (sd w)], st⟩ := by
  refine r_for (m0 := ⟨[some (sd l), some (sn i), some (.own ws), some (sd [c]), y], st⟩) rfl ?_
  refine (r_seq (m1 := ⟨[some (sd l), some (sn (i + n + w.length + k)), some (.own ws), some (sd [c]), some (sd w)], st⟩) (r_asg (m1 := ⟨[some (sd l), some (sn i), some (.own ws), some (sd [c]), y], st⟩) (d := .tuple [dt w, nd (i + n + w.length + k)]) (r_call (xs := [sd l, sn i]) (m1 := ⟨[some (sd l), some (sn i), some (.own ws), some (sd [c]), y], st⟩) rfl (word_at h hw (sig_cons h1 h2) hl)) rfl)).trans ?_
  refine (r_seq (r_app (env := [some (sd l), some (sn (i + n + w.length + k)), some (.own ws), some (sd [c]), some (sd w)]) (st := st) (i := 2) (d := dt w) (l := ws) (l0 := ws) rfl rfl rfl (by rw [sl_eq]; omega))).trans ?_
  exact r_set (env := [some (sd l), some (sn (i + n + w.length + k)), some (.own (ws ++ [dt w])), some (sd [c]), some (sd w)]) (st := st) (d := nd (i + n + w.length + k + 1)) (r_call (xs := [sd l, sn (i + n + w.length + k), sd [c]]) (m1 := ⟨[some (sd l), some (sn (i + n + w.length + k)), some (.own (ws ++ [dt w])), some (sd [c]), some (sd w)], st⟩) rfl (sign_at h.word hl)) (by simp)
structure Fx where
  a : List Nat
  o : List Nat
  n : List Nat
  b : List Nat
def Fx.dat (f : Fx) : PyData := .tuple [dt f.a, dt f.o, dt f.n, dt f.b]
structure Fx.Ok (f : Fx) : Prop where
  a : isW f.a
  o : isW f.o
  n : isW f.n
  b : isW f.b
  al : f.a.length ≤ 1
  ol : 1 ≤ f.o.length
  ou : f.o.length ≤ 3
  nl : f.n.length ≤ 3
  bl : f.b.length ≤ 1
theorem read_fix_at {l s : List Nat} {f : Fx} {i n k1 k2 k3 k4 k5 k6 k7 : Nat} {st : SrcSt}
    (h : At l i (bl n ++ (f.a ++ (bl k1 ++ (47 :: (bl k2 ++ (f.o ++ (bl k3 ++ (62 :: (bl k4 ++ (f.n ++ (bl k5 ++ (47 :: (bl k6 ++ (f.b ++ (bl k7 ++ s))))))))))))))))
    (hf : f.Ok) (hs : sig s) (hl : l.length ≤ 100000) : ∃ q, At l q s ∧ F_read_fix [sd l, sn i] st = .ok (.dat (.tuple [f.dat, nd q])) st := by
  have a1 := h.word.cons
  have a2 := a1.word.cons
  have a3 := a2.word.cons
  have a4 := a3.word
  refine ⟨_, a4, ?_⟩
  generalize hq : i + n + f.a.length + k1 + 1 + k2 + f.o.length + k3 + 1 + k4 + f.n.length + k5 + 1 = q at *
  generalize hq2 : q + k6 + f.b.length + k7 = q2 at *
  have e0' : At l (i + n + f.a.length + k1 + 1) (bl k2 ++ (f.o ++ (bl k3 ++ 62 :: (bl k4 ++ (f.n ++ (bl k5 ++ 47 :: (bl k6 ++ (f.b ++ (bl k7 ++ s))))))))) := a1
  have s1 := fx_step (st := st) (ws := []) (x := none) (y := none) (r := [dt [62], dt [47]]) h hf.a (by decide) (by decide) hl (by simp)
  have s2 := fx_step (st := st) (ws := [dt f.a]) (x := some (sd [47])) (y := some (sd f.a)) (r := [dt [47]]) a1 hf.o (by decide) (by decide) hl (by simp)
  have s3 := fx_step (st := st) (ws := [dt f.a, dt f.o]) (x := some (sd [62])) (y := some (sd f.o)) (r := []) a2 hf.n (by decide) (by decide) hl (by simp)
  rw [hq] at s3
  refine r_def (n := 5) (b := m_read_fix) (s := .dat (.tuple [f.dat, nd q2])) (m := ⟨[some (sd l), some (sn q2), some (.own [dt f.a, dt f.o, dt f.n, dt f.b]), some (sd [47]), some (sd f.b)], st⟩) (env := [some (sd l), some (sn i), none, none, none]) rfl ?_
  refine (r_seq (m1 := ⟨[some (sd l), some (sn i), some (.own []), none, none], st⟩) (r_setN (env := [some (sd l), some (sn i), none, none, none]) (st := st) rfl (by simp))).trans ?_
  refine (r_seq (m1 := ⟨[some (sd l), some (sn q), some (.own [dt f.a, dt f.o, dt f.n]), some (sd [47]), some (sd f.n)], st⟩) (Eq.trans ?_ (s1.trans (s2.trans s3)))).trans ?_
  · show (Res.bind (match itemsOf (.str c_SIGNS) with | some l => Res.ok l _ | none => Res.bad) _) = _
    rw [lit_signs]
    rfl
  refine (r_seq (m1 := ⟨[some (sd l), some (sn q2), some (.own [dt f.a, dt f.o, dt f.n]), some (sd [47]), some (sd f.b)], st⟩) (r_asg (d := .tuple [dt f.b, nd q2]) (m1 := ⟨[some (sd l), some (sn q), some (.own [dt f.a, dt f.o, dt f.n]), some (sd [47]), some (sd f.n)], st⟩) (r_call (xs := [sd l, sn q]) (m1 := ⟨[some (sd l), some (sn q), some (.own [dt f.a, dt f.o, dt f.n]), some (sd [47]), some (sd f.n)], st⟩) rfl (by rw [← hq2]; exact word_at a3 hf.b hs hl)) rfl)).trans ?_
  refine (r_seq (r_app (env := [some (sd l), some (sn q2), some (.own [dt f.a, dt f.o, dt f.n]), some (sd [47]), some (sd f.b)]) (st := st) (i := 2) (d := dt f.b) (l := [dt f.a, dt f.o, dt f.n]) (l0 := [dt f.a, dt f.o, dt f.n]) rfl rfl rfl (by rw [sl_eq]; simp))).trans ?_
  refine r_ret ?_
  have h2 : 2 ≤ sizeLine := by rw [sl_eq]; omega
  show (if ([f.dat, nd q2] : List PyData).length ≤ sizeLine then Res.ok (Sl.dat (.tuple [f.dat, nd q2])) _ else Res.bad) = _
  rw [if_pos (show ([f.dat, nd q2] : List PyData).length ≤ sizeLine from h2)]
  rfl
/-! read_fixes -/
def fxT (f : Fx) (ks : List Nat) (s : List Nat) : List Nat := f.a ++ (bl (ks.getD 0 0) ++ (47 :: (bl (ks.getD 1 0) ++ (f.o ++ (bl (ks.getD 2 0) ++ (62 :: (bl (ks.getD 3 0) ++ (f.n ++ (bl (ks.getD 4 0) ++ (47 :: (bl (ks.getD 5 0) ++ (f.b ++ (bl (ks.getD 6 0) ++ s)))))))))))))
/-- the rest of a book's text: (blanks behind the comma, the blanks in the fix, the fix) -/
def rsT : List (Nat × List Nat × Fx) → List Nat
  | [] => []
  | (n, ks, f) :: r => 44 :: (bl n ++ fxT f ks (rsT r))
theorem rsT_sig : ∀ r : List (Nat × List Nat × Fx), sig (rsT r)
  | [] => sig_nil
  | (n, ks, f) :: r => sig_cons (by decide) (by decide)
abbrev cFs : M Bool := mTest (mOp pLt (mBor 2) (mDat (mCal fLen (mBs [(mBor 0)]))))
abbrev bFs : M Flow := (mSeq (mAsg (.tp [1, 2]) (mCall F_read_fix (mArgs [(mVar 0), (mCall F_skip_sign (mArgs [(mVar 0), (mVar 2), (mC (.dat (.str ",")))]))]))) (mApp 3 (mVar 1)))
theorem fs_run {l : List Nat} {st : SrcSt} (hl : l.length ≤ 100000) : ∀ (r : List (Nat × List Nat × Fx)) (n i : Nat) (x : PyData) (acc : List PyData), (∀ p ∈ r, p.2.2.Ok) → r.length < n → acc.length + r.length ≤ 100 → At l i (rsT r) →
    ∃ y, whileN cFs bFs n ⟨[some (sd l), some (.dat x), some (sn i), some (.own acc)], st⟩ = .ok .next ⟨[some (sd l), some (.dat y), some (sn l.length), some (.own (acc ++ r.map (·.2.2.dat)))], st⟩
  | [], n + 1, i, x, acc, _, _, _, h => by
    have := h.nil
    subst this
    refine ⟨x, (r_wh_f (m1 := ⟨[some (sd l), some (.dat x), some (sn l.length), some (.own acc)], st⟩) ?_).trans ?_⟩
    · simp only [mTest, mOp, mBor, mDat, mCal, mBs, e0, e2, Res.bind_ok, fLen_tx hl, pLt_nd]
      simp
    · rw [List.map_nil, List.append_nil]
  | (n0, ks, f) :: r, n + 1, i, x, acc, hok, hn, ha, h => by
    have hc : cFs ⟨[some (sd l), some (.dat x), some (sn i), some (.own acc)], st⟩ = .ok true ⟨[some (sd l), some (.dat x), some (sn i), some (.own acc)], st⟩ := by
      have := h.end
      have h2 : i < l.length := by unfold rsT at this; simp only [List.length_cons] at this; omega
      simp only [mTest, mOp, mBor, mDat, mCal, mBs, e0, e2, Res.bind_ok, fLen_tx hl, pLt_nd]
      simp [h2]
    have h' : At l (i + 1) (bl n0 ++ fxT f ks (rsT r)) := At.cons h
    obtain ⟨q, hq, hr⟩ := read_fix_at (st := st) h' (hok _ List.mem_cons_self) (rsT_sig r) hl
    simp only [List.length_cons] at hn ha
    obtain ⟨y, ih⟩ := fs_run hl r n q f.dat (acc ++ [f.dat]) (fun p hp => hok p (List.mem_cons_of_mem _ hp)) (by omega) (by simp; omega) hq (st := st)
    refine ⟨y, (r_wh_t (b := bFs) hc (m2 := ⟨[some (sd l), some (.dat f.dat), some (sn q), some (.own (acc ++ [f.dat]))], st⟩) ?_).trans (ih.trans ?_)⟩
    · refine (r_seq (m1 := ⟨[some (sd l), some (.dat f.dat), some (sn q), some (.own acc)], st⟩) (r_asg (d := .tuple [f.dat, nd q]) (m1 := ⟨[some (sd l), some (.dat x), some (sn i), some (.own acc)], st⟩) (r_call (xs := [sd l, sn (i + 1)]) (m1 := ⟨[some (sd l), some (.dat x), some (sn i), some (.own acc)], st⟩) ?_ hr) rfl)).trans ?_
      · have hs : mCall F_skip_sign (mArgs [(mVar 0), (mVar 2), (mC (.dat (.str ",")))]) ⟨[some (sd l), some (.dat x), some (sn i), some (.own acc)], st⟩ = .ok (sn (i + 1)) ⟨[some (sd l), some (.dat x), some (sn i), some (.own acc)], st⟩ := by
          refine r_call (xs := [sd l, sn i, sd [44]]) (m1 := ⟨[some (sd l), some (.dat x), some (sn i), some (.own acc)], st⟩) ?_ (sign_at h hl)
          show _ = Res.ok [sd l, sn i, Sl.dat (.str (tx [44]))] _
          rw [← lit_comma]; rfl
        show (Res.bind (Res.bind (mCall F_skip_sign _ _) _) _) = _
        rw [hs]
        rfl
      · exact r_app (env := [some (sd l), some (.dat f.dat), some (sn q), some (.own acc)]) (st := st) (d := f.dat) (l := acc) (l0 := acc) rfl rfl rfl (by rw [sl_eq]; omega)
    · simp
theorem read_fixes_nil {n : Nat} {st : SrcSt} (hn : n ≤ 100000) : F_read_fixes [sd (bl n)] st = .ok (.dat (.tuple [])) st := by
  refine r_def (n := 4) (b := m_read_fixes) (m := ⟨[some (sd (bl n)), none, none, none], st⟩) (env := [some (sd (bl n)), none, none, none]) rfl ?_
  have hs : mCall F_skip_blanks (mArgs [(mVar 0), (mC (.dat (.int 0)))]) ⟨[some (sd (bl n)), none, none, none], st⟩ = .ok (sn n) ⟨[some (sd (bl n)), none, none, none], st⟩ := by
    refine r_call (xs := [sd (bl n), sn 0]) (m1 := ⟨[some (sd (bl n)), none, none, none], st⟩) rfl ?_
    have := skip_blanks_at (l := bl n) (a := []) (s := []) (k := n) (st := st) (by simp) sig_nil.1 (by rw [bl_len]; exact hn)
    simpa using this
  refine r_seq_ret ((r_if_t (m1 := ⟨[some (sd (bl n)), none, none, none], st⟩) ?_).trans (r_ret ?_))
  · have hz := fLen_tx (l := bl n) (by rw [bl_len]; exact hn)
    simp only [mTest, mOp, mBor, mDat, mCal, mBs, e0, Res.bind_ok, hs, hz, pEq_nd, bl_len]
    simp
  · show (if ([] : List PyData).length ≤ sizeLine then Res.ok (Sl.dat (.tuple [])) _ else Res.bad) = _
    rw [if_pos (show ([] : List PyData).length ≤ sizeLine from Nat.zero_le _)]
theorem read_fixes_cons {l : List Nat} {n : Nat} {ks : List Nat} {f : Fx} {r : List (Nat × List Nat × Fx)} {st : SrcSt} (hl : l.length ≤ 100000) (e : l = bl n ++ fxT f ks (rsT r)) (hf : f.Ok) (hr : ∀ p ∈ r, p.2.2.Ok) (hn : r.length ≤ 10) : F_read_fixes [sd l] st = .ok (.dat (.tuple (f.dat :: r.map (·.2.2.dat)))) st := by
  have h0 : At l 0 (bl n ++ fxT f ks (rsT r)) := ⟨[], e, rfl⟩
  obtain ⟨q, hq, hx⟩ := read_fix_at (st := st) h0 hf (rsT_sig r) hl
  obtain ⟨y, hw⟩ := fs_run hl r 1000000 q f.dat [f.dat] hr (by omega) (by simp; omega) hq (st := st)
  -- the first test is false: something other than a blank stands there
  obtain ⟨j, hj, hjl⟩ : ∃ j, F_skip_blanks [sd l, sn 0] st = .ok (sn j) st ∧ j < l.length := by
    obtain ⟨j, s, es, hst, hlt⟩ : ∃ j s, l = bl j ++ s ∧ stops (· == 32) s ∧ 0 < s.length := by
      by_cases ha : f.a = []
      · refine ⟨n + ks.getD 0 0, 47 :: (bl (ks.getD 1 0) ++ (f.o ++ (bl (ks.getD 2 0) ++ (62 :: (bl (ks.getD 3 0) ++ (f.n ++ (bl (ks.getD 4 0) ++ (47 :: (bl (ks.getD 5 0) ++ (f.b ++ (bl (ks.getD 6 0) ++ rsT r))))))))))), ?_, (sig_cons (c := 47) (by decide) (by decide)).1, Nat.succ_pos _⟩
        · rw [e, bl_add]; unfold fxT; rw [ha]; simp
      · refine ⟨n, fxT f ks (rsT r), e, ?_, ?_⟩
        · intro c r' ec
          unfold fxT at ec
          cases hfa : f.a with
          | nil => exact absurd hfa ha
          | cons d w =>
            rw [hfa] at ec
            cases ec
            have := hf.a c (by rw [hfa]; exact List.mem_cons_self)
            unfold isL at this
            simp at this ⊢
            omega
        · unfold fxT
          simp
          omega
    refine ⟨j, ?_, ?_⟩
    · have := skip_blanks_at (l := l) (a := []) (s := s) (k := j) (st := st) (by simpa using es) hst hl
      simpa using this
    · rw [es, List.length_append, bl_len]; omega
  refine r_def (n := 4) (b := m_read_fixes) (m := ⟨[some (sd l), some (.dat y), some (sn l.length), some (.own ([f.dat] ++ r.map (·.2.2.dat)))], st⟩) (env := [some (sd l), none, none, none]) rfl ?_
  have hs : mCall F_skip_blanks (mArgs [(mVar 0), (mC (.dat (.int 0)))]) ⟨[some (sd l), none, none, none], st⟩ = .ok (sn j) ⟨[some (sd l), none, none, none], st⟩ :=
    r_call (xs := [sd l, sn 0]) (m1 := ⟨[some (sd l), none, none, none], st⟩) rfl hj
  refine (r_seq (m1 := ⟨[some (sd l), none, none, none], st⟩) ((r_if_f (m1 := ⟨[some (sd l), none, none, none], st⟩) ?_).trans rfl)).trans ?_
  · have hne : ¬ j = l.length := by omega
    simp only [mTest, mOp, mBor, mDat, mCal, mBs, e0, Res.bind_ok, hs, fLen_tx hl, pEq_nd]
    simp [hne]
  refine (r_seq (m1 := ⟨[some (sd l), some (.dat f.dat), some (sn q), none], st⟩) (r_asg (d := .tuple [f.dat, nd q]) (m1 := ⟨[some (sd l), none, none, none], st⟩) (r_call (xs := [sd l, sn 0]) (m1 := ⟨[some (sd l), none, none, none], st⟩) rfl hx) rfl)).trans ?_
  refine (r_seq (m1 := ⟨[some (sd l), some (.dat f.dat), some (sn q), some (.own [f.dat])], st⟩) (r_setN (env := [some (sd l), some (.dat f.dat), some (sn q), none]) (st := st) (d := [f.dat]) ?_ (by simp))).trans ?_
  · show (if ([f.dat] : List PyData).length ≤ sizeLine then Res.ok [f.dat] _ else Res.bad) = _
    rw [if_pos (by rw [sl_eq]; simp)]
  exact (r_seq hw).trans (r_ret rfl)
end PL.RF
namespace PL.RF
open PySem PySem.Spec PyProof.Rows L2
/-! ### comprehensions whose parts are known -/
theorem comp_map {vs : List Nat} {t : Tg} {e : M Sl} {E : List (Option Sl)} {st : SrcSt} (f : PyData → PyData) : ∀ items : List PyData, (∀ d ∈ items, ∃ m0 m1 : Me, mTgt t d ⟨E, st⟩ = some m0 ∧ e m0 = .ok (.dat (f d)) m1 ∧ wipeM vs m1 = ⟨E, st⟩) →
    compL vs t mYes e items ⟨E, st⟩ = .ok (items.map f) ⟨E, st⟩
  | [], _ => rfl
  | d :: r, h => by
    obtain ⟨m0, m1, ht, he, hw⟩ := h d List.mem_cons_self
    have ih := comp_map f r (fun d hd => h d (List.mem_cons_of_mem _ hd))
    show (match mTgt t d ⟨E, st⟩ with | none => Res.bad | some m0 => (noX (mYes m0)).bind fun b m1 => if b = true then (noX (mDat e m1)).bind fun z m2 => (compL vs t mYes e r (wipeM vs m2)).bind fun zs m3 => .ok (z :: zs) m3 else compL vs t mYes e r (wipeM vs m1)) = _
    rw [ht]
    show (noX (mDat e m0)).bind (fun z m2 => (compL vs t mYes e r (wipeM vs m2)).bind fun zs m3 => Res.ok (z :: zs) m3) = _
    have hd : mDat e m0 = .ok (f d) m1 := by unfold mDat; rw [he]; rfl
    rw [hd]
    show (compL vs t mYes e r (wipeM vs m1)).bind _ = _
    rw [hw, ih]
    rfl
theorem r_comp {vs : List Nat} {t : Tg} {it : M (List PyData)} {e : M Sl} {m m1 m2 : Me} {l zs : List PyData} (h : it m = .ok l m1) (hl : l.length ≤ 1000000) (hc : compL vs t mYes e l (wipeM vs m1) = .ok zs m2) : mComp vs t it mYes e m = .ok zs m2 := by
  unfold mComp; rw [h]
  show (if l.length ≤ 1000000 then noX (compL vs t mYes e l (wipeM vs m1)) else .bad) = _
  rw [if_pos hl, hc]
  rfl
theorem bools_all {α : Type} (p : α → Bool) (g : α → PyData) : ∀ l : List α, (∀ x ∈ l, g x = .bool (p x)) → boolsOf (l.map g) = some (l.map p)
  | [], _ => rfl
  | x :: r, h => by
    have ih := bools_all p g r (fun y hy => h y (List.mem_cons_of_mem _ hy))
    show boolsOf (g x :: r.map g) = _
    rw [h x List.mem_cons_self]
    show (boolsOf (r.map g)).map _ = _
    rw [ih]; rfl
theorem all_true {l : List PyData} (h : ∀ d ∈ l, d = .bool true) : fAll [.list l] = some (.bool true) := by
  have e := bools_all (fun _ => true) id l (fun x hx => h x hx)
  rw [List.map_id] at e
  show (boolsOf l).map _ = _
  rw [e]
  simp
theorem is_word_at {w : List Nat} {lo hi : Nat} {st : SrcSt} (hw : isW w) (h1 : lo ≤ w.length) (h2 : w.length ≤ hi) (h3 : hi ≤ 200) : F_is_word [sd w, sn lo, sn hi] st = .ok (.dat (.bool true)) st := by
  have hl : w.length ≤ 100000 := by omega
  refine r_def (n := 4) (b := m_is_word) (m := ⟨[some (sd w), some (sn lo), some (sn hi), none], st⟩) (env := [some (sd w), some (sn lo), some (sn hi), none]) rfl ?_
  refine (r_seq (m1 := ⟨[some (sd w), some (sn lo), some (sn hi), none], st⟩) ((r_if_f (m1 := ⟨[some (sd w), some (sn lo), some (sn hi), none], st⟩) ?_).trans rfl)).trans ?_
  · have a1 : pLe (nd lo) (nd w.length) = some (.bool true) := by show some (PyData.bool (decide ((lo : Int) ≤ (w.length : Int)))) = _; rw [decide_eq_true (by omega)]
    have a2 : pLe (nd w.length) (nd hi) = some (.bool true) := by show some (PyData.bool (decide ((w.length : Int) ≤ (hi : Int)))) = _; rw [decide_eq_true (by omega)]
    have a3 : kitB (tyName (dt w)) "str" = some true := by show kitB "str" "str" = some true; decide +kernel
    simp only [mOr, mNot, mTest, mIsi, mChain, mOp, mBor, mDat, mCal, mBs, e0, e1, e2, Res.bind_ok, fLen_tx hl, a1, a2, a3]
    simp
  · refine r_ret ?_
    have hc : mComp [3] (.nm 3) (mIt (mVar 0)) mYes (mOp pIn (mBor 3) (mDat (mC (.dat (.str c_ALPHABET))))) ⟨[some (sd w), some (sn lo), some (sn hi), none], st⟩ = .ok ((w.map fun c => dt [c]).map fun _ => PyData.bool true) ⟨[some (sd w), some (sn lo), some (sn hi), none], st⟩ := by
      refine r_comp (l := w.map fun c => dt [c]) (m1 := ⟨[some (sd w), some (sn lo), some (sn hi), none], st⟩) rfl (by simp; omega) (comp_map (E := [some (sd w), some (sn lo), some (sn hi), none]) (fun _ => .bool true) _ fun d hd => ?_)
      obtain ⟨c, hc, rfl⟩ := List.mem_map.1 hd
      refine ⟨⟨[some (sd w), some (sn lo), some (sn hi), some (sd [c])], st⟩, ⟨[some (sd w), some (sn lo), some (sn hi), some (sd [c])], st⟩, rfl, ?_, rfl⟩
      simp only [mOp, mBor, mDat, mC, e3, Res.bind_ok, pIn_tx, hw c hc]
    simp only [mCal, mBs, mDat, mL, Res.bind_ok, hc]
    rw [all_true (by intro d hd; obtain ⟨_, _, rfl⟩ := List.mem_map.1 hd; rfl)]
theorem fLen_tup (l : List PyData) : fLen [.tuple l] = some (nd l.length) := rfl
theorem is_tuple (l : List PyData) : kitB (tyName (.tuple l)) "tuple" = some true := by show kitB "tuple" "tuple" = some true; decide +kernel
theorem is_fix_at {f : Fx} {st : SrcSt} (h : f.Ok) : F_is_fix [.dat f.dat] st = .ok (.dat (.bool true)) st := by
  have w1 := is_word_at (st := st) (lo := 0) (hi := 1) h.a (Nat.zero_le _) h.al (by decide)
  have w2 := is_word_at (st := st) (lo := 0) (hi := 1) h.b (Nat.zero_le _) h.bl (by decide)
  have w3 := is_word_at (st := st) (lo := 1) (hi := 3) h.o h.ol h.ou (by decide)
  have w4 := is_word_at (st := st) (lo := 0) (hi := 3) h.n (Nat.zero_le _) h.nl (by decide)
  refine r_def (n := 6) (b := m_is_fix) (m := ⟨[some (.dat f.dat), some (sd f.a), some (sd f.o), some (sd f.n), some (sd f.b), some (.dat (.bool true))], st⟩) (env := [some (.dat f.dat), none, none, none, none, none]) rfl ?_
  refine (r_seq (m1 := ⟨[some (.dat f.dat), none, none, none, none, none], st⟩) ((r_if_f (m1 := ⟨[some (.dat f.dat), none, none, none, none, none], st⟩) ?_).trans rfl)).trans ?_
  · have a0 : kitB (tyName f.dat) "tuple" = some true := is_tuple _
    have a1 : fLen [f.dat] = some (nd 4) := rfl
    have a2 : pNot pEq (nd 4) (.int 4) = some (.bool false) := rfl
    simp only [mOr, mNot, mTest, mIsi, mOp, mBor, mDat, mC, mCal, mBs, e0, Res.bind_ok, a0, a1, a2]
    simp
  refine (r_seq (m1 := ⟨[some (.dat f.dat), some (sd f.a), some (sd f.o), some (sd f.n), some (sd f.b), none], st⟩) rfl).trans ?_
  have c1 : mCall F_is_word (mArgs [(mVar 1), (mC (.dat (.int 0))), (mC (.dat (.int 1)))]) ⟨[some (.dat f.dat), some (sd f.a), some (sd f.o), some (sd f.n), some (sd f.b), none], st⟩ = .ok (.dat (.bool true)) ⟨[some (.dat f.dat), some (sd f.a), some (sd f.o), some (sd f.n), some (sd f.b), none], st⟩ :=
    r_call (xs := [sd f.a, sn 0, sn 1]) (m1 := ⟨[some (.dat f.dat), some (sd f.a), some (sd f.o), some (sd f.n), some (sd f.b), none], st⟩) rfl w1
  have c2 : mCall F_is_word (mArgs [(mVar 4), (mC (.dat (.int 0))), (mC (.dat (.int 1)))]) ⟨[some (.dat f.dat), some (sd f.a), some (sd f.o), some (sd f.n), some (sd f.b), none], st⟩ = .ok (.dat (.bool true)) ⟨[some (.dat f.dat), some (sd f.a), some (sd f.o), some (sd f.n), some (sd f.b), none], st⟩ :=
    r_call (xs := [sd f.b, sn 0, sn 1]) (m1 := ⟨[some (.dat f.dat), some (sd f.a), some (sd f.o), some (sd f.n), some (sd f.b), none], st⟩) rfl w2
  have c3 : mCall F_is_word (mArgs [(mVar 2), (mC (.dat (.int 1))), (mC (.dat (.int 3)))]) ⟨[some (.dat f.dat), some (sd f.a), some (sd f.o), some (sd f.n), some (sd f.b), some (.dat (.bool true))], st⟩ = .ok (.dat (.bool true)) ⟨[some (.dat f.dat), some (sd f.a), some (sd f.o), some (sd f.n), some (sd f.b), some (.dat (.bool true))], st⟩ :=
    r_call (xs := [sd f.o, sn 1, sn 3]) (m1 := ⟨[some (.dat f.dat), some (sd f.a), some (sd f.o), some (sd f.n), some (sd f.b), some (.dat (.bool true))], st⟩) rfl w3
  have c4 : mCall F_is_word (mArgs [(mVar 3), (mC (.dat (.int 0))), (mC (.dat (.int 3)))]) ⟨[some (.dat f.dat), some (sd f.a), some (sd f.o), some (sd f.n), some (sd f.b), some (.dat (.bool true))], st⟩ = .ok (.dat (.bool true)) ⟨[some (.dat f.dat), some (sd f.a), some (sd f.o), some (sd f.n), some (sd f.b), some (.dat (.bool true))], st⟩ :=
    r_call (xs := [sd f.n, sn 0, sn 3]) (m1 := ⟨[some (.dat f.dat), some (sd f.a), some (sd f.o), some (sd f.n), some (sd f.b), some (.dat (.bool true))], st⟩) rfl w4
  refine (r_seq (r_set (i := 5) (d := .bool true) (env := [some (.dat f.dat), some (sd f.a), some (sd f.o), some (sd f.n), some (sd f.b), none]) (st := st) ?_ (by simp))).trans (r_ret ?_)
  · simp only [mAndV, mTest, c1, c2, Res.bind_ok]
    simp
  · show mAndV _ _ ⟨[some (.dat f.dat), some (sd f.a), some (sd f.o), some (sd f.n), some (sd f.b), some (.dat (.bool true))], st⟩ = _
    have v5 : mVar 5 ⟨[some (.dat f.dat), some (sd f.a), some (sd f.o), some (sd f.n), some (sd f.b), some (.dat (.bool true))], st⟩ = .ok (.dat (.bool true)) ⟨[some (.dat f.dat), some (sd f.a), some (sd f.o), some (sd f.n), some (sd f.b), some (.dat (.bool true))], st⟩ := rfl
    simp only [mAndV, mTest, c3, c4, v5, Res.bind_ok]
    simp
def bookD (fs : List Fx) : PyData := .tuple (fs.map Fx.dat)
theorem is_book_at {fs : List Fx} {st : SrcSt} (h : ∀ f ∈ fs, f.Ok) (hn : fs.length ≤ 5) : F_is_book [.dat (bookD fs)] st = .ok (.dat (.bool true)) st := by
  refine r_def (n := 2) (b := m_is_book) (m := ⟨[some (.dat (bookD fs)), none], st⟩) (env := [some (.dat (bookD fs)), none]) rfl ?_
  refine (r_seq (m1 := ⟨[some (.dat (bookD fs)), none], st⟩) ((r_if_f (m1 := ⟨[some (.dat (bookD fs)), none], st⟩) ?_).trans rfl)).trans (r_ret ?_)
  · have a0 : kitB (tyName (bookD fs)) "tuple" = some true := is_tuple _
    have a1 : fLen [bookD fs] = some (nd fs.length) := by show some (nd (fs.map Fx.dat).length) = _; rw [List.length_map]
    have a2 : pGt (nd fs.length) (.int 5) = some (.bool false) := by show some (PyData.bool (decide ((5 : Int) < (fs.length : Int)))) = _; rw [decide_eq_false (by omega)]
    simp only [mOr, mNot, mTest, mIsi, mOp, mBor, mDat, mC, mCal, mBs, e0, Res.bind_ok, a0, a1, a2]
    simp
  · have hc : mComp [1] (.nm 1) (mIt (mVar 0)) mYes (mCall F_is_fix (mArgs [(mVar 1)])) ⟨[some (.dat (bookD fs)), none], st⟩ = .ok ((fs.map Fx.dat).map fun _ => PyData.bool true) ⟨[some (.dat (bookD fs)), none], st⟩ := by
      refine r_comp (l := fs.map Fx.dat) (m1 := ⟨[some (.dat (bookD fs)), none], st⟩) rfl (by simp; omega) (comp_map (E := [some (.dat (bookD fs)), none]) (fun _ => .bool true) _ fun d hd => ?_)
      obtain ⟨f, hf, rfl⟩ := List.mem_map.1 hd
      refine ⟨⟨[some (.dat (bookD fs)), some (.dat f.dat)], st⟩, ⟨[some (.dat (bookD fs)), some (.dat f.dat)], st⟩, rfl, ?_, rfl⟩
      exact r_call (xs := [.dat f.dat]) (m1 := ⟨[some (.dat (bookD fs)), some (.dat f.dat)], st⟩) rfl (is_fix_at (h f hf))
    have ha := all_true (l := (fs.map Fx.dat).map fun _ => PyData.bool true) (by intro d hd; obtain ⟨_, _, rfl⟩ := List.mem_map.1 hd; rfl)
    simp only [mCal, mBs, mDat, mL, Res.bind_ok, hc, ha]
theorem check_book_at {fs : List Fx} {st : SrcSt} (h : ∀ f ∈ fs, f.Ok) (hn : fs.length ≤ 5) : F_check_book [.dat (bookD fs)] st = .ok (.dat .none) st := by
  refine r_def_nx (n := 1) (b := m_check_book) (m := ⟨[some (.dat (bookD fs))], st⟩) (env := [some (.dat (bookD fs))]) rfl ((r_if_f (m1 := ⟨[some (.dat (bookD fs))], st⟩) ?_).trans rfl)
  have hb : mCall F_is_book (mArgs [(mVar 0)]) ⟨[some (.dat (bookD fs))], st⟩ = .ok (.dat (.bool true)) ⟨[some (.dat (bookD fs))], st⟩ := r_call (xs := [.dat (bookD fs)]) (m1 := ⟨[some (.dat (bookD fs))], st⟩) rfl (is_book_at h hn)
  simp only [mNot, mTest, hb, Res.bind_ok]
  simp
theorem read_book_of {l : List Nat} {fs : List Fx} {st : SrcSt} (h : ∀ f ∈ fs, f.Ok) (hn : fs.length ≤ 5) (hr : F_read_fixes [sd l] st = .ok (.dat (bookD fs)) st) : F_read_book [sd l] st = .ok (.dat (bookD fs)) st := by
  refine r_def (n := 2) (b := m_read_book) (m := ⟨[some (sd l), some (.dat (bookD fs))], st⟩) (env := [some (sd l), none]) rfl ?_
  refine (r_seq (m1 := ⟨[some (sd l), none], st⟩) ((r_if_f (m1 := ⟨[some (sd l), none], st⟩) ?_).trans rfl)).trans ?_
  · have a3 : kitB (tyName (dt l)) "str" = some true := by show kitB "str" "str" = some true; decide +kernel
    simp only [mNot, mTest, mIsi, mBor, e0, Res.bind_ok, a3]
    simp
  refine (r_seq (r_set (i := 1) (d := bookD fs) (env := [some (sd l), none]) (st := st) (r_call (xs := [sd l]) (m1 := ⟨[some (sd l), none], st⟩) rfl hr) (by simp))).trans ?_
  refine (r_seq (m1 := ⟨[some (sd l), some (.dat (bookD fs))], st⟩) ?_).trans (r_ret rfl)
  have hc : mCall F_check_book (mArgs [(mVar 1)]) ⟨[some (sd l), some (.dat (bookD fs))], st⟩ = .ok (.dat .none) ⟨[some (sd l), some (.dat (bookD fs))], st⟩ := r_call (xs := [.dat (bookD fs)]) (m1 := ⟨[some (sd l), some (.dat (bookD fs))], st⟩) rfl (check_book_at h hn)
  show mDrop _ _ = _
  unfold mDrop
  show Res.bind (mCall F_check_book (mArgs [(mVar 1)]) ⟨[some (sd l), some (.dat (bookD fs))], st⟩) _ = _
  rw [hc]
  rfl
end PL.RF
namespace PL.RF
open PySem PySem.Spec PyProof.Rows L2
/-! ### books are alike -/
theorem strOk_w {w : List Nat} (h : isW w) : PyData.strOk (tx w) = true := by
  show (w.toArray).all (fun c => decide (c < 0x110000)) = true
  rw [List.all_toArray, List.all_eq_true]
  intro c hc
  have := h c hc
  unfold isL at this
  simp at this ⊢
  omega
theorem lay_fix {f : Fx} (h : f.Ok) : PyData.canLay0 f.dat = true := by
  show (PyData.strOk (tx f.a) && (PyData.strOk (tx f.o) && (PyData.strOk (tx f.n) && (PyData.strOk (tx f.b) && true)))) = true
  rw [strOk_w h.a, strOk_w h.o, strOk_w h.n, strOk_w h.b]; rfl
theorem lay_fixes : ∀ {fs : List Fx}, (∀ f ∈ fs, f.Ok) → PyData.canLayAll0 (fs.map Fx.dat) = true
  | [], _ => rfl
  | f :: fs, h => by
    show (PyData.canLay0 f.dat && PyData.canLayAll0 (fs.map Fx.dat)) = true
    rw [lay_fix (h f List.mem_cons_self), lay_fixes (fun g hg => h g (List.mem_cons_of_mem _ hg))]; rfl
theorem depth_fixes : ∀ fs : List Fx, PyData.depthAll (fs.map Fx.dat) ≤ 1
  | [] => by decide
  | f :: fs => by
    have := depth_fixes fs
    have h2 : PyData.depth f.dat = 1 := rfl
    show max (PyData.depth f.dat) (PyData.depthAll (fs.map Fx.dat)) ≤ 1
    omega
theorem book_shaped {fs : List Fx} (h : ∀ f ∈ fs, f.Ok) : SeqAt.shaped (bookD fs) = true := by
  unfold SeqAt.shaped
  rw [Bool.and_eq_true]
  refine ⟨lay_fixes h, decide_eq_true ?_⟩
  have := depth_fixes fs
  show PyData.depthAll (fs.map Fx.dat) + 1 ≤ 64
  omega
theorem book_eq {fs : List Fx} (h : ∀ f ∈ fs, f.Ok) : pEq (bookD fs) (bookD fs) = some (.bool true) := by
  show (if SeqAt.shaped (bookD fs) = true ∧ SeqAt.shaped (bookD fs) = true then some (PyData.bool (PyData.eqv (bookD fs) (bookD fs))) else none) = _
  rw [if_pos ⟨book_shaped h, book_shaped h⟩]
  have e : PyData.eqv (bookD fs) (bookD fs) = true := SeqAt.eqv_refl _ (lay_fixes h)
  rw [e]
theorem book_ne {fs : List Fx} (h : ∀ f ∈ fs, f.Ok) : pNot pEq (bookD fs) (bookD fs) = some (.bool false) := by
  unfold pNot; rw [book_eq h]; rfl
theorem txt_ne (a : List Nat) : pNot pEq (dt a) (dt a) = some (.bool false) := by
  unfold pNot; rw [pEq_tx]; simp
/-! ### joins -/
theorem strs_map : ∀ ls : List (List Nat), strsOf (ls.map dt) = some (ls.map tx)
  | [] => rfl
  | l :: r => by
    show (strsOf (r.map dt)).map _ = _
    rw [strs_map r]; rfl
def tot (ls : List (List Nat)) : Nat := (ls.map List.length).sum
theorem pJoin_tx {sep : List Nat} {ls : List (List Nat)} (h : tot ls + ls.length * sep.length ≤ 100000) : pJoin (dt sep) (.list (ls.map dt)) = some (dt (joinL sep ls)) := by
  show (match strsOf (ls.map dt) with | some ys => if (ys.map Str.length).sum + ys.length * (tx sep).length ≤ 16777216 then some (PyData.str (Txt.join (tx sep) ys)) else none | none => none) = _
  rw [strs_map]
  show (if ((ls.map tx).map Str.length).sum + (ls.map tx).length * (tx sep).length ≤ 16777216 then some (PyData.str (Txt.join (tx sep) (ls.map tx))) else none) = _
  have e1 : ((ls.map tx).map Str.length) = ls.map List.length := by rw [List.map_map]; rfl
  rw [e1, List.length_map, tx_len, if_pos (by unfold tot at h; omega), tx_join]
theorem joinL_nil : ∀ ls : List (List Nat), joinL [] ls = ls.flatten
  | [] => rfl
  | [x] => by simp [joinL]
  | x :: y :: r => by
    show x ++ [] ++ joinL [] (y :: r) = _
    rw [joinL_nil (y :: r)]; simp
/-! ### the texts of a book -/
def fxS (f : Fx) : List Nat := f.a ++ (47 :: (f.o ++ (62 :: (f.n ++ (47 :: f.b)))))
def ptsF (f : Fx) : List (List Nat) := [f.a, [47], f.o, [62], f.n, [47], f.b]
def ptsR : List Fx → List (List Nat)
  | [] => []
  | f :: r => [44] :: (ptsF f ++ ptsR r)
def pts : List Fx → List (List Nat)
  | [] => []
  | f :: r => ptsF f ++ ptsR r
def spread : List (List Nat) → List Nat → List Nat
  | p :: ps, k :: ks => p ++ (bl k ++ spread ps ks)
  | _, _ => []
theorem ptsR_len : ∀ fs : List Fx, (ptsR fs).length = 8 * fs.length
  | [] => rfl
  | f :: r => by
    show (ptsF f ++ ptsR r).length + 1 = _
    rw [List.length_append, ptsR_len r]
    simp [ptsF]; omega
theorem pts_len : ∀ fs : List Fx, (pts fs).length ≤ 8 * fs.length
  | [] => Nat.le_refl _
  | f :: r => by
    show (ptsF f ++ ptsR r).length ≤ _
    rw [List.length_append, ptsR_len r]
    simp [ptsF]; omega
theorem fxT_nil (f : Fx) (s : List Nat) : fxT f [] s = fxS f ++ s := by simp [fxT, fxS, bl]
theorem spread_fx {f : Fx} {rest : List (List Nat)} {k1 k2 k3 k4 k5 k6 k7 : Nat} {ks : List Nat} : spread (ptsF f ++ rest) (k1 :: k2 :: k3 :: k4 :: k5 :: k6 :: k7 :: ks) = fxT f [k1, k2, k3, k4, k5, k6, k7] (spread rest ks) := by
  simp [spread, ptsF, fxT]
theorem spread_rs : ∀ (r : List Fx) (ks : List Nat), ks.length = (ptsR r).length → ∃ r' : List (Nat × List Nat × Fx), r'.map (·.2.2) = r ∧ spread (ptsR r) ks = rsT r'
  | [], _, _ => ⟨[], rfl, by simp [ptsR, spread, rsT]⟩
  | f :: r, ks, h => by
    rw [ptsR_len] at h
    match ks, h with
    | k0 :: k1 :: k2 :: k3 :: k4 :: k5 :: k6 :: k7 :: ks, h =>
      simp only [List.length_cons] at h
      obtain ⟨r', e1, e2⟩ := spread_rs r ks (by rw [ptsR_len]; omega)
      refine ⟨(k0, [k1, k2, k3, k4, k5, k6, k7], f) :: r', by simp [e1], ?_⟩
      show [44] ++ (bl k0 ++ spread (ptsF f ++ ptsR r) (k1 :: k2 :: k3 :: k4 :: k5 :: k6 :: k7 :: ks)) = _
      rw [spread_fx, e2]
      rfl
    | [], h | [_], h | [_, _], h | [_, _, _], h | [_, _, _, _], h | [_, _, _, _, _], h | [_, _, _, _, _, _], h | [_, _, _, _, _, _, _], h =>
      simp at h <;> omega
/-- texts that a book is read from -/
def Form (fs : List Fx) (l : List Nat) : Prop := (fs = [] ∧ ∃ n, l = bl n) ∨ ∃ f r n ks r', fs = f :: r ∧ r'.map (·.2.2) = r ∧ l = bl n ++ fxT f ks (rsT r')
theorem form_spread {fs : List Fx} {n : Nat} {ks : List Nat} (h : ks.length = (pts fs).length) : Form fs (bl n ++ spread (pts fs) ks) := by
  cases fs with
  | nil => exact .inl ⟨rfl, n, by simp [pts, spread]⟩
  | cons f r =>
    have h' : ks.length = 7 + (ptsR r).length := by rw [h]; show (ptsF f ++ ptsR r).length = _; rw [List.length_append]; rfl
    match ks, h' with
    | k1 :: k2 :: k3 :: k4 :: k5 :: k6 :: k7 :: ks, h' =>
      simp only [List.length_cons] at h'
      obtain ⟨r', e1, e2⟩ := spread_rs r ks (by omega)
      refine .inr ⟨f, r, n, [k1, k2, k3, k4, k5, k6, k7], r', rfl, e1, ?_⟩
      show bl n ++ spread (ptsF f ++ ptsR r) _ = _
      rw [spread_fx, e2]
    | [], h | [_], h | [_, _], h | [_, _, _], h | [_, _, _, _], h | [_, _, _, _, _], h | [_, _, _, _, _, _], h =>
      simp at h <;> omega
theorem read_book_form {fs : List Fx} {l : List Nat} {st : SrcSt} (h : Form fs l) (hl : l.length ≤ 100000) (hf : ∀ f ∈ fs, f.Ok) (hn : fs.length ≤ 5) : F_read_book [sd l] st = .ok (.dat (bookD fs)) st := by
  refine read_book_of hf hn ?_
  rcases h with ⟨rfl, n, rfl⟩ | ⟨f, r, n, ks, r', rfl, e1, e2⟩
  · exact read_fixes_nil (by rw [bl_len] at hl; exact hl)
  · have e3 : r'.map (·.2.2.dat) = r.map Fx.dat := by rw [← e1, List.map_map]; rfl
    have hlen : r'.length = r.length := by rw [← e1, List.length_map]
    have := read_fixes_cons (st := st) hl e2 (hf f List.mem_cons_self) (fun p hp => hf _ (by rw [← e1]; exact List.mem_cons_of_mem _ (List.mem_map_of_mem hp))) (by simp at hn; omega)
    rw [e3] at this
    exact this
/-! the text of a book -/
def textL (fs : List Fx) : List Nat := joinL [44, 32] (fs.map fxS)
def tailT : List Fx → List Nat
  | [] => []
  | f :: r => 44 :: 32 :: (fxS f ++ tailT r)
theorem textL_cons (f : Fx) : ∀ r : List Fx, textL (f :: r) = fxS f ++ tailT r
  | [] => by simp [textL, joinL, tailT]
  | g :: r => by
    have := textL_cons g r
    show fxS f ++ [44, 32] ++ textL (g :: r) = _
    rw [this]
    simp [tailT]
theorem tailT_rs : ∀ r : List Fx, tailT r = rsT (r.map fun f => (1, [], f))
  | [] => rfl
  | f :: r => by
    show 44 :: 32 :: (fxS f ++ tailT r) = 44 :: (bl 1 ++ fxT f [] (rsT (r.map fun f => (1, [], f))))
    rw [fxT_nil, tailT_rs r]
    rfl
theorem form_text : ∀ fs : List Fx, Form fs (textL fs)
  | [] => .inl ⟨rfl, 0, rfl⟩
  | f :: r => .inr ⟨f, r, 0, [], r.map fun f => (1, [], f), rfl, by rw [List.map_map]; exact List.map_id r, by rw [textL_cons, fxT_nil, tailT_rs]; rfl⟩
theorem fxS_len {f : Fx} (h : f.Ok) : (fxS f).length ≤ 11 := by
  have := h.al; have := h.ou; have := h.nl; have := h.bl
  simp [fxS]; omega
theorem tot_map {α : Type} (g : α → List Nat) (b : Nat) : ∀ {l : List α}, (∀ x ∈ l, (g x).length ≤ b) → tot (l.map g) ≤ b * l.length
  | [], _ => Nat.zero_le _
  | x :: r, h => by
    have h1 := h x List.mem_cons_self
    have h2 := tot_map g b (l := r) (fun y hy => h y (List.mem_cons_of_mem _ hy))
    unfold tot at h2 ⊢
    simp only [List.map_cons, List.sum_cons, List.length_cons, Nat.mul_add, Nat.mul_one]
    omega
theorem joinL_len (sep : List Nat) : ∀ ls : List (List Nat), (joinL sep ls).length ≤ tot ls + ls.length * sep.length
  | [] => Nat.zero_le _
  | [x] => by simp [joinL, tot]
  | x :: y :: r => by
    have := joinL_len sep (y :: r)
    unfold tot at this ⊢
    show (x ++ sep ++ joinL sep (y :: r)).length ≤ _
    rw [List.length_append, List.length_append]
    simp only [List.map_cons, List.sum_cons, List.length_cons, Nat.add_mul, Nat.one_mul] at this ⊢
    omega
theorem text_tot {fs : List Fx} (hf : ∀ f ∈ fs, f.Ok) (hn : fs.length ≤ 5) : tot (fs.map fxS) + (fs.map fxS).length * [44, 32].length ≤ 100000 := by
  have := tot_map fxS 11 (l := fs) (fun f h => fxS_len (hf f h))
  simp only [List.length_map, List.length_cons, List.length_nil]
  omega
theorem text_len {fs : List Fx} (hf : ∀ f ∈ fs, f.Ok) (hn : fs.length ≤ 5) : (textL fs).length ≤ 100000 := Nat.le_trans (joinL_len _ _) (text_tot hf hn)
theorem r_js {x : M Str} {r : List (M Str)} {acc s : List Nat} {m : Me} (h : x m = .ok (tx s) m) (hl : (acc ++ s).length ≤ 100000) : mJs (x :: r) (tx acc) m = mJs r (tx (acc ++ s)) m := by
  show (x m).bind (fun s m1 => if (tx acc ++ s).length ≤ sizeLine then mJs r (tx acc ++ s) m1 else .bad) = _
  rw [h]
  show (if (tx acc ++ tx s).length ≤ sizeLine then mJs r (tx acc ++ tx s) m else .bad) = _
  rw [tx_app, if_pos (by rw [tx_len, sl_eq]; omega)]
theorem r_fmt {i : Nat} {env : List (Option Sl)} {st : SrcSt} {l : List Nat} (h : env[i]? = some (some (sd l))) (hl : l.length ≤ 100000) : mFmt (mBor i) ⟨env, st⟩ = .ok (tx l) ⟨env, st⟩ := by
  unfold mFmt mBor
  show (Res.bind (match env[i]? with | some (some (.own l)) => Res.ok (PyData.list l) ⟨env, st⟩ | some (some (.dat d)) => Res.ok d ⟨env, st⟩ | _ => .bad) _) = _
  rw [h]
  show (if (tx l).length ≤ sizeLine then Res.ok (tx l) _ else .bad) = _
  rw [if_pos (by rw [tx_len, sl_eq]; omega)]
theorem comp_mapA {α : Type} {vs : List Nat} {t : Tg} {e : M Sl} {E : List (Option Sl)} {st : SrcSt} (g f : α → PyData) : ∀ xs : List α, (∀ x ∈ xs, ∃ m0 m1 : Me, mTgt t (g x) ⟨E, st⟩ = some m0 ∧ e m0 = .ok (.dat (f x)) m1 ∧ wipeM vs m1 = ⟨E, st⟩) →
    compL vs t mYes e (xs.map g) ⟨E, st⟩ = .ok (xs.map f) ⟨E, st⟩
  | [], _ => rfl
  | x :: r, h => by
    obtain ⟨m0, m1, ht, he, hw⟩ := h x List.mem_cons_self
    have ih := comp_mapA g f r (fun d hd => h d (List.mem_cons_of_mem _ hd))
    show (match mTgt t (g x) ⟨E, st⟩ with | none => Res.bad | some m0 => (noX (mYes m0)).bind fun b m1 => if b = true then (noX (mDat e m1)).bind fun z m2 => (compL vs t mYes e (r.map g) (wipeM vs m2)).bind fun zs m3 => .ok (z :: zs) m3 else compL vs t mYes e (r.map g) (wipeM vs m1)) = _
    rw [ht]
    show (noX (mDat e m0)).bind (fun z m2 => (compL vs t mYes e (r.map g) (wipeM vs m2)).bind fun zs m3 => Res.ok (z :: zs) m3) = _
    have hd : mDat e m0 = .ok (f x) m1 := by unfold mDat; rw [he]; rfl
    rw [hd]
    show (compL vs t mYes e (r.map g) (wipeM vs m1)).bind _ = _
    rw [hw, ih]
    rfl
theorem book_text_at {fs : List Fx} {st : SrcSt} (hf : ∀ f ∈ fs, f.Ok) (hn : fs.length ≤ 5) : F_book_text [.dat (bookD fs)] st = .ok (sd (textL fs)) st := by
  refine r_def (n := 5) (b := m_book_text) (m := ⟨[some (.dat (bookD fs)), none, none, none, none], st⟩) (env := [some (.dat (bookD fs)), none, none, none, none]) rfl ?_
  refine (r_seq (m1 := ⟨[some (.dat (bookD fs)), none, none, none, none], st⟩) ?_).trans (r_ret ?_)
  · have hc : mCall F_check_book (mArgs [(mVar 0)]) ⟨[some (.dat (bookD fs)), none, none, none, none], st⟩ = .ok (.dat .none) ⟨[some (.dat (bookD fs)), none, none, none, none], st⟩ := r_call (xs := [.dat (bookD fs)]) (m1 := ⟨[some (.dat (bookD fs)), none, none, none, none], st⟩) rfl (check_book_at hf hn)
    show Res.bind (mCall F_check_book (mArgs [(mVar 0)]) ⟨[some (.dat (bookD fs)), none, none, none, none], st⟩) _ = _
    rw [hc]
    rfl
  · have hc : mComp [1, 2, 3, 4] (.tp [1, 2, 3, 4]) (mIt (mVar 0)) mYes (mJoined [(mFmt (mBor 1)), (mC "/"), (mFmt (mBor 2)), (mC ">"), (mFmt (mBor 3)), (mC "/"), (mFmt (mBor 4))]) ⟨[some (.dat (bookD fs)), none, none, none, none], st⟩ = .ok (fs.map fun f => dt (fxS f)) ⟨[some (.dat (bookD fs)), none, none, none, none], st⟩ := by
      refine r_comp (l := fs.map Fx.dat) (m1 := ⟨[some (.dat (bookD fs)), none, none, none, none], st⟩) rfl (by simp; omega) (comp_mapA (E := [some (.dat (bookD fs)), none, none, none, none]) Fx.dat (fun f => dt (fxS f)) fs fun f hm => ?_)
      have h := hf f hm
      have h1 := h.al; have h2 := h.ou; have h3 := h.nl; have h4 := h.bl
      refine ⟨⟨[some (.dat (bookD fs)), some (sd f.a), some (sd f.o), some (sd f.n), some (sd f.b)], st⟩, ⟨[some (.dat (bookD fs)), some (sd f.a), some (sd f.o), some (sd f.n), some (sd f.b)], st⟩, rfl, ?_, rfl⟩
      have hj : mJs [(mFmt (mBor 1)), (mC "/"), (mFmt (mBor 2)), (mC ">"), (mFmt (mBor 3)), (mC "/"), (mFmt (mBor 4))] (tx []) ⟨[some (.dat (bookD fs)), some (sd f.a), some (sd f.o), some (sd f.n), some (sd f.b)], st⟩ = .ok (tx (fxS f)) ⟨[some (.dat (bookD fs)), some (sd f.a), some (sd f.o), some (sd f.n), some (sd f.b)], st⟩ := by
        rw [lit_slash, lit_gt]
        rw [r_js (r_fmt rfl (by omega)) (by simp; omega), r_js (x := mC (tx [47])) (s := [47]) rfl (by simp; omega), r_js (r_fmt rfl (by omega)) (by simp; omega), r_js (x := mC (tx [62])) (s := [62]) rfl (by simp; omega), r_js (r_fmt rfl (by omega)) (by simp; omega), r_js (x := mC (tx [47])) (s := [47]) rfl (by simp; omega), r_js (r_fmt rfl (by omega)) (by simp; omega)]
        show Res.ok (tx _) _ = _
        congr 2
        simp [fxS]
      unfold mJoined
      rw [tx_empty]
      show Res.bind (mJs _ (tx []) _) _ = _
      rw [hj]
      rfl
    have hj := pJoin_tx (sep := [44, 32]) (ls := fs.map fxS) (text_tot hf hn)
    rw [List.map_map] at hj
    simp only [mOp, mStr, mDat, mC, mL, Res.bind_ok, hc, lit_cb]
    show (match pJoin (dt [44, 32]) (.list (fs.map (dt ∘ fxS))) with | some z => Res.ok (Sl.dat z) _ | none => Res.bad) = _
    rw [hj]
    rfl
end PL.RF
namespace PL.RF
open PySem PySem.Spec PyProof.Rows L2
/-! ### draws -/
def Gd (b : Nat) (st : SrcSt) : Prop := st.1 ≠ [] ∧ st.1.length ≤ 63 ∧ 0 ≤ st.2 ∧ st.2 ≤ (b : Int)
theorem Gd.le {a b : Nat} {st : SrcSt} (h : Gd a st) (hab : a ≤ b) : Gd b st := ⟨h.1, h.2.1, h.2.2.1, by have := h.2.2.2; omega⟩
theorem draw_at {b : Nat} {st : SrcSt} {lim : Int} (h : Gd b st) (hb : b ≤ 1000000) (h0 : 0 < lim) (h1 : lim < 2 ^ 30) : ∃ (r : Nat) (st' : SrcSt), drawF [.src, .dat (.int lim)] st = .ok (sn r) st' ∧ (r : Int) < lim ∧ Gd (b + 1) st' := by
  obtain ⟨a1, a2, a3, a4⟩ := h
  have hs : SrcIn st := ⟨a1, by omega, a3, by omega⟩
  show ∃ (r : Nat) (st' : SrcSt), (if SrcIn st ∧ 0 < lim ∧ lim < 2 ^ 30 then _ else CRes.bad) = _ ∧ _
  rw [if_pos ⟨hs, h0, h1⟩]
  have hn : ∀ x : Int, 0 ≤ x % lim := fun x => Int.emod_nonneg _ (by omega)
  have hk : ∀ (x : Int) (s' : SrcSt), CRes.ok (.dat (.int (x % lim))) s' = .ok (sn (x % lim).toNat) s' := fun x s' => by
    show _ = CRes.ok (.dat (.int (((x % lim).toNat : Nat) : Int))) s'
    rw [Int.toNat_of_nonneg (hn x)]
  have hlt : ∀ x : Int, (((x % lim).toNat : Nat) : Int) < lim := fun x => by
    rw [Int.toNat_of_nonneg (hn x)]
    exact Int.emod_lt_of_pos _ h0
  split
  · refine ⟨_, _, hk _ _, hlt _, fun z => a1 ?_, by rw [List.length_set]; exact a2, by show 0 ≤ st.2 + 1; omega, by show st.2 + 1 ≤ _; push_cast; omega⟩
    have := congrArg List.length z
    rw [List.length_set] at this
    exact List.eq_nil_of_length_eq_zero this
  · exact ⟨_, _, hk _ _, hlt _, a1, a2, by show 0 ≤ st.2 + 1; omega, by show st.2 + 1 ≤ _; push_cast; omega⟩
theorem pick_list {b : Nat} {st : SrcSt} {ds : List PyData} (h : Gd b st) (hb : b ≤ 1000000) (h0 : ds ≠ []) (h1 : ds.length ≤ 1000) : ∃ (d : PyData) (st' : SrcSt), F__law_pick [.src, .dat (.list ds)] st = .ok (.dat d) st' ∧ d ∈ ds ∧ Gd (b + 1) st' := by
  have hp : 0 < ds.length := List.length_pos_iff.2 h0
  obtain ⟨r, st', e, hr, g⟩ := draw_at (lim := (ds.length : Int)) h hb (by omega) (by omega)
  have hr' : r < ds.length := by omega
  refine ⟨ds[r], st', ?_, List.getElem_mem _, g⟩
  refine r_def (n := 2) (b := m__law_pick) (m := ⟨[some .src, some (.dat (.list ds))], st'⟩) (env := [some .src, some (.dat (.list ds))]) rfl (r_ret ?_)
  have hc : mCall F__law_draw (mArgs [(mVar 0), (mCal fLen (mBs [(mBor 1)]))]) ⟨[some .src, some (.dat (.list ds))], st⟩ = .ok (sn r) ⟨[some .src, some (.dat (.list ds))], st'⟩ :=
    r_call (xs := [.src, .dat (.int ds.length)]) (m1 := ⟨[some .src, some (.dat (.list ds))], st⟩) rfl e
  have hx : pIx (.list ds) (nd r) = some ds[r] := atI_nat' (List.getElem?_eq_getElem hr')
  simp only [mOp, mBor, mDat, e1, Res.bind_ok, hc, hx]
theorem pick_str {b : Nat} {st : SrcSt} {l : List Nat} (h : Gd b st) (hb : b ≤ 1000000) (h0 : l ≠ []) (h1 : l.length ≤ 1000) : ∃ (c : Nat) (st' : SrcSt), F__law_pick [.src, sd l] st = .ok (sd [c]) st' ∧ c ∈ l ∧ Gd (b + 1) st' := by
  have hp : 0 < l.length := List.length_pos_iff.2 h0
  obtain ⟨r, st', e, hr, g⟩ := draw_at (lim := (l.length : Int)) h hb (by omega) (by omega)
  have hr' : r < l.length := by omega
  refine ⟨l[r], st', ?_, List.getElem_mem _, g⟩
  refine r_def (n := 2) (b := m__law_pick) (m := ⟨[some .src, some (sd l)], st'⟩) (env := [some .src, some (sd l)]) rfl (r_ret ?_)
  have hl := fLen_tx (l := l) (by omega)
  have hc : mCall F__law_draw (mArgs [(mVar 0), (mCal fLen (mBs [(mBor 1)]))]) ⟨[some .src, some (sd l)], st⟩ = .ok (sn r) ⟨[some .src, some (sd l)], st'⟩ := by
    refine r_call (xs := [.src, .dat (.int l.length)]) (m1 := ⟨[some .src, some (sd l)], st⟩) ?_ e
    simp only [mArgs, mVar, mCal, mBs, mBor, e0, e1, Res.bind_ok, hl]
  have hx : pIx (dt l) (nd r) = some (dt [l[r]]) := pIx_tx (List.getElem?_eq_getElem hr') (by omega)
  simp only [mOp, mBor, mDat, e1, Res.bind_ok, hc, hx]
theorem comp_draw (L : Nat) {i : Nat} {e : M Sl} {E : List (Option Sl)} {P : PyData → Prop} {B : Nat} (hi : i < E.length) (hE : ∀ d, (E.set i (some (.dat d))).set i none = E)
    (hs : ∀ (d : PyData) (st : SrcSt) (b : Nat), Gd b st → b ≤ L → ∃ (z : PyData) (st' : SrcSt), e ⟨E.set i (some (.dat d)), st⟩ = .ok (.dat z) ⟨E.set i (some (.dat d)), st'⟩ ∧ P z ∧ Gd (b + B) st') :
    ∀ (items : List PyData) (st : SrcSt) (b : Nat), Gd b st → b + B * items.length ≤ L → ∃ (zs : List PyData) (st' : SrcSt), compL [i] (.nm i) mYes e items ⟨E, st⟩ = .ok zs ⟨E, st'⟩ ∧ zs.length = items.length ∧ (∀ z ∈ zs, P z) ∧ Gd (b + B * items.length) st'
  | [], st, b, g, _ => ⟨[], st, rfl, rfl, (fun _ h => nomatch h), g⟩
  | d :: r, st, b, g, hb => by
    simp only [List.length_cons, Nat.mul_add, Nat.mul_one] at hb ⊢
    obtain ⟨z, st1, he, hp, g1⟩ := hs d st b g (by omega)
    obtain ⟨zs, st2, hc, hl, hz, g2⟩ := comp_draw L hi hE hs r st1 (b + B) g1 (by omega)
    refine ⟨z :: zs, st2, ?_, by simp [hl], ?_, g2.le (by omega)⟩
    · show (match (if i < E.length then some (⟨E.set i (some (.dat d)), st⟩ : Me) else none) with | none => Res.bad | some m0 => (noX (mYes m0)).bind fun b m1 => if b = true then (noX (mDat e m1)).bind fun z m2 => (compL [i] (.nm i) mYes e r (wipeM [i] m2)).bind fun zs m3 => .ok (z :: zs) m3 else compL [i] (.nm i) mYes e r (wipeM [i] m1)) = _
      rw [if_pos hi]
      show (noX (mDat e ⟨E.set i (some (.dat d)), st⟩)).bind (fun z m2 => (compL [i] (.nm i) mYes e r (wipeM [i] m2)).bind fun zs m3 => Res.ok (z :: zs) m3) = _
      have hd : mDat e ⟨E.set i (some (.dat d)), st⟩ = .ok z ⟨E.set i (some (.dat d)), st1⟩ := by unfold mDat; rw [he]; rfl
      rw [hd]
      show (compL [i] (.nm i) mYes e r ⟨(E.set i (some (.dat d))).set i none, st1⟩).bind _ = _
      rw [hE, hc]
      rfl
    · intro y hy
      rcases List.mem_cons.1 hy with rfl | hy
      · exact hp
      · exact hz y hy
theorem unmap {α : Type} (P : α → Prop) (g : α → PyData) : ∀ {zs : List PyData}, (∀ z ∈ zs, ∃ x, P x ∧ z = g x) → ∃ xs : List α, zs = xs.map g ∧ ∀ x ∈ xs, P x
  | [], _ => ⟨[], rfl, (fun _ h => nomatch h)⟩
  | z :: zs, h => by
    obtain ⟨x, hx, rfl⟩ := h z List.mem_cons_self
    obtain ⟨xs, rfl, hp⟩ := unmap P g (fun y hy => h y (List.mem_cons_of_mem _ hy))
    refine ⟨x :: xs, rfl, fun y hy => ?_⟩
    rcases List.mem_cons.1 hy with rfl | hy
    · exact hx
    · exact hp y hy
theorem r_an {m : Me} : mArgs [] m = .ok [] m := rfl
theorem r_ac {a : M Sl} {r : List (M Sl)} {m m1 m2 : Me} {x : Sl} {xs : List Sl} (h : a m = .ok x m1) (h2 : mArgs r m1 = .ok xs m2) : mArgs (a :: r) m = .ok (x :: xs) m2 := by
  show (a m).bind (fun x m1 => (mArgs r m1).bind fun xs m2 => Res.ok (x :: xs) m2) = _
  rw [h]
  show (mArgs r m1).bind (fun xs m2 => Res.ok (x :: xs) m2) = _
  rw [h2]
  rfl
theorem r_bn {m : Me} : mBs [] m = .ok [] m := rfl
theorem r_bc {a : M PyData} {r : List (M PyData)} {m m1 m2 : Me} {x : PyData} {xs : List PyData} (h : a m = .ok x m1) (h2 : mBs r m1 = .ok xs m2) : mBs (a :: r) m = .ok (x :: xs) m2 := by
  show (a m).bind (fun x m1 => (mBs r m1).bind fun xs m2 => Res.ok (x :: xs) m2) = _
  rw [h]
  show (mBs r m1).bind (fun xs m2 => Res.ok (x :: xs) m2) = _
  rw [h2]
  rfl
theorem r_dat {a : M Sl} {m m1 : Me} {d : PyData} (h : a m = .ok (.dat d) m1) : mDat a m = .ok d m1 := by unfold mDat; rw [h]; rfl
theorem r_op {f : PyData → PyData → Option PyData} {a b : M PyData} {m m1 m2 : Me} {x y z : PyData} (h : a m = .ok x m1) (h2 : b m1 = .ok y m2) (hf : f x y = some z) : mOp f a b m = .ok (.dat z) m2 := by
  unfold mOp; rw [h]
  show (b m1).bind _ = _
  rw [h2]
  show (match f x y with | some z => Res.ok (Sl.dat z) m2 | none => .bad) = _
  rw [hf]
theorem r_cal {f : List PyData → Option PyData} {a : M (List PyData)} {m m1 : Me} {ds : List PyData} {z : PyData} (h : a m = .ok ds m1) (hf : f ds = some z) : mCal f a m = .ok (.dat z) m1 := by
  unfold mCal; rw [h]
  show (match f ds with | some z => Res.ok (Sl.dat z) m1 | none => .bad) = _
  rw [hf]
theorem r_L {a : M (List PyData)} {m m1 : Me} {l : List PyData} (h : a m = .ok l m1) : mL a m = .ok (.dat (.list l)) m1 := by unfold mL; rw [h]; rfl
theorem r_lst {a : M (List Sl)} {m m1 : Me} {xs : List Sl} {ds : List PyData} (h : a m = .ok xs m1) (hd : datsOf xs = some ds) (hl : ds.length ≤ 1000) : mLst a m = .ok ds m1 := by
  unfold mLst; rw [h]
  show (match datsOf xs with | some ds => if ds.length ≤ sizeLine then Res.ok ds m1 else .bad | none => .bad) = _
  rw [hd]
  show (if ds.length ≤ sizeLine then Res.ok ds m1 else .bad) = _
  rw [if_pos (by rw [sl_eq]; omega)]
theorem r_tup {a : M (List Sl)} {m m1 : Me} {xs : List Sl} {ds : List PyData} (h : a m = .ok xs m1) (hd : datsOf xs = some ds) (hl : ds.length ≤ 1000) : mTup a m = .ok (.dat (.tuple ds)) m1 := by
  unfold mTup; rw [h]
  show (match datsOf xs with | some ds => if ds.length ≤ sizeLine then Res.ok (Sl.dat (.tuple ds)) m1 else .bad | none => .bad) = _
  rw [hd]
  show (if ds.length ≤ sizeLine then Res.ok (Sl.dat (.tuple ds)) m1 else .bad) = _
  rw [if_pos (by rw [sl_eq]; omega)]
theorem r_str {a : M PyData} {m m1 : Me} {s : Str} (h : a m = .ok (.str s) m1) : mStr a m = .ok (.str s) m1 := by unfold mStr; rw [h]; rfl
theorem rng_int {m m1 : Me} {a : M (List PyData)} {i : Int} (h : a m = .ok [.int i] m1) (h1 : -(2 ^ 62) ≤ i ∧ i < 2 ^ 62) : mRng1 a m = .ok (rngD 0 i.toNat) m1 := by
  unfold mRng1; rw [h]
  show (if -(2 ^ 62) ≤ i ∧ i < 2 ^ 62 then Res.ok (rngD 0 i.toNat) m1 else .bad) = _
  rw [if_pos h1]
theorem rng_lo (n : Nat) : -(2 ^ 62) ≤ (n : Int) := Int.le_trans (b := 0) (by decide) (Int.natCast_nonneg n)
theorem rng_hi {n : Nat} (hn : n ≤ 100000) : (n : Int) < 2 ^ 62 := Int.lt_of_le_of_lt (b := 100000) (by omega) (by decide)
theorem rng_at {m m1 : Me} {a : M (List PyData)} {n : Nat} (h : a m = .ok [nd n] m1) (hn : n ≤ 100000) : mRng1 a m = .ok (rngD 0 n) m1 := by
  have := rng_int h ⟨rng_lo n, rng_hi hn⟩
  rw [Int.toNat_natCast] at this
  exact this
theorem rng_len (n : Nat) : (rngD 0 n).length = n := by simp [rngD]
theorem flat_ones : ∀ cs : List Nat, (cs.map fun c => [c]).flatten = cs
  | [] => rfl
  | c :: cs => by rw [List.map_cons, List.flatten_cons, flat_ones cs]; rfl
theorem word_drawn {b lo hi : Nat} {st : SrcSt} {al : List Nat} (h : Gd b st) (hb : b ≤ 800000) (h0 : al ≠ []) (h1 : al.length ≤ 1000) (hw : isW al) (hlo : lo ≤ hi) (hhi : hi ≤ 3) :
    ∃ (w : List Nat) (st' : SrcSt), F__law_word [.src, sd al, sn lo, sn hi] st = .ok (sd w) st' ∧ isW w ∧ lo ≤ w.length ∧ w.length ≤ hi ∧ Gd (b + 4) st' := by
  obtain ⟨r, st1, e, hr, g⟩ := draw_at (lim := ((hi : Int) - lo + 1)) h (by omega) (by omega) (by omega)
  have hr' : lo + r ≤ hi := by omega
  obtain ⟨zs, st2, hc, hl, hz, g2⟩ := comp_draw 900000 (i := 4) (e := mCall F__law_pick (mArgs [(mVar 0), (mVar 1)])) (E := [some .src, some (sd al), some (sn lo), some (sn hi), none]) (P := fun z => ∃ c, isL c = true ∧ z = dt [c]) (B := 1) (by simp) (fun d => rfl) (fun d st b g hb => by
    obtain ⟨c, st', e, hc, g'⟩ := pick_str g (by omega) h0 h1
    exact ⟨dt [c], st', r_call (xs := [.src, sd al]) (m1 := ⟨[some .src, some (sd al), some (sn lo), some (sn hi), some (.dat d)], st⟩) rfl e, ⟨c, hw c hc, rfl⟩, g'⟩) (rngD 0 (lo + r)) st1 (b + 1) g (by rw [rng_len]; omega)
  obtain ⟨cs, rfl, hcs⟩ := unmap (fun c => isL c = true) (fun c => dt [c]) hz
  rw [List.length_map, rng_len] at hl
  rw [rng_len] at g2
  refine ⟨cs, st2, ?_, hcs, by omega, by omega, g2.le (by omega)⟩
  refine r_def (n := 5) (b := m__law_word) (m := ⟨[some .src, some (sd al), some (sn lo), some (sn hi), none], st2⟩) (env := [some .src, some (sd al), some (sn lo), some (sn hi), none]) rfl (r_ret ?_)
  have hd : mCall F__law_draw (mArgs [(mVar 0), (mOp pAdd (mDat (mOp pSub (mBor 3) (mBor 2))) (mDat (mC (.dat (.int 1)))))]) ⟨[some .src, some (sd al), some (sn lo), some (sn hi), none], st⟩ = .ok (sn r) ⟨[some .src, some (sd al), some (sn lo), some (sn hi), none], st1⟩ :=
    r_call (xs := [.src, .dat (.int ((hi : Int) - lo + 1))]) (m1 := ⟨[some .src, some (sd al), some (sn lo), some (sn hi), none], st⟩) rfl e
  have ha : pAdd (nd lo) (nd r) = some (nd (lo + r)) := by show some (PyData.int ((lo : Int) + (r : Int))) = some (PyData.int ((lo + r : Nat) : Int)); push_cast; rfl
  have hm : mComp [4] (.nm 4) (mRng1 (mBs [(mDat (mOp pAdd (mBor 2) (mDat (mCall F__law_draw (mArgs [(mVar 0), (mOp pAdd (mDat (mOp pSub (mBor 3) (mBor 2))) (mDat (mC (.dat (.int 1)))))])))))])) mYes (mCall F__law_pick (mArgs [(mVar 0), (mVar 1)])) ⟨[some .src, some (sd al), some (sn lo), some (sn hi), none], st⟩ = .ok (cs.map fun c => dt [c]) ⟨[some .src, some (sd al), some (sn lo), some (sn hi), none], st2⟩ := by
    refine r_comp (l := rngD 0 (lo + r)) (m1 := ⟨[some .src, some (sd al), some (sn lo), some (sn hi), none], st1⟩) (rng_at ?_ (by omega)) (by rw [rng_len]; omega) hc
    have hb2 : mBor 2 ⟨[some .src, some (sd al), some (sn lo), some (sn hi), none], st⟩ = .ok (nd lo) ⟨[some .src, some (sd al), some (sn lo), some (sn hi), none], st⟩ := rfl
    show Res.bind (Res.bind (Res.bind (mBor 2 _) _) _) _ = _
    rw [hb2]
    show Res.bind (Res.bind (Res.bind (Res.bind (mCall F__law_draw _ _) _) _) _) _ = _
    rw [hd]
    show Res.bind (Res.bind (match pAdd (nd lo) (nd r) with | some z => Res.ok (Sl.dat z) _ | none => Res.bad) _) _ = _
    rw [ha]
    rfl
  have hj := pJoin_tx (sep := []) (ls := cs.map fun c => [c]) (by have := tot_map (fun c : Nat => [c]) 1 (l := cs) (fun _ _ => Nat.le_refl _); simp only [List.length_map, List.length_nil]; omega)
  rw [List.map_map, joinL_nil, flat_ones] at hj
  simp only [mOp, mStr, mDat, mC, mL, Res.bind_ok, hm, lit_nil]
  show (match pJoin (dt []) (.list (cs.map (dt ∘ fun c => [c]))) with | some z => Res.ok (Sl.dat z) _ | none => Res.bad) = _
  rw [hj]
theorem side_drawn {b : Nat} {st : SrcSt} {al : List Nat} {x y z : Option Sl} {E : List (Option Sl)} (hE0 : E[0]? = some (some .src)) (hE1 : E[1]? = some (some (sd al))) (h : Gd b st) (hb : b ≤ 800000) (h0 : al ≠ []) (h1 : al.length ≤ 1000) (hw : isW al) :
    ∃ (w : List Nat) (st' : SrcSt), mCall F__law_pick (mArgs [(mVar 0), (mL (mLst (mArgs [(mC (.dat (.str ""))), (mC (.dat (.str ""))), (mC (.dat (.str ""))), (mCall F__law_pick (mArgs [(mVar 0), (mVar 1)]))])))]) ⟨E, st⟩ = .ok (sd w) ⟨E, st'⟩ ∧ isW w ∧ w.length ≤ 1 ∧ Gd (b + 2) st' := by
  obtain ⟨c, st1, e, hc, g⟩ := pick_str h (by omega) h0 h1
  obtain ⟨d, st2, e2, hd, g2⟩ := pick_list (ds := [dt [], dt [], dt [], dt [c]]) g (by omega) (by simp) (by simp)
  have hv0 : ∀ st, mVar 0 ⟨E, st⟩ = .ok .src ⟨E, st⟩ := fun st => by unfold mVar; show (match E[0]? with | some (some (.own l)) => _ | some (some s) => Res.ok s ⟨E, st⟩ | _ => .bad) = _; rw [hE0]
  have hv1 : ∀ st, mVar 1 ⟨E, st⟩ = .ok (sd al) ⟨E, st⟩ := fun st => by unfold mVar; show (match E[1]? with | some (some (.own l)) => _ | some (some s) => Res.ok s ⟨E, st⟩ | _ => .bad) = _; rw [hE1]
  have hp : mCall F__law_pick (mArgs [(mVar 0), (mVar 1)]) ⟨E, st⟩ = .ok (sd [c]) ⟨E, st1⟩ := by
    refine r_call (xs := [.src, sd al]) (m1 := ⟨E, st⟩) ?_ e
    simp only [mArgs, hv0, hv1, Res.bind_ok]
  have hw' : ∃ w, d = dt w ∧ isW w ∧ w.length ≤ 1 := by
    simp only [List.mem_cons, List.not_mem_nil, or_false] at hd
    rcases hd with rfl | rfl | rfl | rfl
    · exact ⟨[], rfl, (fun _ h => nomatch h), by simp⟩
    · exact ⟨[], rfl, (fun _ h => nomatch h), by simp⟩
    · exact ⟨[], rfl, (fun _ h => nomatch h), by simp⟩
    · exact ⟨[c], rfl, fun x hx => by rw [List.mem_singleton.1 hx]; exact hw c hc, by simp⟩
  obtain ⟨w, rfl, ww, wl⟩ := hw'
  refine ⟨w, st2, ?_, ww, wl, g2.le (by omega)⟩
  refine r_call (xs := [.src, .dat (.list [dt [], dt [], dt [], dt [c]])]) (m1 := ⟨E, st1⟩) ?_ e2
  rw [lit_nil]
  exact r_ac (hv0 st) (r_ac (r_L (r_lst (r_ac rfl (r_ac rfl (r_ac rfl (r_ac hp r_an)))) rfl (by simp))) r_an)
theorem fix_drawn {b : Nat} {st : SrcSt} {al : List Nat} (h : Gd b st) (hb : b ≤ 700000) (h0 : al ≠ []) (h1 : al.length ≤ 1000) (hw : isW al) : ∃ (f : Fx) (st' : SrcSt), F__law_fix [.src, sd al] st = .ok (.dat f.dat) st' ∧ f.Ok ∧ Gd (b + 12) st' := by
  obtain ⟨a, s1, x1, wa, la, g1⟩ := side_drawn (x := none) (y := none) (z := none) (E := [some .src, some (sd al), none, none]) rfl rfl h (by omega) h0 h1 hw
  obtain ⟨c, s2, x2, wc, lc, g2⟩ := side_drawn (x := none) (y := none) (z := none) (E := [some .src, some (sd al), some (sd a), none]) rfl rfl g1 (by omega) h0 h1 hw
  obtain ⟨o, s3, x3, wo, lo1, lo2, g3⟩ := word_drawn (lo := 1) (hi := 3) g2 (by omega) h0 h1 hw (by omega) (by omega)
  obtain ⟨n, s4, x4, wn, ln1, ln2, g4⟩ := word_drawn (lo := 0) (hi := 3) g3 (by omega) h0 h1 hw (by omega) (by omega)
  refine ⟨⟨a, o, n, c⟩, s4, ?_, ⟨wa, wo, wn, wc, la, lo1, lo2, ln2, lc⟩, g4.le (by omega)⟩
  refine r_def (n := 4) (b := m__law_fix) (m := ⟨[some .src, some (sd al), some (sd a), some (sd c)], s4⟩) (env := [some .src, some (sd al), none, none]) rfl ?_
  refine (r_seq (r_set (i := 2) (d := dt a) x1 (by simp))).trans ?_
  refine (r_seq (r_set (i := 3) (d := dt c) x2 (by simp))).trans (r_ret ?_)
  have y3 : mCall F__law_word (mArgs [(mVar 0), (mVar 1), (mC (.dat (.int 1))), (mC (.dat (.int 3)))]) ⟨[some .src, some (sd al), some (sd a), some (sd c)], s2⟩ = .ok (sd o) ⟨[some .src, some (sd al), some (sd a), some (sd c)], s3⟩ :=
    r_call (xs := [.src, sd al, sn 1, sn 3]) (m1 := ⟨[some .src, some (sd al), some (sd a), some (sd c)], s2⟩) rfl x3
  have y4 : mCall F__law_word (mArgs [(mVar 0), (mVar 1), (mC (.dat (.int 0))), (mC (.dat (.int 3)))]) ⟨[some .src, some (sd al), some (sd a), some (sd c)], s3⟩ = .ok (sd n) ⟨[some .src, some (sd al), some (sd a), some (sd c)], s4⟩ :=
    r_call (xs := [.src, sd al, sn 0, sn 3]) (m1 := ⟨[some .src, some (sd al), some (sd a), some (sd c)], s3⟩) rfl x4
  exact r_tup (r_ac (a := mVar 2) rfl (r_ac y3 (r_ac y4 (r_ac (a := mVar 3) rfl r_an)))) rfl (by simp)
theorem book_drawn {b : Nat} {st : SrcSt} {al : List Nat} (h : Gd b st) (hb : b ≤ 600000) (h0 : al ≠ []) (h1 : al.length ≤ 1000) (hw : isW al) : ∃ (fs : List Fx) (st' : SrcSt), F__law_book [.src, sd al, sn 5] st = .ok (.dat (bookD fs)) st' ∧ (∀ f ∈ fs, f.Ok) ∧ fs.length ≤ 5 ∧ Gd (b + 61) st' := by
  obtain ⟨r, st1, e, hr, g⟩ := draw_at (lim := (6 : Int)) h (by omega) (by omega) (by omega)
  have hr' : r ≤ 5 := by omega
  obtain ⟨zs, st2, hc, hl, hz, g2⟩ := comp_draw 700000 (i := 3) (e := mCall F__law_fix (mArgs [(mVar 0), (mVar 1)])) (E := [some .src, some (sd al), some (sn 5), none]) (P := fun z => ∃ f : Fx, f.Ok ∧ z = f.dat) (B := 12) (by simp) (fun d => rfl) (fun d st b g hb => by
    obtain ⟨f, st', e, hf, g'⟩ := fix_drawn g (by omega) h0 h1 hw
    exact ⟨f.dat, st', r_call (xs := [.src, sd al]) (m1 := ⟨[some .src, some (sd al), some (sn 5), some (.dat d)], st⟩) rfl e, ⟨f, hf, rfl⟩, g'⟩) (rngD 0 r) st1 (b + 1) g (by rw [rng_len]; omega)
  obtain ⟨fs, rfl, hfs⟩ := unmap Fx.Ok Fx.dat hz
  rw [List.length_map, rng_len] at hl
  rw [rng_len] at g2
  refine ⟨fs, st2, ?_, hfs, by omega, g2.le (by omega)⟩
  refine r_def (n := 4) (b := m__law_book) (m := ⟨[some .src, some (sd al), some (sn 5), none], st2⟩) (env := [some .src, some (sd al), some (sn 5), none]) rfl (r_ret ?_)
  have hd : mCall F__law_draw (mArgs [(mVar 0), (mOp pAdd (mBor 2) (mDat (mC (.dat (.int 1)))))]) ⟨[some .src, some (sd al), some (sn 5), none], st⟩ = .ok (sn r) ⟨[some .src, some (sd al), some (sn 5), none], st1⟩ :=
    r_call (xs := [.src, .dat (.int 6)]) (m1 := ⟨[some .src, some (sd al), some (sn 5), none], st⟩) rfl e
  have hm : mComp [3] (.nm 3) (mRng1 (mBs [(mDat (mCall F__law_draw (mArgs [(mVar 0), (mOp pAdd (mBor 2) (mDat (mC (.dat (.int 1)))))])))])) mYes (mCall F__law_fix (mArgs [(mVar 0), (mVar 1)])) ⟨[some .src, some (sd al), some (sn 5), none], st⟩ = .ok (fs.map Fx.dat) ⟨[some .src, some (sd al), some (sn 5), none], st2⟩ := by
    refine r_comp (l := rngD 0 r) (m1 := ⟨[some .src, some (sd al), some (sn 5), none], st1⟩) (rng_at ?_ (by omega)) (by rw [rng_len]; omega) hc
    show Res.bind (Res.bind (mCall F__law_draw _ _) _) _ = _
    rw [hd]
    rfl
  exact r_cal (r_bc (r_dat (r_L hm)) r_bn) rfl
end PL.RF
namespace PL.RF
open PySem PySem.Spec PyProof.Rows L2
/-! ### a text's reading, on what is left of it -/
def dk (s : List Nat) : List Nat := s.dropWhile (· == 32)
def nk (s : List Nat) : Nat := (s.takeWhile (· == 32)).length
def wd (s : List Nat) : List Nat := (dk s).takeWhile isL
def af (s : List Nat) : List Nat := dk ((dk s).dropWhile isL)
theorem bl_take (s : List Nat) : s.takeWhile (· == 32) = bl (nk s) := by
  induction s with
  | nil => rfl
  | cons c s ih =>
    unfold nk
    by_cases h : (c == 32) = true
    · rw [List.takeWhile_cons_of_pos (p := (· == 32)) h]
      have : c = 32 := by simpa using h
      subst this
      rw [ih]
      simp [bl, List.replicate_succ, nk]
    · rw [List.takeWhile_cons_of_neg (p := (· == 32)) h]; rfl
theorem dk_split (s : List Nat) : s = bl (nk s) ++ dk s := by
  have := (List.takeWhile_append_dropWhile (p := (· == 32)) (l := s)).symm
  rw [bl_take] at this
  exact this
theorem dw_stops (p : Nat → Bool) : ∀ s : List Nat, stops p (s.dropWhile p)
  | [] => fun c r e => by cases e
  | c :: s => by
    by_cases h : p c = true
    · rw [List.dropWhile_cons_of_pos h]; exact dw_stops p s
    · rw [List.dropWhile_cons_of_neg h]
      intro d r e
      cases e
      simpa using h
theorem dk_stops (s : List Nat) : stops (· == 32) (dk s) := dw_stops _ s
theorem dk_of_stops {s : List Nat} (h : stops (· == 32) s) : dk s = s := by
  cases s with
  | nil => rfl
  | cons c r => unfold dk; exact List.dropWhile_cons_of_neg (p := (· == 32)) (by have := h c r rfl; simpa using this)
theorem dk_dk (s : List Nat) : dk (dk s) = dk s := dk_of_stops (dk_stops s)
theorem wd_dk (s : List Nat) : wd (dk s) = wd s := by unfold wd; rw [dk_dk]
theorem af_dk (s : List Nat) : af (dk s) = af s := by unfold af; rw [dk_dk]
theorem wd_w (s : List Nat) : isW (wd s) := by
  intro c hc
  unfold wd at hc
  generalize dk s = t at hc
  induction t with
  | nil => cases hc
  | cons d t ih =>
    by_cases h : isL d = true
    · rw [List.takeWhile_cons_of_pos h] at hc
      rcases List.mem_cons.1 hc with rfl | hc
      · exact h
      · exact ih hc
    · rw [List.takeWhile_cons_of_neg h] at hc
      cases hc
/-- what is left: blanks, a word, blanks, the rest -/
theorem wd_split (s : List Nat) : dk s = wd s ++ (bl (nk ((dk s).dropWhile isL)) ++ af s) := by
  have h1 := (List.takeWhile_append_dropWhile (p := isL) (l := dk s)).symm
  have h2 := dk_split ((dk s).dropWhile isL)
  unfold wd af
  rw [← h2]
  exact h1
theorem At.blanks {l : List Nat} {i : Nat} {s : List Nat} (h : At l i s) : At l (i + nk s) (dk s) := by
  have e := dk_split s
  rw [e] at h
  have := h.skip
  rw [bl_len] at this
  exact this
/-- skip_blanks -/
theorem blanks_at {l s : List Nat} {i : Nat} {st : SrcSt} (h : At l i s) (hl : l.length ≤ 100000) : ∃ q, At l q (dk s) ∧ F_skip_blanks [sd l, sn i] st = .ok (sn q) st := by
  refine ⟨_, h.blanks, ?_⟩
  obtain ⟨a, e, rfl⟩ := h
  exact skip_blanks_at (s := dk s) (by rw [e]; congr 1; exact dk_split s) (dk_stops s) hl
/-- the letters' loop, whatever follows -/
theorem letters_run {l a : List Nat} {t : List Nat} {x y : Option Sl} {st : SrcSt} (e : l = a ++ t) (hl : l.length ≤ 100000) : whileN cWd bWd 1000000 ⟨[some (sd l), x, y, some (sn a.length)], st⟩ = .ok .next ⟨[some (sd l), x, y, some (sn (a.length + (t.takeWhile isL).length))], st⟩ := by
  have h : t = t.takeWhile isL ++ t.dropWhile isL := (List.takeWhile_append_dropWhile (p := isL) (l := t)).symm
  have hw : ∀ c ∈ t.takeWhile isL, isL c = true := by
    clear e h hl
    induction t with
    | nil => intro c hc; cases hc
    | cons d t ih =>
      intro c hc
      by_cases h : isL d = true
      · rw [List.takeWhile_cons_of_pos h] at hc
        rcases List.mem_cons.1 hc with rfl | hc
        · exact h
        · exact ih c hc
      · rw [List.takeWhile_cons_of_neg h] at hc
        cases hc
  have hlen : (t.takeWhile isL).length ≤ t.length := by
    have := congrArg List.length h
    rw [List.length_append] at this
    omega
  have e2 : l = a ++ (t.takeWhile isL ++ t.dropWhile isL) := by rw [e, ← h]
  have hl2 : a.length + t.length ≤ 100000 := by rw [e, List.length_append] at hl; exact hl
  have := wd_run (x := x) (y := y) (st := st) (dw_stops isL t) (t.takeWhile isL) 1000000 a hw (by omega) (by rw [← e2]; exact hl)
  rw [← e2] at this
  exact this
theorem word_any {l s : List Nat} {i : Nat} {st : SrcSt} (h : At l i s) (hl : l.length ≤ 100000) : ∃ q, At l q (af s) ∧ F_read_word [sd l, sn i] st = .ok (.dat (.tuple [dt (wd s), nd q])) st := by
  obtain ⟨b, hb, eb⟩ := blanks_at (st := st) h hl
  have hm : At l (b + (wd s).length) ((dk s).dropWhile isL) := by
    have e := (List.takeWhile_append_dropWhile (p := isL) (l := dk s)).symm
    rw [e] at hb
    exact hb.skip
  obtain ⟨q, hq, eq⟩ := blanks_at (st := st) hm hl
  refine ⟨q, hq, ?_⟩
  obtain ⟨a, ea, hba⟩ := hb
  have hrun := letters_run (x := some (sn i)) (y := some (sn b)) (st := st) ea hl
  rw [← hba] at hrun
  have hcut : pCut (dt l) (some ((b : Nat) : Int)) (some ((b + (wd s).length : Nat) : Int)) = some (dt (wd s)) := by
    have hlb : b + (wd s).length ≤ l.length := by have := hm.end; omega
    show (if (tx l).length ≤ sizeLine then some (PyData.str (cutS (tx l) (some ((b : Nat) : Int)) (some ((b + (wd s).length : Nat) : Int)))) else none) = _
    rw [if_pos (by rw [tx_len, sl_eq]; omega), tx_cut _ _ _ (by omega) hlb, show b + (wd s).length - b = (wd s).length by omega]
    have e1 : l.drop b = dk s := by rw [ea, hba, List.drop_left]
    have e2 : (dk s).take (wd s).length = wd s := by
      have := wd_split s
      rw [this]
      exact List.take_left
    rw [e1, e2]
  refine r_def (n := 4) (b := m_read_word) (m := ⟨[some (sd l), some (sn i), some (sn b), some (sn (b + (wd s).length))], st⟩) (env := [some (sd l), some (sn i), none, none]) rfl ?_
  have hc1 : mCall F_skip_blanks (mArgs [(mVar 0), (mVar 1)]) ⟨[some (sd l), some (sn i), none, none], st⟩ = .ok (sn b) ⟨[some (sd l), some (sn i), none, none], st⟩ := r_call (xs := [sd l, sn i]) (m1 := ⟨[some (sd l), some (sn i), none, none], st⟩) rfl eb
  refine (r_seq (r_set (i := 2) hc1 (by simp))).trans ?_
  refine (r_seq (m1 := ⟨[some (sd l), some (sn i), some (sn b), some (sn b)], st⟩) rfl).trans ?_
  refine (r_seq hrun).trans (r_ret ?_)
  have hc2 : mCall F_skip_blanks (mArgs [(mVar 0), (mVar 3)]) ⟨[some (sd l), some (sn i), some (sn b), some (sn (b + (wd s).length))], st⟩ = .ok (sn q) ⟨[some (sd l), some (sn i), some (sn b), some (sn (b + (wd s).length))], st⟩ := r_call (xs := [sd l, sn (b + (wd s).length)]) (m1 := ⟨[some (sd l), some (sn i), some (sn b), some (sn (b + (wd s).length))], st⟩) rfl eq
  have hct : mCut (mBor 0) (some (mBor 2)) (some (mBor 3)) ⟨[some (sd l), some (sn i), some (sn b), some (sn (b + (wd s).length))], st⟩ = .ok (sd (wd s)) ⟨[some (sd l), some (sn i), some (sn b), some (sn (b + (wd s).length))], st⟩ := by
    simp only [mCut, mPart, mBor, e0, e2, e3, Res.bind_ok, hcut]
  exact r_tup (r_ac hct (r_ac hc2 r_an)) rfl (by simp)
/-! a wrong sign -/
theorem r_def_exc {n : Nat} {b : M Flow} {args : List Sl} {st : SrcSt} {env : List (Option Sl)} {x : Xn} {m : Me} (he : args.map some ++ List.replicate (n - args.length) none = env) (h : b ⟨env, st⟩ = .exc x m) : callOf n b args st = .exc x m.st := by
  unfold callOf; rw [he, h]
theorem r_call_exc {F : List Sl → SrcSt → CRes} {a : M (List Sl)} {m m1 : Me} {xs : List Sl} {x : Xn} {st' : SrcSt} (h : a m = .ok xs m1) (hf : F xs m1.st = .exc x st') : mCall F a m = .exc x { m1 with st := st' } := by
  unfold mCall; rw [h]
  show (match F xs m1.st with | .ok s st' => Res.ok s { m1 with st := st' } | .exc x st' => .exc x { m1 with st := st' } | .bad => .bad) = _
  rw [hf]
def badAt (i : Nat) : Xn := ⟨"InvalidText", [("at", nd i)]⟩
theorem sign_bad {l s : List Nat} {i c : Nat} {st : SrcSt} (h : At l i s) (hs : ∀ r, s ≠ c :: r) (hl : l.length ≤ 100000) : F_skip_sign [sd l, sn i, sd [c]] st = .exc (badAt i) st := by
  obtain ⟨a, e, rfl⟩ := h
  subst e
  refine r_def_exc (n := 3) (b := m_skip_sign) (m := ⟨[some (sd (a ++ s)), some (sn a.length), some (sd [c])], st⟩) (env := [some (sd (a ++ s)), some (sn a.length), some (sd [c])]) rfl ?_
  refine r_seq_exc ((r_if_t (m1 := ⟨[some (sd (a ++ s)), some (sn a.length), some (sd [c])], st⟩) ?_).trans rfl)
  cases s with
  | nil =>
    simp only [mOr, mTest, mOp, mBor, mDat, mCal, mBs, mC, e0, e1, e2, Res.bind_ok, fLen_tx hl, pEq_nd]
    simp
  | cons d r =>
    have hne : d ≠ c := fun z => hs r (by rw [z])
    simp only [mOr, mTest, mOp, mBor, mDat, mCal, mBs, mC, e0, e1, e2, Res.bind_ok, fLen_tx hl, pEq_nd, pIx_tx get_mid hl, pNot, pEq_tx]
    simp [hne]
end PL.RF
namespace PL.RF
open PySem PySem.Spec PyProof.Rows L2
/-! ### what a text says: words up to signs, fixes up to commas; an error is what is left where it goes wrong -/
def loopO : List Nat → List (List Nat) → List Nat → Except (List Nat) (List (List Nat) × List Nat)
  | [], ws, s => .ok (ws, s)
  | c :: cs, ws, s => if (af s).head? = some c then loopO cs (ws ++ [wd s]) (af s).tail else .error (af s)
def fixO (s : List Nat) : Except (List Nat) (List (List Nat) × List Nat) := match loopO [47, 62, 47] [] s with
  | .ok (ws, t) => .ok (ws ++ [wd t], af t)
  | .error t => .error t
def fsO : Nat → List (List (List Nat)) → List Nat → Except (List Nat) (List (List (List Nat)))
  | 0, _, t => .error t
  | n + 1, acc, t => if t = [] then .ok acc else if t.head? = some 44 then (match fixO t.tail with
      | .ok (f, u) => fsO n (acc ++ [f]) u
      | .error u => .error u) else .error t
theorem head_cons {t : List Nat} {c : Nat} (h : t.head? = some c) : t = c :: t.tail := by
  cases t with
  | nil => cases h
  | cons d r => cases h; rfl
theorem head_no {t : List Nat} {c : Nat} (h : ¬ t.head? = some c) : ∀ r, t ≠ c :: r := fun r e => h (by rw [e]; rfl)
theorem dk_len (s : List Nat) : (dk s).length ≤ s.length := by
  have := congrArg List.length (dk_split s)
  rw [List.length_append] at this
  omega
theorem af_len (s : List Nat) : (af s).length ≤ s.length := by
  have h1 := congrArg List.length (wd_split s)
  have h2 := dk_len s
  simp only [List.length_append] at h1
  omega
theorem af_tail {s : List Nat} {c : Nat} (h : (af s).head? = some c) : (af s).tail.length < s.length := by
  have h1 := congrArg List.length (head_cons h)
  have h2 := af_len s
  rw [List.length_cons] at h1
  omega
theorem loopO_len : ∀ (cs : List Nat) (ws : List (List Nat)) (s : List Nat) (ws2 : List (List Nat)) (s2 : List Nat), loopO cs ws s = .ok (ws2, s2) → s2.length ≤ s.length ∧ ws2.length = ws.length + cs.length ∧ ((∀ w ∈ ws, isW w) → ∀ w ∈ ws2, isW w)
  | [], ws, s, ws2, s2, h => by
    cases h
    exact ⟨Nat.le_refl _, rfl, fun k => k⟩
  | c :: cs, ws, s, ws2, s2, h => by
    unfold loopO at h
    split at h
    · rename_i hc
      obtain ⟨a, b, k⟩ := loopO_len cs _ _ _ _ h
      have := af_tail hc
      refine ⟨by omega, by rw [b]; simp; omega, fun q => k fun w hw => ?_⟩
      rcases List.mem_append.1 hw with hw | hw
      · exact q w hw
      · rw [List.mem_singleton.1 hw]; exact wd_w s
    · cases h
theorem fixO_len {s : List Nat} {f : List (List Nat)} {t : List Nat} (h : fixO s = .ok (f, t)) : t.length ≤ s.length ∧ f.length = 4 ∧ ∀ w ∈ f, isW w := by
  unfold fixO at h
  cases hl : loopO [47, 62, 47] [] s with
  | error u => rw [hl] at h; cases h
  | ok p =>
    obtain ⟨ws, u⟩ := p
    rw [hl] at h
    cases h
    obtain ⟨a, b, k⟩ := loopO_len _ _ _ _ _ hl
    have := af_len u
    refine ⟨by omega, by rw [List.length_append, b]; rfl, fun w hw => ?_⟩
    rcases List.mem_append.1 hw with hw | hw
    · exact k (fun _ z => nomatch z) w hw
    · rw [List.mem_singleton.1 hw]; exact wd_w u
/-! the program's readers say the same -/
theorem r_for_exc {t : Tg} {b : M Flow} {d : PyData} {r : List PyData} {m m0 m1 : Me} {x : Xn} (ht : mTgt t d m = some m0) (hb : b m0 = .exc x m1) : forL t b (d :: r) m = .exc x m1 := by
  show (match mTgt t d m with | none => Res.bad | some m0 => (b m0).bind _) = _
  rw [ht]
  show (b m0).bind _ = _
  rw [hb]
  rfl
theorem r_wh_exc {c : M Bool} {b : M Flow} {n : Nat} {m m1 m2 : Me} {x : Xn} (h : c m = .ok true m1) (hb : b m1 = .exc x m2) : whileN c b (n + 1) m = .exc x m2 := by
  show (c m).bind _ = _
  rw [h]
  show (if true = true then (b m1).bind _ else Res.ok Flow.next m1) = _
  rw [if_pos rfl, hb]
  rfl
theorem r_ac_exc {a : M Sl} {r : List (M Sl)} {m m1 : Me} {x : Xn} (h : a m = .exc x m1) : mArgs (a :: r) m = .exc x m1 := by
  show (a m).bind (fun x m1 => (mArgs r m1).bind fun xs m2 => Res.ok (x :: xs) m2) = _
  rw [h]
  rfl
theorem r_ac_exc2 {a : M Sl} {r : List (M Sl)} {m m1 m2 : Me} {s : Sl} {x : Xn} (h : a m = .ok s m1) (h2 : mArgs r m1 = .exc x m2) : mArgs (a :: r) m = .exc x m2 := by
  show (a m).bind (fun x m1 => (mArgs r m1).bind fun xs m2 => Res.ok (x :: xs) m2) = _
  rw [h]
  show (mArgs r m1).bind (fun xs m2 => Res.ok (s :: xs) m2) = _
  rw [h2]
  rfl
theorem r_call_exc2 {F : List Sl → SrcSt → CRes} {a : M (List Sl)} {m m1 : Me} {x : Xn} (h : a m = .exc x m1) : mCall F a m = .exc x m1 := by unfold mCall; rw [h]; rfl
theorem r_test {a : M Sl} {m m1 : Me} {b : Bool} (h : a m = .ok (.dat (.bool b)) m1) : mTest a m = .ok b m1 := by unfold mTest; rw [h]; rfl
theorem r_or_f {a b : M Bool} {m m1 : Me} (h : a m = .ok false m1) : mOr a b m = b m1 := by unfold mOr; rw [h]; rfl
theorem r_set_exc {i : Nat} {e : M Sl} {m m1 : Me} {x : Xn} (h : e m = .exc x m1) : mSet i e m = .exc x m1 := by unfold mSet; rw [h]; rfl
theorem r_asg_exc {t : Tg} {e : M Sl} {m m1 : Me} {x : Xn} (h : e m = .exc x m1) : mAsg t e m = .exc x m1 := by unfold mAsg mDat; rw [h]; rfl
theorem loop_any {l : List Nat} {st : SrcSt} (hl : l.length ≤ 100000) : ∀ (cs : List Nat) (ws : List (List Nat)) (s : List Nat) (i : Nat) (x y : Option Sl), At l i s → ws.length + cs.length ≤ 10 →
    match loopO cs ws s with
    | .ok (ws2, s2) => ∃ j x' y', At l j s2 ∧ forL (.nm 3) bFx (cs.map fun c => dt [c]) ⟨[some (sd l), some (sn i), some (.own (ws.map dt)), x, y], st⟩ = .ok .next ⟨[some (sd l), some (sn j), some (.own (ws2.map dt)), x', y'], st⟩
    | .error t => ∃ q m, At l q t ∧ m.st = st ∧ forL (.nm 3) bFx (cs.map fun c => dt [c]) ⟨[some (sd l), some (sn i), some (.own (ws.map dt)), x, y], st⟩ = .exc (badAt q) m
  | [], ws, s, i, x, y, h, _ => ⟨i, x, y, h, rfl⟩
  | c :: cs, ws, s, i, x, y, h, hn => by
    simp only [List.length_cons] at hn
    obtain ⟨q, hq, hw⟩ := word_any (st := st) h hl
    have s1 : mAsg (.tp [4, 1]) (mCall F_read_word (mArgs [(mVar 0), (mVar 1)])) ⟨[some (sd l), some (sn i), some (.own (ws.map dt)), some (sd [c]), y], st⟩ = .ok .next ⟨[some (sd l), some (sn q), some (.own (ws.map dt)), some (sd [c]), some (sd (wd s))], st⟩ :=
      r_asg (m1 := ⟨[some (sd l), some (sn i), some (.own (ws.map dt)), some (sd [c]), y], st⟩) (d := .tuple [dt (wd s), nd q]) (r_call (xs := [sd l, sn i]) (m1 := ⟨[some (sd l), some (sn i), some (.own (ws.map dt)), some (sd [c]), y], st⟩) rfl hw) rfl
    have s2 : mApp 2 (mVar 4) ⟨[some (sd l), some (sn q), some (.own (ws.map dt)), some (sd [c]), some (sd (wd s))], st⟩ = .ok .next ⟨[some (sd l), some (sn q), some (.own (ws.map dt ++ [dt (wd s)])), some (sd [c]), some (sd (wd s))], st⟩ :=
      r_app (i := 2) (env := [some (sd l), some (sn q), some (.own (ws.map dt)), some (sd [c]), some (sd (wd s))]) (st := st) (d := dt (wd s)) (l := ws.map dt) (l0 := ws.map dt) rfl rfl rfl (by rw [sl_eq, List.length_map]; omega)
    have hm : ws.map dt ++ [dt (wd s)] = (ws ++ [wd s]).map dt := by simp
    unfold loopO
    by_cases hc : (af s).head? = some c
    · rw [if_pos hc]
      have hq2 := hq
      rw [head_cons hc] at hq2
      have s3 : mSet 1 (mCall F_skip_sign (mArgs [(mVar 0), (mVar 1), (mVar 3)])) ⟨[some (sd l), some (sn q), some (.own (ws.map dt ++ [dt (wd s)])), some (sd [c]), some (sd (wd s))], st⟩ = .ok .next ⟨[some (sd l), some (sn (q + 1)), some (.own ((ws ++ [wd s]).map dt)), some (sd [c]), some (sd (wd s))], st⟩ := by
        rw [hm]
        exact r_set (i := 1) (env := [some (sd l), some (sn q), some (.own ((ws ++ [wd s]).map dt)), some (sd [c]), some (sd (wd s))]) (st := st) (d := nd (q + 1)) (r_call (xs := [sd l, sn q, sd [c]]) (m1 := ⟨[some (sd l), some (sn q), some (.own ((ws ++ [wd s]).map dt)), some (sd [c]), some (sd (wd s))], st⟩) rfl (sign_at hq2 hl)) (by simp)
      have ih := loop_any (st := st) hl cs (ws ++ [wd s]) (af s).tail (q + 1) (some (sd [c])) (some (sd (wd s))) hq2.cons (by simp; omega)
      have step : forL (.nm 3) bFx ((c :: cs).map fun c => dt [c]) ⟨[some (sd l), some (sn i), some (.own (ws.map dt)), x, y], st⟩ = forL (.nm 3) bFx (cs.map fun c => dt [c]) ⟨[some (sd l), some (sn (q + 1)), some (.own ((ws ++ [wd s]).map dt)), some (sd [c]), some (sd (wd s))], st⟩ :=
        r_for (m0 := ⟨[some (sd l), some (sn i), some (.own (ws.map dt)), some (sd [c]), y], st⟩) rfl ((r_seq s1).trans ((r_seq s2).trans s3))
      rw [step]
      exact ih
    · rw [if_neg hc]
      refine ⟨q, ⟨[some (sd l), some (sn q), some (.own (ws.map dt ++ [dt (wd s)])), some (sd [c]), some (sd (wd s))], st⟩, hq, rfl, ?_⟩
      refine r_for_exc (m0 := ⟨[some (sd l), some (sn i), some (.own (ws.map dt)), some (sd [c]), y], st⟩) rfl ((r_seq s1).trans ((r_seq s2).trans (r_set_exc ?_)))
      exact r_call_exc (xs := [sd l, sn q, sd [c]]) (m1 := ⟨[some (sd l), some (sn q), some (.own (ws.map dt ++ [dt (wd s)])), some (sd [c]), some (sd (wd s))], st⟩) rfl (sign_bad hq (head_no hc) hl)
def fixD (f : List (List Nat)) : PyData := .tuple (f.map dt)
theorem read_fix_any {l s : List Nat} {i : Nat} {st : SrcSt} (h : At l i s) (hl : l.length ≤ 100000) : match fixO s with
    | .ok (f, t) => ∃ q, At l q t ∧ F_read_fix [sd l, sn i] st = .ok (.dat (.tuple [fixD f, nd q])) st
    | .error t => ∃ q, At l q t ∧ F_read_fix [sd l, sn i] st = .exc (badAt q) st := by
  have hp := loop_any (st := st) hl [47, 62, 47] [] s i none none h (by simp)
  have hfor : ∀ r, forL (.nm 3) bFx ([47, 62, 47].map fun c => dt [c]) ⟨[some (sd l), some (sn i), some (.own (([] : List (List Nat)).map dt)), none, none], st⟩ = r → mFor (.nm 3) (mIt (mC (.dat (.str c_SIGNS)))) bFx ⟨[some (sd l), some (sn i), some (.own []), none, none], st⟩ = r := fun r hr => by
    show (Res.bind (match itemsOf (.str c_SIGNS) with | some l => Res.ok l _ | none => Res.bad) _) = _
    rw [lit_signs]
    exact hr
  have s0 : mSetN 2 (mLst (mArgs [])) ⟨[some (sd l), some (sn i), none, none, none], st⟩ = .ok .next ⟨[some (sd l), some (sn i), some (.own []), none, none], st⟩ :=
    r_setN (env := [some (sd l), some (sn i), none, none, none]) (st := st) (d := []) (r_lst r_an rfl (by simp)) (by simp)
  unfold fixO
  cases hlp : loopO [47, 62, 47] [] s with
  | error t =>
    rw [hlp] at hp
    obtain ⟨q, m, hq, hst, e⟩ := hp
    refine ⟨q, hq, ?_⟩
    have := r_def_exc (n := 5) (b := m_read_fix) (m := m) (x := badAt q) (args := [sd l, sn i]) (st := st) (env := [some (sd l), some (sn i), none, none, none]) rfl ((r_seq s0).trans (r_seq_exc (hfor _ e)))
    rw [hst] at this
    exact this
  | ok p =>
    obtain ⟨ws, t⟩ := p
    rw [hlp] at hp
    obtain ⟨j, x, y, hj, e⟩ := hp
    obtain ⟨q, hq, hw⟩ := word_any (st := st) hj hl
    have hlen := (loopO_len _ _ _ _ _ hlp).2.1
    simp only [List.length_cons, List.length_nil] at hlen
    refine ⟨q, hq, ?_⟩
    have s1 : mAsg (.tp [4, 1]) (mCall F_read_word (mArgs [(mVar 0), (mVar 1)])) ⟨[some (sd l), some (sn j), some (.own (ws.map dt)), x, y], st⟩ = .ok .next ⟨[some (sd l), some (sn q), some (.own (ws.map dt)), x, some (sd (wd t))], st⟩ :=
      r_asg (m1 := ⟨[some (sd l), some (sn j), some (.own (ws.map dt)), x, y], st⟩) (d := .tuple [dt (wd t), nd q]) (r_call (xs := [sd l, sn j]) (m1 := ⟨[some (sd l), some (sn j), some (.own (ws.map dt)), x, y], st⟩) rfl hw) rfl
    have s2 : mApp 2 (mVar 4) ⟨[some (sd l), some (sn q), some (.own (ws.map dt)), x, some (sd (wd t))], st⟩ = .ok .next ⟨[some (sd l), some (sn q), some (.own (ws.map dt ++ [dt (wd t)])), x, some (sd (wd t))], st⟩ :=
      r_app (i := 2) (env := [some (sd l), some (sn q), some (.own (ws.map dt)), x, some (sd (wd t))]) (st := st) (d := dt (wd t)) (l := ws.map dt) (l0 := ws.map dt) rfl rfl rfl (by rw [sl_eq, List.length_map]; omega)
    have hm : ws.map dt ++ [dt (wd t)] = (ws ++ [wd t]).map dt := by simp
    rw [hm] at s2
    refine r_def (n := 5) (b := m_read_fix) (m := ⟨[some (sd l), some (sn q), some (.own ((ws ++ [wd t]).map dt)), x, some (sd (wd t))], st⟩) (env := [some (sd l), some (sn i), none, none, none]) rfl ?_
    refine (r_seq s0).trans ((r_seq (hfor _ e)).trans ((r_seq s1).trans ((r_seq s2).trans (r_ret ?_))))
    exact r_tup (r_ac (x := .dat (fixD (ws ++ [wd t]))) (r_cal (ds := [.list ((ws ++ [wd t]).map dt)]) (r_bc (a := mBor 2) rfl r_bn) rfl) (r_ac (a := mVar 1) rfl r_an)) rfl (by simp)
theorem fs_any {l : List Nat} {st : SrcSt} (hl : l.length ≤ 100000) : ∀ (n : Nat) (acc : List (List (List Nat))) (t : List Nat) (i : Nat) (x : PyData), At l i t → t.length < n → acc.length + t.length ≤ 100001 →
    match fsO n acc t with
    | .ok fs => ∃ y j, whileN cFs bFs n ⟨[some (sd l), some (.dat x), some (sn i), some (.own (acc.map fixD))], st⟩ = .ok .next ⟨[some (sd l), some (.dat y), some (sn j), some (.own (fs.map fixD))], st⟩
    | .error u => ∃ q m, At l q u ∧ m.st = st ∧ whileN cFs bFs n ⟨[some (sd l), some (.dat x), some (sn i), some (.own (acc.map fixD))], st⟩ = .exc (badAt q) m
  | 0, _, _, _, _, _, h, _ => absurd h (Nat.not_lt_zero _)
  | n + 1, acc, t, i, x, h, hn, ha => by
    unfold fsO
    by_cases ht : t = []
    · rw [if_pos ht]
      subst ht
      have hi := h.nil
      subst hi
      refine ⟨x, l.length, r_wh_f ?_⟩
      simp only [mTest, mOp, mBor, mDat, mCal, mBs, e0, e2, Res.bind_ok, fLen_tx hl, pLt_nd]
      simp
    · rw [if_neg ht]
      have hc : cFs ⟨[some (sd l), some (.dat x), some (sn i), some (.own (acc.map fixD))], st⟩ = .ok true ⟨[some (sd l), some (.dat x), some (sn i), some (.own (acc.map fixD))], st⟩ := by
        have h1 := h.end
        have h3 := List.length_pos_iff.2 ht
        have h2 : i < l.length := by omega
        simp only [mTest, mOp, mBor, mDat, mCal, mBs, e0, e2, Res.bind_ok, fLen_tx hl, pLt_nd]
        simp [h2]
      have hargs : mArgs [(mVar 0), (mVar 2), (mC (.dat (.str ",")))] ⟨[some (sd l), some (.dat x), some (sn i), some (.own (acc.map fixD))], st⟩ = .ok [sd l, sn i, sd [44]] ⟨[some (sd l), some (.dat x), some (sn i), some (.own (acc.map fixD))], st⟩ := by
        rw [lit_comma]; rfl
      have exc_step : ∀ {q : Nat} {m : Me}, bFs ⟨[some (sd l), some (.dat x), some (sn i), some (.own (acc.map fixD))], st⟩ = .exc (badAt q) m → whileN cFs bFs (n + 1) ⟨[some (sd l), some (.dat x), some (sn i), some (.own (acc.map fixD))], st⟩ = .exc (badAt q) m := fun {q m} hb => r_wh_exc hc hb
      by_cases h44 : t.head? = some 44
      · rw [if_pos h44]
        have ht2 := head_cons h44
        have hcut : At l i (44 :: t.tail) := by rw [← ht2]; exact h
        have hs : mCall F_skip_sign (mArgs [(mVar 0), (mVar 2), (mC (.dat (.str ",")))]) ⟨[some (sd l), some (.dat x), some (sn i), some (.own (acc.map fixD))], st⟩ = .ok (sn (i + 1)) ⟨[some (sd l), some (.dat x), some (sn i), some (.own (acc.map fixD))], st⟩ :=
          r_call (xs := [sd l, sn i, sd [44]]) (m1 := ⟨[some (sd l), some (.dat x), some (sn i), some (.own (acc.map fixD))], st⟩) hargs (sign_at hcut hl)
        have hrf := read_fix_any (st := st) hcut.cons hl
        have htl : t.length = t.tail.length + 1 := by have := congrArg List.length ht2; simpa using this
        cases hfo : fixO t.tail with
        | error u =>
          rw [hfo] at hrf
          obtain ⟨q, hq, e⟩ := hrf
          exact ⟨q, _, hq, rfl, exc_step (m := ⟨[some (sd l), some (.dat x), some (sn i), some (.own (acc.map fixD))], st⟩) (r_seq_exc (r_asg_exc (r_call_exc (xs := [sd l, sn (i + 1)]) (m1 := ⟨[some (sd l), some (.dat x), some (sn i), some (.own (acc.map fixD))], st⟩) (r_ac (a := mVar 0) rfl (r_ac hs r_an)) e)))⟩
        | ok p =>
          obtain ⟨f, u⟩ := p
          rw [hfo] at hrf
          obtain ⟨q, hq, e⟩ := hrf
          have hlen := (fixO_len hfo).1
          have ih := fs_any (st := st) hl n (acc ++ [f]) u q (fixD f) hq (by omega) (by simp; omega)
          have sA : mAsg (.tp [1, 2]) (mCall F_read_fix (mArgs [(mVar 0), (mCall F_skip_sign (mArgs [(mVar 0), (mVar 2), (mC (.dat (.str ",")))]))])) ⟨[some (sd l), some (.dat x), some (sn i), some (.own (acc.map fixD))], st⟩ = .ok .next ⟨[some (sd l), some (.dat (fixD f)), some (sn q), some (.own (acc.map fixD))], st⟩ :=
            r_asg (d := .tuple [fixD f, nd q]) (m1 := ⟨[some (sd l), some (.dat x), some (sn i), some (.own (acc.map fixD))], st⟩) (r_call (xs := [sd l, sn (i + 1)]) (m1 := ⟨[some (sd l), some (.dat x), some (sn i), some (.own (acc.map fixD))], st⟩) (r_ac (a := mVar 0) rfl (r_ac hs r_an)) e) rfl
          have sB : mApp 3 (mVar 1) ⟨[some (sd l), some (.dat (fixD f)), some (sn q), some (.own (acc.map fixD))], st⟩ = .ok .next ⟨[some (sd l), some (.dat (fixD f)), some (sn q), some (.own (acc.map fixD ++ [fixD f]))], st⟩ :=
            r_app (i := 3) (env := [some (sd l), some (.dat (fixD f)), some (sn q), some (.own (acc.map fixD))]) (st := st) (d := fixD f) (l := acc.map fixD) (l0 := acc.map fixD) rfl rfl rfl (by rw [sl_eq, List.length_map]; omega)
          rw [show acc.map fixD ++ [fixD f] = (acc ++ [f]).map fixD by simp] at sB
          rw [r_wh_t (b := bFs) hc ((r_seq sA).trans sB)]
          exact ih
      · rw [if_neg h44]
        have hs : mCall F_skip_sign (mArgs [(mVar 0), (mVar 2), (mC (.dat (.str ",")))]) ⟨[some (sd l), some (.dat x), some (sn i), some (.own (acc.map fixD))], st⟩ = .exc (badAt i) ⟨[some (sd l), some (.dat x), some (sn i), some (.own (acc.map fixD))], st⟩ :=
          r_call_exc (xs := [sd l, sn i, sd [44]]) (m1 := ⟨[some (sd l), some (.dat x), some (sn i), some (.own (acc.map fixD))], st⟩) hargs (sign_bad h (head_no h44) hl)
        refine ⟨i, _, h, rfl, exc_step (m := ⟨[some (sd l), some (.dat x), some (sn i), some (.own (acc.map fixD))], st⟩) (r_seq_exc (r_asg_exc (r_call_exc2 (r_ac_exc2 (a := mVar 0) rfl (r_ac_exc hs)))))⟩
def textO (l : List Nat) : Except (List Nat) (List (List (List Nat))) := if dk l = [] then .ok [] else match fixO l with
  | .ok (f, t) => fsO 1000000 [f] t
  | .error t => .error t
theorem read_fixes_any {l : List Nat} {st : SrcSt} (hl : l.length ≤ 100000) : match textO l with
    | .ok fs => F_read_fixes [sd l] st = .ok (.dat (.tuple (fs.map fixD))) st
    | .error t => ∃ q, At l q t ∧ F_read_fixes [sd l] st = .exc (badAt q) st := by
  have h0 : At l 0 l := ⟨[], rfl, rfl⟩
  obtain ⟨b, hb, eb⟩ := blanks_at (st := st) h0 hl
  have hs : mCall F_skip_blanks (mArgs [(mVar 0), (mC (.dat (.int 0)))]) ⟨[some (sd l), none, none, none], st⟩ = .ok (sn b) ⟨[some (sd l), none, none, none], st⟩ :=
    r_call (xs := [sd l, sn 0]) (m1 := ⟨[some (sd l), none, none, none], st⟩) rfl eb
  have htest : mTest (mOp pEq (mDat (mCall F_skip_blanks (mArgs [(mVar 0), (mC (.dat (.int 0)))]))) (mDat (mCal fLen (mBs [(mBor 0)])))) ⟨[some (sd l), none, none, none], st⟩ = .ok (decide (b = l.length)) ⟨[some (sd l), none, none, none], st⟩ :=
    r_test (r_op (f := pEq) (r_dat hs) (r_dat (r_cal (r_bc (a := mBor 0) rfl r_bn) (fLen_tx hl))) (pEq_nd _ _))
  have hbe := hb.end
  unfold textO
  by_cases hd : dk l = []
  · rw [if_pos hd]
    have : b = l.length := by rw [hd] at hbe; simpa using hbe
    rw [decide_eq_true this] at htest
    exact r_def (n := 4) (b := m_read_fixes) (m := ⟨[some (sd l), none, none, none], st⟩) (env := [some (sd l), none, none, none]) rfl (r_seq_ret ((r_if_t htest).trans (r_ret (r_tup r_an rfl (by simp)))))
  · rw [if_neg hd]
    have : ¬ b = l.length := by have := List.length_pos_iff.2 hd; omega
    rw [decide_eq_false this] at htest
    have s0 : mIfS (mTest (mOp pEq (mDat (mCall F_skip_blanks (mArgs [(mVar 0), (mC (.dat (.int 0)))]))) (mDat (mCal fLen (mBs [(mBor 0)]))))) (mRet (mTup (mArgs []))) mNext ⟨[some (sd l), none, none, none], st⟩ = .ok .next ⟨[some (sd l), none, none, none], st⟩ := (r_if_f htest).trans rfl
    have hrf := read_fix_any (st := st) h0 hl
    cases hfo : fixO l with
    | error u =>
      rw [hfo] at hrf
      obtain ⟨q, hq, e⟩ := hrf
      exact ⟨q, hq, r_def_exc (n := 4) (b := m_read_fixes) (m := ⟨[some (sd l), none, none, none], st⟩) (env := [some (sd l), none, none, none]) rfl ((r_seq s0).trans (r_seq_exc (r_asg_exc (r_call_exc (xs := [sd l, sn 0]) (m1 := ⟨[some (sd l), none, none, none], st⟩) rfl e))))⟩
    | ok p =>
      obtain ⟨f, u⟩ := p
      rw [hfo] at hrf
      obtain ⟨q, hq, e⟩ := hrf
      have hlen := (fixO_len hfo).1
      have hw := fs_any (st := st) hl 1000000 [f] u q (fixD f) hq (by omega) (by simp; omega)
      have sA : mAsg (.tp [1, 2]) (mCall F_read_fix (mArgs [(mVar 0), (mC (.dat (.int 0)))])) ⟨[some (sd l), none, none, none], st⟩ = .ok .next ⟨[some (sd l), some (.dat (fixD f)), some (sn q), none], st⟩ :=
        r_asg (d := .tuple [fixD f, nd q]) (m1 := ⟨[some (sd l), none, none, none], st⟩) (r_call (xs := [sd l, sn 0]) (m1 := ⟨[some (sd l), none, none, none], st⟩) rfl e) rfl
      have sB : mSetN 3 (mLst (mArgs [(mVar 1)])) ⟨[some (sd l), some (.dat (fixD f)), some (sn q), none], st⟩ = .ok .next ⟨[some (sd l), some (.dat (fixD f)), some (sn q), some (.own ([f].map fixD))], st⟩ :=
        r_setN (env := [some (sd l), some (.dat (fixD f)), some (sn q), none]) (st := st) (d := [fixD f]) (r_lst (xs := [.dat (fixD f)]) rfl rfl (by simp)) (by simp)
      dsimp only
      cases hfs : fsO 1000000 [f] u with
      | error v =>
        rw [hfs] at hw
        obtain ⟨q2, m, hq2, hst, e2⟩ := hw
        have := r_def_exc (n := 4) (b := m_read_fixes) (m := m) (x := badAt q2) (args := [sd l]) (st := st) (env := [some (sd l), none, none, none]) rfl ((r_seq s0).trans ((r_seq sA).trans ((r_seq sB).trans (r_seq_exc e2))))
        rw [hst] at this
        exact ⟨q2, hq2, this⟩
      | ok fs =>
        rw [hfs] at hw
        obtain ⟨y, j, e2⟩ := hw
        exact r_def (n := 4) (b := m_read_fixes) (m := ⟨[some (sd l), some (.dat y), some (sn j), some (.own (fs.map fixD))], st⟩) (env := [some (sd l), none, none, none]) rfl ((r_seq s0).trans ((r_seq sA).trans ((r_seq sB).trans ((r_seq e2).trans (r_ret (r_cal (r_bc (a := mBor 3) rfl r_bn) rfl))))))
end PL.RF
namespace PL.RF
open PySem PySem.Spec PyProof.Rows L2
/-- words of a text: letters, not too long -/
def wOk (w : List Nat) : Prop := isW w ∧ w.length ≤ 100000
theorem wd_len (s : List Nat) : (wd s).length ≤ s.length := by
  have h1 := congrArg List.length (wd_split s)
  have h2 := dk_len s
  simp only [List.length_append] at h1
  omega
theorem wd_ok {s : List Nat} (h : s.length ≤ 100000) : wOk (wd s) := ⟨wd_w s, Nat.le_trans (wd_len s) h⟩
theorem loopO_ok : ∀ (cs : List Nat) (ws : List (List Nat)) (s : List Nat) (ws2 : List (List Nat)) (s2 : List Nat), loopO cs ws s = .ok (ws2, s2) → s.length ≤ 100000 → (∀ w ∈ ws, wOk w) → ∀ w ∈ ws2, wOk w
  | [], ws, s, ws2, s2, h, _, k => by cases h; exact k
  | c :: cs, ws, s, ws2, s2, h, hl, k => by
    unfold loopO at h
    split at h
    · rename_i hc
      have := af_tail hc
      refine loopO_ok cs _ _ _ _ h (by omega) fun w hw => ?_
      rcases List.mem_append.1 hw with hw | hw
      · exact k w hw
      · rw [List.mem_singleton.1 hw]; exact wd_ok hl
    · cases h
/-- a fix as it was read: four words -/
def fxOk (f : List (List Nat)) : Prop := f.length = 4 ∧ ∀ w ∈ f, wOk w
theorem fixO_ok {s : List Nat} {f : List (List Nat)} {t : List Nat} (h : fixO s = .ok (f, t)) (hl : s.length ≤ 100000) : fxOk f := by
  refine ⟨(fixO_len h).2.1, ?_⟩
  unfold fixO at h
  cases hp : loopO [47, 62, 47] [] s with
  | error u => rw [hp] at h; cases h
  | ok p =>
    obtain ⟨ws, u⟩ := p
    rw [hp] at h
    cases h
    have a := (loopO_len _ _ _ _ _ hp).1
    intro w hw
    rcases List.mem_append.1 hw with hw | hw
    · exact loopO_ok _ _ _ _ _ hp hl (fun _ z => nomatch z) w hw
    · rw [List.mem_singleton.1 hw]; exact wd_ok (by omega)
theorem fsO_ok : ∀ (n : Nat) (acc : List (List (List Nat))) (t : List Nat) (fs : List (List (List Nat))), fsO n acc t = .ok fs → t.length ≤ 100000 → (∀ f ∈ acc, fxOk f) → acc.length + t.length ≤ 100001 → (∀ f ∈ fs, fxOk f) ∧ fs.length ≤ 100001
  | 0, _, _, _, h, _, _, _ => by cases h
  | n + 1, acc, t, fs, h, hl, k, hn => by
    unfold fsO at h
    split at h
    · cases h; exact ⟨k, by omega⟩
    · split at h
      · rename_i h44
        have htl : t.length = t.tail.length + 1 := by have := congrArg List.length (head_cons h44); simpa using this
        cases hfo : fixO t.tail with
        | error u => rw [hfo] at h; cases h
        | ok p =>
          obtain ⟨f, u⟩ := p
          rw [hfo] at h
          have hlen := (fixO_len hfo).1
          refine fsO_ok n _ _ _ h (by omega) (fun g hg => ?_) (by simp; omega)
          rcases List.mem_append.1 hg with hg | hg
          · exact k g hg
          · rw [List.mem_singleton.1 hg]; exact fixO_ok hfo (by omega)
      · cases h
theorem textO_ok {l : List Nat} {fs : List (List (List Nat))} (h : textO l = .ok fs) (hl : l.length ≤ 100000) : (∀ f ∈ fs, fxOk f) ∧ fs.length ≤ 100001 := by
  unfold textO at h
  split at h
  · cases h; exact ⟨(fun _ z => nomatch z), by simp⟩
  · cases hfo : fixO l with
    | error u => rw [hfo] at h; cases h
    | ok p =>
      obtain ⟨f, u⟩ := p
      rw [hfo] at h
      have hlen := (fixO_len hfo).1
      exact fsO_ok _ _ _ _ h (by omega) (fun g hg => by rw [List.mem_singleton.1 hg]; exact fixO_ok hfo hl) (by simp; omega)
/-! the checks -/
def okF : List (List Nat) → Bool
  | [a, o, n, b] => (decide (a.length ≤ 1) && decide (b.length ≤ 1)) && ((decide (1 ≤ o.length) && decide (o.length ≤ 3)) && decide (n.length ≤ 3))
  | _ => false
def okB (fs : List (List (List Nat))) : Bool := decide (fs.length ≤ 5) && fs.all okF
theorem is_word_any {w : List Nat} {lo hi : Nat} {st : SrcSt} (hw : wOk w) (h3 : hi ≤ 200) : F_is_word [sd w, sn lo, sn hi] st = .ok (.dat (.bool (decide (lo ≤ w.length) && decide (w.length ≤ hi)))) st := by
  obtain ⟨hw, hl⟩ := hw
  by_cases h : lo ≤ w.length ∧ w.length ≤ hi
  · rw [decide_eq_true h.1, decide_eq_true h.2]
    exact is_word_at hw h.1 h.2 h3
  · refine r_def (n := 4) (b := m_is_word) (m := ⟨[some (sd w), some (sn lo), some (sn hi), none], st⟩) (env := [some (sd w), some (sn lo), some (sn hi), none]) rfl ?_
    have hf : (decide (lo ≤ w.length) && decide (w.length ≤ hi)) = false := by
      rw [Bool.eq_false_iff]
      intro z
      rw [Bool.and_eq_true, decide_eq_true_eq, decide_eq_true_eq] at z
      exact h z
    rw [hf]
    refine r_seq_ret ((r_if_t (m1 := ⟨[some (sd w), some (sn lo), some (sn hi), none], st⟩) ?_).trans (r_ret rfl))
    have a1 : pLe (nd lo) (nd w.length) = some (.bool (decide (lo ≤ w.length))) := by show some (PyData.bool (decide ((lo : Int) ≤ (w.length : Int)))) = _; rw [decide_eq_decide.2 Int.ofNat_le]
    have a2 : pLe (nd w.length) (nd hi) = some (.bool (decide (w.length ≤ hi))) := by show some (PyData.bool (decide ((w.length : Int) ≤ (hi : Int)))) = _; rw [decide_eq_decide.2 Int.ofNat_le]
    have a3 : kitB (tyName (dt w)) "str" = some true := by show kitB "str" "str" = some true; decide +kernel
    by_cases h1 : lo ≤ w.length
    · have h2 : ¬ w.length ≤ hi := fun z => h ⟨h1, z⟩
      rw [decide_eq_true h1] at a1
      rw [decide_eq_false h2] at a2
      simp only [mOr, mNot, mTest, mIsi, mChain, mOp, mBor, mDat, mCal, mBs, e0, e1, e2, Res.bind_ok, fLen_tx hl, a1, a2, a3]
      simp
    · rw [decide_eq_false h1] at a1
      simp only [mOr, mNot, mTest, mIsi, mChain, mOp, mBor, mDat, mCal, mBs, e0, e1, e2, Res.bind_ok, fLen_tx hl, a1, a3]
      simp
theorem r_andv {x y : M Sl} {m m1 m2 : Me} {a b : Bool} (h : x m = .ok (.dat (.bool a)) m1) (h2 : y m1 = .ok (.dat (.bool b)) m1) : mAndV x y m = .ok (.dat (.bool (a && b))) m1 := by
  unfold mAndV mTest; rw [h]
  show (if a = true then y m1 else Res.ok (Sl.dat (.bool false)) m1) = _
  cases a with
  | true => rw [if_pos rfl, h2]; rfl
  | false => rw [if_neg Bool.false_ne_true]; rfl
theorem is_fix_any {f : List (List Nat)} {st : SrcSt} (h : fxOk f) : F_is_fix [.dat (fixD f)] st = .ok (.dat (.bool (okF f))) st := by
  obtain ⟨h4, hw⟩ := h
  match f, h4 with
  | [a, o, n, b], _ =>
    have w1 := is_word_any (st := st) (lo := 0) (hi := 1) (hw a (by simp)) (by decide)
    have w2 := is_word_any (st := st) (lo := 0) (hi := 1) (hw b (by simp)) (by decide)
    have w3 := is_word_any (st := st) (lo := 1) (hi := 3) (hw o (by simp)) (by decide)
    have w4 := is_word_any (st := st) (lo := 0) (hi := 3) (hw n (by simp)) (by decide)
    rw [decide_eq_true (Nat.zero_le _), Bool.true_and] at w1 w2 w4
    refine r_def (n := 6) (b := m_is_fix) (m := ⟨[some (.dat (fixD [a, o, n, b])), some (sd a), some (sd o), some (sd n), some (sd b), some (.dat (.bool (decide (a.length ≤ 1) && decide (b.length ≤ 1))))], st⟩) (env := [some (.dat (fixD [a, o, n, b])), none, none, none, none, none]) rfl ?_
    refine (r_seq (m1 := ⟨[some (.dat (fixD [a, o, n, b])), none, none, none, none, none], st⟩) ((r_if_f (m1 := ⟨[some (.dat (fixD [a, o, n, b])), none, none, none, none, none], st⟩) ?_).trans rfl)).trans ?_
    · have a0 : kitB (tyName (fixD [a, o, n, b])) "tuple" = some true := is_tuple _
      have a1 : fLen [fixD [a, o, n, b]] = some (nd 4) := rfl
      have a2 : pNot pEq (nd 4) (.int 4) = some (.bool false) := rfl
      simp only [mOr, mNot, mTest, mIsi, mOp, mBor, mDat, mC, mCal, mBs, e0, Res.bind_ok, a0, a1, a2]
      simp
    refine (r_seq (m1 := ⟨[some (.dat (fixD [a, o, n, b])), some (sd a), some (sd o), some (sd n), some (sd b), none], st⟩) rfl).trans ?_
    have c12 : mAndV (mCall F_is_word (mArgs [(mVar 1), (mC (.dat (.int 0))), (mC (.dat (.int 1)))])) (mCall F_is_word (mArgs [(mVar 4), (mC (.dat (.int 0))), (mC (.dat (.int 1)))])) ⟨[some (.dat (fixD [a, o, n, b])), some (sd a), some (sd o), some (sd n), some (sd b), none], st⟩ = .ok (.dat (.bool (decide (a.length ≤ 1) && decide (b.length ≤ 1)))) ⟨[some (.dat (fixD [a, o, n, b])), some (sd a), some (sd o), some (sd n), some (sd b), none], st⟩ :=
      r_andv (m2 := ⟨[], st⟩)
        (r_call (xs := [sd a, sn 0, sn 1]) (m1 := ⟨[some (.dat (fixD [a, o, n, b])), some (sd a), some (sd o), some (sd n), some (sd b), none], st⟩) rfl w1)
        (r_call (xs := [sd b, sn 0, sn 1]) (m1 := ⟨[some (.dat (fixD [a, o, n, b])), some (sd a), some (sd o), some (sd n), some (sd b), none], st⟩) rfl w2)
    refine (r_seq (r_set (i := 5) c12 (by simp))).trans (r_ret ?_)
    have c34 : mAndV (mCall F_is_word (mArgs [(mVar 2), (mC (.dat (.int 1))), (mC (.dat (.int 3)))])) (mCall F_is_word (mArgs [(mVar 3), (mC (.dat (.int 0))), (mC (.dat (.int 3)))])) ⟨[some (.dat (fixD [a, o, n, b])), some (sd a), some (sd o), some (sd n), some (sd b), some (.dat (.bool (decide (a.length ≤ 1) && decide (b.length ≤ 1))))], st⟩ = .ok (.dat (.bool ((decide (1 ≤ o.length) && decide (o.length ≤ 3)) && decide (n.length ≤ 3)))) ⟨[some (.dat (fixD [a, o, n, b])), some (sd a), some (sd o), some (sd n), some (sd b), some (.dat (.bool (decide (a.length ≤ 1) && decide (b.length ≤ 1))))], st⟩ :=
      r_andv (m2 := ⟨[], st⟩)
        (r_call (xs := [sd o, sn 1, sn 3]) (m1 := ⟨[some (.dat (fixD [a, o, n, b])), some (sd a), some (sd o), some (sd n), some (sd b), some (.dat (.bool (decide (a.length ≤ 1) && decide (b.length ≤ 1))))], st⟩) rfl w3)
        (r_call (xs := [sd n, sn 0, sn 3]) (m1 := ⟨[some (.dat (fixD [a, o, n, b])), some (sd a), some (sd o), some (sd n), some (sd b), some (.dat (.bool (decide (a.length ≤ 1) && decide (b.length ≤ 1))))], st⟩) rfl w4)
    exact r_andv (m2 := ⟨[], st⟩) (x := mVar 5) rfl c34
def bkD (fs : List (List (List Nat))) : PyData := .tuple (fs.map fixD)
theorem prog_book_any {fs : List (List (List Nat))} {st : SrcSt} (h : ∀ f ∈ fs, fxOk f) (hn : fs.length ≤ 100001) : F_is_book [.dat (bkD fs)] st = .ok (.dat (.bool (okB fs))) st := by
  have a0 : kitB (tyName (bkD fs)) "tuple" = some true := is_tuple _
  have a1 : fLen [bkD fs] = some (nd fs.length) := by show some (nd (fs.map fixD).length) = _; rw [List.length_map]
  have hgt : pGt (nd fs.length) (.int 5) = some (.bool (decide (5 < fs.length))) := by
    show some (PyData.bool (decide ((5 : Int) < (fs.length : Int)))) = _
    rw [decide_eq_decide.2 (show (5 : Int) < (fs.length : Int) ↔ 5 < fs.length by omega)]
  have t1 : mOr (mNot (mTest (mIsi "tuple" (mBor 0)))) (mTest (mOp pGt (mDat (mCal fLen (mBs [(mBor 0)]))) (mDat (mC (.dat (.int 5)))))) ⟨[some (.dat (bkD fs)), none], st⟩ = .ok (decide (5 < fs.length)) ⟨[some (.dat (bkD fs)), none], st⟩ := by
    simp only [mOr, mNot, mTest, mIsi, mOp, mBor, mDat, mC, mCal, mBs, e0, Res.bind_ok, a0, a1, hgt]
    simp
  have hc : mComp [1] (.nm 1) (mIt (mVar 0)) mYes (mCall F_is_fix (mArgs [(mVar 1)])) ⟨[some (.dat (bkD fs)), none], st⟩ = .ok (fs.map fun f => PyData.bool (okF f)) ⟨[some (.dat (bkD fs)), none], st⟩ := by
    refine r_comp (l := fs.map fixD) (m1 := ⟨[some (.dat (bkD fs)), none], st⟩) rfl (by rw [List.length_map]; omega) (comp_mapA (E := [some (.dat (bkD fs)), none]) fixD (fun f => .bool (okF f)) fs fun f hf => ?_)
    exact ⟨⟨[some (.dat (bkD fs)), some (.dat (fixD f))], st⟩, ⟨[some (.dat (bkD fs)), some (.dat (fixD f))], st⟩, rfl, r_call (xs := [.dat (fixD f)]) (m1 := ⟨[some (.dat (bkD fs)), some (.dat (fixD f))], st⟩) rfl (is_fix_any (h f hf)), rfl⟩
  have hall : fAll [.list (fs.map fun f => PyData.bool (okF f))] = some (.bool (fs.all okF)) := by
    show (boolsOf (fs.map fun f => PyData.bool (okF f))).map _ = _
    rw [bools_all okF (fun f => .bool (okF f)) fs (fun _ _ => rfl)]
    show some (PyData.bool ((fs.map okF).all id)) = _
    rw [List.all_map]
    rfl
  have t2 : mCal fAll (mBs [(mDat (mL (mComp [1] (.nm 1) (mIt (mVar 0)) mYes (mCall F_is_fix (mArgs [(mVar 1)])))))]) ⟨[some (.dat (bkD fs)), none], st⟩ = .ok (.dat (.bool (fs.all okF))) ⟨[some (.dat (bkD fs)), none], st⟩ := r_cal (r_bc (r_dat (r_L hc)) r_bn) hall
  unfold okB
  by_cases h5 : fs.length ≤ 5
  · rw [decide_eq_false (by omega)] at t1
    rw [decide_eq_true h5, Bool.true_and]
    have s1 := r_if_f (a := mRet (mC (.dat (.bool false)))) (b := mNext) t1
    exact r_def (n := 2) (b := m_is_book) (m := ⟨[some (.dat (bkD fs)), none], st⟩) (env := [some (.dat (bkD fs)), none]) rfl ((r_seq (s1.trans rfl)).trans (r_ret t2))
  · rw [decide_eq_true (by omega)] at t1
    rw [decide_eq_false h5, Bool.false_and]
    have s1 := r_if_t (a := mRet (mC (.dat (.bool false)))) (b := mNext) t1
    have s2 : mIfS (mOr (mNot (mTest (mIsi "tuple" (mBor 0)))) (mTest (mOp pGt (mDat (mCal fLen (mBs [(mBor 0)]))) (mDat (mC (.dat (.int 5))))))) (mRet (mC (.dat (.bool false)))) mNext ⟨[some (.dat (bkD fs)), none], st⟩ = .ok (.ret (.dat (.bool false))) ⟨[some (.dat (bkD fs)), none], st⟩ := s1.trans rfl
    refine r_def (n := 2) (b := m_is_book) (m := ⟨[some (.dat (bkD fs)), none], st⟩) (env := [some (.dat (bkD fs)), none]) rfl ?_
    show mSeq _ _ _ = _
    unfold mSeq
    rw [s2]
    rfl
theorem check_book_any {fs : List (List (List Nat))} {st : SrcSt} (h : ∀ f ∈ fs, fxOk f) (hn : fs.length ≤ 100001) : F_check_book [.dat (bkD fs)] st = if okB fs = true then .ok (.dat .none) st else .exc ⟨"InvalidBook", []⟩ st := by
  have t2 : mNot (mTest (mCall F_is_book (mArgs [(mVar 0)]))) ⟨[some (.dat (bkD fs))], st⟩ = .ok (!okB fs) ⟨[some (.dat (bkD fs))], st⟩ := by
    have := r_test (r_call (F := F_is_book) (a := mArgs [(mVar 0)]) (m := ⟨[some (.dat (bkD fs))], st⟩) (xs := [.dat (bkD fs)]) (m1 := ⟨[some (.dat (bkD fs))], st⟩) rfl (prog_book_any (st := st) h hn))
    unfold mNot
    rw [this]
    rfl
  cases ho : okB fs with
  | true =>
    rw [ho] at t2
    rw [if_pos rfl]
    exact r_def_nx (n := 1) (b := m_check_book) (m := ⟨[some (.dat (bkD fs))], st⟩) (env := [some (.dat (bkD fs))]) rfl ((r_if_f t2).trans rfl)
  | false =>
    rw [ho] at t2
    rw [if_neg Bool.false_ne_true]
    exact r_def_exc (n := 1) (b := m_check_book) (m := ⟨[some (.dat (bkD fs))], st⟩) (env := [some (.dat (bkD fs))]) rfl ((r_if_t t2).trans rfl)
theorem read_book_any {l : List Nat} {st : SrcSt} (hl : l.length ≤ 100000) : match textO l with
    | .ok fs => F_read_book [sd l] st = if okB fs = true then .ok (.dat (bkD fs)) st else .exc ⟨"InvalidBook", []⟩ st
    | .error t => ∃ q, At l q t ∧ F_read_book [sd l] st = .exc (badAt q) st := by
  have a3 : kitB (tyName (dt l)) "str" = some true := by show kitB "str" "str" = some true; decide +kernel
  have s0 : mIfS (mNot (mTest (mIsi "str" (mBor 0)))) (mRaise1 "InvalidText" "at" (mArgs [(mC (.dat (.int 0)))])) mNext ⟨[some (sd l), none], st⟩ = .ok .next ⟨[some (sd l), none], st⟩ := by
    refine (r_if_f (m1 := ⟨[some (sd l), none], st⟩) ?_).trans rfl
    simp only [mNot, mTest, mIsi, mBor, e0, Res.bind_ok, a3]
    simp
  have hr := read_fixes_any (st := st) hl
  cases ht : textO l with
  | error t =>
    rw [ht] at hr
    obtain ⟨q, hq, e⟩ := hr
    exact ⟨q, hq, r_def_exc (n := 2) (b := m_read_book) (m := ⟨[some (sd l), none], st⟩) (env := [some (sd l), none]) rfl ((r_seq s0).trans (r_seq_exc (r_set_exc (r_call_exc (xs := [sd l]) (m1 := ⟨[some (sd l), none], st⟩) rfl e))))⟩
  | ok fs =>
    rw [ht] at hr
    obtain ⟨hf, hn⟩ := textO_ok ht hl
    have s1 : mSet 1 (mCall F_read_fixes (mArgs [(mVar 0)])) ⟨[some (sd l), none], st⟩ = .ok .next ⟨[some (sd l), some (.dat (bkD fs))], st⟩ := r_set (i := 1) (env := [some (sd l), none]) (st := st) (d := bkD fs) (r_call (xs := [sd l]) (m1 := ⟨[some (sd l), none], st⟩) rfl hr) (by simp)
    have hc := check_book_any (st := st) hf hn
    dsimp only
    by_cases ho : okB fs = true
    · rw [if_pos ho] at hc ⊢
      refine r_def (n := 2) (b := m_read_book) (m := ⟨[some (sd l), some (.dat (bkD fs))], st⟩) (env := [some (sd l), none]) rfl ((r_seq s0).trans ((r_seq s1).trans ((r_seq (m1 := ⟨[some (sd l), some (.dat (bkD fs))], st⟩) ?_).trans (r_ret rfl))))
      have := r_call (a := mArgs [(mVar 1)]) (xs := [.dat (bkD fs)]) (m := ⟨[some (sd l), some (.dat (bkD fs))], st⟩) (m1 := ⟨[some (sd l), some (.dat (bkD fs))], st⟩) rfl hc
      unfold mDrop
      rw [this]
      rfl
    · rw [if_neg ho] at hc ⊢
      refine r_def_exc (n := 2) (b := m_read_book) (m := ⟨[some (sd l), some (.dat (bkD fs))], st⟩) (env := [some (sd l), none]) rfl ((r_seq s0).trans ((r_seq s1).trans (r_seq_exc ?_)))
      have := r_call_exc (a := mArgs [(mVar 1)]) (xs := [.dat (bkD fs)]) (m := ⟨[some (sd l), some (.dat (bkD fs))], st⟩) (m1 := ⟨[some (sd l), some (.dat (bkD fs))], st⟩) rfl hc
      unfold mDrop
      rw [this]
      rfl
end PL.RF
namespace PL.RF
open PySem PySem.Spec PyProof.Rows L2
/-! ### the other reader -/
abbrev cE : M Bool := mAnd (mTest (mOp pLt (mBor 3) (mDat (mCal fLen (mBs [(mBor 0)]))))) (mTest (mOp pIn (mDat (mOp pIx (mBor 0) (mBor 3))) (mBor 2)))
abbrev bE : M Flow := mSet 3 (mOp pAdd (mBor 3) (mDat (mC (.dat (.int 1)))))
theorem pAdd1 (n : Nat) : pAdd (nd n) (.int 1) = some (nd (n + 1)) := by show some (PyData.int ((n : Int) + 1)) = some (PyData.int ((n + 1 : Nat) : Int)); push_cast; rfl
theorem end_run {A : Str} {p : Nat → Bool} (hp : ∀ c, pIn (dt [c]) (.str A) = some (.bool (p c))) {x : Option Sl} {st : SrcSt} : ∀ (t a : List Nat) (n : Nat), t.length < n → (a ++ t).length ≤ 100000 →
    whileN cE bE n ⟨[some (sd (a ++ t)), x, some (.dat (.str A)), some (sn a.length)], st⟩ = .ok .next ⟨[some (sd (a ++ t)), x, some (.dat (.str A)), some (sn (a.length + (t.takeWhile p).length))], st⟩
  | [], a, n + 1, _, hl => by
    refine r_wh_f ?_
    simp only [mAnd, mTest, mOp, mBor, mDat, mCal, mBs, e0, e3, Res.bind_ok, fLen_tx hl, pLt_nd]
    simp
  | c :: t, a, n + 1, hn, hl => by
    by_cases hc : p c = true
    · rw [List.takeWhile_cons_of_pos hc]
      have e' : a ++ c :: t = (a ++ [c]) ++ t := by simp
      have ih := end_run hp (x := x) (st := st) t (a ++ [c]) n (by simp at hn; omega) (by rw [← e']; exact hl)
      rw [← e'] at ih
      have ea : (a ++ [c]).length = a.length + 1 := by simp
      rw [ea] at ih
      rw [show a.length + (c :: t.takeWhile p).length = a.length + 1 + (t.takeWhile p).length by simp; omega]
      refine (r_wh_t (c := cE) (b := bE) (m1 := ⟨[some (sd (a ++ c :: t)), x, some (.dat (.str A)), some (sn a.length)], st⟩) ?_ ?_).trans ih
      · simp only [mAnd, mTest, mOp, mBor, mDat, mCal, mBs, e0, e2, e3, Res.bind_ok, fLen_tx hl, pLt_nd, pIx_tx get_mid hl, hp, hc]
        simp
      · exact r_set (i := 3) (env := [some (sd (a ++ c :: t)), x, some (.dat (.str A)), some (sn a.length)]) (st := st) (r_op (f := pAdd) (a := mBor 3) rfl (r_dat (a := mC (.dat (.int 1))) rfl) (pAdd1 _)) (by simp)
    · rw [List.takeWhile_cons_of_neg hc]
      refine r_wh_f ?_
      simp only [mAnd, mTest, mOp, mBor, mDat, mCal, mBs, e0, e2, e3, Res.bind_ok, fLen_tx hl, pLt_nd, pIx_tx get_mid hl, hp, hc]
      simp
theorem end_at {A : Str} {p : Nat → Bool} (hp : ∀ c, pIn (dt [c]) (.str A) = some (.bool (p c))) {l s : List Nat} {i : Nat} {st : SrcSt} (h : At l i s) (hl : l.length ≤ 100000) : F__law_end [sd l, sn i, .dat (.str A)] st = .ok (sn (i + (s.takeWhile p).length)) st := by
  obtain ⟨a, rfl, rfl⟩ := h
  refine r_def (n := 4) (b := m__law_end) (m := ⟨[some (sd (a ++ s)), some (sn a.length), some (.dat (.str A)), some (sn (a.length + (s.takeWhile p).length))], st⟩) (env := [some (sd (a ++ s)), some (sn a.length), some (.dat (.str A)), none]) rfl ?_
  refine (r_seq (m1 := ⟨[some (sd (a ++ s)), some (sn a.length), some (.dat (.str A)), some (sn a.length)], st⟩) rfl).trans ?_
  exact (r_seq (end_run hp (x := some (sn a.length)) (st := st) s a 1000000 (by rw [List.length_append] at hl; omega) hl)).trans (r_ret rfl)
theorem pIn_bl (c : Nat) : pIn (dt [c]) (.str (tx [32])) = some (.bool (c == 32)) := by
  show (if (tx [c]).cps.size = 1 then some (PyData.bool (decide ((tx [c]).cps.getD 0 0 ∈ (tx [32]).cps.toList))) else none) = _
  rw [if_pos (show (tx [c]).cps.size = 1 from rfl)]
  congr 2
  show decide (c ∈ [32]) = (c == 32)
  rw [Bool.eq_iff_iff]
  simp
theorem end_bl {l s : List Nat} {i : Nat} {st : SrcSt} (h : At l i s) (hl : l.length ≤ 100000) : ∃ q, At l q (dk s) ∧ F__law_end [sd l, sn i, sd [32]] st = .ok (sn q) st :=
  ⟨_, h.blanks, end_at pIn_bl h hl⟩
theorem end_wd {l s : List Nat} {i : Nat} {st : SrcSt} (h : At l i (dk s)) (hl : l.length ≤ 100000) : At l (i + (wd s).length) ((dk s).dropWhile isL) ∧ F__law_end [sd l, sn i, .dat (.str c_ALPHABET)] st = .ok (sn (i + (wd s).length)) st := by
  refine ⟨?_, end_at pIn_tx h hl⟩
  have e := (List.takeWhile_append_dropWhile (p := isL) (l := dk s)).symm
  rw [e] at h
  exact h.skip
def sgn : Nat → Nat
  | 0 => 44
  | 1 => 47
  | 2 => 62
  | _ => 47
def dueO : Nat → List (List (List Nat)) → List (List Nat) → List Nat → Except (List Nat) (List (List (List Nat)))
  | 0, _, _, s => .error s
  | n + 1, found, ws, s => if ws.length = 3 then (if af s = [] then .ok (found ++ [ws ++ [wd s]]) else if (af s).head? = some 44 then dueO n (found ++ [ws ++ [wd s]]) [] (af s).tail else .error (af s))
    else if (af s).head? = some (sgn (ws.length + 1)) then dueO n found (ws ++ [wd s]) (af s).tail else .error (af s)
theorem due_fs : ∀ (n : Nat) (s : List Nat) (found : List (List (List Nat))), s.length < n → ∀ m, s.length < m → dueO n found [] s = (match fixO s with
    | .ok (f, t) => fsO m (found ++ [f]) t
    | .error t => .error t) := by
  intro n
  induction n using Nat.strongRecOn with
  | _ n IH =>
    intro s found hn m hm
    obtain ⟨n1, rfl⟩ : ∃ k, n = k + 1 := ⟨n - 1, by omega⟩
    unfold fixO loopO dueO
    rw [if_neg (by simp : ¬ ([] : List (List Nat)).length = 3)]
    by_cases h1 : (af s).head? = some 47
    · have l1 := af_tail h1
      rw [if_pos (show (af s).head? = some (sgn (([] : List (List Nat)).length + 1)) from h1), if_pos h1]
      generalize (af s).tail = s1 at *
      obtain ⟨n2, rfl⟩ : ∃ k, n1 = k + 1 := ⟨n1 - 1, by omega⟩
      unfold loopO dueO
      rw [if_neg (by simp : ¬ (([] : List (List Nat)) ++ [wd s]).length = 3)]
      by_cases h2 : (af s1).head? = some 62
      · have l2 := af_tail h2
        rw [if_pos (show (af s1).head? = some (sgn ((([] : List (List Nat)) ++ [wd s]).length + 1)) from h2), if_pos h2]
        generalize (af s1).tail = s2 at *
        obtain ⟨n3, rfl⟩ : ∃ k, n2 = k + 1 := ⟨n2 - 1, by omega⟩
        unfold loopO dueO
        rw [if_neg (by simp : ¬ (([] : List (List Nat)) ++ [wd s] ++ [wd s1]).length = 3)]
        by_cases h3 : (af s2).head? = some 47
        · have l3 := af_tail h3
          rw [if_pos (show (af s2).head? = some (sgn ((([] : List (List Nat)) ++ [wd s] ++ [wd s1]).length + 1)) from h3), if_pos h3]
          generalize (af s2).tail = s3 at *
          obtain ⟨n4, rfl⟩ : ∃ k, n3 = k + 1 := ⟨n3 - 1, by omega⟩
          unfold loopO dueO
          rw [if_pos (by simp : (([] : List (List Nat)) ++ [wd s] ++ [wd s1] ++ [wd s2]).length = 3)]
          dsimp only
          obtain ⟨m1, rfl⟩ : ∃ k, m = k + 1 := ⟨m - 1, by omega⟩
          have la := af_len s3
          conv => rhs; unfold fsO
          by_cases h4 : af s3 = []
          · rw [if_pos h4, if_pos h4]
          · rw [if_neg h4, if_neg h4]
            by_cases h5 : (af s3).head? = some 44
            · rw [if_pos h5, if_pos h5]
              have l5 := af_tail h5
              rw [IH n4 (by omega) _ _ (by omega) m1 (by omega)]
              all_goals rfl
            · rw [if_neg h5, if_neg h5]
        · rw [if_neg (show ¬ (af s2).head? = some (sgn ((([] : List (List Nat)) ++ [wd s] ++ [wd s1]).length + 1)) from h3), if_neg h3]
      · rw [if_neg (show ¬ (af s1).head? = some (sgn ((([] : List (List Nat)) ++ [wd s]).length + 1)) from h2), if_neg h2]
    · rw [if_neg (show ¬ (af s).head? = some (sgn (([] : List (List Nat)).length + 1)) from h1), if_neg h1]
end PL.RF
namespace PL.RF
open PySem PySem.Spec PyProof.Rows L2
theorem r_wh_ret {c : M Bool} {b : M Flow} {n : Nat} {m m1 m2 : Me} {s : Sl} (h : c m = .ok true m1) (hb : b m1 = .ok (.ret s) m2) : whileN c b (n + 1) m = .ok (.ret s) m2 := by
  show (c m).bind _ = _
  rw [h]
  show (if true = true then (b m1).bind _ else Res.ok Flow.next m1) = _
  rw [if_pos rfl, hb]
  rfl
theorem cut1 {l t : List Nat} {q : Nat} (h : At l q t) : cutS (tx l) (some (q : Int)) (some ((q + 1 : Nat) : Int)) = tx (t.take 1) := by
  obtain ⟨a, rfl, rfl⟩ := h
  unfold cutS
  rw [HT.sIx_nat, HT.sIx_nat, tx_cps, tx_len]
  rw [Nat.min_eq_left (show a.length ≤ (a ++ t).length by simp), List.drop_left]
  cases t with
  | nil => simp [tx]
  | cons c r =>
    rw [Nat.min_eq_left (by simp), show a.length + 1 - a.length = 1 by omega]
    rfl
theorem take1 {t : List Nat} {c : Nat} : t.take 1 = [c] ↔ t.head? = some c := by
  cases t with
  | nil => simp
  | cons d r => simp
abbrev cD : M Bool := mTest (mOp pLe (mBor 1) (mDat (mCal fLen (mBs [(mBor 0)]))))
abbrev A1 : M Flow := mSet 4 (mCall F__law_end (mArgs [(mVar 0), (mVar 1), (mC (.dat (.str "abcdefghijklmnopqrstuvwxyz")))]))
abbrev A2 : M Flow := mSet 3 (mOp pAdd (mBor 3) (mDat (mL (mLst (mArgs [(mCut (mBor 0) (some (mBor 1)) (some (mBor 4)))])))))
abbrev A3 : M Flow := mSet 1 (mCall F__law_end (mArgs [(mVar 0), (mVar 4), (mC (.dat (.str " ")))]))
abbrev B1 : M Flow := mPar2 2 3 (mArgs [(mOp pAdd (mBor 2) (mDat (mL (mLst (mArgs [(mCal fTuple (mBs [(mBor 3)]))]))))), (mL (mLst (mArgs [])))])
abbrev B2 : M Flow := mIfS (mTest (mOp pEq (mBor 1) (mDat (mCal fLen (mBs [(mBor 0)]))))) (mRet (mL (mLst (mArgs [(mC (.dat (.str "good"))), (mCal fTuple (mBs [(mBor 2)]))])))) mNext
abbrev A4 : M Flow := mIfS (mTest (mOp pEq (mDat (mCal fLen (mBs [(mBor 3)]))) (mDat (mC (.dat (.int 4)))))) (mSeq B1 B2) mNext
abbrev A5 : M Flow := mIfS (mTest (mOp (pNot pEq) (mDat (mCut (mBor 0) (some (mBor 1)) (some (mDat (mOp pAdd (mBor 1) (mDat (mC (.dat (.int 1))))))))) (mDat (mOp pIx (mDat (mL (mLst (mArgs [(mC (.dat (.str ","))), (mC (.dat (.str "/"))), (mC (.dat (.str ">"))), (mC (.dat (.str "/")))])))) (mDat (mCal fLen (mBs [(mBor 3)]))))))) (mRet (mL (mLst (mArgs [(mC (.dat (.str "wrong"))), (mVar 1)])))) mNext
abbrev A6 : M Flow := mSet 1 (mCall F__law_end (mArgs [(mVar 0), (mOp pAdd (mBor 1) (mDat (mC (.dat (.int 1))))), (mC (.dat (.str " ")))]))
abbrev bD : M Flow := mSeq A1 (mSeq A2 (mSeq A3 (mSeq A4 (mSeq A5 A6))))
def goodD (fs : List (List (List Nat))) : PyData := .list [.str "good", bkD fs]
def wrongD (q : Nat) : PyData := .list [.str "wrong", nd q]
def wsD (ws : List (List Nat)) : PyData := .list (ws.map dt)
def fsD (fs : List (List (List Nat))) : PyData := .list (fs.map fixD)
abbrev mD (l : List Nat) (i : Nat) (found : List (List (List Nat))) (ws : List (List Nat)) (e : Option Sl) (st : SrcSt) : Me := ⟨[some (sd l), some (sn i), some (.dat (fsD found)), some (.dat (wsD ws)), e], st⟩
theorem step1 {l s : List Nat} {i : Nat} {found : List (List (List Nat))} {ws : List (List Nat)} {e : Option Sl} {st : SrcSt} (h : At l i (dk s)) (hl : l.length ≤ 100000) (hw : ws.length ≤ 10) :
    ∃ q e2, At l q (af s) ∧ ∀ r, mSeq A4 (mSeq A5 A6) (mD l q found (ws ++ [wd s]) e2 st) = r → bD (mD l i found ws e st) = r := by
  obtain ⟨h1, x1⟩ := end_wd (st := st) h hl
  obtain ⟨q, h2, x2⟩ := end_bl (st := st) h1 hl
  refine ⟨q, some (sn (i + (wd s).length)), h2, fun r hr => ?_⟩
  have s1 : A1 (mD l i found ws e st) = .ok .next (mD l i found ws (some (sn (i + (wd s).length))) st) :=
    r_set (i := 4) (env := [some (sd l), some (sn i), some (.dat (fsD found)), some (.dat (wsD ws)), e]) (st := st) (r_call (xs := [sd l, sn i, .dat (.str c_ALPHABET)]) (m1 := mD l i found ws e st) rfl x1) (by simp)
  have hcut : pCut (dt l) (some ((i : Nat) : Int)) (some ((i + (wd s).length : Nat) : Int)) = some (dt (wd s)) := by
    have hlb : i + (wd s).length ≤ l.length := by have := h1.end; omega
    show (if (tx l).length ≤ sizeLine then some (PyData.str (cutS (tx l) (some ((i : Nat) : Int)) (some ((i + (wd s).length : Nat) : Int)))) else none) = _
    rw [if_pos (by rw [tx_len, sl_eq]; omega), tx_cut _ _ _ (by omega) hlb, show i + (wd s).length - i = (wd s).length by omega]
    obtain ⟨a, ea, hia⟩ := h
    have e1 : l.drop i = dk s := by rw [ea, hia, List.drop_left]
    have e2 : (dk s).take (wd s).length = wd s := by
      have := wd_split s
      rw [this]
      exact List.take_left
    rw [e1, e2]
  have hct : mCut (mBor 0) (some (mBor 1)) (some (mBor 4)) (mD l i found ws (some (sn (i + (wd s).length))) st) = .ok (sd (wd s)) (mD l i found ws (some (sn (i + (wd s).length))) st) := by
    simp only [mCut, mPart, mBor, e0, e1, e4, Res.bind_ok, hcut]
  have hadd : pAdd (wsD ws) (.list [dt (wd s)]) = some (wsD (ws ++ [wd s])) := by
    have ee : wsD (ws ++ [wd s]) = .list (ws.map dt ++ [dt (wd s)]) := by unfold wsD; simp
    rw [ee]
    show (if (ws.map dt).length + [dt (wd s)].length ≤ sizeLine then some (PyData.list (ws.map dt ++ [dt (wd s)])) else none) = _
    rw [if_pos (by rw [List.length_map, sl_eq]; simp; omega)]
  have s2 : A2 (mD l i found ws (some (sn (i + (wd s).length))) st) = .ok .next (mD l i found (ws ++ [wd s]) (some (sn (i + (wd s).length))) st) :=
    r_set (i := 3) (env := [some (sd l), some (sn i), some (.dat (fsD found)), some (.dat (wsD ws)), some (sn (i + (wd s).length))]) (st := st) (r_op (f := pAdd) (a := mBor 3) rfl (r_dat (r_L (r_lst (r_ac hct r_an) rfl (by simp)))) hadd) (by simp)
  have s3 : A3 (mD l i found (ws ++ [wd s]) (some (sn (i + (wd s).length))) st) = .ok .next (mD l q found (ws ++ [wd s]) (some (sn (i + (wd s).length))) st) := by
    have ha : mArgs [(mVar 0), (mVar 4), (mC (.dat (.str " ")))] (mD l i found (ws ++ [wd s]) (some (sn (i + (wd s).length))) st) = .ok [sd l, sn (i + (wd s).length), sd [32]] (mD l i found (ws ++ [wd s]) (some (sn (i + (wd s).length))) st) := by
      rw [lit_blank]; rfl
    exact r_set (i := 1) (env := [some (sd l), some (sn i), some (.dat (fsD found)), some (.dat (wsD (ws ++ [wd s]))), some (sn (i + (wd s).length))]) (st := st) (r_call (m1 := mD l i found (ws ++ [wd s]) (some (sn (i + (wd s).length))) st) ha x2) (by simp)
  exact (r_seq s1).trans ((r_seq s2).trans ((r_seq s3).trans hr))
theorem len_ws (ws : List (List Nat)) : fLen [wsD ws] = some (nd ws.length) := by show some (nd (ws.map dt).length) = _; rw [List.length_map]
/-- the sign behind a word -/
theorem step5 {l t : List Nat} {q : Nat} {found : List (List (List Nat))} {ws : List (List Nat)} {e : Option Sl} {st : SrcSt} (h : At l q t) (hl : l.length ≤ 100000) (hw : ws.length ≤ 3) :
    (t.head? = some (sgn ws.length) → ∃ j, At l j (dk t.tail) ∧ mSeq A5 A6 (mD l q found ws e st) = .ok .next (mD l j found ws e st)) ∧
    (¬ t.head? = some (sgn ws.length) → mSeq A5 A6 (mD l q found ws e st) = .ok (.ret (.dat (wrongD q))) (mD l q found ws e st)) := by
  have hcut : pCut (dt l) (some ((q : Nat) : Int)) (some ((q + 1 : Nat) : Int)) = some (dt (t.take 1)) := by
    show (if (tx l).length ≤ sizeLine then some (PyData.str (cutS (tx l) (some ((q : Nat) : Int)) (some ((q + 1 : Nat) : Int)))) else none) = _
    rw [if_pos (by rw [tx_len, sl_eq]; omega), cut1 h]
  have hadd : mOp pAdd (mBor 1) (mDat (mC (.dat (.int 1)))) (mD l q found ws e st) = .ok (sn (q + 1)) (mD l q found ws e st) := r_op (f := pAdd) (a := mBor 1) rfl (r_dat (a := mC (.dat (.int 1))) rfl) (pAdd1 _)
  have hct : mCut (mBor 0) (some (mBor 1)) (some (mDat (mOp pAdd (mBor 1) (mDat (mC (.dat (.int 1))))))) (mD l q found ws e st) = .ok (sd (t.take 1)) (mD l q found ws e st) := by
    have h3 : mDat (mOp pAdd (mBor 1) (mDat (mC (.dat (.int 1))))) (mD l q found ws e st) = .ok (nd (q + 1)) (mD l q found ws e st) := r_dat hadd
    have hb0 : mBor 0 (mD l q found ws e st) = .ok (dt l) (mD l q found ws e st) := rfl
    have hp1 : mPart (some (mBor 1)) (mD l q found ws e st) = .ok (some (q : Int)) (mD l q found ws e st) := rfl
    have hp2 : mPart (some (mDat (mOp pAdd (mBor 1) (mDat (mC (.dat (.int 1))))))) (mD l q found ws e st) = .ok (some ((q + 1 : Nat) : Int)) (mD l q found ws e st) := by
      unfold mPart
      dsimp only
      rw [h3]
      rfl
    unfold mCut
    rw [hb0, Res.bind_ok, hp1, Res.bind_ok, hp2, Res.bind_ok, hcut]
  have hls : mLst (mArgs [(mC (.dat (.str ","))), (mC (.dat (.str "/"))), (mC (.dat (.str ">"))), (mC (.dat (.str "/")))]) (mD l q found ws e st) = .ok [dt [44], dt [47], dt [62], dt [47]] (mD l q found ws e st) := by
    rw [lit_comma, lit_slash, lit_gt]
    exact r_lst (xs := [sd [44], sd [47], sd [62], sd [47]]) rfl rfl (by simp)
  have hix : pIx (.list [dt [44], dt [47], dt [62], dt [47]]) (nd ws.length) = some (dt [sgn ws.length]) := by
    have : ws.length = 0 ∨ ws.length = 1 ∨ ws.length = 2 ∨ ws.length = 3 := by omega
    rcases this with k | k | k | k <;> rw [k] <;> rfl
  have hne : pNot pEq (dt (t.take 1)) (dt [sgn ws.length]) = some (.bool (!decide (t.take 1 = [sgn ws.length]))) := by unfold pNot; rw [pEq_tx]
  have ht := r_test (r_op (f := pNot pEq) (r_dat hct) (r_dat (r_op (f := pIx) (r_dat (r_L hls)) (r_dat (r_cal (r_bc (a := mBor 3) rfl r_bn) (len_ws ws))) hix)) hne)
  constructor
  · intro hh
    rw [decide_eq_true (take1.2 hh)] at ht
    have hc : At l q (sgn ws.length :: t.tail) := by rw [← head_cons hh]; exact h
    obtain ⟨j, hj, ej⟩ := end_bl (st := st) hc.cons hl
    refine ⟨j, hj, (r_seq (m1 := mD l q found ws e st) ((r_if_f ht).trans rfl)).trans ?_⟩
    have ha : mArgs [(mVar 0), (mOp pAdd (mBor 1) (mDat (mC (.dat (.int 1))))), (mC (.dat (.str " ")))] (mD l q found ws e st) = .ok [sd l, sn (q + 1), sd [32]] (mD l q found ws e st) := by
      rw [lit_blank]
      exact r_ac (a := mVar 0) rfl (r_ac hadd (r_ac (a := mC (sd [32])) rfl r_an))
    exact r_set (i := 1) (env := [some (sd l), some (sn q), some (.dat (fsD found)), some (.dat (wsD ws)), e]) (st := st) (r_call (m1 := mD l q found ws e st) ha ej) (by simp)
  · intro hh
    rw [decide_eq_false (fun z => hh (take1.1 z))] at ht
    exact r_seq_ret ((r_if_t ht).trans (r_ret (r_L (r_lst (xs := [.dat (.str "wrong"), sn q]) rfl rfl (by simp)))))
theorem step4 {l t : List Nat} {q : Nat} {found : List (List (List Nat))} {ws : List (List Nat)} {e : Option Sl} {st : SrcSt} (h : At l q t) (hl : l.length ≤ 100000) (hn : found.length ≤ 100001) :
    (¬ ws.length = 4 → A4 (mD l q found ws e st) = .ok .next (mD l q found ws e st)) ∧
    (ws.length = 4 → t = [] → ∃ m, A4 (mD l q found ws e st) = .ok (.ret (.dat (goodD (found ++ [ws])))) m ∧ m.st = st) ∧
    (ws.length = 4 → ¬ t = [] → A4 (mD l q found ws e st) = .ok .next (mD l q (found ++ [ws]) [] e st)) := by
  have heq : pEq (nd ws.length) (.int 4) = some (.bool (decide (ws.length = 4))) := pEq_nd _ 4
  have ht := r_test (r_op (f := pEq) (m := mD l q found ws e st) (r_dat (r_cal (r_bc (a := mBor 3) rfl r_bn) (len_ws ws))) (r_dat (a := mC (.dat (.int 4))) rfl) heq)
  have hadd : pAdd (fsD found) (.list [fixD ws]) = some (fsD (found ++ [ws])) := by
    have ee : fsD (found ++ [ws]) = .list (found.map fixD ++ [fixD ws]) := by unfold fsD; simp
    rw [ee]
    show (if (found.map fixD).length + [fixD ws].length ≤ sizeLine then some (PyData.list (found.map fixD ++ [fixD ws])) else none) = _
    rw [if_pos (by rw [List.length_map, sl_eq]; simp; omega)]
  have hb1 : B1 (mD l q found ws e st) = .ok .next (mD l q (found ++ [ws]) [] e st) := by
    have ha : mArgs [(mOp pAdd (mBor 2) (mDat (mL (mLst (mArgs [(mCal fTuple (mBs [(mBor 3)]))]))))), (mL (mLst (mArgs [])))] (mD l q found ws e st) = .ok [.dat (fsD (found ++ [ws])), .dat (.list [])] (mD l q found ws e st) :=
      r_ac (r_op (f := pAdd) (a := mBor 2) rfl (r_dat (r_L (r_lst (r_ac (x := .dat (fixD ws)) (r_cal (ds := [wsD ws]) (r_bc (a := mBor 3) rfl r_bn) rfl) r_an) rfl (by simp)))) hadd) (r_ac (r_L (r_lst r_an rfl (by simp))) r_an)
    show mPar2 2 3 _ _ = _
    unfold mPar2
    rw [ha]
    rfl
  refine ⟨fun hw => ?_, fun hw h0 => ?_, fun hw h0 => ?_⟩
  · rw [decide_eq_false hw] at ht
    exact (r_if_f ht).trans rfl
  · rw [decide_eq_true hw] at ht
    have hq : q = l.length := by subst h0; exact h.nil
    have ht2 := r_test (r_op (f := pEq) (m := mD l q (found ++ [ws]) [] e st) (a := mBor 1) rfl (r_dat (r_cal (r_bc (a := mBor 0) rfl r_bn) (fLen_tx hl))) (pEq_nd _ _))
    rw [decide_eq_true hq] at ht2
    exact ⟨mD l q (found ++ [ws]) [] e st, (r_if_t ht).trans ((r_seq hb1).trans ((r_if_t ht2).trans (r_ret (r_L (r_lst (xs := [.dat (.str "good"), .dat (bkD (found ++ [ws]))]) (r_ac (a := mC (.dat (.str "good"))) rfl (r_ac (r_cal (ds := [fsD (found ++ [ws])]) (r_bc (a := mBor 2) rfl r_bn) rfl) r_an)) rfl (by simp)))))), rfl⟩
  · rw [decide_eq_true hw] at ht
    have hq : ¬ q = l.length := by have := h.end; have := List.length_pos_iff.2 h0; omega
    have ht2 := r_test (r_op (f := pEq) (m := mD l q (found ++ [ws]) [] e st) (a := mBor 1) rfl (r_dat (r_cal (r_bc (a := mBor 0) rfl r_bn) (fLen_tx hl))) (pEq_nd _ _))
    rw [decide_eq_false hq] at ht2
    exact (r_if_t ht).trans ((r_seq hb1).trans ((r_if_f ht2).trans rfl))
theorem due_run {l : List Nat} {st : SrcSt} (hl : l.length ≤ 100000) : ∀ (n : Nat) (found : List (List (List Nat))) (ws : List (List Nat)) (s : List Nat) (i : Nat) (e : Option Sl), At l i (dk s) → ws.length ≤ 3 → s.length < n → found.length + s.length ≤ 100000 →
    match dueO n found ws s with
    | .ok fs => ∃ m, whileN cD bD n (mD l i found ws e st) = .ok (.ret (.dat (goodD fs))) m ∧ m.st = st
    | .error t => ∃ q m, At l q t ∧ whileN cD bD n (mD l i found ws e st) = .ok (.ret (.dat (wrongD q))) m ∧ m.st = st
  | 0, _, _, _, _, _, _, _, h, _ => absurd h (Nat.not_lt_zero _)
  | n + 1, found, ws, s, i, e, h, hw, hn, hf => by
    have hi : i ≤ l.length := by have := h.end; omega
    have hle : pLe (nd i) (nd l.length) = some (.bool true) := by show some (PyData.bool (decide ((i : Int) ≤ (l.length : Int)))) = _; rw [decide_eq_true (by omega)]
    have hc : cD (mD l i found ws e st) = .ok true (mD l i found ws e st) := r_test (r_op (f := pLe) (a := mBor 1) rfl (r_dat (r_cal (r_bc (a := mBor 0) rfl r_bn) (fLen_tx hl))) hle)
    obtain ⟨q, e2, hq, hb⟩ := step1 (found := found) (e := e) (st := st) h hl (by omega : ws.length ≤ 10)
    obtain ⟨k1, k2, k3⟩ := step4 (found := found) (ws := ws ++ [wd s]) (e := e2) (st := st) hq hl (by omega)
    have hlen : (ws ++ [wd s]).length = ws.length + 1 := by simp
    unfold dueO
    by_cases h3 : ws.length = 3
    · rw [if_pos h3]
      by_cases h0 : af s = []
      · rw [if_pos h0]
        obtain ⟨m, e4, es⟩ := k2 (by omega) h0
        exact ⟨m, r_wh_ret (b := bD) hc (hb _ (r_seq_ret e4)), es⟩
      · rw [if_neg h0]
        have e4 := k3 (by omega) h0
        obtain ⟨y1, y2⟩ := step5 (found := found ++ [ws ++ [wd s]]) (ws := []) (e := e2) (st := st) hq hl (by simp)
        by_cases h44 : (af s).head? = some 44
        · rw [if_pos h44]
          obtain ⟨j, hj, e5⟩ := y1 h44
          have hl2 := af_tail h44
          have ih := due_run (st := st) hl n (found ++ [ws ++ [wd s]]) [] (af s).tail j e2 hj (by simp) (by omega) (by rw [List.length_append]; simp only [List.length_cons, List.length_nil]; omega)
          rw [r_wh_t (b := bD) hc (hb _ ((r_seq e4).trans e5))]
          exact ih
        · rw [if_neg h44]
          exact ⟨q, _, hq, r_wh_ret (b := bD) hc (hb _ ((r_seq e4).trans (y2 h44))), rfl⟩
    · rw [if_neg h3]
      have e4 := k1 (by omega)
      obtain ⟨y1, y2⟩ := step5 (found := found) (ws := ws ++ [wd s]) (e := e2) (st := st) hq hl (by omega)
      rw [hlen] at y1 y2
      by_cases hs : (af s).head? = some (sgn (ws.length + 1))
      · rw [if_pos hs]
        obtain ⟨j, hj, e5⟩ := y1 hs
        have hl2 := af_tail hs
        have ih := due_run (st := st) hl n found (ws ++ [wd s]) (af s).tail j e2 hj (by omega) (by omega) (by omega)
        rw [r_wh_t (b := bD) hc (hb _ ((r_seq e4).trans e5))]
        exact ih
      · rw [if_neg hs]
        exact ⟨q, _, hq, r_wh_ret (b := bD) hc (hb _ ((r_seq e4).trans (y2 hs))), rfl⟩
end PL.RF
namespace PL.RF
open PySem PySem.Spec PyProof.Rows L2
theorem law_due_any {l : List Nat} {st : SrcSt} (hl : l.length ≤ 99000) : match textO l with
    | .ok fs => F__law_due [sd l] st = .ok (.dat (goodD fs)) st
    | .error t => ∃ q, At l q t ∧ F__law_due [sd l] st = .ok (.dat (wrongD q)) st := by
  have hl1 : l.length ≤ 100000 := by omega
  have h0 : At l 0 l := ⟨[], rfl, rfl⟩
  obtain ⟨b, hb, eb⟩ := end_bl (st := st) h0 hl1
  have a3 : kitB (tyName (dt l)) "str" = some true := by show kitB "str" "str" = some true; decide +kernel
  have s0 : mIfS (mNot (mTest (mIsi "str" (mBor 0)))) (mRet (mL (mLst (mArgs [(mC (.dat (.str "wrong"))), (mC (.dat (.int 0)))])))) mNext ⟨[some (sd l), none, none, none, none], st⟩ = .ok .next ⟨[some (sd l), none, none, none, none], st⟩ := by
    refine (r_if_f (m1 := ⟨[some (sd l), none, none, none, none], st⟩) ?_).trans rfl
    simp only [mNot, mTest, mIsi, mBor, e0, Res.bind_ok, a3]
    simp
  have hcl : mCall F__law_end (mArgs [(mVar 0), (mC (.dat (.int 0))), (mC (.dat (.str " ")))]) ⟨[some (sd l), none, none, none, none], st⟩ = .ok (sn b) ⟨[some (sd l), none, none, none, none], st⟩ := by
    rw [lit_blank]
    exact r_call (xs := [sd l, sn 0, sd [32]]) (m1 := ⟨[some (sd l), none, none, none, none], st⟩) rfl eb
  have s1 : mPar3 1 2 3 (mArgs [(mCall F__law_end (mArgs [(mVar 0), (mC (.dat (.int 0))), (mC (.dat (.str " ")))])), (mL (mLst (mArgs []))), (mL (mLst (mArgs [])))]) ⟨[some (sd l), none, none, none, none], st⟩ = .ok .next (mD l b [] [] none st) := by
    have ha := r_ac hcl (r_ac (r_L (r_lst (m := ⟨[some (sd l), none, none, none, none], st⟩) r_an rfl (by simp))) (r_ac (r_L (r_lst r_an rfl (by simp))) r_an))
    unfold mPar3
    rw [ha]
    rfl
  have htest := r_test (r_op (f := pEq) (m := mD l b [] [] none st) (a := mBor 1) rfl (r_dat (r_cal (r_bc (a := mBor 0) rfl r_bn) (fLen_tx hl1))) (pEq_nd _ _))
  have hbe := hb.end
  unfold textO
  by_cases hd : dk l = []
  · rw [if_pos hd]
    have : b = l.length := by rw [hd] at hbe; simpa using hbe
    rw [decide_eq_true this] at htest
    exact r_def (n := 5) (b := m__law_due) (m := mD l b [] [] none st) (env := [some (sd l), none, none, none, none]) rfl ((r_seq s0).trans ((r_seq s1).trans (r_seq_ret ((r_if_t htest).trans (r_ret (r_L (r_lst (xs := [.dat (.str "good"), .dat (bkD [])]) (r_ac (a := mC (.dat (.str "good"))) rfl (r_ac (r_tup r_an rfl (by simp)) r_an)) rfl (by simp))))))))
  · rw [if_neg hd]
    have : ¬ b = l.length := by have := List.length_pos_iff.2 hd; omega
    rw [decide_eq_false this] at htest
    have hr := due_run (st := st) hl1 1000000 [] [] l b none hb (by simp) (by omega) (by simp; omega)
    have hdf := due_fs 1000000 l [] (by omega) 1000000 (by omega)
    rw [hdf] at hr
    cases hfo : fixO l with
    | error u =>
      rw [hfo] at hr
      obtain ⟨q, m, hq, e, es⟩ := hr
      have := r_def (n := 5) (b := m__law_due) (m := m) (args := [sd l]) (st := st) (env := [some (sd l), none, none, none, none]) rfl ((r_seq s0).trans ((r_seq s1).trans ((r_seq ((r_if_f htest).trans rfl)).trans (r_seq_ret e))))
      rw [es] at this
      exact ⟨q, hq, this⟩
    | ok p =>
      obtain ⟨f, u⟩ := p
      rw [hfo] at hr
      dsimp only at hr ⊢
      rw [List.nil_append] at hr
      cases hfs : fsO 1000000 [f] u with
      | error v =>
        rw [hfs] at hr
        obtain ⟨q, m, hq, e, es⟩ := hr
        have := r_def (n := 5) (b := m__law_due) (m := m) (args := [sd l]) (st := st) (env := [some (sd l), none, none, none, none]) rfl ((r_seq s0).trans ((r_seq s1).trans ((r_seq ((r_if_f htest).trans rfl)).trans (r_seq_ret e))))
        rw [es] at this
        exact ⟨q, hq, this⟩
      | ok fs =>
        rw [hfs] at hr
        obtain ⟨m, e, es⟩ := hr
        have := r_def (n := 5) (b := m__law_due) (m := m) (args := [sd l]) (st := st) (env := [some (sd l), none, none, none, none]) rfl ((r_seq s0).trans ((r_seq s1).trans ((r_seq ((r_if_f htest).trans rfl)).trans (r_seq_ret e))))
        rw [es] at this
        exact this
/-! is it a book -/
theorem r_for_ret {t : Tg} {b : M Flow} {d : PyData} {r : List PyData} {m m0 m1 : Me} {s : Sl} (ht : mTgt t d m = some m0) (hb : b m0 = .ok (.ret s) m1) : forL t b (d :: r) m = .ok (.ret s) m1 := by
  show (match mTgt t d m with | none => Res.bad | some m0 => (b m0).bind _) = _
  rw [ht]
  show (b m0).bind _ = _
  rw [hb]
  rfl
theorem r_or {a b : M Bool} {m : Me} {x y : Bool} (h : a m = .ok x m) (h2 : b m = .ok y m) : mOr a b m = .ok (x || y) m := by
  unfold mOr; rw [h]
  cases x with
  | true => rfl
  | false => show b m = _; rw [h2]; rfl
abbrev bIs : M Flow := (mIfS (mOr (mTest (mOp pGt (mDat (mCal fLen (mBs [(mBor 1)]))) (mDat (mC (.dat (.int 1)))))) (mOr (mTest (mOp pGt (mDat (mCal fLen (mBs [(mBor 2)]))) (mDat (mC (.dat (.int 3)))))) (mOr (mTest (mOp pGt (mDat (mCal fLen (mBs [(mBor 3)]))) (mDat (mC (.dat (.int 3)))))) (mOr (mTest (mOp pGt (mDat (mCal fLen (mBs [(mBor 4)]))) (mDat (mC (.dat (.int 1)))))) (mTest (mOp pEq (mBor 2) (mDat (mC (.dat (.str "")))))))))) (mRet (mC (.dat (.bool false)))) mNext)
theorem pGt_nd (n k : Nat) : pGt (nd n) (.int (k : Int)) = some (.bool (decide (k < n))) := by
  show some (PyData.bool (decide ((k : Int) < (n : Int)))) = _
  rw [decide_eq_decide.2 Int.ofNat_lt]
theorem is_run {B : PyData} {st : SrcSt} : ∀ (fs : List (List (List Nat))) (x1 x2 x3 x4 : Option Sl), (∀ f ∈ fs, fxOk f) →
    (fs.all okF = true → ∃ y1 y2 y3 y4, forL (.tp [1, 2, 3, 4]) bIs (fs.map fixD) ⟨[some (.dat B), x1, x2, x3, x4], st⟩ = .ok .next ⟨[some (.dat B), y1, y2, y3, y4], st⟩) ∧
    (fs.all okF = false → ∃ m, forL (.tp [1, 2, 3, 4]) bIs (fs.map fixD) ⟨[some (.dat B), x1, x2, x3, x4], st⟩ = .ok (.ret (.dat (.bool false))) m ∧ m.st = st)
  | [], x1, x2, x3, x4, _ => ⟨fun _ => ⟨x1, x2, x3, x4, rfl⟩, fun h => by cases h⟩
  | f :: r, x1, x2, x3, x4, hf => by
    obtain ⟨h4, hw⟩ := hf f List.mem_cons_self
    match f, h4, hw with
    | [a, o, n, b], _, hw =>
      have ht : mTgt (.tp [1, 2, 3, 4]) (fixD [a, o, n, b]) ⟨[some (.dat B), x1, x2, x3, x4], st⟩ = some ⟨[some (.dat B), some (sd a), some (sd o), some (sd n), some (sd b)], st⟩ := rfl
      have la := (hw a (by simp)).2
      have lo := (hw o (by simp)).2
      have ln := (hw n (by simp)).2
      have lb := (hw b (by simp)).2
      generalize hm : (⟨[some (.dat B), some (sd a), some (sd o), some (sd n), some (sd b)], st⟩ : Me) = m
      have g1 := r_test (r_op (f := pGt) (m := m) (r_dat (r_cal (r_bc (a := mBor 1) (x := dt a) (m1 := m) (by subst hm; rfl) r_bn) (fLen_tx la))) (r_dat (a := mC (.dat (.int 1))) rfl) (pGt_nd _ 1))
      have g2 := r_test (r_op (f := pGt) (m := m) (r_dat (r_cal (r_bc (a := mBor 2) (x := dt o) (m1 := m) (by subst hm; rfl) r_bn) (fLen_tx lo))) (r_dat (a := mC (.dat (.int 3))) rfl) (pGt_nd _ 3))
      have g3 := r_test (r_op (f := pGt) (m := m) (r_dat (r_cal (r_bc (a := mBor 3) (x := dt n) (m1 := m) (by subst hm; rfl) r_bn) (fLen_tx ln))) (r_dat (a := mC (.dat (.int 3))) rfl) (pGt_nd _ 3))
      have g4 := r_test (r_op (f := pGt) (m := m) (r_dat (r_cal (r_bc (a := mBor 4) (x := dt b) (m1 := m) (by subst hm; rfl) r_bn) (fLen_tx lb))) (r_dat (a := mC (.dat (.int 1))) rfl) (pGt_nd _ 1))
      have g5 : mTest (mOp pEq (mBor 2) (mDat (mC (.dat (.str ""))))) m = .ok (decide (o = [])) m := by
        rw [lit_nil]
        exact r_test (r_op (f := pEq) (a := mBor 2) (x := dt o) (m1 := m) (by subst hm; rfl) (r_dat (a := mC (sd [])) rfl) (pEq_tx _ _))
      have gt := r_or g1 (r_or g2 (r_or g3 (r_or g4 g5)))
      have hv : (decide (1 < a.length) || (decide (3 < o.length) || (decide (3 < n.length) || (decide (1 < b.length) || decide (o = []))))) = !okF [a, o, n, b] := by
        have ho : decide (o = []) = !decide (1 ≤ o.length) := by
          cases o <;> simp
        have e1 : decide (1 < a.length) = !decide (a.length ≤ 1) := by rw [← decide_not]; exact decide_eq_decide.2 (by omega)
        have e2 : decide (3 < o.length) = !decide (o.length ≤ 3) := by rw [← decide_not]; exact decide_eq_decide.2 (by omega)
        have e3 : decide (3 < n.length) = !decide (n.length ≤ 3) := by rw [← decide_not]; exact decide_eq_decide.2 (by omega)
        have e4 : decide (1 < b.length) = !decide (b.length ≤ 1) := by rw [← decide_not]; exact decide_eq_decide.2 (by omega)
        rw [ho, e1, e2, e3, e4]
        show _ = !((decide (a.length ≤ 1) && decide (b.length ≤ 1)) && ((decide (1 ≤ o.length) && decide (o.length ≤ 3)) && decide (n.length ≤ 3)))
        generalize decide (a.length ≤ 1) = p1
        generalize decide (o.length ≤ 3) = p2
        generalize decide (n.length ≤ 3) = p3
        generalize decide (b.length ≤ 1) = p4
        generalize decide (1 ≤ o.length) = p5
        cases p1 <;> cases p2 <;> cases p3 <;> cases p4 <;> cases p5 <;> rfl
      rw [hv] at gt
      obtain ⟨i1, i2⟩ := is_run (B := B) (st := st) r (some (sd a)) (some (sd o)) (some (sd n)) (some (sd b)) (fun g hg => hf g (List.mem_cons_of_mem _ hg))
      rw [List.all_cons]
      cases hk : okF [a, o, n, b] with
      | true =>
        rw [hk] at gt
        have hb : bIs m = .ok .next m := (r_if_f gt).trans rfl
        subst hm
        rw [List.map_cons, r_for (r := r.map fixD) ht hb, Bool.true_and]
        exact ⟨i1, i2⟩
      | false =>
        rw [hk] at gt
        have hb : bIs m = .ok (.ret (.dat (.bool false))) m := (r_if_t gt).trans (r_ret rfl)
        constructor
        · intro h
          cases h
        intro _
        refine ⟨m, ?_, by rw [← hm]⟩
        subst hm
        exact r_for_ret (r := r.map fixD) ht hb
theorem is_book_any {fs : List (List (List Nat))} {st : SrcSt} (hf : ∀ f ∈ fs, fxOk f) : F__law_is_book [.dat (bkD fs)] st = .ok (.dat (.bool (okB fs))) st := by
  have a1 : fLen [bkD fs] = some (nd fs.length) := by show some (nd (fs.map fixD).length) = _; rw [List.length_map]
  have g1 := r_test (r_op (f := pGt) (m := ⟨[some (.dat (bkD fs)), none, none, none, none], st⟩) (r_dat (r_cal (r_bc (a := mBor 0) rfl r_bn) a1)) (r_dat (a := mC (.dat (.int 5))) rfl) (pGt_nd _ 5))
  unfold okB
  by_cases h5 : fs.length ≤ 5
  · rw [decide_eq_false (by omega)] at g1
    rw [decide_eq_true h5, Bool.true_and]
    obtain ⟨i1, i2⟩ := is_run (B := bkD fs) (st := st) fs none none none none hf
    cases ha : fs.all okF with
    | true =>
      obtain ⟨y1, y2, y3, y4, e⟩ := i1 ha
      exact r_def (n := 5) (b := m__law_is_book) (m := ⟨[some (.dat (bkD fs)), y1, y2, y3, y4], st⟩) (env := [some (.dat (bkD fs)), none, none, none, none]) rfl ((r_seq ((r_if_f g1).trans rfl)).trans ((r_seq (b := mRet (mC (.dat (.bool true)))) e).trans (r_ret rfl)))
    | false =>
      obtain ⟨m, e, es⟩ := i2 ha
      have := r_def (n := 5) (b := m__law_is_book) (m := m) (args := [.dat (bkD fs)]) (st := st) (env := [some (.dat (bkD fs)), none, none, none, none]) rfl ((r_seq ((r_if_f g1).trans rfl)).trans (r_seq_ret e))
      rw [es] at this
      exact this
  · rw [decide_eq_true (by omega)] at g1
    rw [decide_eq_false h5, Bool.false_and]
    exact r_def (n := 5) (b := m__law_is_book) (m := ⟨[some (.dat (bkD fs)), none, none, none, none], st⟩) (env := [some (.dat (bkD fs)), none, none, none, none]) rfl (r_seq_ret ((r_if_t g1).trans (r_ret rfl)))
end PL.RF
namespace PL.RF
open PySem PySem.Spec PyProof.Rows L2
theorem r_try_ok {tab : Str → Option Bool} {i : Nat} {b s : M Flow} {m m1 : Me} {f : Flow} (h : b m = .ok f m1) : mTry tab i b s m = .ok f m1 := by unfold mTry; rw [h]
theorem r_try_exc {tab : Str → Option Bool} {i : Nat} {b s : M Flow} {m m1 m2 m3 : Me} {f : Flow} {x : Xn} (h : b m = .exc x m1) (ht : tab x.cls = some true) (hp : putE i (.exc x) m1 = some m2) (hs : s m2 = .ok f m3) : mTry tab i b s m = .ok f ⟨m3.env.set i none, m3.st⟩ := by
  unfold mTry; rw [h]
  show (if tab x.cls = some true then (match putE i (.exc x) m1 with | some m2 => (match s m2 with | .ok f m3 => Res.ok f ⟨m3.env.set i none, m3.st⟩ | _ => .bad) | none => .bad) else .bad) = _
  rw [if_pos ht, hp]
  show (match s m2 with | .ok f m3 => Res.ok f ⟨m3.env.set i none, m3.st⟩ | _ => .bad) = _
  rw [hs]
theorem r_isX {tab : Str → Option Bool} {a : M Sl} {m m1 : Me} {x : Xn} {b : Bool} (h : a m = .ok (.exc x) m1) (ht : tab x.cls = some b) : mIsX tab a m = .ok (.dat (.bool b)) m1 := by
  unfold mIsX; rw [h]
  show (match tab x.cls with | some b => Res.ok (Sl.dat (.bool b)) m1 | none => .bad) = _
  rw [ht]
theorem r_op1 {f : PyData → Option PyData} {a : M PyData} {m m1 : Me} {x z : PyData} (h : a m = .ok x m1) (hf : f x = some z) : mOp1 f a m = .ok (.dat z) m1 := by
  unfold mOp1; rw [h]
  show (match f x with | some z => Res.ok (Sl.dat z) m1 | none => .bad) = _
  rw [hf]
theorem r_not {a : M Bool} {m m1 : Me} {b : Bool} (h : a m = .ok b m1) : mNot a m = .ok (!b) m1 := by unfold mNot; rw [h]; rfl
def otherD : PyData := .list [.str "book", .none]
abbrev tailR : M Flow := (mSeq (mIfS (mTest (mIsNx (mVar 1))) (mRet (mL (mLst (mArgs [(mC (.dat (.str "good"))), (mVar 2)])))) mNext)
  (mSeq (mSetN 4 (mLst (mArgs [(mIsX tin_InvalidText (mVar 1)), (mIsX tin_InvalidBook (mVar 1)), (mIsX tin_InvalidWord (mVar 1))])))
  (mSeq (mIfS (mOr (mTest (mOp (pNot pEq) (mDat (mOp1 (pCnt true) (mBor 4))) (mDat (mC (.dat (.int 1)))))) (mOr (mTest (mOp pIx (mBor 4) (mDat (mC (.dat (.int 2)))))) (mNot (mTest (mIsX tin_ValueError (mVar 1)))))) (mRet (mL (mLst (mArgs [(mC (.dat (.str "other"))), (mC (.dat .none))])))) mNext)
  (mSeq (mIfS (mTest (mOp pIx (mBor 4) (mDat (mC (.dat (.int 0)))))) (mRet (mL (mLst (mArgs [(mC (.dat (.str "wrong"))), (mFld tfn_at "at" (mVar 1))])))) mNext)
  (mRet (mL (mLst (mArgs [(mC (.dat (.str "book"))), (mC (.dat .none))]))))))))
/-- the first half: what is kept -/
theorem read_head {v : PyData} {st : SrcSt} :
    (∀ d, F_read_book [.dat v] st = .ok (.dat d) st → ∀ r, tailR ⟨[some (.dat v), some (.dat .none), some (.dat d), none, none], st⟩ = r → m__law_read ⟨[some (.dat v), none, none, none, none], st⟩ = r) ∧
    (∀ x, F_read_book [.dat v] st = .exc x st → txn_FixError x.cls = some true → ∀ r, tailR ⟨[some (.dat v), some (.exc x), some (.dat .none), none, none], st⟩ = r → m__law_read ⟨[some (.dat v), none, none, none, none], st⟩ = r) := by
  have s1 : ∀ r, (mSeq (mTry txn_FixError 3 (mSet 2 (mCall F_read_book (mArgs [(mVar 0)]))) (mSet 1 (mVar 3))) tailR) ⟨[some (.dat v), some (.dat .none), some (.dat .none), none, none], st⟩ = r → m__law_read ⟨[some (.dat v), none, none, none, none], st⟩ = r := fun r hr => by
    refine Eq.trans ?_ hr
    refine (r_seq (m1 := ⟨[some (.dat v), some (.dat .none), none, none, none], st⟩) rfl).trans ?_
    exact r_seq (m1 := ⟨[some (.dat v), some (.dat .none), some (.dat .none), none, none], st⟩) rfl
  constructor
  · intro d hd r hr
    refine s1 r ((r_seq (r_try_ok (m1 := ⟨[some (.dat v), some (.dat .none), some (.dat d), none, none], st⟩) ?_)).trans hr)
    exact r_set (i := 2) (env := [some (.dat v), some (.dat .none), some (.dat .none), none, none]) (st := st) (r_call (xs := [.dat v]) (m1 := ⟨[some (.dat v), some (.dat .none), some (.dat .none), none, none], st⟩) rfl hd) (by simp)
  · intro x hx ht r hr
    refine s1 r ((r_seq (m1 := ⟨[some (.dat v), some (.exc x), some (.dat .none), none, none], st⟩) ?_).trans hr)
    exact r_try_exc (m1 := ⟨[some (.dat v), some (.dat .none), some (.dat .none), none, none], st⟩) (m2 := ⟨[some (.dat v), some (.dat .none), some (.dat .none), some (.exc x), none], st⟩) (m3 := ⟨[some (.dat v), some (.exc x), some (.dat .none), some (.exc x), none], st⟩)
      (r_set_exc (r_call_exc (xs := [.dat v]) (m1 := ⟨[some (.dat v), some (.dat .none), some (.dat .none), none, none], st⟩) rfl hx)) ht rfl rfl
theorem tail_good {v d : PyData} {st : SrcSt} : ∃ m, tailR ⟨[some (.dat v), some (.dat .none), some (.dat d), none, none], st⟩ = .ok (.ret (.dat (.list [.str "good", d]))) m ∧ m.st = st := by
  refine ⟨⟨[some (.dat v), some (.dat .none), some (.dat d), none, none], st⟩, ?_, rfl⟩
  exact r_seq_ret ((r_if_t (m1 := ⟨[some (.dat v), some (.dat .none), some (.dat d), none, none], st⟩) (r_test rfl)).trans (r_ret (r_L (r_lst (xs := [.dat (.str "good"), .dat d]) rfl rfl (by simp)))))
theorem tail_exc {v : PyData} {x : Xn} {st : SrcSt} {b1 b2 : Bool} (h1 : tin_InvalidText x.cls = some b1) (h2 : tin_InvalidBook x.cls = some b2) (h3 : tin_InvalidWord x.cls = some false) (h4 : tin_ValueError x.cls = some true) (hb : [b1, b2, false].count true = 1) :
    ∀ r, mSeq (mIfS (mTest (mOp pIx (mBor 4) (mDat (mC (.dat (.int 0)))))) (mRet (mL (mLst (mArgs [(mC (.dat (.str "wrong"))), (mFld tfn_at "at" (mVar 1))])))) mNext) (mRet (mL (mLst (mArgs [(mC (.dat (.str "book"))), (mC (.dat .none))])))) ⟨[some (.dat v), some (.exc x), some (.dat .none), none, some (.own [.bool b1, .bool b2, .bool false])], st⟩ = r → tailR ⟨[some (.dat v), some (.exc x), some (.dat .none), none, none], st⟩ = r := fun r hr => by
  refine (r_seq (m1 := ⟨[some (.dat v), some (.exc x), some (.dat .none), none, none], st⟩) ((r_if_f (m1 := ⟨[some (.dat v), some (.exc x), some (.dat .none), none, none], st⟩) (r_test rfl)).trans rfl)).trans ?_
  refine (r_seq (m1 := ⟨[some (.dat v), some (.exc x), some (.dat .none), none, some (.own [.bool b1, .bool b2, .bool false])], st⟩) ?_).trans ?_
  · exact r_setN (i := 4) (env := [some (.dat v), some (.exc x), some (.dat .none), none, none]) (st := st) (r_lst (xs := [.dat (.bool b1), .dat (.bool b2), .dat (.bool false)]) (r_ac (r_isX (a := mVar 1) rfl h1) (r_ac (r_isX (a := mVar 1) rfl h2) (r_ac (r_isX (a := mVar 1) rfl h3) r_an))) rfl (by simp)) (by simp)
  generalize hm : (⟨[some (.dat v), some (.exc x), some (.dat .none), none, some (.own [.bool b1, .bool b2, .bool false])], st⟩ : Me) = m at *
  have hb4 : mBor 4 m = .ok (.list [.bool b1, .bool b2, .bool false]) m := by subst hm; rfl
  have hv1 : mVar 1 m = .ok (.exc x) m := by subst hm; rfl
  have hcnt : pCnt true (.list [.bool b1, .bool b2, .bool false]) = some (nd 1) := by
    show some (PyData.int ((([b1, b2, false] : List Bool).count true : Nat) : Int)) = _
    rw [hb]
  have hne : pNot pEq (nd 1) (.int 1) = some (.bool false) := rfl
  have t1 := r_test (r_op (f := pNot pEq) (r_dat (r_op1 hb4 hcnt)) (r_dat (a := mC (.dat (.int 1))) rfl) hne)
  have t2 := r_test (r_op (f := pIx) hb4 (r_dat (a := mC (.dat (.int 2))) rfl) (z := .bool false) rfl)
  have t3 := r_not (r_test (r_isX hv1 h4))
  have t := r_or t1 (r_or t2 t3)
  exact (r_seq ((r_if_f (c := mOr _ _) t).trans rfl)).trans hr
theorem tail_wrong {v : PyData} {q : Nat} {st : SrcSt} : ∃ m, tailR ⟨[some (.dat v), some (.exc (badAt q)), some (.dat .none), none, none], st⟩ = .ok (.ret (.dat (wrongD q))) m ∧ m.st = st := by
  refine ⟨⟨[some (.dat v), some (.exc (badAt q)), some (.dat .none), none, some (.own [.bool true, .bool false, .bool false])], st⟩, ?_, rfl⟩
  refine tail_exc (b1 := true) (b2 := false) (show tin_InvalidText "InvalidText" = some true by decide +kernel) (show tin_InvalidBook "InvalidText" = some false by decide +kernel) (show tin_InvalidWord "InvalidText" = some false by decide +kernel) (show tin_ValueError "InvalidText" = some true by decide +kernel) rfl _ ?_
  have hfl : mFld tfn_at "at" (mVar 1) ⟨[some (.dat v), some (.exc (badAt q)), some (.dat .none), none, some (.own [.bool true, .bool false, .bool false])], st⟩ = .ok (sn q) ⟨[some (.dat v), some (.exc (badAt q)), some (.dat .none), none, some (.own [.bool true, .bool false, .bool false])], st⟩ := by
    have hk : tfn_at "InvalidText" = true := by decide +kernel
    have hlk : (badAt q).fs.lookup (Str.ofString "at") = some (nd q) := lkself
    show (if tfn_at "InvalidText" = true then (match (badAt q).fs.lookup (Str.ofString "at") with | some d => Res.ok (Sl.dat d) _ | none => .bad) else .bad) = _
    rw [if_pos hk, hlk]
  exact r_seq_ret ((r_if_t (m1 := ⟨[some (.dat v), some (.exc (badAt q)), some (.dat .none), none, some (.own [.bool true, .bool false, .bool false])], st⟩) (r_test (r_op (f := pIx) (a := mBor 4) (x := .list [.bool true, .bool false, .bool false]) rfl (r_dat (a := mC (.dat (.int 0))) rfl) (z := .bool true) rfl))).trans (r_ret (r_L (r_lst (xs := [.dat (.str "wrong"), sn q]) (r_ac (a := mC (.dat (.str "wrong"))) rfl (r_ac hfl r_an)) rfl (by simp)))))
theorem tail_book {v : PyData} {st : SrcSt} : ∃ m, tailR ⟨[some (.dat v), some (.exc ⟨"InvalidBook", []⟩), some (.dat .none), none, none], st⟩ = .ok (.ret (.dat otherD)) m ∧ m.st = st := by
  refine ⟨⟨[some (.dat v), some (.exc ⟨"InvalidBook", []⟩), some (.dat .none), none, some (.own [.bool false, .bool true, .bool false])], st⟩, ?_, rfl⟩
  refine tail_exc (b1 := false) (b2 := true) (show tin_InvalidText "InvalidBook" = some false by decide +kernel) (show tin_InvalidBook "InvalidBook" = some true by decide +kernel) (show tin_InvalidWord "InvalidBook" = some false by decide +kernel) (show tin_ValueError "InvalidBook" = some true by decide +kernel) rfl _ ?_
  exact (r_seq (m1 := ⟨[some (.dat v), some (.exc ⟨"InvalidBook", []⟩), some (.dat .none), none, some (.own [.bool false, .bool true, .bool false])], st⟩) ((r_if_f (m1 := ⟨[some (.dat v), some (.exc ⟨"InvalidBook", []⟩), some (.dat .none), none, some (.own [.bool false, .bool true, .bool false])], st⟩) (r_test (r_op (f := pIx) (a := mBor 4) (x := .list [.bool false, .bool true, .bool false]) rfl (r_dat (a := mC (.dat (.int 0))) rfl) (z := .bool false) rfl))).trans rfl)).trans (r_ret (r_L (r_lst (xs := [.dat (.str "book"), .dat .none]) rfl rfl (by simp))))
theorem read_of {v d : PyData} {st : SrcSt} {m : Me} (h : m__law_read ⟨[some (.dat v), none, none, none, none], st⟩ = .ok (.ret (.dat d)) m) (hs : m.st = st) : F__law_read [.dat v] st = .ok (.dat d) st := by
  have := r_def (n := 5) (b := m__law_read) (m := m) (args := [.dat v]) (st := st) (env := [some (.dat v), none, none, none, none]) rfl h
  rw [hs] at this
  exact this
theorem tx_text : txn_FixError "InvalidText" = some true := by decide +kernel
theorem tx_book : txn_FixError "InvalidBook" = some true := by decide +kernel
theorem law_read_any {l : List Nat} {st : SrcSt} (hl : l.length ≤ 99000) : match textO l with
    | .ok fs => F__law_read [sd l] st = .ok (.dat (if okB fs = true then goodD fs else otherD)) st
    | .error t => ∃ q, At l q t ∧ F__law_read [sd l] st = .ok (.dat (wrongD q)) st := by
  have hr := read_book_any (l := l) (st := st) (by omega)
  obtain ⟨r1, r2⟩ := read_head (v := dt l) (st := st)
  cases ht : textO l with
  | error t =>
    rw [ht] at hr
    obtain ⟨q, hq, e⟩ := hr
    obtain ⟨m, em, es⟩ := tail_wrong (v := dt l) (q := q) (st := st)
    exact ⟨q, hq, read_of (r2 _ e tx_text _ em) es⟩
  | ok fs =>
    rw [ht] at hr
    dsimp only at hr ⊢
    by_cases ho : okB fs = true
    · rw [if_pos ho] at hr ⊢
      obtain ⟨m, em, es⟩ := tail_good (v := dt l) (d := bkD fs) (st := st)
      exact read_of (r1 _ hr _ em) es
    · rw [if_neg ho] at hr ⊢
      obtain ⟨m, em, es⟩ := tail_book (v := dt l) (st := st)
      exact read_of (r2 _ hr tx_book _ em) es
/-! both readers agree -/
theorem lay_f {f : List (List Nat)} (h : ∀ w ∈ f, wOk w) : PyData.canLayAll0 (f.map dt) = true := by
  induction f with
  | nil => rfl
  | cons w r ih =>
    show (PyData.strOk (tx w) && PyData.canLayAll0 (r.map dt)) = true
    rw [strOk_w (h w List.mem_cons_self).1, ih (fun x hx => h x (List.mem_cons_of_mem _ hx))]; rfl
theorem lay_fs {fs : List (List (List Nat))} (h : ∀ f ∈ fs, fxOk f) : PyData.canLayAll0 (fs.map fixD) = true := by
  induction fs with
  | nil => rfl
  | cons f r ih =>
    show (PyData.canLayAll0 (f.map dt) && PyData.canLayAll0 (r.map fixD)) = true
    rw [lay_f (h f List.mem_cons_self).2, ih (fun x hx => h x (List.mem_cons_of_mem _ hx))]; rfl
theorem dep_f (f : List (List Nat)) : PyData.depthAll (f.map dt) = 0 := by
  induction f with
  | nil => rfl
  | cons w r ih =>
    show max 0 (PyData.depthAll (r.map dt)) = 0
    rw [ih]; rfl
theorem dep_fs (fs : List (List (List Nat))) : PyData.depthAll (fs.map fixD) ≤ 1 := by
  induction fs with
  | nil => decide
  | cons f r ih =>
    show max (PyData.depthAll (f.map dt) + 1) (PyData.depthAll (r.map fixD)) ≤ 1
    rw [dep_f]; omega
theorem lay_good {fs : List (List (List Nat))} (h : ∀ f ∈ fs, fxOk f) : PyData.canLay0 (goodD fs) = true := by
  show (PyData.strOk "good" && (PyData.canLayAll0 (fs.map fixD) && true)) = true
  rw [lay_fs h, show PyData.strOk "good" = true by decide +kernel]; rfl
theorem same_eq {d : PyData} (hl : PyData.canLay0 d = true) (hd : PyData.depth d ≤ 64) (hk : ∃ ds, d = .list ds) : pEq d d = some (.bool true) := by
  obtain ⟨ds, rfl⟩ := hk
  have hs : SeqAt.shaped (.list ds) = true := by
    unfold SeqAt.shaped
    rw [Bool.and_eq_true]
    exact ⟨hl, decide_eq_true hd⟩
  show (if SeqAt.shaped (.list ds) = true ∧ SeqAt.shaped (.list ds) = true then some (PyData.bool (PyData.eqv (.list ds) (.list ds))) else none) = _
  rw [if_pos ⟨hs, hs⟩, SeqAt.eqv_refl _ hl]
theorem good_eq {fs : List (List (List Nat))} (h : ∀ f ∈ fs, fxOk f) : pEq (goodD fs) (goodD fs) = some (.bool true) := by
  refine same_eq (lay_good h) ?_ ⟨_, rfl⟩
  have := dep_fs fs
  show max 0 (max (PyData.depthAll (fs.map fixD) + 1) 0) + 1 ≤ 64
  omega
theorem wrong_eq (q : Nat) : pEq (wrongD q) (wrongD q) = some (.bool true) := by
  refine same_eq ?_ ?_ ⟨_, rfl⟩
  · show (PyData.strOk "wrong" && (true && true)) = true
    rw [show PyData.strOk "wrong" = true by decide +kernel]; rfl
  · show max 0 (max 0 0) + 1 ≤ 64
    omega
theorem other_eq : pEq otherD otherD = some (.bool true) := by
  refine same_eq ?_ ?_ ⟨_, rfl⟩
  · show (PyData.strOk "book" && (true && true)) = true
    rw [show PyData.strOk "book" = true by decide +kernel]; rfl
  · show max 0 (max 0 0) + 1 ≤ 64
    omega
theorem At.same {l t : List Nat} {i j : Nat} (h : At l i t) (h2 : At l j t) : i = j := by
  have := h.end
  have := h2.end
  omega
theorem r_and {a b : M Bool} {m m1 m2 : Me} {y : Bool} (h : a m = .ok true m1) (h2 : b m1 = .ok y m2) : mAnd a b m = .ok y m2 := by
  unfold mAnd; rw [h]
  show (if true = true then b m1 else Res.ok false m1) = _
  rw [if_pos rfl, h2]
theorem r_and_f {a b : M Bool} {m m1 : Me} (h : a m = .ok false m1) : mAnd a b m = .ok false m1 := by unfold mAnd; rw [h]; rfl
theorem law_fits_any {l : List Nat} {st : SrcSt} (hl : l.length ≤ 99000) : F__law_fits [sd l] st = .ok (.dat (.bool true)) st := by
  have hd := law_due_any (st := st) hl
  have hr := law_read_any (st := st) hl
  -- due is a list that begins with a word
  have go : ∀ (d d2 : PyData), F__law_due [sd l] st = .ok (.dat d) st → F__law_read [sd l] st = .ok (.dat d2) st → pEq d2 d2 = some (.bool true) →
      (mIfS (mAnd (mTest (mOp pEq (mDat (mOp pIx (mBor 1) (mDat (mC (.dat (.int 0)))))) (mDat (mC (.dat (.str "good")))))) (mNot (mTest (mCall F__law_is_book (mArgs [(mOp pIx (mBor 1) (mDat (mC (.dat (.int 1)))))]))))) (mSetN 1 (mLst (mArgs [(mC (.dat (.str "book"))), (mC (.dat .none))]))) mNext ⟨[some (sd l), some (.dat d)], st⟩ = .ok .next ⟨[some (sd l), some (.dat d2)], st⟩ ∨
       (d2 = otherD ∧ mIfS (mAnd (mTest (mOp pEq (mDat (mOp pIx (mBor 1) (mDat (mC (.dat (.int 0)))))) (mDat (mC (.dat (.str "good")))))) (mNot (mTest (mCall F__law_is_book (mArgs [(mOp pIx (mBor 1) (mDat (mC (.dat (.int 1)))))]))))) (mSetN 1 (mLst (mArgs [(mC (.dat (.str "book"))), (mC (.dat .none))]))) mNext ⟨[some (sd l), some (.dat d)], st⟩ = .ok .next ⟨[some (sd l), some (.own [.str "book", .none])], st⟩)) → F__law_fits [sd l] st = .ok (.dat (.bool true)) st := by
    intro d d2 e1' e2' eq hcase
    have s1 : mSet 1 (mCall F__law_due (mArgs [(mVar 0)])) ⟨[some (sd l), none], st⟩ = .ok .next ⟨[some (sd l), some (.dat d)], st⟩ := r_set (i := 1) (env := [some (sd l), none]) (st := st) (r_call (xs := [sd l]) (m1 := ⟨[some (sd l), none], st⟩) rfl e1') (by simp)
    rcases hcase with hc | ⟨rfl, hc⟩
    · exact r_def (n := 2) (b := m__law_fits) (m := ⟨[some (sd l), some (.dat d2)], st⟩) (env := [some (sd l), none]) rfl ((r_seq s1).trans ((r_seq hc).trans (r_ret (r_op (f := pEq) (r_dat (r_call (xs := [sd l]) (m1 := ⟨[some (sd l), some (.dat d2)], st⟩) rfl e2')) (b := mBor 1) rfl eq))))
    · exact r_def (n := 2) (b := m__law_fits) (m := ⟨[some (sd l), some (.own [.str "book", .none])], st⟩) (env := [some (sd l), none]) rfl ((r_seq s1).trans ((r_seq hc).trans (r_ret (r_op (f := pEq) (r_dat (r_call (xs := [sd l]) (m1 := ⟨[some (sd l), some (.own [.str "book", .none])], st⟩) rfl e2')) (b := mBor 1) (y := otherD) rfl eq))))
  cases ht : textO l with
  | error t =>
    rw [ht] at hd hr
    obtain ⟨q, hq, e1'⟩ := hd
    obtain ⟨q2, hq2, e2'⟩ := hr
    have := hq.same hq2
    subst this
    refine go _ _ e1' e2' (wrong_eq q) (.inl ?_)
    have hne : pEq (.str "wrong") (.str "good") = some (.bool false) := by
      show some (PyData.bool (decide ((Str.ofString "wrong") = (Str.ofString "good")))) = _
      rw [show decide ((Str.ofString "wrong") = (Str.ofString "good")) = false by decide +kernel]
    exact (r_if_f (r_and_f (r_test (r_op (f := pEq) (r_dat (r_op (f := pIx) (m := ⟨[some (sd l), some (.dat (wrongD q))], st⟩) (a := mBor 1) rfl (r_dat (a := mC (.dat (.int 0))) rfl) (z := .str "wrong") rfl)) (r_dat (a := mC (.dat (.str "good"))) rfl) hne)))).trans rfl
  | ok fs =>
    rw [ht] at hd hr
    dsimp only at hd hr
    obtain ⟨hf, _⟩ := textO_ok ht (by omega)
    have heq : pEq (.str "good") (.str "good") = some (.bool true) := by
      show some (PyData.bool (decide ((Str.ofString "good") = (Str.ofString "good")))) = _
      rw [decide_eq_true rfl]
    have hmm : (⟨[some (sd l), some (.dat (goodD fs))], st⟩ : Me) = ⟨[some (sd l), some (.dat (goodD fs))], st⟩ := rfl
    have t1 := r_test (r_op (f := pEq) (r_dat (r_op (f := pIx) (m := ⟨[some (sd l), some (.dat (goodD fs))], st⟩) (a := mBor 1) rfl (r_dat (a := mC (.dat (.int 0))) rfl) (z := .str "good") rfl)) (r_dat (a := mC (.dat (.str "good"))) rfl) heq)
    have cb : mCall F__law_is_book (mArgs [(mOp pIx (mBor 1) (mDat (mC (.dat (.int 1)))))]) ⟨[some (sd l), some (.dat (goodD fs))], st⟩ = .ok (.dat (.bool (okB fs))) ⟨[some (sd l), some (.dat (goodD fs))], st⟩ :=
      r_call (xs := [.dat (bkD fs)]) (m1 := ⟨[some (sd l), some (.dat (goodD fs))], st⟩) (r_ac (r_op (f := pIx) (a := mBor 1) rfl (r_dat (a := mC (.dat (.int 1))) rfl) (z := bkD fs) rfl) r_an) (is_book_any hf)
    have t := r_and t1 (r_not (r_test cb))
    by_cases ho : okB fs = true
    · rw [if_pos ho] at hr
      rw [ho] at t
      exact go _ _ hd hr (good_eq hf) (.inl ((r_if_f t).trans rfl))
    · rw [if_neg ho] at hr
      have ho2 : okB fs = false := by simpa using ho
      rw [ho2] at t
      refine go _ _ hd hr other_eq (.inr ⟨rfl, (r_if_t t).trans ?_⟩)
      exact r_setN (i := 1) (env := [some (sd l), some (.dat (goodD fs))]) (st := st) (r_lst (xs := [.dat (.str "book"), .dat .none]) rfl rfl (by simp)) (by simp)
end PL.RF
namespace PL.RF
open PySem PySem.Spec PyProof.Rows L2
theorem tx_of (s : Str) : s = tx s.cps.toList := by cases s; simp [tx]
/-- a text of at most n signs -/
def isT (n : Nat) (d : PyData) : Prop := ∃ w : List Nat, d = dt w ∧ w.length ≤ n
def shortB (n : Nat) : PyData → Bool
  | .str s => decide (s.length ≤ n)
  | _ => false
theorem isT_of {n : Nat} {d : PyData} (h : shortB n d = true) : isT n d := by
  cases d with
  | str s =>
    refine ⟨s.cps.toList, congrArg PyData.str (tx_of s), ?_⟩
    have : s.length ≤ n := by simpa [shortB] using h
    simpa [Str.length] using this
  | none => cases h
  | bool _ => cases h
  | int _ => cases h
  | list _ => cases h
  | tuple _ => cases h
  | dict _ => cases h
theorem isT_all {n : Nat} {ds : List PyData} (h : ds.all (shortB n) = true) : ∀ d ∈ ds, isT n d := fun d hd => isT_of (List.all_eq_true.1 h d hd)
theorem isT.le {n k : Nat} {d : PyData} (h : isT n d) (hk : n ≤ k) : isT k d := by
  obtain ⟨w, e, l⟩ := h
  exact ⟨w, e, Nat.le_trans l hk⟩
theorem cut_any {l : List Nat} {lo hi : Option Int} (hl : l.length ≤ 100000) : ∃ w : List Nat, pCut (dt l) lo hi = some (dt w) ∧ w.length ≤ l.length := by
  refine ⟨(l.drop (HT.sIx l.length 0 lo)).take (HT.sIx l.length l.length hi - HT.sIx l.length 0 lo), ?_, ?_⟩
  · show (if (tx l).length ≤ sizeLine then some (PyData.str (cutS (tx l) lo hi)) else none) = _
    rw [if_pos (by rw [tx_len, sl_eq]; omega)]
    rfl
  · rw [List.length_take, List.length_drop]; omega
theorem pAdd_tx' {a b : List Nat} (h : a.length + b.length ≤ 1000000) : pAdd (dt a) (dt b) = some (dt (a ++ b)) := by
  show (if (tx a).length + (tx b).length ≤ sizeLine then some (PyData.str (tx a ++ tx b)) else none) = _
  rw [if_pos (by rw [tx_len, tx_len, sl_eq]; omega), tx_app]
theorem pAdd_ls' {a b : List PyData} (h : a.length + b.length ≤ 100000) : pAdd (.list a) (.list b) = some (.list (a ++ b)) := by
  show (if a.length + b.length ≤ sizeLine then some (PyData.list (a ++ b)) else none) = _
  rw [if_pos (by rw [sl_eq]; omega)]
theorem r_cut {x : M PyData} {lo hi : Option (M PyData)} {m m1 m2 m3 : Me} {d z : PyData} {a b : Option Int} (h : x m = .ok d m1) (h1 : mPart lo m1 = .ok a m2) (h2 : mPart hi m2 = .ok b m3) (hc : pCut d a b = some z) : mCut x lo hi m = .ok (.dat z) m3 := by
  unfold mCut
  rw [h, Res.bind_ok, h1, Res.bind_ok, h2, Res.bind_ok, hc]
theorem r_pn {m : Me} : mPart none m = .ok none m := rfl
theorem r_ps {a : M PyData} {m m1 : Me} {i : Int} (h : a m = .ok (.int i) m1) : mPart (some a) m = .ok (some i) m1 := by
  unfold mPart
  dsimp only
  rw [h]
  rfl
def sgn1 : List PyData := [.str "a", .str "b", .str "/", .str ">", .str ",", .str " ", .str "z", .str "A", .str "0", .str "-", .str "\t", .str "\n", .str "/>", .str "a/b>c/d", .str ", ", .str "//"]
def sgn2 : List PyData := [.str "abcd", .str "<", .str "ab "]
theorem sgn_ok : (sgn1 ++ sgn2).all (shortB 7) = true := by decide +kernel
theorem bent_any {l : List Nat} {st : SrcSt} {b : Nat} (g : Gd b st) (hb : b ≤ 900000) (hl : l.length ≤ 90000) : ∃ (l' : List Nat) (st' : SrcSt), F__law_bent [.src, sd l] st = .ok (sd l') st' ∧ l'.length ≤ 2 * l.length + 7 ∧ Gd (b + 3) st' := by
  obtain ⟨at_, st1, x1, ha, g1⟩ := draw_at (lim := ((l.length : Int) + 1)) g (by omega) (by omega) (by omega)
  obtain ⟨way, st2, x2, hw, g2⟩ := draw_at (lim := (5 : Int)) g1 (by omega) (by omega) (by omega)
  obtain ⟨d, st3, x3, hd, g3⟩ := pick_list (ds := sgn1 ++ sgn2) g2 (by omega) (by simp [sgn1]) (by simp [sgn1, sgn2])
  obtain ⟨w, rfl, hwl⟩ := isT_all sgn_ok d hd
  have hlen := fLen_tx (l := l) (by omega)
  have s1 : mSetN 2 (mLst (mArgs [(mC (.dat (.str "a"))), (mC (.dat (.str "b"))), (mC (.dat (.str "/"))), (mC (.dat (.str ">"))), (mC (.dat (.str ","))), (mC (.dat (.str " "))), (mC (.dat (.str "z"))), (mC (.dat (.str "A"))), (mC (.dat (.str "0"))), (mC (.dat (.str "-"))), (mC (.dat (.str "\t"))), (mC (.dat (.str "\n"))), (mC (.dat (.str "/>"))), (mC (.dat (.str "a/b>c/d"))), (mC (.dat (.str ", "))), (mC (.dat (.str "//")))])) ⟨[some .src, some (sd l), none, none, none], st⟩ = .ok .next ⟨[some .src, some (sd l), some (.own sgn1), none, none], st⟩ :=
    r_setN (i := 2) (env := [some .src, some (sd l), none, none, none]) (st := st) (d := sgn1) (r_lst (xs := sgn1.map .dat) rfl rfl (by simp [sgn1])) (by simp)
  have s2 : mSet 2 (mOp pAdd (mBor 2) (mDat (mL (mLst (mArgs [(mC (.dat (.str "abcd"))), (mC (.dat (.str "<"))), (mC (.dat (.str "ab ")))]))))) ⟨[some .src, some (sd l), some (.own sgn1), none, none], st⟩ = .ok .next ⟨[some .src, some (sd l), some (.dat (.list (sgn1 ++ sgn2))), none, none], st⟩ :=
    r_set (i := 2) (env := [some .src, some (sd l), some (.own sgn1), none, none]) (st := st) (r_op (f := pAdd) (a := mBor 2) (x := .list sgn1) rfl (r_dat (r_L (r_lst (ds := sgn2) (xs := sgn2.map .dat) rfl rfl (by simp [sgn2])))) (pAdd_ls' (by simp [sgn1, sgn2]))) (by simp)
  have hlim : mOp pAdd (mDat (mCal fLen (mBs [(mBor 1)]))) (mDat (mC (.dat (.int 1)))) ⟨[some .src, some (sd l), some (.dat (.list (sgn1 ++ sgn2))), none, none], st⟩ = .ok (.dat (.int ((l.length : Int) + 1))) ⟨[some .src, some (sd l), some (.dat (.list (sgn1 ++ sgn2))), none, none], st⟩ :=
    r_op (f := pAdd) (r_dat (r_cal (r_bc (a := mBor 1) rfl r_bn) hlen)) (r_dat (a := mC (.dat (.int 1))) rfl) rfl
  have s3 : mSet 3 (mCall F__law_draw (mArgs [(mVar 0), (mOp pAdd (mDat (mCal fLen (mBs [(mBor 1)]))) (mDat (mC (.dat (.int 1)))))])) ⟨[some .src, some (sd l), some (.dat (.list (sgn1 ++ sgn2))), none, none], st⟩ = .ok .next ⟨[some .src, some (sd l), some (.dat (.list (sgn1 ++ sgn2))), some (sn at_), none], st1⟩ :=
    r_set (i := 3) (env := [some .src, some (sd l), some (.dat (.list (sgn1 ++ sgn2))), none, none]) (st := st1) (r_call (m1 := ⟨[some .src, some (sd l), some (.dat (.list (sgn1 ++ sgn2))), none, none], st⟩) (r_ac (a := mVar 0) (x := .src) rfl (r_ac hlim r_an)) x1) (by simp)
  have s4 : mSet 4 (mCall F__law_draw (mArgs [(mVar 0), (mC (.dat (.int 5)))])) ⟨[some .src, some (sd l), some (.dat (.list (sgn1 ++ sgn2))), some (sn at_), none], st1⟩ = .ok .next ⟨[some .src, some (sd l), some (.dat (.list (sgn1 ++ sgn2))), some (sn at_), some (sn way)], st2⟩ :=
    r_set (i := 4) (env := [some .src, some (sd l), some (.dat (.list (sgn1 ++ sgn2))), some (sn at_), none]) (st := st2) (r_call (xs := [.src, .dat (.int 5)]) (m1 := ⟨[some .src, some (sd l), some (.dat (.list (sgn1 ++ sgn2))), some (sn at_), none], st1⟩) rfl x2) (by simp)
  have cl : ∀ {F : List Sl → SrcSt → CRes} {a : M (List Sl)} {xs : List Sl} {s : Sl} {st0 st' : SrcSt} {E : List (Option Sl)}, a ⟨E, st0⟩ = .ok xs ⟨E, st0⟩ → F xs st0 = .ok s st' → mCall F a ⟨E, st0⟩ = .ok s ⟨E, st'⟩ := fun ha hF => r_call ha hF
  generalize hE : ([some .src, some (sd l), some (.dat (.list (sgn1 ++ sgn2))), some (sn at_), some (sn way)] : List (Option Sl)) = E at *
  have b1 : ∀ s, mBor 1 ⟨E, s⟩ = .ok (dt l) ⟨E, s⟩ := fun s => by subst hE; rfl
  have b3 : ∀ s, mBor 3 ⟨E, s⟩ = .ok (nd at_) ⟨E, s⟩ := fun s => by subst hE; rfl
  have b4 : ∀ s, mBor 4 ⟨E, s⟩ = .ok (nd way) ⟨E, s⟩ := fun s => by subst hE; rfl
  have v0 : ∀ s, mVar 0 ⟨E, s⟩ = .ok .src ⟨E, s⟩ := fun s => by subst hE; rfl
  have v2 : ∀ s, mVar 2 ⟨E, s⟩ = .ok (.dat (.list (sgn1 ++ sgn2))) ⟨E, s⟩ := fun s => by subst hE; rfl
  have hl1 : l.length ≤ 100000 := by omega
  obtain ⟨u1, c1, k1⟩ := cut_any (l := l) (lo := none) (hi := some (at_ : Int)) hl1
  have q1 : ∀ s, mCut (mBor 1) none (some (mBor 3)) ⟨E, s⟩ = .ok (sd u1) ⟨E, s⟩ := fun s => r_cut (b1 s) r_pn (r_ps (b3 s)) c1
  have p1 : pAdd (nd at_) (.int 1) = some (nd (at_ + 1)) := pAdd1 _
  have t0 := r_test (r_op (f := pEq) (b4 st2) (r_dat (a := mC (.dat (.int 0))) rfl) (pEq_nd way 0))
  have t1 := r_test (r_op (f := pEq) (b4 st2) (r_dat (a := mC (.dat (.int 1))) rfl) (pEq_nd way 1))
  have fin : ∀ (l' : List Nat) (st' : SrcSt), (mSeq (mIfS (mTest (mOp pEq (mBor 4) (mDat (mC (.dat (.int 0)))))) (mRet (mCut (mBor 1) none (some (mBor 3)))) mNext)
  (mSeq (mIfS (mTest (mOp pEq (mBor 4) (mDat (mC (.dat (.int 1)))))) (mRet (mOp pAdd (mDat (mCut (mBor 1) none (some (mBor 3)))) (mDat (mCut (mBor 1) (some (mDat (mOp pAdd (mBor 3) (mDat (mC (.dat (.int 1))))))) none)))) mNext)
  (mRet (mOp pAdd (mDat (mOp pAdd (mDat (mCut (mBor 1) none (some (mBor 3)))) (mDat (mCall F__law_pick (mArgs [(mVar 0), (mVar 2)]))))) (mDat (mCut (mBor 1) (some (mDat (mOp pAdd (mBor 3) (mDat (mOp pMod (mBor 4) (mDat (mC (.dat (.int 2))))))))) none)))))) ⟨E, st2⟩ = .ok (.ret (sd l')) ⟨E, st'⟩ → F__law_bent [.src, sd l] st = .ok (sd l') st' := fun l' st' h =>
    r_def (n := 5) (b := m__law_bent) (m := ⟨E, st'⟩) (args := [.src, sd l]) (st := st) (env := [some .src, some (sd l), none, none, none]) rfl ((r_seq s1).trans ((r_seq s2).trans ((r_seq s3).trans ((r_seq s4).trans h))))
  by_cases h0 : way = 0
  · rw [decide_eq_true h0] at t0
    exact ⟨u1, st2, fin _ _ (r_seq_ret ((r_if_t t0).trans (r_ret (q1 st2)))), by omega, g2.le (by omega)⟩
  rw [decide_eq_false h0] at t0
  by_cases h1 : way = 1
  · rw [decide_eq_true h1] at t1
    obtain ⟨u2, c2, k2⟩ := cut_any (l := l) (lo := some ((at_ + 1 : Nat) : Int)) (hi := none) hl1
    have q2 : mCut (mBor 1) (some (mDat (mOp pAdd (mBor 3) (mDat (mC (.dat (.int 1))))))) none ⟨E, st2⟩ = .ok (sd u2) ⟨E, st2⟩ := r_cut (b1 _) (r_ps (r_dat (r_op (f := pAdd) (b3 _) (r_dat (a := mC (.dat (.int 1))) rfl) p1))) r_pn c2
    exact ⟨u1 ++ u2, st2, fin _ _ ((r_seq ((r_if_f t0).trans rfl)).trans (r_seq_ret ((r_if_t t1).trans (r_ret (r_op (f := pAdd) (r_dat (q1 _)) (r_dat q2) (pAdd_tx' (by omega))))))), by rw [List.length_append]; omega, g2.le (by omega)⟩
  · rw [decide_eq_false h1] at t1
    have hmod : pMod (nd way) (.int 2) = some (nd (way % 2)) := by
      show (if (0 : Int) < 2 then some (PyData.int ((way : Int) % 2)) else none) = _
      rw [if_pos (by decide)]
      show some (PyData.int ((way : Int) % 2)) = some (PyData.int ((way % 2 : Nat) : Int))
      congr 2
    have hadd : pAdd (nd at_) (nd (way % 2)) = some (nd (at_ + way % 2)) := by show some (PyData.int ((at_ : Int) + ((way % 2 : Nat) : Int))) = some (PyData.int ((at_ + way % 2 : Nat) : Int)); push_cast; rfl
    obtain ⟨u2, c2, k2⟩ := cut_any (l := l) (lo := some ((at_ + way % 2 : Nat) : Int)) (hi := none) hl1
    have q2 : mCut (mBor 1) (some (mDat (mOp pAdd (mBor 3) (mDat (mOp pMod (mBor 4) (mDat (mC (.dat (.int 2))))))))) none ⟨E, st3⟩ = .ok (sd u2) ⟨E, st3⟩ := r_cut (b1 _) (r_ps (r_dat (r_op (f := pAdd) (b3 _) (r_dat (r_op (f := pMod) (b4 _) (r_dat (a := mC (.dat (.int 2))) rfl) hmod)) hadd))) r_pn c2
    have q3 : mCall F__law_pick (mArgs [(mVar 0), (mVar 2)]) ⟨E, st2⟩ = .ok (sd w) ⟨E, st3⟩ := cl (r_ac (v0 _) (r_ac (v2 _) r_an)) x3
    exact ⟨u1 ++ w ++ u2, st3, fin _ _ ((r_seq ((r_if_f t0).trans rfl)).trans ((r_seq ((r_if_f t1).trans rfl)).trans (r_ret (r_op (f := pAdd) (r_dat (r_op (f := pAdd) (r_dat (q1 _)) (r_dat q3) (pAdd_tx' (by omega)))) (r_dat q2) (pAdd_tx' (by rw [List.length_append]; omega)))))), by rw [List.length_append, List.length_append]; omega, g3.le (by omega)⟩
end PL.RF
namespace PL.RF
open PySem PySem.Spec PyProof.Rows L2
abbrev bBt : M Flow := mSet 3 (mCall F__law_bent (mArgs [(mVar 1), (mVar 3)]))
theorem bent_run {x0 x2 x5 x6 : Option Sl} : ∀ (items : List PyData) (l : List Nat) (x4 : Option Sl) (st : SrcSt) (b : Nat), Gd b st → b + 3 * items.length ≤ 800000 → (l.length + 7) * 2 ^ items.length ≤ 80000 →
    ∃ (l' : List Nat) (y4 : Option Sl) (st' : SrcSt), forL (.nm 4) bBt items ⟨[x0, some .src, x2, some (sd l), x4, x5, x6], st⟩ = .ok .next ⟨[x0, some .src, x2, some (sd l'), y4, x5, x6], st'⟩ ∧ l'.length + 7 ≤ (l.length + 7) * 2 ^ items.length ∧ Gd (b + 3 * items.length) st'
  | [], l, x4, st, b, g, _, _ => ⟨l, x4, st, rfl, by simp, g⟩
  | d :: r, l, x4, st, b, g, hb, hl => by
    simp only [List.length_cons, Nat.mul_add, Nat.mul_one, Nat.pow_succ] at hb hl ⊢
    have h1 : 1 ≤ 2 ^ r.length := Nat.one_le_two_pow
    have h2 : (l.length + 7) * (2 ^ r.length * 2) = (2 * (l.length + 7)) * 2 ^ r.length := by
      rw [Nat.mul_comm (2 ^ r.length) 2, ← Nat.mul_assoc, Nat.mul_comm (l.length + 7) 2]
    rw [h2] at hl ⊢
    have h3 : 2 * (l.length + 7) ≤ (2 * (l.length + 7)) * 2 ^ r.length := Nat.le_mul_of_pos_right _ h1
    obtain ⟨l1, st1, e, hl1, g1⟩ := bent_any g (by omega) (by omega : l.length ≤ 90000)
    have h4 : (l1.length + 7) * 2 ^ r.length ≤ (2 * (l.length + 7)) * 2 ^ r.length := Nat.mul_le_mul_right _ (by omega)
    obtain ⟨l2, y4, st2, e2, hl2, g2⟩ := bent_run (x0 := x0) (x2 := x2) (x5 := x5) (x6 := x6) r l1 (some (.dat d)) st1 (b + 3) g1 (by omega) (by omega)
    refine ⟨l2, y4, st2, (r_for (m0 := ⟨[x0, some .src, x2, some (sd l), some (.dat d), x5, x6], st⟩) rfl ?_).trans e2, by omega, g2.le (by omega)⟩
    exact r_set (i := 3) (env := [x0, some .src, x2, some (sd l), some (.dat d), x5, x6]) (st := st1) (r_call (xs := [.src, sd l]) (m1 := ⟨[x0, some .src, x2, some (sd l), some (.dat d), x5, x6], st⟩) rfl e) (by simp)
theorem text_small {fs : List Fx} (hf : ∀ f ∈ fs, f.Ok) (hn : fs.length ≤ 5) : (textL fs).length ≤ 65 := by
  have h1 := joinL_len [44, 32] (fs.map fxS)
  have h2 := tot_map fxS 11 (l := fs) (fun f h => fxS_len (hf f h))
  simp only [List.length_map, List.length_cons, List.length_nil] at h1
  unfold textL
  omega
abbrev bTn : M Flow := (mSeq (mSet 3 (mCall F_book_text (mArgs [(mCall F__law_book (mArgs [(mVar 1), (mCall F__law_pick (mArgs [(mVar 1), (mL (mLst (mArgs [(mC (.dat (.str "ab"))), (mC (.dat (.str "abc"))), (mC (.dat (.str "az")))])))])), (mC (.dat (.int 5)))]))])))
  (mSeq (mFor (.nm 4) (mRng1 (mBs [(mDat (mOp pAdd (mDat (mC (.dat (.int 1)))) (mDat (mCall F__law_draw (mArgs [(mVar 1), (mC (.dat (.int 3)))])))))])) bBt)
  (mIfS (mNot (mTest (mCall F__law_fits (mArgs [(mVar 3)])))) (mRet (mC (.dat (.bool false)))) mNext)))
theorem al_ab : (Str.ofString "ab") = tx [97, 98] := by decide +kernel
theorem al_abc : (Str.ofString "abc") = tx [97, 98, 99] := by decide +kernel
theorem al_az : (Str.ofString "az") = tx [97, 122] := by decide +kernel
theorem turn_any {x0 x2 x3 x4 x5 x6 : Option Sl} {st : SrcSt} {b : Nat} (g : Gd b st) (hb : b ≤ 300000) :
    ∃ (y3 y4 : Option Sl) (st' : SrcSt), bTn ⟨[x0, some .src, x2, x3, x4, x5, x6], st⟩ = .ok .next ⟨[x0, some .src, x2, y3, y4, x5, x6], st'⟩ ∧ Gd (b + 100) st' := by
  obtain ⟨d, st1, e1, hd, g1⟩ := pick_list (ds := [dt [97, 98], dt [97, 98, 99], dt [97, 122]]) g (by omega) (by simp) (by simp)
  obtain ⟨al, rfl, ha1, ha2, ha3⟩ : ∃ al, d = dt al ∧ al ≠ [] ∧ al.length ≤ 1000 ∧ isW al := by
    simp only [List.mem_cons, List.not_mem_nil, or_false] at hd
    rcases hd with rfl | rfl | rfl
    · exact ⟨_, rfl, by simp, by simp, by unfold isW; decide⟩
    · exact ⟨_, rfl, by simp, by simp, by unfold isW; decide⟩
    · exact ⟨_, rfl, by simp, by simp, by unfold isW; decide⟩
  obtain ⟨fs, st2, e2, hf, hn, g2⟩ := book_drawn g1 (by omega) ha1 ha2 ha3
  obtain ⟨r, st3, e3, hr, g3⟩ := draw_at (lim := (3 : Int)) g2 (by omega) (by omega) (by omega)
  have hts := text_small hf hn
  have hr2 : 1 + r ≤ 3 := by omega
  have hpow : 2 ^ (1 + r) ≤ 2 ^ 3 := Nat.pow_le_pow_right (by omega) hr2
  have hmul : ((textL fs).length + 7) * 2 ^ (1 + r) ≤ 72 * 2 ^ 3 := Nat.mul_le_mul (by omega) hpow
  obtain ⟨l, y4, st4, e4, hl, g4⟩ := bent_run (x0 := x0) (x2 := x2) (x5 := x5) (x6 := x6) (rngD 0 (1 + r)) (textL fs) x4 st3 (b + 1 + 61 + 1) g3 (by rw [rng_len]; omega) (by rw [rng_len]; omega)
  rw [rng_len] at hl g4
  have hfit := law_fits_any (l := l) (st := st4) (by omega)
  refine ⟨some (sd l), y4, st4, ?_, g4.le (by omega)⟩
  have hp : mCall F__law_pick (mArgs [(mVar 1), (mL (mLst (mArgs [(mC (.dat (.str "ab"))), (mC (.dat (.str "abc"))), (mC (.dat (.str "az")))])))]) ⟨[x0, some .src, x2, x3, x4, x5, x6], st⟩ = .ok (sd al) ⟨[x0, some .src, x2, x3, x4, x5, x6], st1⟩ := by
    refine r_call (xs := [.src, .dat (.list [dt [97, 98], dt [97, 98, 99], dt [97, 122]])]) (m1 := ⟨[x0, some .src, x2, x3, x4, x5, x6], st⟩) ?_ e1
    rw [al_ab, al_abc, al_az]
    exact r_ac (x := .src) rfl (r_ac (r_L (r_lst (xs := [sd [97, 98], sd [97, 98, 99], sd [97, 122]]) rfl rfl (by simp))) r_an)
  have hbk : mCall F__law_book (mArgs [(mVar 1), (mCall F__law_pick (mArgs [(mVar 1), (mL (mLst (mArgs [(mC (.dat (.str "ab"))), (mC (.dat (.str "abc"))), (mC (.dat (.str "az")))])))])), (mC (.dat (.int 5)))]) ⟨[x0, some .src, x2, x3, x4, x5, x6], st⟩ = .ok (.dat (bookD fs)) ⟨[x0, some .src, x2, x3, x4, x5, x6], st2⟩ :=
    r_call (m1 := ⟨[x0, some .src, x2, x3, x4, x5, x6], st1⟩) (xs := [.src, sd al, sn 5]) (r_ac (x := .src) rfl (r_ac hp (r_ac (x := sn 5) rfl r_an))) e2
  have htx : mCall F_book_text (mArgs [(mCall F__law_book (mArgs [(mVar 1), (mCall F__law_pick (mArgs [(mVar 1), (mL (mLst (mArgs [(mC (.dat (.str "ab"))), (mC (.dat (.str "abc"))), (mC (.dat (.str "az")))])))])), (mC (.dat (.int 5)))]))]) ⟨[x0, some .src, x2, x3, x4, x5, x6], st⟩ = .ok (sd (textL fs)) ⟨[x0, some .src, x2, x3, x4, x5, x6], st2⟩ :=
    r_call (r_ac hbk r_an) (book_text_at hf hn)
  refine (r_seq (r_set (i := 3) htx (by simp))).trans ?_
  have hdr : mCall F__law_draw (mArgs [(mVar 1), (mC (.dat (.int 3)))]) ⟨[x0, some .src, x2, some (sd (textL fs)), x4, x5, x6], st2⟩ = .ok (sn r) ⟨[x0, some .src, x2, some (sd (textL fs)), x4, x5, x6], st3⟩ :=
    r_call (xs := [.src, .dat (.int 3)]) (m1 := ⟨[x0, some .src, x2, some (sd (textL fs)), x4, x5, x6], st2⟩) rfl e3
  have hadd : pAdd (.int 1) (nd r) = some (nd (1 + r)) := by show some (PyData.int ((1 : Int) + (r : Int))) = some (PyData.int ((1 + r : Nat) : Int)); push_cast; rfl
  have hrg : mRng1 (mBs [(mDat (mOp pAdd (mDat (mC (.dat (.int 1)))) (mDat (mCall F__law_draw (mArgs [(mVar 1), (mC (.dat (.int 3)))])))))]) ⟨[x0, some .src, x2, some (sd (textL fs)), x4, x5, x6], st2⟩ = .ok (rngD 0 (1 + r)) ⟨[x0, some .src, x2, some (sd (textL fs)), x4, x5, x6], st3⟩ :=
    rng_at (r_bc (r_dat (r_op (f := pAdd) (r_dat (a := mC (.dat (.int 1))) rfl) (r_dat hdr) hadd)) r_bn) (by omega)
  refine (r_seq (m1 := ⟨[x0, some .src, x2, some (sd l), y4, x5, x6], st4⟩) ?_).trans ?_
  · have hfor : mFor (.nm 4) (mRng1 (mBs [(mDat (mOp pAdd (mDat (mC (.dat (.int 1)))) (mDat (mCall F__law_draw (mArgs [(mVar 1), (mC (.dat (.int 3)))])))))])) bBt ⟨[x0, some .src, x2, some (sd (textL fs)), x4, x5, x6], st2⟩ = .ok .next ⟨[x0, some .src, x2, some (sd l), y4, x5, x6], st4⟩ := by
      unfold mFor
      rw [hrg]
      exact e4
    exact hfor
  · have hc : mCall F__law_fits (mArgs [(mVar 3)]) ⟨[x0, some .src, x2, some (sd l), y4, x5, x6], st4⟩ = .ok (.dat (.bool true)) ⟨[x0, some .src, x2, some (sd l), y4, x5, x6], st4⟩ :=
      r_call (xs := [sd l]) (m1 := ⟨[x0, some .src, x2, some (sd l), y4, x5, x6], st4⟩) rfl hfit
    exact (r_if_f (r_not (r_test hc))).trans rfl
theorem turns_any {x0 : Option Sl} {x5 x6 : Option Sl} : ∀ (items : List PyData) (x2 x3 x4 : Option Sl) (st : SrcSt) (b : Nat), Gd b st → b + 100 * items.length ≤ 300000 →
    ∃ (y2 y3 y4 : Option Sl) (st' : SrcSt), forL (.nm 2) bTn items ⟨[x0, some .src, x2, x3, x4, x5, x6], st⟩ = .ok .next ⟨[x0, some .src, y2, y3, y4, x5, x6], st'⟩
  | [], x2, x3, x4, st, b, _, _ => ⟨x2, x3, x4, st, rfl⟩
  | d :: r, x2, x3, x4, st, b, g, hb => by
    simp only [List.length_cons, Nat.mul_add, Nat.mul_one] at hb
    obtain ⟨y3, y4, st1, e, g1⟩ := turn_any (x0 := x0) (x2 := some (.dat d)) (x3 := x3) (x4 := x4) (x5 := x5) (x6 := x6) g (by omega)
    obtain ⟨z2, z3, z4, st2, h⟩ := turns_any (x0 := x0) (x5 := x5) (x6 := x6) r (some (.dat d)) y3 y4 st1 (b + 100) g1 (by omega)
    exact ⟨z2, z3, z4, st2, (r_for (m0 := ⟨[x0, some .src, some (.dat d), x3, x4, x5, x6], st⟩) rfl e).trans h⟩
/-! values that are no texts -/
theorem read_other {v : PyData} {st : SrcSt} (h : kitB (tyName v) "str" = some false) : F__law_read [.dat v] st = .ok (.dat (wrongD 0)) st := by
  have hb : F_read_book [.dat v] st = .exc (badAt 0) st := by
    refine r_def_exc (n := 2) (b := m_read_book) (m := ⟨[some (.dat v), none], st⟩) (env := [some (.dat v), none]) rfl (r_seq_exc ((r_if_t (m1 := ⟨[some (.dat v), none], st⟩) ?_).trans rfl))
    have hb0 : mBor 0 ⟨[some (.dat v), none], st⟩ = .ok v ⟨[some (.dat v), none], st⟩ := rfl
    simp only [mNot, mTest, mIsi, hb0, Res.bind_ok, h]
    simp
  obtain ⟨r1, r2⟩ := read_head (v := v) (st := st)
  obtain ⟨m, em, es⟩ := tail_wrong (v := v) (q := 0) (st := st)
  exact read_of (r2 _ hb tx_text _ em) es
abbrev bVl : M Flow := (mIfS (mTest (mOp (pNot pEq) (mDat (mCall F__law_read (mArgs [(mVar 5)]))) (mDat (mL (mLst (mArgs [(mC (.dat (.str "wrong"))), (mC (.dat (.int 0)))])))))) (mRet (mC (.dat (.bool false)))) mNext)
theorem vals_any {x0 x1 x2 x3 x4 x6 : Option Sl} {st : SrcSt} : ∀ (items : List PyData) (x5 : Option Sl), (∀ d ∈ items, kitB (tyName d) "str" = some false) →
    ∃ y5, forL (.nm 5) bVl items ⟨[x0, x1, x2, x3, x4, x5, x6], st⟩ = .ok .next ⟨[x0, x1, x2, x3, x4, y5, x6], st⟩
  | [], x5, _ => ⟨x5, rfl⟩
  | d :: r, x5, h => by
    obtain ⟨y5, e⟩ := vals_any (x0 := x0) (x1 := x1) (x2 := x2) (x3 := x3) (x4 := x4) (x6 := x6) (st := st) r (some (.dat d)) (fun y hy => h y (List.mem_cons_of_mem _ hy))
    refine ⟨y5, (r_for (m0 := ⟨[x0, x1, x2, x3, x4, some (.dat d), x6], st⟩) rfl ?_).trans e⟩
    have hne : pNot pEq (wrongD 0) (wrongD 0) = some (.bool false) := by unfold pNot; rw [wrong_eq]; rfl
    have hc : mCall F__law_read (mArgs [(mVar 5)]) ⟨[x0, x1, x2, x3, x4, some (.dat d), x6], st⟩ = .ok (.dat (wrongD 0)) ⟨[x0, x1, x2, x3, x4, some (.dat d), x6], st⟩ :=
      r_call (xs := [.dat d]) (m1 := ⟨[x0, x1, x2, x3, x4, some (.dat d), x6], st⟩) rfl (read_other (h d List.mem_cons_self))
    exact (r_if_f (r_test (r_op (f := pNot pEq) (r_dat hc) (r_dat (r_L (r_lst (xs := [.dat (.str "wrong"), sn 0]) rfl rfl (by simp)))) hne))).trans rfl
/-! more texts -/
theorem mul5 {w : List Nat} (h : w.length ≤ 1000) : ∃ u : List Nat, pMul (dt w) (.int 5) = some (dt u) ∧ u.length ≤ 5 * w.length := by
  refine ⟨(Txt.mul (tx w) 5).cps.toList, ?_, ?_⟩
  · show (if (0 : Int) ≤ 5 ∧ (5 : Int) ≤ 100000 ∧ (tx w).length * (5 : Int).toNat ≤ 100000 then some (PyData.str (Txt.mul (tx w) 5)) else none) = _
    rw [if_pos ⟨by decide, by decide, by rw [tx_len]; show w.length * 5 ≤ 100000; omega⟩]
    exact congrArg (fun s => some (PyData.str s)) (tx_of _)
  · unfold Txt.mul
    rw [if_neg (by decide)]
    split
    · show w.length ≤ _; omega
    · have e5 : (5 : Int).toNat = 5 := rfl
      rw [e5]
      simp [List.replicate, tx]
      omega
abbrev bMo : M Flow := (mSet 6 (mOp pAdd (mBor 6) (mDat (mL (mLst (mArgs [(mOp pAdd (mBor 3) (mDat (mC (.dat (.str " "))))), (mOp pAdd (mBor 3) (mDat (mC (.dat (.str "a"))))), (mCut (mBor 3) none (some (mDat (mOp1 pNeg (mDat (mC (.dat (.int 1)))))))), (mOp pAdd (mBor 3) (mDat (mC (.dat (.str ", /b>a/"))))), (mOp pAdd (mDat (mOp pMul (mDat (mOp pAdd (mBor 3) (mDat (mC (.dat (.str ", ")))))) (mDat (mC (.dat (.int 5)))))) (mBor 3))]))))))
theorem lit_a : (Str.ofString "a") = tx [97] := by decide +kernel
theorem lit_mo : (Str.ofString ", /b>a/") = tx [44, 32, 47, 98, 62, 97, 47] := by decide +kernel
theorem more_any {x0 x1 x2 x4 x5 : Option Sl} {st : SrcSt} : ∀ (items : List PyData) (ds : List PyData) (x3 : Option Sl), (∀ d ∈ items, isT 40 d) → (∀ d ∈ ds, isT 400 d) → ds.length + 5 * items.length ≤ 1000 →
    ∃ y3 ds', forL (.nm 3) bMo items ⟨[x0, x1, x2, x3, x4, x5, some (.dat (.list ds))], st⟩ = .ok .next ⟨[x0, x1, x2, y3, x4, x5, some (.dat (.list ds'))], st⟩ ∧ (∀ d ∈ ds', isT 400 d) ∧ ds'.length ≤ 1000
  | [], ds, x3, _, hd, hn => ⟨x3, ds, rfl, hd, by simpa using hn⟩
  | d :: r, ds, x3, hi, hd, hn => by
    simp only [List.length_cons] at hn
    obtain ⟨w, rfl, hw⟩ := hi d List.mem_cons_self
    obtain ⟨u, cu, lu⟩ := cut_any (l := w) (lo := none) (hi := some (-1)) (by omega)
    obtain ⟨z, cz, lz⟩ := mul5 (w := w ++ [44, 32]) (by simp; omega)
    simp only [List.length_append, List.length_cons, List.length_nil] at lz
    have hnew : ∀ d ∈ ds ++ [dt (w ++ [32]), dt (w ++ [97]), dt u, dt (w ++ [44, 32, 47, 98, 62, 97, 47]), dt (z ++ w)], isT 400 d := by
      intro d hdm
      rcases List.mem_append.1 hdm with hdm | hdm
      · exact hd d hdm
      · simp only [List.mem_cons, List.not_mem_nil, or_false] at hdm
        rcases hdm with rfl | rfl | rfl | rfl | rfl
        · exact ⟨_, rfl, by simp; omega⟩
        · exact ⟨_, rfl, by simp; omega⟩
        · exact ⟨_, rfl, by omega⟩
        · exact ⟨_, rfl, by simp; omega⟩
        · exact ⟨_, rfl, by rw [List.length_append]; omega⟩
    obtain ⟨y3, ds', e, h1, h2⟩ := more_any (x0 := x0) (x1 := x1) (x2 := x2) (x4 := x4) (x5 := x5) (st := st) r (ds ++ [dt (w ++ [32]), dt (w ++ [97]), dt u, dt (w ++ [44, 32, 47, 98, 62, 97, 47]), dt (z ++ w)]) (some (sd w)) (fun y hy => hi y (List.mem_cons_of_mem _ hy)) hnew (by simp; omega)
    refine ⟨y3, ds', (r_for (m0 := ⟨[x0, x1, x2, some (sd w), x4, x5, some (.dat (.list ds))], st⟩) rfl ?_).trans e, h1, h2⟩
    generalize hm : (⟨[x0, x1, x2, some (sd w), x4, x5, some (.dat (.list ds))], st⟩ : Me) = m
    have b3 : mBor 3 m = .ok (dt w) m := by subst hm; rfl
    have b6 : mBor 6 m = .ok (.list ds) m := by subst hm; rfl
    have a1 : mOp pAdd (mBor 3) (mDat (mC (.dat (.str " ")))) m = .ok (sd (w ++ [32])) m := by
      rw [lit_blank]
      exact r_op (f := pAdd) b3 (r_dat (a := mC (sd [32])) rfl) (pAdd_tx' (by simp; omega))
    have a2 : mOp pAdd (mBor 3) (mDat (mC (.dat (.str "a")))) m = .ok (sd (w ++ [97])) m := by
      rw [lit_a]
      exact r_op (f := pAdd) b3 (r_dat (a := mC (sd [97])) rfl) (pAdd_tx' (by simp; omega))
    have a3 : mCut (mBor 3) none (some (mDat (mOp1 pNeg (mDat (mC (.dat (.int 1))))))) m = .ok (sd u) m := r_cut b3 r_pn (r_ps (r_dat (r_op1 (r_dat (a := mC (.dat (.int 1))) rfl) rfl))) cu
    have a4 : mOp pAdd (mBor 3) (mDat (mC (.dat (.str ", /b>a/")))) m = .ok (sd (w ++ [44, 32, 47, 98, 62, 97, 47])) m := by
      rw [lit_mo]
      exact r_op (f := pAdd) b3 (r_dat (a := mC (sd [44, 32, 47, 98, 62, 97, 47])) rfl) (pAdd_tx' (by simp; omega))
    have a5 : mOp pAdd (mDat (mOp pMul (mDat (mOp pAdd (mBor 3) (mDat (mC (.dat (.str ", ")))))) (mDat (mC (.dat (.int 5)))))) (mBor 3) m = .ok (sd (z ++ w)) m := by
      rw [lit_cb]
      exact r_op (f := pAdd) (r_dat (r_op (f := pMul) (r_dat (r_op (f := pAdd) b3 (r_dat (a := mC (sd [44, 32])) rfl) (pAdd_tx' (by simp; omega)))) (r_dat (a := mC (.dat (.int 5))) rfl) cz)) b3 (pAdd_tx' (by omega))
    have key := r_op (f := pAdd) b6 (r_dat (r_L (r_lst (r_ac a1 (r_ac a2 (r_ac a3 (r_ac a4 (r_ac a5 r_an))))) rfl (by simp)))) (pAdd_ls' (by simp; omega))
    subst hm
    exact r_set (i := 6) key (by simp)
theorem comp_none {vs : List Nat} {t : Tg} {c : M Bool} {e : M Sl} {E : List (Option Sl)} {st : SrcSt} : ∀ items : List PyData, (∀ d ∈ items, ∃ m0 m1 : Me, mTgt t d ⟨E, st⟩ = some m0 ∧ c m0 = .ok false m1 ∧ wipeM vs m1 = ⟨E, st⟩) → compL vs t c e items ⟨E, st⟩ = .ok [] ⟨E, st⟩
  | [], _ => rfl
  | d :: r, h => by
    obtain ⟨m0, m1, ht, hc, hw⟩ := h d List.mem_cons_self
    have ih := comp_none (vs := vs) (t := t) (c := c) (e := e) (E := E) (st := st) r (fun y hy => h y (List.mem_cons_of_mem _ hy))
    show (match mTgt t d ⟨E, st⟩ with | none => Res.bad | some m0 => (noX (c m0)).bind fun b m1 => if b = true then (noX (mDat e m1)).bind fun z m2 => (compL vs t c e r (wipeM vs m2)).bind fun zs m3 => .ok (z :: zs) m3 else compL vs t c e r (wipeM vs m1)) = _
    rw [ht]
    show (noX (c m0)).bind (fun b m1 => if b = true then (noX (mDat e m1)).bind fun z m2 => (compL vs t c e r (wipeM vs m2)).bind fun zs m3 => .ok (z :: zs) m3 else compL vs t c e r (wipeM vs m1)) = _
    rw [hc]
    show compL vs t c e r (wipeM vs m1) = _
    rw [hw]
    exact ih
theorem r_compC {vs : List Nat} {t : Tg} {c : M Bool} {it : M (List PyData)} {e : M Sl} {m m1 m2 : Me} {l zs : List PyData} (h : it m = .ok l m1) (hl : l.length ≤ 1000000) (hc : compL vs t c e l (wipeM vs m1) = .ok zs m2) : mComp vs t it c e m = .ok zs m2 := by
  unfold mComp; rw [h]
  show (if l.length ≤ 1000000 then noX (compL vs t c e l (wipeM vs m1)) else .bad) = _
  rw [if_pos hl, hc]
  rfl
end PL.RF
namespace PL.RF
open PySem PySem.Spec PyProof.Rows L2
def vls : List PyData := [.none, .int 0, .int 12, .bool true, .tuple [], .list [], .dict [], .list [.str "/a>b/"], .tuple [.str "", .str "a", .str "b", .str ""]]
theorem vls_ok : ∀ d ∈ vls, kitB (tyName d) "str" = some false := by
  have k1 : kitB "NoneType" "str" = some false := by decide +kernel
  have k2 : kitB "int" "str" = some false := by decide +kernel
  have k3 : kitB "bool" "str" = some false := by decide +kernel
  have k4 : kitB "tuple" "str" = some false := by decide +kernel
  have k5 : kitB "list" "str" = some false := by decide +kernel
  have k6 : kitB "dict" "str" = some false := by decide +kernel
  intro d hd
  simp only [vls, List.mem_cons, List.not_mem_nil, or_false] at hd
  rcases hd with rfl | rfl | rfl | rfl | rfl | rfl | rfl | rfl | rfl
  · exact k1
  · exact k2
  · exact k2
  · exact k3
  · exact k4
  · exact k5
  · exact k6
  · exact k5
  · exact k4
def tx1 : List PyData := [.str "", .str " ", .str "/", .str "/a", .str "/a>", .str "/a>/", .str "/>/", .str "/a>b/", .str "a/a>b/a", .str "a", .str "a>b", .str "/a>b", .str "/a/b"]
def tx2 : List PyData := [.str "/a>b/,", .str "/a>b/ ,", .str "/a>b/, /a>b/", .str "/a>b/ /a>b/", .str "/a>b/,,/a>b/", .str ",/a>b/", .str "/a>b/c d"]
def tx3 : List PyData := [.str "/a b>c/", .str "ab/a>b/", .str "/abcd>a/", .str "/a>abcd/", .str "/a>b/cd", .str "/A>b/", .str "/a>B/", .str "/a > b /"]
def tx4 : List PyData := [.str " / a>b/ ", .str "/a>>b/", .str "//a>b/", .str "/a>b//", .str "\t/a>b/"]
theorem txs_ok : (tx1 ++ tx2 ++ tx3 ++ tx4).all (shortB 40) = true := by decide +kernel
theorem cut_all (ds : List PyData) : cutD ds none none = ds := by
  unfold cutD
  simp [HT.sIx]
theorem for_cut {L : List PyData} {x0 x1 x2 x3 x4 x5 : Option Sl} {st : SrcSt} {r : Res Flow} (h : forL (.nm 3) bMo L ⟨[x0, x1, x2, x3, x4, x5, some (.dat (.list L))], st⟩ = r) : mFor (.nm 3) (mIt (mCut (mBor 6) none none)) bMo ⟨[x0, x1, x2, x3, x4, x5, some (.dat (.list L))], st⟩ = r := by
  have hct : mCut (mBor 6) none none ⟨[x0, x1, x2, x3, x4, x5, some (.dat (.list L))], st⟩ = .ok (.dat (.list L)) ⟨[x0, x1, x2, x3, x4, x5, some (.dat (.list L))], st⟩ := r_cut (d := .list L) rfl r_pn r_pn (by
    show some (PyData.list (cutD L none none)) = _
    rw [cut_all])
  have hi : mIt (mCut (mBor 6) none none) ⟨[x0, x1, x2, x3, x4, x5, some (.dat (.list L))], st⟩ = .ok L ⟨[x0, x1, x2, x3, x4, x5, some (.dat (.list L))], st⟩ := by
    unfold mIt
    rw [r_dat hct]
    rfl
  unfold mFor
  rw [hi]
  exact h
theorem pure_law (cells : List Int) (hc : cells ≠ []) (hl : cells.length ≤ 63) : ∃ m', m_law ⟨env1 5, (cells, 0)⟩ = .ok (.ret (.dat (.bool true))) m' := by
  obtain ⟨y2, y3, y4, st, h⟩ := turns_any (x0 := none) (x5 := none) (x6 := none) (rngD 0 60) none none none (cells, 0) 0 ⟨hc, hl, Int.le_refl _, Int.le_refl _⟩ (by rw [rng_len]; omega)
  obtain ⟨y5, hv⟩ := vals_any (x0 := none) (x1 := some .src) (x2 := y2) (x3 := y3) (x4 := y4) (x6 := none) (st := st) vls none vls_ok
  have hds := isT_all txs_ok
  obtain ⟨z3, ds, hm, hd, hn⟩ := more_any (x0 := none) (x1 := some .src) (x2 := y2) (x4 := y4) (x5 := y5) (st := st) (tx1 ++ tx2 ++ tx3 ++ tx4) (tx1 ++ tx2 ++ tx3 ++ tx4) y3 hds (fun d k => (hds d k).le (by omega)) (by decide)
  refine ⟨⟨[none, some .src, y2, none, y4, y5, some (.dat (.list ds))], st⟩, ?_⟩
  have hrg : mRng1 (mBs [(mDat (mC (.dat (.int 60))))]) ⟨env1 5, (cells, 0)⟩ = .ok (rngD 0 60) ⟨env1 5, (cells, 0)⟩ := rng_at (r_bc (x := nd 60) rfl r_bn) (by omega)
  have f1 : mFor (.nm 2) (mRng1 (mBs [(mDat (mC (.dat (.int 60))))])) bTn ⟨env1 5, (cells, 0)⟩ = .ok .next ⟨[none, some .src, y2, y3, y4, none, none], st⟩ := by
    unfold mFor
    rw [hrg]
    exact h
  have hit : mIt (mL (mLst (mArgs [(mC (.dat .none)), (mC (.dat (.int 0))), (mC (.dat (.int 12))), (mC (.dat (.bool true))), (mTup (mArgs [])), (mL (mLst (mArgs []))), (mC (.dat (.dict []))), (mL (mLst (mArgs [(mC (.dat (.str "/a>b/")))]))), (mTup (mArgs [(mC (.dat (.str ""))), (mC (.dat (.str "a"))), (mC (.dat (.str "b"))), (mC (.dat (.str "")))]))]))) ⟨[none, some .src, y2, y3, y4, none, none], st⟩ = .ok vls ⟨[none, some .src, y2, y3, y4, none, none], st⟩ := by
    have e1 : mTup (mArgs []) ⟨[none, some .src, y2, y3, y4, none, none], st⟩ = .ok (.dat (.tuple [])) ⟨[none, some .src, y2, y3, y4, none, none], st⟩ := r_tup r_an rfl (by simp)
    have e2 : mL (mLst (mArgs [])) ⟨[none, some .src, y2, y3, y4, none, none], st⟩ = .ok (.dat (.list [])) ⟨[none, some .src, y2, y3, y4, none, none], st⟩ := r_L (r_lst r_an rfl (by simp))
    have e3 : mL (mLst (mArgs [(mC (.dat (.str "/a>b/")))])) ⟨[none, some .src, y2, y3, y4, none, none], st⟩ = .ok (.dat (.list [.str "/a>b/"])) ⟨[none, some .src, y2, y3, y4, none, none], st⟩ := r_L (r_lst (xs := [.dat (.str "/a>b/")]) rfl rfl (by simp))
    have e4 : mTup (mArgs [(mC (.dat (.str ""))), (mC (.dat (.str "a"))), (mC (.dat (.str "b"))), (mC (.dat (.str "")))]) ⟨[none, some .src, y2, y3, y4, none, none], st⟩ = .ok (.dat (.tuple [.str "", .str "a", .str "b", .str ""])) ⟨[none, some .src, y2, y3, y4, none, none], st⟩ := r_tup (xs := [.dat (.str ""), .dat (.str "a"), .dat (.str "b"), .dat (.str "")]) rfl rfl (by simp)
    have := r_dat (r_L (r_lst (ds := vls) (r_ac (a := mC (.dat .none)) rfl (r_ac (a := mC (.dat (.int 0))) rfl (r_ac (a := mC (.dat (.int 12))) rfl (r_ac (a := mC (.dat (.bool true))) rfl (r_ac e1 (r_ac e2 (r_ac (a := mC (.dat (.dict []))) rfl (r_ac e3 (r_ac e4 r_an))))))))) rfl (by decide)))
    unfold mIt
    rw [this]
    rfl
  have f2 : mFor (.nm 5) (mIt (mL (mLst (mArgs [(mC (.dat .none)), (mC (.dat (.int 0))), (mC (.dat (.int 12))), (mC (.dat (.bool true))), (mTup (mArgs [])), (mL (mLst (mArgs []))), (mC (.dat (.dict []))), (mL (mLst (mArgs [(mC (.dat (.str "/a>b/")))]))), (mTup (mArgs [(mC (.dat (.str ""))), (mC (.dat (.str "a"))), (mC (.dat (.str "b"))), (mC (.dat (.str "")))]))])))) bVl ⟨[none, some .src, y2, y3, y4, none, none], st⟩ = .ok .next ⟨[none, some .src, y2, y3, y4, y5, none], st⟩ := by
    unfold mFor
    rw [hit]
    exact hv
  have s1 : mSetN 6 (mLst (mArgs [(mC (.dat (.str ""))), (mC (.dat (.str " "))), (mC (.dat (.str "/"))), (mC (.dat (.str "/a"))), (mC (.dat (.str "/a>"))), (mC (.dat (.str "/a>/"))), (mC (.dat (.str "/>/"))), (mC (.dat (.str "/a>b/"))), (mC (.dat (.str "a/a>b/a"))), (mC (.dat (.str "a"))), (mC (.dat (.str "a>b"))), (mC (.dat (.str "/a>b"))), (mC (.dat (.str "/a/b")))])) ⟨[none, some .src, y2, y3, y4, y5, none], st⟩ = .ok .next ⟨[none, some .src, y2, y3, y4, y5, some (.own tx1)], st⟩ :=
    r_setN (i := 6) (env := [none, some .src, y2, y3, y4, y5, none]) (st := st) (d := tx1) (r_lst (xs := tx1.map .dat) rfl rfl (by decide)) (by simp)
  have s2 : mSet 6 (mOp pAdd (mBor 6) (mDat (mL (mLst (mArgs [(mC (.dat (.str "/a>b/,"))), (mC (.dat (.str "/a>b/ ,"))), (mC (.dat (.str "/a>b/, /a>b/"))), (mC (.dat (.str "/a>b/ /a>b/"))), (mC (.dat (.str "/a>b/,,/a>b/"))), (mC (.dat (.str ",/a>b/"))), (mC (.dat (.str "/a>b/c d")))]))))) ⟨[none, some .src, y2, y3, y4, y5, some (.own tx1)], st⟩ = .ok .next ⟨[none, some .src, y2, y3, y4, y5, some (.dat (.list (tx1 ++ tx2)))], st⟩ :=
    r_set (i := 6) (env := [none, some .src, y2, y3, y4, y5, some (.own tx1)]) (st := st) (r_op (f := pAdd) (a := mBor 6) (x := .list tx1) rfl (r_dat (r_L (r_lst (ds := tx2) (xs := tx2.map .dat) rfl rfl (by decide)))) (pAdd_ls' (by decide))) (by simp)
  have s3 : mSet 6 (mOp pAdd (mBor 6) (mDat (mL (mLst (mArgs [(mC (.dat (.str "/a b>c/"))), (mC (.dat (.str "ab/a>b/"))), (mC (.dat (.str "/abcd>a/"))), (mC (.dat (.str "/a>abcd/"))), (mC (.dat (.str "/a>b/cd"))), (mC (.dat (.str "/A>b/"))), (mC (.dat (.str "/a>B/"))), (mC (.dat (.str "/a > b /")))]))))) ⟨[none, some .src, y2, y3, y4, y5, some (.dat (.list (tx1 ++ tx2)))], st⟩ = .ok .next ⟨[none, some .src, y2, y3, y4, y5, some (.dat (.list (tx1 ++ tx2 ++ tx3)))], st⟩ :=
    r_set (i := 6) (env := [none, some .src, y2, y3, y4, y5, some (.dat (.list (tx1 ++ tx2)))]) (st := st) (r_op (f := pAdd) (a := mBor 6) (x := .list (tx1 ++ tx2)) rfl (r_dat (r_L (r_lst (ds := tx3) (xs := tx3.map .dat) rfl rfl (by decide)))) (pAdd_ls' (by decide))) (by simp)
  have s4 : mSet 6 (mOp pAdd (mBor 6) (mDat (mL (mLst (mArgs [(mC (.dat (.str " / a>b/ "))), (mC (.dat (.str "/a>>b/"))), (mC (.dat (.str "//a>b/"))), (mC (.dat (.str "/a>b//"))), (mC (.dat (.str "\t/a>b/")))]))))) ⟨[none, some .src, y2, y3, y4, y5, some (.dat (.list (tx1 ++ tx2 ++ tx3)))], st⟩ = .ok .next ⟨[none, some .src, y2, y3, y4, y5, some (.dat (.list (tx1 ++ tx2 ++ tx3 ++ tx4)))], st⟩ :=
    r_set (i := 6) (env := [none, some .src, y2, y3, y4, y5, some (.dat (.list (tx1 ++ tx2 ++ tx3)))]) (st := st) (r_op (f := pAdd) (a := mBor 6) (x := .list (tx1 ++ tx2 ++ tx3)) rfl (r_dat (r_L (r_lst (ds := tx4) (xs := tx4.map .dat) rfl rfl (by decide)))) (pAdd_ls' (by decide))) (by simp)
  have f3 : mFor (.nm 3) (mIt (mCut (mBor 6) none none)) bMo ⟨[none, some .src, y2, y3, y4, y5, some (.dat (.list (tx1 ++ tx2 ++ tx3 ++ tx4)))], st⟩ = .ok .next ⟨[none, some .src, y2, z3, y4, y5, some (.dat (.list ds))], st⟩ := by
    exact for_cut hm
  have hcomp : mComp [3] (.nm 3) (mIt (mVar 6)) (mNot (mTest (mCall F__law_fits (mArgs [(mVar 3)])))) (mVar 3) ⟨[none, some .src, y2, z3, y4, y5, some (.dat (.list ds))], st⟩ = .ok [] ⟨[none, some .src, y2, none, y4, y5, some (.dat (.list ds))], st⟩ := by
    refine r_compC (l := ds) (m1 := ⟨[none, some .src, y2, z3, y4, y5, some (.dat (.list ds))], st⟩) rfl (by omega) (comp_none (E := [none, some .src, y2, none, y4, y5, some (.dat (.list ds))]) ds fun d hdm => ?_)
    obtain ⟨w, rfl, hw⟩ := hd d hdm
    refine ⟨⟨[none, some .src, y2, some (sd w), y4, y5, some (.dat (.list ds))], st⟩, ⟨[none, some .src, y2, some (sd w), y4, y5, some (.dat (.list ds))], st⟩, rfl, ?_, rfl⟩
    exact r_not (r_test (r_call (xs := [sd w]) (m1 := ⟨[none, some .src, y2, some (sd w), y4, y5, some (.dat (.list ds))], st⟩) rfl (law_fits_any (by omega))))
  have heq : pEq (.list []) (.list []) = some (.bool true) := same_eq rfl (by decide) ⟨_, rfl⟩
  refine (r_seq f1).trans ((r_seq f2).trans ((r_seq s1).trans ((r_seq s2).trans ((r_seq s3).trans ((r_seq s4).trans ((r_seq f3).trans (r_ret ?_)))))))
  exact r_op (f := pEq) (r_dat (r_L hcomp)) (r_dat (r_L (r_lst r_an rfl (by simp)))) heq
theorem pure : Pure := pure_law
end PL.RF
namespace PL.RF
open PySem PySem.Spec PyProof.Rows L2
theorem all_mk (pure : Pure) {P : Program} {w : World} {K : PySem.W.Frag} {h : Heap} {mg : Str → Option Value} {fa : Addr} (X : K.In h) (G : h.Ns mainGlobals mg) (hfa : mg "law" = some (.ref fa))
    {f0 : Addr} {od0 an0 : Option Addr} {sl0 : Array (Option Value)} {oc0 kV0 dc0 pm0 cd0 ct0 : Value}
    {f1 : Addr} {od1 an1 : Option Addr} {sl1 : Array (Option Value)} {oc1 kV1 dc1 pm1 cd1 ct1 : Value}
    {f2 : Addr} {od2 an2 : Option Addr} {sl2 : Array (Option Value)} {oc2 kV2 dc2 pm2 cd2 ct2 : Value}
    {f3 : Addr} {od3 an3 : Option Addr} {sl3 : Array (Option Value)} {oc3 kV3 dc3 pm3 cd3 ct3 : Value}
    {f4 : Addr} {od4 an4 : Option Addr} {sl4 : Array (Option Value)} {oc4 kV4 dc4 pm4 cd4 ct4 : Value}
    {f5 : Addr} {od5 an5 : Option Addr} {sl5 : Array (Option Value)} {oc5 kV5 dc5 pm5 cd5 ct5 : Value}
    {f6 : Addr} {od6 an6 : Option Addr} {sl6 : Array (Option Value)} {oc6 kV6 dc6 pm6 cd6 ct6 : Value}
    {f7 : Addr} {od7 an7 : Option Addr} {sl7 : Array (Option Value)} {oc7 kV7 dc7 pm7 cd7 ct7 : Value}
    {f8 : Addr} {od8 an8 : Option Addr} {sl8 : Array (Option Value)} {oc8 kV8 dc8 pm8 cd8 ct8 : Value}
    {f9 : Addr} {od9 an9 : Option Addr} {sl9 : Array (Option Value)} {oc9 kV9 dc9 pm9 cd9 ct9 : Value}
    {f10 : Addr} {od10 an10 : Option Addr} {sl10 : Array (Option Value)} {oc10 kV10 dc10 pm10 cd10 ct10 : Value}
    {f11 : Addr} {od11 an11 : Option Addr} {sl11 : Array (Option Value)} {oc11 kV11 dc11 pm11 cd11 ct11 : Value}
    {f12 : Addr} {od12 an12 : Option Addr} {sl12 : Array (Option Value)} {oc12 kV12 dc12 pm12 cd12 ct12 : Value}
    {f13 : Addr} {od13 an13 : Option Addr} {sl13 : Array (Option Value)} {oc13 kV13 dc13 pm13 cd13 ct13 : Value}
    {f14 : Addr} {od14 an14 : Option Addr} {sl14 : Array (Option Value)} {oc14 kV14 dc14 pm14 cd14 ct14 : Value}
    {f15 : Addr} {od15 an15 : Option Addr} {sl15 : Array (Option Value)} {oc15 kV15 dc15 pm15 cd15 ct15 : Value}
    {f16 : Addr} {od16 an16 : Option Addr} {sl16 : Array (Option Value)} {oc16 kV16 dc16 pm16 cd16 ct16 : Value}
    {f17 : Addr} {od17 an17 : Option Addr} {sl17 : Array (Option Value)} {oc17 kV17 dc17 pm17 cd17 ct17 : Value}
    {f18 : Addr} {od18 an18 : Option Addr} {sl18 : Array (Option Value)} {oc18 kV18 dc18 pm18 cd18 ct18 : Value}
    {f19 : Addr} {od19 an19 : Option Addr} {sl19 : Array (Option Value)} {oc19 kV19 dc19 pm19 cd19 ct19 : Value}
    {f20 : Addr} {od20 an20 : Option Addr} {sl20 : Array (Option Value)} {oc20 kV20 dc20 pm20 cd20 ct20 : Value}
    {f21 : Addr} {od21 an21 : Option Addr} {sl21 : Array (Option Value)} {oc21 kV21 dc21 pm21 cd21 ct21 : Value}
    {f22 : Addr} {od22 an22 : Option Addr} {sl22 : Array (Option Value)} {oc22 kV22 dc22 pm22 cd22 ct22 : Value}
    {f23 : Addr} {od23 an23 : Option Addr} {sl23 : Array (Option Value)} {oc23 kV23 dc23 pm23 cd23 ct23 : Value}
    {t_ALPHABET : Tok}
    {t_MOST_FIXES : Tok}
    {t_SIGNS : Tok}
    {C_InvalidBook : Addr}
    {C_InvalidText : Addr}
    {i_InvalidText : Addr} {nm_InvalidText q_InvalidText : Str} {N_InvalidText : Addr} {bs_InvalidText bm_InvalidText : List Value} {sn_InvalidText : List Str} {sub_InvalidText : List Value} {ab_InvalidText : Bool} {col_InvalidText : Option Bool} {dd_InvalidText : Option Addr} {m0_InvalidText m1_InvalidText m2_InvalidText m3_InvalidText m5_InvalidText : Option Value}
    {odi_InvalidText ani_InvalidText : Option Addr} {sli_InvalidText : Array (Option Value)} {oci_InvalidText kVi_InvalidText dci_InvalidText pmi_InvalidText cdi_InvalidText cti_InvalidText : Value}
    {C_FixError : Addr}
    {C_InvalidWord : Addr}
    (a0 : PySem.W.nsIn K mainGlobals "check_book" = some (some (.ref f0)))
    (l0 : K.lookup f0 = some ⟨oc0, od0, .func (PySem.W.fnOf "check_book" "check_book" (defArgs sF_check_book) (defBody sF_check_book) (defScope sF_check_book) .none kV0 dc0 pm0 an0 cd0 ct0), sl0⟩)
    (c0 : PySem.W.codeIn K cd0 "check_book" = true)
    (k0 : PySem.W.keepIn K (.ref f0) = true)
    (a1 : PySem.W.nsIn K mainGlobals "is_book" = some (some (.ref f1)))
    (l1 : K.lookup f1 = some ⟨oc1, od1, .func (PySem.W.fnOf "is_book" "is_book" (defArgs sF_is_book) (defBody sF_is_book) (defScope sF_is_book) .none kV1 dc1 pm1 an1 cd1 ct1), sl1⟩)
    (c1 : PySem.W.codeIn K cd1 "is_book" = true)
    (k1 : PySem.W.keepIn K (.ref f1) = true)
    (a2 : PySem.W.nsIn K mainGlobals "is_fix" = some (some (.ref f2)))
    (l2 : K.lookup f2 = some ⟨oc2, od2, .func (PySem.W.fnOf "is_fix" "is_fix" (defArgs sF_is_fix) (defBody sF_is_fix) (defScope sF_is_fix) .none kV2 dc2 pm2 an2 cd2 ct2), sl2⟩)
    (c2 : PySem.W.codeIn K cd2 "is_fix" = true)
    (k2 : PySem.W.keepIn K (.ref f2) = true)
    (a3 : PySem.W.nsIn K mainGlobals "is_word" = some (some (.ref f3)))
    (l3 : K.lookup f3 = some ⟨oc3, od3, .func (PySem.W.fnOf "is_word" "is_word" (defArgs sF_is_word) (defBody sF_is_word) (defScope sF_is_word) .none kV3 dc3 pm3 an3 cd3 ct3), sl3⟩)
    (c3 : PySem.W.codeIn K cd3 "is_word" = true)
    (k3 : PySem.W.keepIn K (.ref f3) = true)
    (a4 : PySem.W.nsIn K mainGlobals "book_text" = some (some (.ref f4)))
    (l4 : K.lookup f4 = some ⟨oc4, od4, .func (PySem.W.fnOf "book_text" "book_text" (defArgs sF_book_text) (defBody sF_book_text) (defScope sF_book_text) .none kV4 dc4 pm4 an4 cd4 ct4), sl4⟩)
    (c4 : PySem.W.codeIn K cd4 "book_text" = true)
    (k4 : PySem.W.keepIn K (.ref f4) = true)
    (a5 : PySem.W.nsIn K mainGlobals "read_book" = some (some (.ref f5)))
    (l5 : K.lookup f5 = some ⟨oc5, od5, .func (PySem.W.fnOf "read_book" "read_book" (defArgs sF_read_book) (defBody sF_read_book) (defScope sF_read_book) .none kV5 dc5 pm5 an5 cd5 ct5), sl5⟩)
    (c5 : PySem.W.codeIn K cd5 "read_book" = true)
    (k5 : PySem.W.keepIn K (.ref f5) = true)
    (a6 : PySem.W.nsIn K mainGlobals "read_fixes" = some (some (.ref f6)))
    (l6 : K.lookup f6 = some ⟨oc6, od6, .func (PySem.W.fnOf "read_fixes" "read_fixes" (defArgs sF_read_fixes) (defBody sF_read_fixes) (defScope sF_read_fixes) .none kV6 dc6 pm6 an6 cd6 ct6), sl6⟩)
    (c6 : PySem.W.codeIn K cd6 "read_fixes" = true)
    (k6 : PySem.W.keepIn K (.ref f6) = true)
    (a7 : PySem.W.nsIn K mainGlobals "read_fix" = some (some (.ref f7)))
    (l7 : K.lookup f7 = some ⟨oc7, od7, .func (PySem.W.fnOf "read_fix" "read_fix" (defArgs sF_read_fix) (defBody sF_read_fix) (defScope sF_read_fix) .none kV7 dc7 pm7 an7 cd7 ct7), sl7⟩)
    (c7 : PySem.W.codeIn K cd7 "read_fix" = true)
    (k7 : PySem.W.keepIn K (.ref f7) = true)
    (a8 : PySem.W.nsIn K mainGlobals "read_word" = some (some (.ref f8)))
    (l8 : K.lookup f8 = some ⟨oc8, od8, .func (PySem.W.fnOf "read_word" "read_word" (defArgs sF_read_word) (defBody sF_read_word) (defScope sF_read_word) .none kV8 dc8 pm8 an8 cd8 ct8), sl8⟩)
    (c8 : PySem.W.codeIn K cd8 "read_word" = true)
    (k8 : PySem.W.keepIn K (.ref f8) = true)
    (a9 : PySem.W.nsIn K mainGlobals "skip_blanks" = some (some (.ref f9)))
    (l9 : K.lookup f9 = some ⟨oc9, od9, .func (PySem.W.fnOf "skip_blanks" "skip_blanks" (defArgs sF_skip_blanks) (defBody sF_skip_blanks) (defScope sF_skip_blanks) .none kV9 dc9 pm9 an9 cd9 ct9), sl9⟩)
    (c9 : PySem.W.codeIn K cd9 "skip_blanks" = true)
    (k9 : PySem.W.keepIn K (.ref f9) = true)
    (a10 : PySem.W.nsIn K mainGlobals "skip_sign" = some (some (.ref f10)))
    (l10 : K.lookup f10 = some ⟨oc10, od10, .func (PySem.W.fnOf "skip_sign" "skip_sign" (defArgs sF_skip_sign) (defBody sF_skip_sign) (defScope sF_skip_sign) .none kV10 dc10 pm10 an10 cd10 ct10), sl10⟩)
    (c10 : PySem.W.codeIn K cd10 "skip_sign" = true)
    (k10 : PySem.W.keepIn K (.ref f10) = true)
    (a11 : PySem.W.nsIn K mainGlobals "_law_source" = some (some (.ref f11)))
    (l11 : K.lookup f11 = some ⟨oc11, od11, .func (PySem.W.fnOf "_law_source" "_law_source" (defArgs sF__law_source) (defBody sF__law_source) (defScope sF__law_source) .none kV11 dc11 pm11 an11 cd11 ct11), sl11⟩)
    (c11 : PySem.W.codeIn K cd11 "_law_source" = true)
    (k11 : PySem.W.keepIn K (.ref f11) = true)
    (a12 : PySem.W.nsIn K mainGlobals "_law_draw" = some (some (.ref f12)))
    (l12 : K.lookup f12 = some ⟨oc12, od12, .func (PySem.W.fnOf "_law_draw" "_law_draw" (defArgs sF__law_draw) (defBody sF__law_draw) (defScope sF__law_draw) .none kV12 dc12 pm12 an12 cd12 ct12), sl12⟩)
    (c12 : PySem.W.codeIn K cd12 "_law_draw" = true)
    (k12 : PySem.W.keepIn K (.ref f12) = true)
    (a13 : PySem.W.nsIn K mainGlobals "_law_pick" = some (some (.ref f13)))
    (l13 : K.lookup f13 = some ⟨oc13, od13, .func (PySem.W.fnOf "_law_pick" "_law_pick" (defArgs sF__law_pick) (defBody sF__law_pick) (defScope sF__law_pick) .none kV13 dc13 pm13 an13 cd13 ct13), sl13⟩)
    (c13 : PySem.W.codeIn K cd13 "_law_pick" = true)
    (k13 : PySem.W.keepIn K (.ref f13) = true)
    (a14 : PySem.W.nsIn K mainGlobals "_law_word" = some (some (.ref f14)))
    (l14 : K.lookup f14 = some ⟨oc14, od14, .func (PySem.W.fnOf "_law_word" "_law_word" (defArgs sF__law_word) (defBody sF__law_word) (defScope sF__law_word) .none kV14 dc14 pm14 an14 cd14 ct14), sl14⟩)
    (c14 : PySem.W.codeIn K cd14 "_law_word" = true)
    (k14 : PySem.W.keepIn K (.ref f14) = true)
    (a15 : PySem.W.nsIn K mainGlobals "_law_fix" = some (some (.ref f15)))
    (l15 : K.lookup f15 = some ⟨oc15, od15, .func (PySem.W.fnOf "_law_fix" "_law_fix" (defArgs sF__law_fix) (defBody sF__law_fix) (defScope sF__law_fix) .none kV15 dc15 pm15 an15 cd15 ct15), sl15⟩)
    (c15 : PySem.W.codeIn K cd15 "_law_fix" = true)
    (k15 : PySem.W.keepIn K (.ref f15) = true)
    (a16 : PySem.W.nsIn K mainGlobals "_law_book" = some (some (.ref f16)))
    (l16 : K.lookup f16 = some ⟨oc16, od16, .func (PySem.W.fnOf "_law_book" "_law_book" (defArgs sF__law_book) (defBody sF__law_book) (defScope sF__law_book) .none kV16 dc16 pm16 an16 cd16 ct16), sl16⟩)
    (c16 : PySem.W.codeIn K cd16 "_law_book" = true)
    (k16 : PySem.W.keepIn K (.ref f16) = true)
    (a17 : PySem.W.nsIn K mainGlobals "_law_end" = some (some (.ref f17)))
    (l17 : K.lookup f17 = some ⟨oc17, od17, .func (PySem.W.fnOf "_law_end" "_law_end" (defArgs sF__law_end) (defBody sF__law_end) (defScope sF__law_end) .none kV17 dc17 pm17 an17 cd17 ct17), sl17⟩)
    (c17 : PySem.W.codeIn K cd17 "_law_end" = true)
    (k17 : PySem.W.keepIn K (.ref f17) = true)
    (a18 : PySem.W.nsIn K mainGlobals "_law_due" = some (some (.ref f18)))
    (l18 : K.lookup f18 = some ⟨oc18, od18, .func (PySem.W.fnOf "_law_due" "_law_due" (defArgs sF__law_due) (defBody sF__law_due) (defScope sF__law_due) .none kV18 dc18 pm18 an18 cd18 ct18), sl18⟩)
    (c18 : PySem.W.codeIn K cd18 "_law_due" = true)
    (k18 : PySem.W.keepIn K (.ref f18) = true)
    (a19 : PySem.W.nsIn K mainGlobals "_law_is_book" = some (some (.ref f19)))
    (l19 : K.lookup f19 = some ⟨oc19, od19, .func (PySem.W.fnOf "_law_is_book" "_law_is_book" (defArgs sF__law_is_book) (defBody sF__law_is_book) (defScope sF__law_is_book) .none kV19 dc19 pm19 an19 cd19 ct19), sl19⟩)
    (c19 : PySem.W.codeIn K cd19 "_law_is_book" = true)
    (k19 : PySem.W.keepIn K (.ref f19) = true)
    (a20 : PySem.W.nsIn K mainGlobals "_law_read" = some (some (.ref f20)))
    (l20 : K.lookup f20 = some ⟨oc20, od20, .func (PySem.W.fnOf "_law_read" "_law_read" (defArgs sF__law_read) (defBody sF__law_read) (defScope sF__law_read) .none kV20 dc20 pm20 an20 cd20 ct20), sl20⟩)
    (c20 : PySem.W.codeIn K cd20 "_law_read" = true)
    (k20 : PySem.W.keepIn K (.ref f20) = true)
    (a21 : PySem.W.nsIn K mainGlobals "_law_fits" = some (some (.ref f21)))
    (l21 : K.lookup f21 = some ⟨oc21, od21, .func (PySem.W.fnOf "_law_fits" "_law_fits" (defArgs sF__law_fits) (defBody sF__law_fits) (defScope sF__law_fits) .none kV21 dc21 pm21 an21 cd21 ct21), sl21⟩)
    (c21 : PySem.W.codeIn K cd21 "_law_fits" = true)
    (k21 : PySem.W.keepIn K (.ref f21) = true)
    (a22 : PySem.W.nsIn K mainGlobals "_law_bent" = some (some (.ref f22)))
    (l22 : K.lookup f22 = some ⟨oc22, od22, .func (PySem.W.fnOf "_law_bent" "_law_bent" (defArgs sF__law_bent) (defBody sF__law_bent) (defScope sF__law_bent) .none kV22 dc22 pm22 an22 cd22 ct22), sl22⟩)
    (c22 : PySem.W.codeIn K cd22 "_law_bent" = true)
    (k22 : PySem.W.keepIn K (.ref f22) = true)
    (a23 : PySem.W.nsIn K mainGlobals "law" = some (some (.ref f23)))
    (l23 : K.lookup f23 = some ⟨oc23, od23, .func (PySem.W.fnOf "law" "law" (defArgs sF_law) (defBody sF_law) (defScope sF_law) .none kV23 dc23 pm23 an23 cd23 ct23), sl23⟩)
    (c23 : PySem.W.codeIn K cd23 "law" = true)
    (k23 : PySem.W.keepIn K (.ref f23) = true)
    (z_ValueError : PySem.W.nsIn K mainGlobals "ValueError" = some none)
    (z_abs : PySem.W.nsIn K mainGlobals "abs" = some none)
    (z_all : PySem.W.nsIn K mainGlobals "all" = some none)
    (z_int : PySem.W.nsIn K mainGlobals "int" = some none)
    (z_isinstance : PySem.W.nsIn K mainGlobals "isinstance" = some none)
    (z_len : PySem.W.nsIn K mainGlobals "len" = some none)
    (z_range : PySem.W.nsIn K mainGlobals "range" = some none)
    (z_str : PySem.W.nsIn K mainGlobals "str" = some none)
    (z_tuple : PySem.W.nsIn K mainGlobals "tuple" = some none)
    (v_ALPHABET : PySem.W.nsIn K mainGlobals "ALPHABET" = some (some (.str c_ALPHABET t_ALPHABET)))
    (v_MOST_FIXES : PySem.W.nsIn K mainGlobals "MOST_FIXES" = some (some (.int 5 t_MOST_FIXES)))
    (v_SIGNS : PySem.W.nsIn K mainGlobals "SIGNS" = some (some (.str c_SIGNS t_SIGNS)))
    (a_InvalidBook : PySem.W.nsIn K mainGlobals "InvalidBook" = some (some (.ref C_InvalidBook)))
    (p_InvalidBook : PySem.W.keepIn K (.ref C_InvalidBook) = true)
    (s_InvalidBook : PySem.W.subIn K (.ref C_InvalidBook) (.type "BaseException") = some true)
    (y_InvalidBook : PySem.W.typeIn K (.ref C_InvalidBook) = some (.type "type"))
    (x_InvalidBook : PySem.W.excIn K C_InvalidBook [.type "ValueError", .type "Exception", .type "BaseException", .type "object"] "ValueError.__new__" = true)
    (a_InvalidText : PySem.W.nsIn K mainGlobals "InvalidText" = some (some (.ref C_InvalidText)))
    (p_InvalidText : PySem.W.keepIn K (.ref C_InvalidText) = true)
    (s_InvalidText : PySem.W.subIn K (.ref C_InvalidText) (.type "BaseException") = some true)
    (y_InvalidText : PySem.W.typeIn K (.ref C_InvalidText) = some (.type "type"))
    (x_InvalidText : K.lookup C_InvalidText = some (excClassObj nm_InvalidText q_InvalidText C_InvalidText N_InvalidText bs_InvalidText bm_InvalidText true sn_InvalidText sub_InvalidText ab_InvalidText col_InvalidText dd_InvalidText m0_InvalidText m1_InvalidText m2_InvalidText m3_InvalidText m5_InvalidText "ValueError.__new__"))
    (r_InvalidText : PySem.HandSPX.refsVE bm_InvalidText = true)
    (t_InvalidText : PySem.W.findIn K (.ref C_InvalidText) "__setattr__" = some (some (.builtin "object.__setattr__")))
    (i0_InvalidText : PySem.W.findIn K (.ref C_InvalidText) "__init__" = some (some (.ref i_InvalidText)))
    (j_InvalidText : PySem.W.typeIn K (.ref i_InvalidText) = some (.type "function"))
    (li_InvalidText : K.lookup i_InvalidText = some ⟨oci_InvalidText, odi_InvalidText, .func (PySem.W.fnOf "__init__" "InvalidText.__init__" (defArgs sI_InvalidText) (defBody sI_InvalidText) (defScope sI_InvalidText) .none kVi_InvalidText dci_InvalidText pmi_InvalidText ani_InvalidText cdi_InvalidText cti_InvalidText), sli_InvalidText⟩)
    (ci_InvalidText : PySem.W.codeIn K cdi_InvalidText "InvalidText.__init__" = true)
    (ki_InvalidText : PySem.W.keepIn K (.ref i_InvalidText) = true)
    (n_InvalidText_at : PySem.W.findIn K (.ref C_InvalidText) "at" = some none)
    (a_FixError : PySem.W.nsIn K mainGlobals "FixError" = some (some (.ref C_FixError)))
    (a_InvalidWord : PySem.W.nsIn K mainGlobals "InvalidWord" = some (some (.ref C_InvalidWord)))
    (hs_FixError : PySem.W.subIn K (.ref C_FixError) (.type "BaseException") = some true)
    (hy_FixError : PySem.W.typeIn K (.ref C_FixError) = some (.type "type"))
    (hd_FixError : PySem.W.hasDictIn K C_FixError = true)
    (sb_InvalidBook_FixError : PySem.W.subIn K (.ref C_InvalidBook) (.ref C_FixError) = some true)
    (sb_InvalidText_FixError : PySem.W.subIn K (.ref C_InvalidText) (.ref C_FixError) = some true)
    (ec1_InvalidBook : PySem.W.findIn K (.ref C_InvalidBook) "__getattribute__" = some (some (.builtin "BaseException.__getattribute__")))
    (ec2_InvalidBook : PySem.W.findIn K (.ref C_InvalidBook) "__getattr__" = some none)
    (ec3_InvalidBook : PySem.W.subIn K (.ref C_InvalidBook) (.type "BaseException") = some true)
    (ec4_InvalidBook : PySem.W.hasDictIn K C_InvalidBook = true)
    (ec5_InvalidBook : PySem.W.findIn K (.ref C_InvalidBook) "__class__" = some (some (.builtin "object.__class__")))
    (ec6_InvalidBook : PySem.W.specialIn K (.builtin "object.__class__") "__get__" = some (some (.builtin "getset_descriptor.__get__")))
    (ec7_InvalidBook : PySem.W.takesIn K (.builtin "object.__class__") = some true)
    (ec8_InvalidBook : PySem.W.mroIn K C_InvalidBook (.type "object") = some true)
    (ec1_InvalidText : PySem.W.findIn K (.ref C_InvalidText) "__getattribute__" = some (some (.builtin "BaseException.__getattribute__")))
    (ec2_InvalidText : PySem.W.findIn K (.ref C_InvalidText) "__getattr__" = some none)
    (ec3_InvalidText : PySem.W.subIn K (.ref C_InvalidText) (.type "BaseException") = some true)
    (ec4_InvalidText : PySem.W.hasDictIn K C_InvalidText = true)
    (ec5_InvalidText : PySem.W.findIn K (.ref C_InvalidText) "__class__" = some (some (.builtin "object.__class__")))
    (ec6_InvalidText : PySem.W.specialIn K (.builtin "object.__class__") "__get__" = some (some (.builtin "getset_descriptor.__get__")))
    (ec7_InvalidText : PySem.W.takesIn K (.builtin "object.__class__") = some true)
    (ec8_InvalidText : PySem.W.mroIn K C_InvalidText (.type "object") = some true)
    (ki_InvalidBook_InvalidBook : PySem.W.kitOne K (.ref C_InvalidBook) (.ref C_InvalidBook) = some true)
    (ki_InvalidText_InvalidBook : PySem.W.kitOne K (.ref C_InvalidText) (.ref C_InvalidBook) = some false)
    (ki_InvalidBook_InvalidText : PySem.W.kitOne K (.ref C_InvalidBook) (.ref C_InvalidText) = some false)
    (ki_InvalidText_InvalidText : PySem.W.kitOne K (.ref C_InvalidText) (.ref C_InvalidText) = some true)
    (ki_InvalidBook_InvalidWord : PySem.W.kitOne K (.ref C_InvalidBook) (.ref C_InvalidWord) = some false)
    (ki_InvalidText_InvalidWord : PySem.W.kitOne K (.ref C_InvalidText) (.ref C_InvalidWord) = some false)
    (ki_InvalidBook_ValueError : PySem.W.kitOne K (.ref C_InvalidBook) (.type "ValueError") = some true)
    (ki_InvalidText_ValueError : PySem.W.kitOne K (.ref C_InvalidText) (.type "ValueError") = some true)
    : ∃ fd : FuncData, (∀ (s : Shared) (v : Value), BindsTo s fd ⟨[v], []⟩ [("script", v)]) ∧ ∀ base : Heap, K.In base → base.Ns mainGlobals mg → FnOk P w K mg base (L2.CX P w) 9 fa fd ["script"] (spLaw K) := by
  have e := hfa.symm.trans (PySem.W.mg_of X G a23)
  cases e
  have F0 := fun_mk (st := sF_check_book) l0 c0 k0
  have F1 := fun_mk (st := sF_is_book) l1 c1 k1
  have F2 := fun_mk (st := sF_is_fix) l2 c2 k2
  have F3 := fun_mk (st := sF_is_word) l3 c3 k3
  have F4 := fun_mk (st := sF_book_text) l4 c4 k4
  have F5 := fun_mk (st := sF_read_book) l5 c5 k5
  have F6 := fun_mk (st := sF_read_fixes) l6 c6 k6
  have F7 := fun_mk (st := sF_read_fix) l7 c7 k7
  have F8 := fun_mk (st := sF_read_word) l8 c8 k8
  have F9 := fun_mk (st := sF_skip_blanks) l9 c9 k9
  have F10 := fun_mk (st := sF_skip_sign) l10 c10 k10
  have F11 := fun_mk (st := sF__law_source) l11 c11 k11
  have F12 := fun_mk (st := sF__law_draw) l12 c12 k12
  have F13 := fun_mk (st := sF__law_pick) l13 c13 k13
  have F14 := fun_mk (st := sF__law_word) l14 c14 k14
  have F15 := fun_mk (st := sF__law_fix) l15 c15 k15
  have F16 := fun_mk (st := sF__law_book) l16 c16 k16
  have F17 := fun_mk (st := sF__law_end) l17 c17 k17
  have F18 := fun_mk (st := sF__law_due) l18 c18 k18
  have F19 := fun_mk (st := sF__law_is_book) l19 c19 k19
  have F20 := fun_mk (st := sF__law_read) l20 c20 k20
  have F21 := fun_mk (st := sF__law_fits) l21 c21 k21
  have F22 := fun_mk (st := sF__law_bent) l22 c22 k22
  have F23 := fun_mk (st := sF_law) l23 c23 k23
  have FI_InvalidText := fun_mk (st := sI_InvalidText) li_InvalidText ci_InvalidText ki_InvalidText
  have T : Txt K mg { a_check_book := f0, fd_check_book := PySem.W.fnOf "check_book" "check_book" (defArgs sF_check_book) (defBody sF_check_book) (defScope sF_check_book) .none kV0 dc0 pm0 an0 cd0 ct0, a_is_book := f1, fd_is_book := PySem.W.fnOf "is_book" "is_book" (defArgs sF_is_book) (defBody sF_is_book) (defScope sF_is_book) .none kV1 dc1 pm1 an1 cd1 ct1, a_is_fix := f2, fd_is_fix := PySem.W.fnOf "is_fix" "is_fix" (defArgs sF_is_fix) (defBody sF_is_fix) (defScope sF_is_fix) .none kV2 dc2 pm2 an2 cd2 ct2, a_is_word := f3, fd_is_word := PySem.W.fnOf "is_word" "is_word" (defArgs sF_is_word) (defBody sF_is_word) (defScope sF_is_word) .none kV3 dc3 pm3 an3 cd3 ct3, a_book_text := f4, fd_book_text := PySem.W.fnOf "book_text" "book_text" (defArgs sF_book_text) (defBody sF_book_text) (defScope sF_book_text) .none kV4 dc4 pm4 an4 cd4 ct4, a_read_book := f5, fd_read_book := PySem.W.fnOf "read_book" "read_book" (defArgs sF_read_book) (defBody sF_read_book) (defScope sF_read_book) .none kV5 dc5 pm5 an5 cd5 ct5, a_read_fixes := f6, fd_read_fixes := PySem.W.fnOf "read_fixes" "read_fixes" (defArgs sF_read_fixes) (defBody sF_read_fixes) (defScope sF_read_fixes) .none kV6 dc6 pm6 an6 cd6 ct6, a_read_fix := f7, fd_read_fix := PySem.W.fnOf "read_fix" "read_fix" (defArgs sF_read_fix) (defBody sF_read_fix) (defScope sF_read_fix) .none kV7 dc7 pm7 an7 cd7 ct7, a_read_word := f8, fd_read_word := PySem.W.fnOf "read_word" "read_word" (defArgs sF_read_word) (defBody sF_read_word) (defScope sF_read_word) .none kV8 dc8 pm8 an8 cd8 ct8, a_skip_blanks := f9, fd_skip_blanks := PySem.W.fnOf "skip_blanks" "skip_blanks" (defArgs sF_skip_blanks) (defBody sF_skip_blanks) (defScope sF_skip_blanks) .none kV9 dc9 pm9 an9 cd9 ct9, a_skip_sign := f10, fd_skip_sign := PySem.W.fnOf "skip_sign" "skip_sign" (defArgs sF_skip_sign) (defBody sF_skip_sign) (defScope sF_skip_sign) .none kV10 dc10 pm10 an10 cd10 ct10, a__law_source := f11, fd__law_source := PySem.W.fnOf "_law_source" "_law_source" (defArgs sF__law_source) (defBody sF__law_source) (defScope sF__law_source) .none kV11 dc11 pm11 an11 cd11 ct11, a__law_draw := f12, fd__law_draw := PySem.W.fnOf "_law_draw" "_law_draw" (defArgs sF__law_draw) (defBody sF__law_draw) (defScope sF__law_draw) .none kV12 dc12 pm12 an12 cd12 ct12, a__law_pick := f13, fd__law_pick := PySem.W.fnOf "_law_pick" "_law_pick" (defArgs sF__law_pick) (defBody sF__law_pick) (defScope sF__law_pick) .none kV13 dc13 pm13 an13 cd13 ct13, a__law_word := f14, fd__law_word := PySem.W.fnOf "_law_word" "_law_word" (defArgs sF__law_word) (defBody sF__law_word) (defScope sF__law_word) .none kV14 dc14 pm14 an14 cd14 ct14, a__law_fix := f15, fd__law_fix := PySem.W.fnOf "_law_fix" "_law_fix" (defArgs sF__law_fix) (defBody sF__law_fix) (defScope sF__law_fix) .none kV15 dc15 pm15 an15 cd15 ct15, a__law_book := f16, fd__law_book := PySem.W.fnOf "_law_book" "_law_book" (defArgs sF__law_book) (defBody sF__law_book) (defScope sF__law_book) .none kV16 dc16 pm16 an16 cd16 ct16, a__law_end := f17, fd__law_end := PySem.W.fnOf "_law_end" "_law_end" (defArgs sF__law_end) (defBody sF__law_end) (defScope sF__law_end) .none kV17 dc17 pm17 an17 cd17 ct17, a__law_due := f18, fd__law_due := PySem.W.fnOf "_law_due" "_law_due" (defArgs sF__law_due) (defBody sF__law_due) (defScope sF__law_due) .none kV18 dc18 pm18 an18 cd18 ct18, a__law_is_book := f19, fd__law_is_book := PySem.W.fnOf "_law_is_book" "_law_is_book" (defArgs sF__law_is_book) (defBody sF__law_is_book) (defScope sF__law_is_book) .none kV19 dc19 pm19 an19 cd19 ct19, a__law_read := f20, fd__law_read := PySem.W.fnOf "_law_read" "_law_read" (defArgs sF__law_read) (defBody sF__law_read) (defScope sF__law_read) .none kV20 dc20 pm20 an20 cd20 ct20, a__law_fits := f21, fd__law_fits := PySem.W.fnOf "_law_fits" "_law_fits" (defArgs sF__law_fits) (defBody sF__law_fits) (defScope sF__law_fits) .none kV21 dc21 pm21 an21 cd21 ct21, a__law_bent := f22, fd__law_bent := PySem.W.fnOf "_law_bent" "_law_bent" (defArgs sF__law_bent) (defBody sF__law_bent) (defScope sF__law_bent) .none kV22 dc22 pm22 an22 cd22 ct22, a_law := fa, fd_law := PySem.W.fnOf "law" "law" (defArgs sF_law) (defBody sF_law) (defScope sF_law) .none kV23 dc23 pm23 an23 cd23 ct23, C_InvalidBook := C_InvalidBook, C_InvalidText := C_InvalidText, i_InvalidText := i_InvalidText, fi_InvalidText := PySem.W.fnOf "__init__" "InvalidText.__init__" (defArgs sI_InvalidText) (defBody sI_InvalidText) (defScope sI_InvalidText) .none kVi_InvalidText dci_InvalidText pmi_InvalidText ani_InvalidText cdi_InvalidText cti_InvalidText, C_FixError := C_FixError, C_InvalidWord := C_InvalidWord } :=
    { F_check_book := F0,
      B_check_book := F0.binds (ps := ["book"]) fun _ _ _ _ _ _ us hl => match us, hl with | [_], _ => rfl,
      G_check_book := PySem.W.mg_of X G a0,
      F_is_book := F1,
      B_is_book := F1.binds (ps := ["value"]) fun _ _ _ _ _ _ us hl => match us, hl with | [_], _ => rfl,
      G_is_book := PySem.W.mg_of X G a1,
      F_is_fix := F2,
      B_is_fix := F2.binds (ps := ["value"]) fun _ _ _ _ _ _ us hl => match us, hl with | [_], _ => rfl,
      G_is_fix := PySem.W.mg_of X G a2,
      F_is_word := F3,
      B_is_word := F3.binds (ps := ["value", "least", "most"]) fun _ _ _ _ _ _ us hl => match us, hl with | [_, _, _], _ => rfl,
      G_is_word := PySem.W.mg_of X G a3,
      F_book_text := F4,
      B_book_text := F4.binds (ps := ["book"]) fun _ _ _ _ _ _ us hl => match us, hl with | [_], _ => rfl,
      G_book_text := PySem.W.mg_of X G a4,
      F_read_book := F5,
      B_read_book := F5.binds (ps := ["text"]) fun _ _ _ _ _ _ us hl => match us, hl with | [_], _ => rfl,
      G_read_book := PySem.W.mg_of X G a5,
      F_read_fixes := F6,
      B_read_fixes := F6.binds (ps := ["text"]) fun _ _ _ _ _ _ us hl => match us, hl with | [_], _ => rfl,
      G_read_fixes := PySem.W.mg_of X G a6,
      F_read_fix := F7,
      B_read_fix := F7.binds (ps := ["text", "at"]) fun _ _ _ _ _ _ us hl => match us, hl with | [_, _], _ => rfl,
      G_read_fix := PySem.W.mg_of X G a7,
      F_read_word := F8,
      B_read_word := F8.binds (ps := ["text", "at"]) fun _ _ _ _ _ _ us hl => match us, hl with | [_, _], _ => rfl,
      G_read_word := PySem.W.mg_of X G a8,
      F_skip_blanks := F9,
      B_skip_blanks := F9.binds (ps := ["text", "at"]) fun _ _ _ _ _ _ us hl => match us, hl with | [_, _], _ => rfl,
      G_skip_blanks := PySem.W.mg_of X G a9,
      F_skip_sign := F10,
      B_skip_sign := F10.binds (ps := ["text", "at", "sign"]) fun _ _ _ _ _ _ us hl => match us, hl with | [_, _, _], _ => rfl,
      G_skip_sign := PySem.W.mg_of X G a10,
      F__law_source := F11,
      B__law_source := F11.binds (ps := ["script"]) fun _ _ _ _ _ _ us hl => match us, hl with | [_], _ => rfl,
      G__law_source := PySem.W.mg_of X G a11,
      F__law_draw := F12,
      B__law_draw := F12.binds (ps := ["source", "limit"]) fun _ _ _ _ _ _ us hl => match us, hl with | [_, _], _ => rfl,
      G__law_draw := PySem.W.mg_of X G a12,
      F__law_pick := F13,
      B__law_pick := F13.binds (ps := ["source", "values"]) fun _ _ _ _ _ _ us hl => match us, hl with | [_, _], _ => rfl,
      G__law_pick := PySem.W.mg_of X G a13,
      F__law_word := F14,
      B__law_word := F14.binds (ps := ["source", "alphabet", "least", "most"]) fun _ _ _ _ _ _ us hl => match us, hl with | [_, _, _, _], _ => rfl,
      G__law_word := PySem.W.mg_of X G a14,
      F__law_fix := F15,
      B__law_fix := F15.binds (ps := ["source", "alphabet"]) fun _ _ _ _ _ _ us hl => match us, hl with | [_, _], _ => rfl,
      G__law_fix := PySem.W.mg_of X G a15,
      F__law_book := F16,
      B__law_book := F16.binds (ps := ["source", "alphabet", "most"]) fun _ _ _ _ _ _ us hl => match us, hl with | [_, _, _], _ => rfl,
      G__law_book := PySem.W.mg_of X G a16,
      F__law_end := F17,
      B__law_end := F17.binds (ps := ["text", "at", "alphabet"]) fun _ _ _ _ _ _ us hl => match us, hl with | [_, _, _], _ => rfl,
      G__law_end := PySem.W.mg_of X G a17,
      F__law_due := F18,
      B__law_due := F18.binds (ps := ["text"]) fun _ _ _ _ _ _ us hl => match us, hl with | [_], _ => rfl,
      G__law_due := PySem.W.mg_of X G a18,
      F__law_is_book := F19,
      B__law_is_book := F19.binds (ps := ["book"]) fun _ _ _ _ _ _ us hl => match us, hl with | [_], _ => rfl,
      G__law_is_book := PySem.W.mg_of X G a19,
      F__law_read := F20,
      B__law_read := F20.binds (ps := ["text"]) fun _ _ _ _ _ _ us hl => match us, hl with | [_], _ => rfl,
      G__law_read := PySem.W.mg_of X G a20,
      F__law_fits := F21,
      B__law_fits := F21.binds (ps := ["text"]) fun _ _ _ _ _ _ us hl => match us, hl with | [_], _ => rfl,
      G__law_fits := PySem.W.mg_of X G a21,
      F__law_bent := F22,
      B__law_bent := F22.binds (ps := ["source", "text"]) fun _ _ _ _ _ _ us hl => match us, hl with | [_, _], _ => rfl,
      G__law_bent := PySem.W.mg_of X G a22,
      F_law := F23,
      Z_ValueError := PySem.W.mg_none_of X G z_ValueError,
      Z_abs := PySem.W.mg_none_of X G z_abs,
      Z_all := PySem.W.mg_none_of X G z_all,
      Z_int := PySem.W.mg_none_of X G z_int,
      Z_isinstance := PySem.W.mg_none_of X G z_isinstance,
      Z_len := PySem.W.mg_none_of X G z_len,
      Z_range := PySem.W.mg_none_of X G z_range,
      Z_str := PySem.W.mg_none_of X G z_str,
      Z_tuple := PySem.W.mg_none_of X G z_tuple,
      K_ALPHABET := ⟨_, PySem.W.mg_of X G v_ALPHABET⟩,
      K_MOST_FIXES := ⟨_, PySem.W.mg_of X G v_MOST_FIXES⟩,
      K_SIGNS := ⟨_, PySem.W.mg_of X G v_SIGNS⟩,
      G_InvalidBook := PySem.W.mg_of X G a_InvalidBook,
      X_InvalidBook := x_InvalidBook,
      P_InvalidBook := p_InvalidBook,
      S_InvalidBook := s_InvalidBook,
      Y_InvalidBook := y_InvalidBook,
      G_InvalidText := PySem.W.mg_of X G a_InvalidText,
      O_InvalidText := ⟨⟨_, _, _, _, _, _, _, _, _, _, _, _, _, _, _, x_InvalidText, r_InvalidText⟩, t_InvalidText, s_InvalidText, y_InvalidText, p_InvalidText⟩,
      I_InvalidText := i0_InvalidText,
      J_InvalidText := j_InvalidText,
      FI_InvalidText := FI_InvalidText,
      BI_InvalidText := FI_InvalidText.binds (ps := ["self", "at"]) fun _ _ _ _ _ _ us hl => match us, hl with | [_, _], _ => rfl,
      N_InvalidText_at := n_InvalidText_at,
      G_FixError := PySem.W.mg_of X G a_FixError,
      G_InvalidWord := PySem.W.mg_of X G a_InvalidWord,
      HS_FixError := hs_FixError,
      HY_FixError := hy_FixError,
      HD_FixError := hd_FixError,
      SB_InvalidBook_FixError := sb_InvalidBook_FixError,
      SB_InvalidText_FixError := sb_InvalidText_FixError,
      EC_InvalidBook := ⟨ec1_InvalidBook, ec2_InvalidBook, ec3_InvalidBook, ec4_InvalidBook, ec5_InvalidBook, ec6_InvalidBook, ec7_InvalidBook, ec8_InvalidBook⟩,
      EC_InvalidText := ⟨ec1_InvalidText, ec2_InvalidText, ec3_InvalidText, ec4_InvalidText, ec5_InvalidText, ec6_InvalidText, ec7_InvalidText, ec8_InvalidText⟩,
      KI_InvalidBook_InvalidBook := ki_InvalidBook_InvalidBook,
      KI_InvalidText_InvalidBook := ki_InvalidText_InvalidBook,
      KI_InvalidBook_InvalidText := ki_InvalidBook_InvalidText,
      KI_InvalidText_InvalidText := ki_InvalidText_InvalidText,
      KI_InvalidBook_InvalidWord := ki_InvalidBook_InvalidWord,
      KI_InvalidText_InvalidWord := ki_InvalidText_InvalidWord,
      KI_InvalidBook_ValueError := ki_InvalidBook_ValueError,
      KI_InvalidText_ValueError := ki_InvalidText_ValueError }
  exact ⟨PySem.W.fnOf "law" "law" (defArgs sF_law) (defBody sF_law) (defScope sF_law) .none kV23 dc23 pm23 an23 cd23 ct23, fun s v => .of_eq rfl, fun base _ _ => all_ok T pure⟩
end PL.RF
open PySem PySem.W PyProof.Rows
set_option maxRecDepth 100000 in
set_option maxHeartbeats 0 in
theorem PySem.Challenge.cw_restingfixes_k04_wrong_texts_holds : PySem.Challenge.rw_restingfixes_k04_wrong_texts.Holds := by
  w_on; o_law; k_head; (case hw => w_witness2)
  k_fill
  refine L2.walk_of (l := PySem.Challenge.rw_restingfixes_k04_wrong_texts) (n := 63) (k := 9) (x := "script") (CX := fun w => L2.CX PySem.Challenge.rw_restingfixes_k04_wrong_texts.prog w) (sp := fun w => PL.spLaw _) rfl (by decide) rfl ⟨rfl, by decide, by decide⟩ (fun w h Y => PySem.W.kIn_of Y) ?F (fun _ _ a ns hl _ hS => ⟨a, ns, rfl, hS, hl, fun _ => rfl⟩) (fun _ _ _ _ _ h => PL.noCX h)
  case F =>
    intro w mg fa h KX G hmg
    refine' PL.RF.all_mk PL.RF.pure KX G hmg ?a0 ?l0 ?c0 ?k0 ?a1 ?l1 ?c1 ?k1 ?a2 ?l2 ?c2 ?k2 ?a3 ?l3 ?c3 ?k3 ?a4 ?l4 ?c4 ?k4 ?a5 ?l5 ?c5 ?k5 ?a6 ?l6 ?c6 ?k6 ?a7 ?l7 ?c7 ?k7 ?a8 ?l8 ?c8 ?k8 ?a9 ?l9 ?c9 ?k9 ?a10 ?l10 ?c10 ?k10 ?a11 ?l11 ?c11 ?k11 ?a12 ?l12 ?c12 ?k12 ?a13 ?l13 ?c13 ?k13 ?a14 ?l14 ?c14 ?k14 ?a15 ?l15 ?c15 ?k15 ?a16 ?l16 ?c16 ?k16 ?a17 ?l17 ?c17 ?k17 ?a18 ?l18 ?c18 ?k18 ?a19 ?l19 ?c19 ?k19 ?a20 ?l20 ?c20 ?k20 ?a21 ?l21 ?c21 ?k21 ?a22 ?l22 ?c22 ?k22 ?a23 ?l23 ?c23 ?k23 ?z_ValueError ?z_abs ?z_all ?z_int ?z_isinstance ?z_len ?z_range ?z_str ?z_tuple ?v_ALPHABET ?v_MOST_FIXES ?v_SIGNS ?a_InvalidBook ?p_InvalidBook ?s_InvalidBook ?y_InvalidBook ?x_InvalidBook ?a_InvalidText ?p_InvalidText ?s_InvalidText ?y_InvalidText ?x_InvalidText ?r_InvalidText ?t_InvalidText ?i0_InvalidText ?j_InvalidText ?li_InvalidText ?ci_InvalidText ?ki_InvalidText ?n_InvalidText_at ?a_FixError ?a_InvalidWord ?hs_FixError ?hy_FixError ?hd_FixError ?sb_InvalidBook_FixError ?sb_InvalidText_FixError ?ec1_InvalidBook ?ec2_InvalidBook ?ec3_InvalidBook ?ec4_InvalidBook ?ec5_InvalidBook ?ec6_InvalidBook ?ec7_InvalidBook ?ec8_InvalidBook ?ec1_InvalidText ?ec2_InvalidText ?ec3_InvalidText ?ec4_InvalidText ?ec5_InvalidText ?ec6_InvalidText ?ec7_InvalidText ?ec8_InvalidText ?ki_InvalidBook_InvalidBook ?ki_InvalidText_InvalidBook ?ki_InvalidBook_InvalidText ?ki_InvalidText_InvalidText ?ki_InvalidBook_InvalidWord ?ki_InvalidText_InvalidWord ?ki_InvalidBook_ValueError ?ki_InvalidText_ValueError
    (case a0 => k_is)
    (case l0 => k_is)
    (case c0 => k_is)
    (case k0 => k_is)
    (case a1 => k_is)
    (case l1 => k_is)
    (case c1 => k_is)
    (case k1 => k_is)
    (case a2 => k_is)
    (case l2 => k_is)
    (case c2 => k_is)
    (case k2 => k_is)
    (case a3 => k_is)
    (case l3 => k_is)
    (case c3 => k_is)
    (case k3 => k_is)
    (case a4 => k_is)
    (case l4 => k_is)
    (case c4 => k_is)
    (case k4 => k_is)
    (case a5 => k_is)
    (case l5 => k_is)
    (case c5 => k_is)
    (case k5 => k_is)
    (case a6 => k_is)
    (case l6 => k_is)
    (case c6 => k_is)
    (case k6 => k_is)
    (case a7 => k_is)
    (case l7 => k_is)
    (case c7 => k_is)
    (case k7 => k_is)
    (case a8 => k_is)
    (case l8 => k_is)
    (case c8 => k_is)
    (case k8 => k_is)
    (case a9 => k_is)
    (case l9 => k_is)
    (case c9 => k_is)
    (case k9 => k_is)
    (case a10 => k_is)
    (case l10 => k_is)
    (case c10 => k_is)
    (case k10 => k_is)
    (case a11 => k_is)
    (case l11 => k_is)
    (case c11 => k_is)
    (case k11 => k_is)
    (case a12 => k_is)
    (case l12 => k_is)
    (case c12 => k_is)
    (case k12 => k_is)
    (case a13 => k_is)
    (case l13 => k_is)
    (case c13 => k_is)
    (case k13 => k_is)
    (case a14 => k_is)
    (case l14 => k_is)
    (case c14 => k_is)
    (case k14 => k_is)
    (case a15 => k_is)
    (case l15 => k_is)
    (case c15 => k_is)
    (case k15 => k_is)
    (case a16 => k_is)
    (case l16 => k_is)
    (case c16 => k_is)
    (case k16 => k_is)
    (case a17 => k_is)
    (case l17 => k_is)
    (case c17 => k_is)
    (case k17 => k_is)
    (case a18 => k_is)
    (case l18 => k_is)
    (case c18 => k_is)
    (case k18 => k_is)
    (case a19 => k_is)
    (case l19 => k_is)
    (case c19 => k_is)
    (case k19 => k_is)
    (case a20 => k_is)
    (case l20 => k_is)
    (case c20 => k_is)
    (case k20 => k_is)
    (case a21 => k_is)
    (case l21 => k_is)
    (case c21 => k_is)
    (case k21 => k_is)
    (case a22 => k_is)
    (case l22 => k_is)
    (case c22 => k_is)
    (case k22 => k_is)
    (case a23 => k_is)
    (case l23 => k_is)
    (case c23 => k_is)
    (case k23 => k_is)
    (case z_ValueError => k_is)
    (case z_abs => k_is)
    (case z_all => k_is)
    (case z_int => k_is)
    (case z_isinstance => k_is)
    (case z_len => k_is)
    (case z_range => k_is)
    (case z_str => k_is)
    (case z_tuple => k_is)
    (case v_ALPHABET => k_is)
    (case v_MOST_FIXES => k_is)
    (case v_SIGNS => k_is)
    (case a_InvalidBook => k_is)
    (case p_InvalidBook => k_is)
    (case s_InvalidBook => k_is)
    (case y_InvalidBook => k_is)
    (case x_InvalidBook => k_exc)
    (case a_InvalidText => k_is)
    (case p_InvalidText => k_is)
    (case s_InvalidText => k_is)
    (case y_InvalidText => k_is)
    (case x_InvalidText => k_is)
    (case r_InvalidText => decide +kernel)
    (case t_InvalidText => k_is)
    (case i0_InvalidText => k_is)
    (case j_InvalidText => k_is)
    (case li_InvalidText => k_is)
    (case ci_InvalidText => k_is)
    (case ki_InvalidText => k_is)
    (case n_InvalidText_at => k_is)
    (case a_FixError => k_is)
    (case a_InvalidWord => k_is)
    (case hs_FixError => k_is)
    (case hy_FixError => k_is)
    (case hd_FixError => k_is)
    (case sb_InvalidBook_FixError => k_is)
    (case sb_InvalidText_FixError => k_is)
    (case ec1_InvalidBook => k_is)
    (case ec2_InvalidBook => k_is)
    (case ec3_InvalidBook => k_is)
    (case ec4_InvalidBook => k_is)
    (case ec5_InvalidBook => k_is)
    (case ec6_InvalidBook => k_is)
    (case ec7_InvalidBook => k_is)
    (case ec8_InvalidBook => k_is)
    (case ec1_InvalidText => k_is)
    (case ec2_InvalidText => k_is)
    (case ec3_InvalidText => k_is)
    (case ec4_InvalidText => k_is)
    (case ec5_InvalidText => k_is)
    (case ec6_InvalidText => k_is)
    (case ec7_InvalidText => k_is)
    (case ec8_InvalidText => k_is)
    (case ki_InvalidBook_InvalidBook => kit_is)
    (case ki_InvalidText_InvalidBook => kit_is)
    (case ki_InvalidBook_InvalidText => kit_is)
    (case ki_InvalidText_InvalidText => kit_is)
    (case ki_InvalidBook_InvalidWord => kit_is)
    (case ki_InvalidText_InvalidWord => kit_is)
    (case ki_InvalidBook_ValueError => kit_is)
    (case ki_InvalidText_ValueError => kit_is)
