import PyProof.Rows.All
import Wide.All
import OpenK.AllK
import Wide.FinOn
import HandS.ForMost
import HandS.ForExc
import HandS.FStr
import HandS.IsInst
import HandS.Wide
import HandS.NoneIn
import HandS.ExcInit
import HandS.Dict
import KE.KDictKeyed
import KE.KeyNested
import HandS.TupAny
import HandS.Deep
import HandS.Text
import HandS.AnyAll
import HandS.CallSlots
import HandS.Walk
import KE.KExcIs
import KE.RegKIsAll
import HandS.ExcIs
import HandS.ExcField
import HandS.ExcValue
import HandS.Style
import HandS.SetFor
import HandS.StrMore
import HandS.Zip
import HandS.Rev
import HandS.RevRange
import KE.GoesEnum
import HandS.Conv
import KE.KDictDisplayH
import HandS.More
import KE.KMinBuiltin
import HandS.Strs
import HandS.Replace
import HandS.ReplaceLit
import HandS.Flow
import HandS.Property
import HandS.New
import PySem.Challenge.RW_restingfixes_k35_bounds_of_desks
set_option Elab.async false
set_option linter.all false
set_option maxRecDepth 100000
set_option autoImplicit false
set_option maxHeartbeats 4000000
/-! PL: a layer of pure readings over HandS: data are PyData, lists that only a local name holds are its own, a source of draws is a state. -/
namespace PL
open PySem PySem.Spec PyProof.Rows L2

/-- the written part, with what a key's hash asks -/
structure Kx where
  k : PySem.W.Frag
  P : Program
  w : World
instance : Coe Kx PySem.W.Frag := ⟨Kx.k⟩
abbrev _root_.L2.Cx.KK (X : Cx) : Kx := ⟨X.K, X.prog, X.w⟩

/-- an exception: its class's name, its fields -/
structure Xn where
  cls : Str
  fs : List (Str × PyData)

/-- other objects: lists of exceptions; what is lent: an object, a list of two lists -/
inductive Ob
  | xs (l : List Xn)
  | bx
  | bp
/-- what the object that is lent holds: nothing; two lists; a desk's stands and its place -/
inductive Bx
  | no
  | pap (l m : List PyData)
  | dsk (l : List PyData) (n : Int)

/-- what a slot holds -/
inductive Sl
  | dat (d : PyData)
  | own (d : PyData)
  | src
  | exc (x : Xn)
  | obj (o : Ob)

structure SrcSt where
  c : List Int
  t : Int
  b : Bx := .no
/-- where the source lies, where what is lent lies -/
structure Sc where
  s : Option (Addr × Addr)
  b : Option (Addr × Addr)
def Sc.no : Sc := ⟨none, none⟩
structure Me where
  env : List (Option Sl)
  st : SrcSt

inductive Res (α : Type)
  | ok (a : α) (m : Me)
  | exc (x : Xn) (m : Me)
  | bad
def Res.bind {α β : Type} (r : Res α) (k : α → Me → Res β) : Res β := match r with
  | .ok a m => k a m
  | .exc x m => .exc x m
  | .bad => .bad
@[simp] theorem Res.bind_ok {α β : Type} (a : α) (m : Me) (k : α → Me → Res β) : (Res.ok a m).bind k = k a m := rfl
@[simp] theorem Res.bind_exc {α β : Type} (x : Xn) (m : Me) (k : α → Me → Res β) : (Res.exc x m : Res α).bind k = .exc x m := rfl
@[simp] theorem Res.bind_bad {α β : Type} (k : α → Me → Res β) : (Res.bad : Res α).bind k = .bad := rfl
abbrev M (α : Type) := Me → Res α

inductive Flow
  | next
  | ret (s : Sl)
  | brk
  | cont

/-! ### the world of a def's run -/
structure Wd where
  sc : Sc
  H0 : Hp
  T0 : Addr → Prop
def InP (o : Option (Addr × Addr)) (x : Addr) : Prop := ∃ a c, o = some (a, c) ∧ (x = a ∨ x = c)
def InS (sc : Sc) (b : Addr) : Prop := InP sc.s b ∨ InP sc.b b
structure Wd.Ok (w : Wd) : Prop where
  s0 : ∀ b, InS w.sc b → w.T0 b
  al : ∀ b, w.T0 b → w.H0 b ≠ none

/-! ### data in a heap -/
def KL (K : Kx) (a : Addr) (xs : List V) : Prop :=
  ∃ (o : Obj) (its : Array Value) (n : Nat), K.k.lookup a = some o ∧ o.cls = .type "list" ∧ o.dict = none ∧ o.data = .seq its n ∧ its.size ≤ sizeLine ∧ Vals xs its.toList
def KT (K : Kx) (a : Addr) (xs : List V) : Prop :=
  ∃ (o : Obj) (its : Array Value) (n : Nat), K.k.lookup a = some o ∧ o.cls = .type "tuple" ∧ o.data = .seq its n ∧ its.size ≤ sizeLine ∧ Vals xs its.toList
def QL (K : Kx) (T : Addr → Prop) (H : Hp) (a : Addr) (xs : List V) : Prop := Rd H a (.lst xs) ∧ ¬ T a
def QT (K : Kx) (T : Addr → Prop) (H : Hp) (a : Addr) (xs : List V) : Prop := (Rd H a (.tup xs) ∧ ¬ T a) ∨ KT K a xs
/-! keys of dicts: ints and texts | tuples -/
mutual
def nk : PyData → NestedKey
  | .none => .none
  | .bool b => .num (if b then 1 else 0)
  | .int i => .num i
  | .str x => .text x
  | .list _ => .none
  | .tuple ds => .tup (nks ds)
  | .dict _ => .none
def nks : List PyData → List NestedKey
  | [] => []
  | d :: ds => nk d :: nks ds
end
mutual
def hsh : PyData → Bool
  | .list _ => false
  | .dict _ => false
  | .tuple ds => hshs ds
  | .none => true
  | .bool _ => true
  | .int _ => true
  | .str _ => true
def hshs : List PyData → Bool
  | [] => true
  | d :: ds => hsh d && hshs ds
end
/-- a tuple that may be a key -/
def keyT (ds : List PyData) : Bool := hshs ds && decide ((nk (.tuple ds)).depth ≤ 8)
def KeyD : Key → PyData → Prop
  | .inl i, d => d = .int i
  | .inr x, d => d = .str x
/-- the entries of a dict with tuples as keys: the key, where its tuple stands, the value -/
abbrev NE := NestedKey × Addr × V
def DictN (K : Kx) (a : Addr) (kvs : List NE) (h : Heap) : Prop :=
  ∃ (o : Obj) (es : Array DictEntry) (ep : Nat), h.get? a = some o ∧ o.ExactDict ∧ o.data = .dict es ep ∧ Paired (fun (p : NE) (e : DictEntry) => e.hash = p.1.hash K.w ∧ e.key = .ref p.2.1 ∧ RelV p.2.2 e.val) kvs es.toList ∧ (kvs.map (·.1)).Nodup ∧ kvs.length ≤ sizeLine ∧ (a == sysModules) = false
def HN (K : Kx) (a : Addr) (kvs : List NE) : HO := .ext (DictN K a kvs)
mutual
inductive DD (K : Kx) (T : Addr → Prop) (H : Hp) : V → PyData → Prop
  | non : DD K T H .non .none
  | bl (b : Bool) : DD K T H (.bl b) (.bool b)
  | int (i : Int) : DD K T H (.int i) (.int i)
  | str (x : Str) : DD K T H (.str x) (.str x)
  | lst {a : Addr} {xs : List V} {ds : List PyData} : QL K T H a xs → DDs K T H xs ds → DD K T H (.ref a) (.list ds)
  | tup {a : Addr} {xs : List V} {ds : List PyData} : QT K T H a xs → DDs K T H xs ds → DD K T H (.ref a) (.tuple ds)
  | dic {a : Addr} {kvs : List (Key × V)} {es : List (PyData × PyData)} : Rd H a (.dK kvs) ∧ ¬ T a → DKs K T H kvs es → DD K T H (.ref a) (.dict es)
  | din {a : Addr} {kvs : List NE} {es : List (PyData × PyData)} : Rd H a (HN K a kvs) ∧ ¬ T a → es ≠ [] → DNs K T H kvs es → DD K T H (.ref a) (.dict es)
inductive DDs (K : Kx) (T : Addr → Prop) (H : Hp) : List V → List PyData → Prop
  | nil : DDs K T H [] []
  | cons {v : V} {vs : List V} {d : PyData} {ds : List PyData} : DD K T H v d → DDs K T H vs ds → DDs K T H (v :: vs) (d :: ds)
inductive DKs (K : Kx) (T : Addr → Prop) (H : Hp) : List (Key × V) → List (PyData × PyData) → Prop
  | nil : DKs K T H [] []
  | cons {k : Key} {v : V} {kvs : List (Key × V)} {d e : PyData} {es : List (PyData × PyData)} : KeyD k d → DD K T H v e → DKs K T H kvs es → DKs K T H ((k, v) :: kvs) ((d, e) :: es)
inductive DNs (K : Kx) (T : Addr → Prop) (H : Hp) : List NE → List (PyData × PyData) → Prop
  | nil : DNs K T H [] []
  | cons {k : NestedKey} {b : Addr} {v : V} {kvs : List NE} {ds : List PyData} {e : PyData} {es : List (PyData × PyData)} : nk (.tuple ds) = k → keyT ds = true → DD K T H (.ref b) (.tuple ds) → DD K T H v e → DNs K T H kvs es → DNs K T H ((k, b, v) :: kvs) ((.tuple ds, e) :: es)
end
/-- what lies outside T stays so -/
def Fr (T : Addr → Prop) (H : Hp) (T' : Addr → Prop) (H' : Hp) : Prop := ∀ b o, ¬ T b → H b = some o → H' b = some o ∧ ¬ T' b
def Ex (sc : Sc) (H H' : Hp) : Prop := ∀ b o, ¬ InS sc b → H b = some o → H' b = some o
theorem Fr.refl (T : Addr → Prop) (H : Hp) : Fr T H T H := fun _ _ n h => ⟨h, n⟩
theorem Fr.trans {T1 T2 T3 : Addr → Prop} {H1 H2 H3 : Hp} (a : Fr T1 H1 T2 H2) (b : Fr T2 H2 T3 H3) : Fr T1 H1 T3 H3 := fun x o n h =>
  let ⟨h2, n2⟩ := a x o n h
  b x o n2 h2
theorem Ex.refl (sc : Sc) (H : Hp) : Ex sc H H := fun _ _ _ h => h
theorem Ex.trans {sc : Sc} {H1 H2 H3 : Hp} (a : Ex sc H1 H2) (b : Ex sc H2 H3) : Ex sc H1 H3 := fun x o n h => b x o n (a x o n h)
theorem Rd.fr {T T' : Addr → Prop} {H H' : Hp} {a : Addr} {o : HO} (f : Fr T H T' H') (n : ¬ T a) (h : Rd H a o) : Rd H' a o ∧ ¬ T' a := by
  rcases h with h | ⟨u, h⟩
  · exact ⟨.inl (f a _ n h).1, (f a _ n h).2⟩
  · exact ⟨.inr ⟨u, (f a _ n h).1⟩, (f a _ n h).2⟩
theorem QL.fr {K : Kx} {T T' : Addr → Prop} {H H' : Hp} {a : Addr} {xs : List V} (f : Fr T H T' H') (h : QL K T H a xs) : QL K T' H' a xs := Rd.fr f h.2 h.1
theorem QT.fr {K : Kx} {T T' : Addr → Prop} {H H' : Hp} {a : Addr} {xs : List V} (f : Fr T H T' H') (h : QT K T H a xs) : QT K T' H' a xs := by
  rcases h with ⟨h, n⟩ | h
  · exact .inl (Rd.fr f n h)
  · exact .inr h
mutual
theorem DD.fr {K : Kx} {T T' : Addr → Prop} {H H' : Hp} (f : Fr T H T' H') : ∀ (d : PyData) (v : V), DD K T H v d → DD K T' H' v d
  | .none, _, h => by cases h; exact .non
  | .bool _, _, h => by cases h; exact .bl _
  | .int _, _, h => by cases h; exact .int _
  | .str _, _, h => by cases h; exact .str _
  | .list ds, _, h => by
    cases h with
    | lst q r => exact .lst (q.fr f) (DDs.fr f ds _ r)
  | .tuple ds, _, h => by
    cases h with
    | tup q r => exact .tup (q.fr f) (DDs.fr f ds _ r)
  | .dict es, _, h => by
    cases h with
    | dic q r => exact .dic (Rd.fr f q.2 q.1) (DKs.fr f es _ r)
    | din q n r => exact .din (Rd.fr f q.2 q.1) n (DNs.fr f es _ r)
theorem DDs.fr {K : Kx} {T T' : Addr → Prop} {H H' : Hp} (f : Fr T H T' H') : ∀ (ds : List PyData) (vs : List V), DDs K T H vs ds → DDs K T' H' vs ds
  | [], _, h => by cases h; exact .nil
  | d :: ds, _, h => by
    cases h with
    | cons a b => exact .cons (DD.fr f d _ a) (DDs.fr f ds _ b)
theorem DKs.fr {K : Kx} {T T' : Addr → Prop} {H H' : Hp} (f : Fr T H T' H') : ∀ (es : List (PyData × PyData)) (kvs : List (Key × V)), DKs K T H kvs es → DKs K T' H' kvs es
  | [], _, h => by cases h; exact .nil
  | (d, e) :: es, _, h => by
    cases h with
    | cons g a b => exact .cons g (DD.fr f e _ a) (DKs.fr f es _ b)
theorem DNs.fr {K : Kx} {T T' : Addr → Prop} {H H' : Hp} (f : Fr T H T' H') : ∀ (es : List (PyData × PyData)) (kvs : List NE), DNs K T H kvs es → DNs K T' H' kvs es
  | [], _, h => by cases h; exact .nil
  | (.tuple ds, e) :: es, _, h => by
    cases h with
    | cons g g2 a b c => exact .cons g g2 (DD.fr f (.tuple ds) _ a) (DD.fr f e _ b) (DNs.fr f es _ c)
  | (.none, e) :: es, _, h => nomatch h
  | (.bool _, e) :: es, _, h => nomatch h
  | (.int _, e) :: es, _, h => nomatch h
  | (.str _, e) :: es, _, h => nomatch h
  | (.list _, e) :: es, _, h => nomatch h
  | (.dict _, e) :: es, _, h => nomatch h
end
theorem DKs.to {K : Kx} {T T' : Addr → Prop} {H H' : Hp} {kvs : List (Key × V)} {es : List (PyData × PyData)} (h : DKs K T H kvs es) (f : Fr T H T' H') : DKs K T' H' kvs es := DKs.fr f es kvs h
theorem DNs.to {K : Kx} {T T' : Addr → Prop} {H H' : Hp} {kvs : List NE} {es : List (PyData × PyData)} (h : DNs K T H kvs es) (f : Fr T H T' H') : DNs K T' H' kvs es := DNs.fr f es kvs h
theorem DD.to {K : Kx} {T T' : Addr → Prop} {H H' : Hp} {v : V} {d : PyData} (h : DD K T H v d) (f : Fr T H T' H') : DD K T' H' v d := DD.fr f d v h
theorem DDs.to {K : Kx} {T T' : Addr → Prop} {H H' : Hp} {vs : List V} {ds : List PyData} (h : DDs K T H vs ds) (f : Fr T H T' H') : DDs K T' H' vs ds := DDs.fr f ds vs h
theorem Fr.weak {T T' : Addr → Prop} {H : Hp} (s : ∀ b, T' b → T b) : Fr T H T' H := fun _ _ n h => ⟨h, fun z => n (s _ z)⟩
theorem QL.sq {K : Kx} {T : Addr → Prop} {H : Hp} {a : Addr} {xs : List V} (h : QL K T H a xs) : SqL K H a xs := .inl h.1
theorem QT.sq {K : Kx} {T : Addr → Prop} {H : Hp} {a : Addr} {xs : List V} (h : QT K T H a xs) : SqT K H a xs := by
  rcases h with ⟨h, _⟩ | h
  · exact .inl h
  · exact .inr h
theorem DDs.length {K : Kx} {T : Addr → Prop} {H : Hp} : ∀ {vs : List V} {ds : List PyData}, DDs K T H vs ds → vs.length = ds.length
  | [], [], _ => rfl
  | _ :: vs, _ :: ds, .cons _ t => congrArg (· + 1) (DDs.length t)
mutual
theorem DD.dp {K : Kx} {T : Addr → Prop} {H : Hp} : ∀ (d : PyData) (v : V), d.canLay0 = true → DD K T H v d → Dp K H v d
  | .none, _, _, h => by cases h; exact .non
  | .bool _, _, _, h => by cases h; exact .bl _
  | .int _, _, _, h => by cases h; exact .int _
  | .str _, _, _, h => by cases h; exact .str _
  | .list ds, _, c, h => by
    cases h with
    | lst q r => exact .lst q.sq (DDs.dp ds _ (by simpa [PyData.canLay0] using c) r)
  | .tuple ds, _, c, h => by
    cases h with
    | tup q r => exact .tup q.sq (DDs.dp ds _ (by simpa [PyData.canLay0] using c) r)
  | .dict _, _, c, h => by simp [PyData.canLay0] at c
theorem DDs.dp {K : Kx} {T : Addr → Prop} {H : Hp} : ∀ (ds : List PyData) (vs : List V), PyData.canLayAll0 ds = true → DDs K T H vs ds → DpAll K H vs ds
  | [], _, _, h => by cases h; exact .nil
  | d :: ds, _, c, h => by
    have c' : d.canLay0 = true ∧ PyData.canLayAll0 ds = true := by simpa [PyData.canLayAll0] using c
    cases h with
    | cons a b => exact .cons (DD.dp d _ c'.1 a) (DDs.dp ds _ c'.2 b)
end
theorem DDs.get {K : Kx} {T : Addr → Prop} {H : Hp} : ∀ {vs : List V} {ds : List PyData}, DDs K T H vs ds → ∀ {i : Nat} {d : PyData}, ds[i]? = some d → ∃ v, vs[i]? = some v ∧ DD K T H v d
  | [], _, h, i, d, e => by cases h; simp at e
  | _ :: _, _, h, 0, d, e => by
    cases h with
    | cons a b => exact ⟨_, rfl, (Option.some.inj e) ▸ a⟩
  | _ :: _, _, h, i + 1, d, e => by
    cases h with
    | cons a b => exact DDs.get b (i := i) (by simpa using e)
theorem DDs.getV {K : Kx} {T : Addr → Prop} {H : Hp} : ∀ {vs : List V} {ds : List PyData}, DDs K T H vs ds → ∀ {i : Nat} {v : V}, vs[i]? = some v → ∃ d, ds[i]? = some d ∧ DD K T H v d
  | [], _, h, i, d, e => by simp at e
  | _ :: _, _, h, 0, d, e => by
    cases h with
    | cons a b => exact ⟨_, rfl, (Option.some.inj e) ▸ a⟩
  | _ :: _, _, h, i + 1, d, e => by
    cases h with
    | cons a b => exact DDs.getV b (i := i) (by simpa using e)
theorem DDs.append {K : Kx} {T : Addr → Prop} {H : Hp} {ws : List V} {es : List PyData} (h : DDs K T H ws es) : ∀ {vs : List V} {ds : List PyData}, DDs K T H vs ds → DDs K T H (vs ++ ws) (ds ++ es)
  | [], _, h1 => by cases h1; exact h
  | _ :: _, _, h1 => by
    cases h1 with
    | cons a b => exact .cons a (DDs.append h b)
theorem DDs.drop {K : Kx} {T : Addr → Prop} {H : Hp} : ∀ {vs : List V} {ds : List PyData} (n : Nat), DDs K T H vs ds → DDs K T H (vs.drop n) (ds.drop n)
  | [], _, n, h => by cases h; rw [List.drop_nil, List.drop_nil]; exact .nil
  | _ :: _, _, 0, h => h
  | _ :: _, _, n + 1, h => by
    cases h with
    | cons a b => exact DDs.drop n b
theorem DDs.take {K : Kx} {T : Addr → Prop} {H : Hp} : ∀ {vs : List V} {ds : List PyData} (n : Nat), DDs K T H vs ds → DDs K T H (vs.take n) (ds.take n)
  | [], _, n, h => by cases h; rw [List.take_nil, List.take_nil]; exact .nil
  | _ :: _, _, 0, h => .nil
  | _ :: _, _, n + 1, h => by
    cases h with
    | cons a b => exact .cons a (DDs.take n b)

/-! ### what may be changed by a call -/
def DrawAt (o : Option (Addr × Addr)) (H : Hp) (st : SrcSt) : Prop := ∀ a c, o = some (a, c) → a ≠ c ∧ H a = some (.lst [.ref c, .int st.t]) ∧ H c = some (.lst (st.c.map V.int))
def deskF (c : Addr) (n : Int) : List (Str × V) := [("_stands", .ref c), ("_at", .int n)]
def BxIn (K : Kx) (T : Addr → Prop) (H : Hp) (a c : Addr) : Bx → Prop
  | .no => False
  | .pap l m => (∃ vs, H a = some (.lst vs) ∧ DDs K T H vs l) ∧ ∃ vs, H c = some (.lst vs) ∧ DDs K T H vs m
  | .dsk l n => (∃ C dx, PySem.W.nsIn K.k mainGlobals "Desk" = some (some (.ref C)) ∧ H a = some (.ins C dx (deskF c n))) ∧ ∃ vs, H c = some (.lst vs) ∧ DDs K T H vs l
structure BxAt (K : Kx) (T : Addr → Prop) (H : Hp) (sc : Sc) (b : Bx) : Prop where
  no : sc.b = none → b = .no
  at_ : ∀ a c, sc.b = some (a, c) → a ≠ c ∧ ¬ InP sc.s a ∧ ¬ InP sc.s c ∧ BxIn K T H a c b
structure SrcAt (K : Kx) (T : Addr → Prop) (sc : Sc) (H : Hp) (st : SrcSt) : Prop where
  d : DrawAt sc.s H st
  b : BxAt K T H sc st.b
theorem BxIn.to {K : Kx} {T T' : Addr → Prop} {H H' : Hp} {a c : Addr} {b : Bx} (h : BxIn K T H a c b) (f : Fr T H T' H') (ka : ∀ o, H a = some o → H' a = some o) (kc : ∀ o, H c = some o → H' c = some o) : BxIn K T' H' a c b := by
  cases b with
  | no => exact h
  | pap l m =>
    obtain ⟨⟨vs, h1, h2⟩, us, h3, h4⟩ := h
    exact ⟨⟨vs, ka _ h1, h2.to f⟩, us, kc _ h3, h4.to f⟩
  | dsk l n =>
    obtain ⟨⟨C, dx, h1, h2⟩, us, h3, h4⟩ := h
    exact ⟨⟨C, dx, h1, ka _ h2⟩, us, kc _ h3, h4.to f⟩
theorem SrcAt.to {K : Kx} {T T' : Addr → Prop} {sc : Sc} {H H' : Hp} {st : SrcSt} (h : SrcAt K T sc H st) (f : Fr T H T' H') (k : ∀ x o, InS sc x → H x = some o → H' x = some o) : SrcAt K T' sc H' st := by
  refine ⟨fun a c e => ?_, h.b.no, fun a c e => ?_⟩
  · obtain ⟨n, h1, h2⟩ := h.d a c e
    exact ⟨n, k a _ (.inl ⟨a, c, e, .inl rfl⟩) h1, k c _ (.inl ⟨a, c, e, .inr rfl⟩) h2⟩
  · obtain ⟨n, n1, n2, q⟩ := h.b.at_ a c e
    exact ⟨n, n1, n2, q.to f (fun o z => k a o (.inr ⟨a, c, e, .inl rfl⟩) z) fun o z => k c o (.inr ⟨a, c, e, .inr rfl⟩) z⟩
theorem SrcAt.weak {K : Kx} {T T' : Addr → Prop} {sc : Sc} {H : Hp} {st : SrcSt} (h : SrcAt K T sc H st) (s : ∀ b, T' b → T b) : SrcAt K T' sc H st := h.to (Fr.weak s) fun _ _ _ z => z
theorem BxIn.al {K : Kx} {T : Addr → Prop} {H : Hp} {a c : Addr} {b : Bx} (h : BxIn K T H a c b) : H a ≠ none ∧ H c ≠ none := by
  cases b with
  | no => exact h.elim
  | pap l m =>
    obtain ⟨⟨vs, h1, _⟩, us, h3, _⟩ := h
    exact ⟨by rw [h1]; exact nofun, by rw [h3]; exact nofun⟩
  | dsk l n =>
    obtain ⟨⟨C, dx, _, h1⟩, us, h3, _⟩ := h
    exact ⟨by rw [h1]; exact nofun, by rw [h3]; exact nofun⟩
theorem SrcAt.al {K : Kx} {T : Addr → Prop} {sc : Sc} {H : Hp} {st : SrcSt} (h : SrcAt K T sc H st) {x : Addr} (hx : InS sc x) : H x ≠ none := by
  rcases hx with ⟨a, c, e, hx⟩ | ⟨a, c, e, hx⟩
  · obtain ⟨_, h1, h2⟩ := h.d a c e
    rcases hx with rfl | rfl
    · rw [h1]; exact nofun
    · rw [h2]; exact nofun
  · obtain ⟨_, _, _, q⟩ := h.b.at_ a c e
    rcases hx with rfl | rfl
    · exact q.al.1
    · exact q.al.2

/-! ### what an object of one's own holds -/
def OwnC (K : Kx) (T : Addr → Prop) (H : Hp) (a : Addr) (o : HO) : PyData → Prop
  | .list l => ∃ vs, o = .lst vs ∧ DDs K T H vs l
  | .dict es => (∃ kvs, o = .dK kvs ∧ DKs K T H kvs es) ∨ ∃ kvs, o = HN K a kvs ∧ es ≠ [] ∧ DNs K T H kvs es
  | _ => False
theorem OwnC.fr {K : Kx} {T T' : Addr → Prop} {H H' : Hp} {a : Addr} {o : HO} {d : PyData} (f : Fr T H T' H') (h : OwnC K T H a o d) : OwnC K T' H' a o d := by
  cases d with
  | list l => obtain ⟨vs, e, h⟩ := h; exact ⟨vs, e, h.to f⟩
  | dict es =>
    rcases h with ⟨kvs, e, h⟩ | ⟨kvs, e, n, h⟩
    · exact .inl ⟨kvs, e, h.to f⟩
    · exact .inr ⟨kvs, e, n, h.to f⟩
  | none => exact h.elim
  | bool b => exact h.elim
  | int i => exact h.elim
  | str i => exact h.elim
  | tuple i => exact h.elim
theorem OwnC.dd {K : Kx} {T : Addr → Prop} {H : Hp} {a : Addr} {o : HO} {d : PyData} (h : OwnC K T H a o d) (ha : H a = some o) (n : ¬ T a) : DD K T H (.ref a) d := by
  cases d with
  | list l => obtain ⟨vs, rfl, h⟩ := h; exact .lst ⟨.inl ha, n⟩ h
  | dict es =>
    rcases h with ⟨kvs, rfl, h⟩ | ⟨kvs, rfl, ne, h⟩
    · exact .dic ⟨.inl ha, n⟩ h
    · exact .din ⟨.inl ha, n⟩ ne h
  | none => exact h.elim
  | bool b => exact h.elim
  | int i => exact h.elim
  | str i => exact h.elim
  | tuple i => exact h.elim

/-! ### exceptions -/
def XR (K : Kx) (mg : Str → Option Value) (T : Addr → Prop) (H : Hp) (c : Value) (dd : Option Addr) (x : Xn) : Prop :=
  ∃ C, c = .ref C ∧ mg x.cls = some (.ref C) ∧ (dd = none ∨ ∃ d0 fs, dd = some d0 ∧ H d0 = some (.xd fs) ∧ ¬ T d0) ∧ ∀ f e, x.fs.lookup f = some e → ∃ d0 fs v, dd = some d0 ∧ H d0 = some (.xd fs) ∧ ¬ T d0 ∧ fs.lookup f = some v ∧ DD K T H v e
theorem XR.fr {K : Kx} {mg : Str → Option Value} {T T' : Addr → Prop} {H H' : Hp} {c : Value} {dd : Option Addr} {x : Xn} (f : Fr T H T' H') (h : XR K mg T H c dd x) : XR K mg T' H' c dd x := by
  obtain ⟨C, e, g, z, q⟩ := h
  refine ⟨C, e, g, ?_, fun n y hy => ?_⟩
  · rcases z with z | ⟨d0, fs, z, h2, h3⟩
    · exact .inl z
    · exact .inr ⟨d0, fs, z, (f _ _ h3 h2).1, (f _ _ h3 h2).2⟩
  obtain ⟨d0, fs, v, h1, h2, h3, h4, h5⟩ := q n y hy
  exact ⟨d0, fs, v, h1, (f _ _ h3 h2).1, (f _ _ h3 h2).2, h4, h5.to f⟩
/-- a caught exception that is kept -/
def exk (a C : Addr) (d : Option Addr) : HO := .ext fun h => ∃ (oe : Obj) (vs : Array Value), h.get? a = some oe ∧ Zc (.ref C) d oe ∧ oe.data = .fields vs
def XV (K : Kx) (mg : Str → Option Value) (T : Addr → Prop) (H : Hp) (v : V) (x : Xn) : Prop :=
  ∃ a C dd, v = .ref a ∧ H a = some (exk a C dd) ∧ ¬ T a ∧ XR K mg T H (.ref C) dd x
theorem XV.fr {K : Kx} {mg : Str → Option Value} {T T' : Addr → Prop} {H H' : Hp} {v : V} {x : Xn} (f : Fr T H T' H') (h : XV K mg T H v x) : XV K mg T' H' v x := by
  obtain ⟨a, C, dd, e, h1, h2, h3⟩ := h
  exact ⟨a, C, dd, e, (f _ _ h2 h1).1, (f _ _ h2 h1).2, h3.fr f⟩

inductive XVs (K : Kx) (mg : Str → Option Value) (T : Addr → Prop) (H : Hp) : List V → List Xn → Prop
  | nil : XVs K mg T H [] []
  | cons {v : V} {vs : List V} {x : Xn} {xs : List Xn} : XV K mg T H v x → XVs K mg T H vs xs → XVs K mg T H (v :: vs) (x :: xs)
theorem XVs.fr {K : Kx} {mg : Str → Option Value} {T T' : Addr → Prop} {H H' : Hp} {vs : List V} {xs : List Xn} (f : Fr T H T' H') (h : XVs K mg T H vs xs) : XVs K mg T' H' vs xs := by
  induction h with
  | nil => exact .nil
  | cons a _ ih => exact .cons (a.fr f) ih
def OV (K : Kx) (mg : Str → Option Value) (sc : Sc) (T : Addr → Prop) (H : Hp) (v : V) : Ob → Prop
  | .xs l => ∃ a vs, v = .ref a ∧ QL K T H a vs ∧ XVs K mg T H vs l
  | .bx => ∃ a c, sc.b = some (a, c) ∧ v = .ref a
  | .bp => ∃ a c p, sc.b = some (a, c) ∧ v = .ref p ∧ QL K T H p [.ref a, .ref c]
theorem OV.fr {K : Kx} {mg : Str → Option Value} {sc : Sc} {T T' : Addr → Prop} {H H' : Hp} {v : V} {o : Ob} (f : Fr T H T' H') (h : OV K mg sc T H v o) : OV K mg sc T' H' v o := by
  cases o with
  | xs l =>
    obtain ⟨a, vs, e, q, r⟩ := h
    exact ⟨a, vs, e, q.fr f, r.fr f⟩
  | bx => exact h
  | bp =>
    obtain ⟨a, c, p, e, q, r⟩ := h
    exact ⟨a, c, p, e, q, r.fr f⟩
/-! ### values of expressions -/
def SV (K : Kx) (mg : Str → Option Value) (sc : Sc) (T : Addr → Prop) (H : Hp) (v : V) : Sl → Prop
  | .dat d => DD K T H v d
  | .own _ => False
  | .src => ∃ a c, sc.s = some (a, c) ∧ v = .ref a
  | .exc x => XV K mg T H v x
  | .obj o => OV K mg sc T H v o
theorem SV.fr {K : Kx} {mg : Str → Option Value} {sc : Sc} {T T' : Addr → Prop} {H H' : Hp} {v : V} {s : Sl} (f : Fr T H T' H') (h : SV K mg sc T H v s) : SV K mg sc T' H' v s := by
  cases s with
  | dat d => exact DD.fr f d v h
  | own l => exact h
  | src => exact h
  | exc x => exact XV.fr f h
  | obj x => exact OV.fr f h
inductive SVs (K : Kx) (mg : Str → Option Value) (sc : Sc) (T : Addr → Prop) (H : Hp) : List V → List Sl → Prop
  | nil : SVs K mg sc T H [] []
  | cons {v : V} {vs : List V} {s : Sl} {ss : List Sl} : SV K mg sc T H v s → SVs K mg sc T H vs ss → SVs K mg sc T H (v :: vs) (s :: ss)
theorem SVs.length {K : Kx} {mg : Str → Option Value} {sc : Sc} {T : Addr → Prop} {H : Hp} {vs : List V} {ss : List Sl} (h : SVs K mg sc T H vs ss) : vs.length = ss.length := by
  induction h with
  | nil => rfl
  | cons _ _ ih => exact congrArg (· + 1) ih
theorem SVs.fr {K : Kx} {mg : Str → Option Value} {sc : Sc} {T T' : Addr → Prop} {H H' : Hp} {vs : List V} {ss : List Sl} (f : Fr T H T' H') (h : SVs K mg sc T H vs ss) : SVs K mg sc T' H' vs ss := by
  induction h with
  | nil => exact .nil
  | cons a _ ih => exact .cons (a.fr f) ih
/-- a value that is only looked at: data, or an own list -/
def DB (K : Kx) (sc : Sc) (T : Addr → Prop) (H : Hp) (v : V) (d : PyData) : Prop :=
  DD K T H v d ∨ ∃ p o, v = .ref p ∧ H p = some o ∧ ¬ InS sc p ∧ OwnC K T H p o d

/-! ### slots -/
def SlotOk (K : Kx) (mg : Str → Option Value) (w : Wd) (T : Addr → Prop) (H : Hp) (o : Option (Option V)) : Sl → Prop
  | .own d => ∃ p u, o = some (some (.ref p)) ∧ T p ∧ w.H0 p = none ∧ H p = some u ∧ OwnC K T H p u d
  | s => ∃ v, o = some (some v) ∧ SV K mg w.sc T H v s
structure Lv (K : Kx) (mg : Str → Option Value) (w : Wd) (T : Addr → Prop) (σ : L2.St) (H : Hp) (m : Me) : Prop where
  t0 : ∀ b, w.T0 b → T b
  al : ∀ b, T b → H b ≠ none
  ex : Ex w.sc w.H0 H
  src : SrcAt K T w.sc H m.st
  len : σ.length = m.env.length
  slot : ∀ (i : Nat) (s : Sl), m.env[i]? = some (some s) → SlotOk K mg w T H σ[i]? s
  sep : ∀ (i j : Nat) (l l' : PyData) (p : Addr), m.env[i]? = some (some (Sl.own l)) → m.env[j]? = some (some (Sl.own l')) → σ[i]? = some (some (V.ref p)) → σ[j]? = some (some (V.ref p)) → i = j
structure Stp (w : Wd) (σ : L2.St) (T : Addr → Prop) (H : Hp) (m : Me) (T' : Addr → Prop) (H' : Hp) (m' : Me) : Prop where
  ex : Ex w.sc H H'
  sub : ∀ b, T' b → T b
  fz : ∀ b, T b → ¬ T' b → ∃ (i : Nat) (l : PyData), m.env[i]? = some (some (Sl.own l)) ∧ σ[i]? = some (some (V.ref b))
  mono : ∀ (i : Nat) (l : PyData), m'.env[i]? = some (some (Sl.own l)) → m.env[i]? = some (some (Sl.own l))
theorem Stp.refl (w : Wd) (σ : L2.St) (T : Addr → Prop) (H : Hp) (m : Me) : Stp w σ T H m T H m := ⟨Ex.refl _ _, fun _ h => h, fun _ a b => absurd a b, fun _ _ h => h⟩
theorem Stp.trans {w : Wd} {σ : L2.St} {T1 T2 T3 : Addr → Prop} {H1 H2 H3 : Hp} {m1 m2 m3 : Me} (a : Stp w σ T1 H1 m1 T2 H2 m2) (b : Stp w σ T2 H2 m2 T3 H3 m3) : Stp w σ T1 H1 m1 T3 H3 m3 := by
  refine ⟨a.ex.trans b.ex, fun x h => a.sub x (b.sub x h), fun x h n => ?_, fun i l h => a.mono i l (b.mono i l h)⟩
  by_cases h2 : T2 x
  · obtain ⟨i, l, e1, e2⟩ := b.fz x h2 n
    exact ⟨i, l, a.mono i l e1, e2⟩
  · exact a.fz x h h2
theorem Wd.Ok.sNot {w : Wd} (ok : w.Ok) {T : Addr → Prop} (t0 : ∀ b, w.T0 b → T b) {b : Addr} (n : ¬ T b) : ¬ InS w.sc b := fun z => n (t0 b (ok.s0 b z))
theorem Stp.fr {w : Wd} {σ : L2.St} {T T' : Addr → Prop} {H H' : Hp} {m m' : Me} (a : Stp w σ T H m T' H' m') (ok : w.Ok) (t0 : ∀ b, w.T0 b → T b) : Fr T H T' H' := fun b o n h =>
  ⟨a.ex b o (ok.sNot t0 n) h, fun z => n (a.sub b z)⟩
end PL
namespace PL
open PySem PySem.Spec PyProof.Rows L2

theorem PE.imp {X : Cx} {e : Expr} {t t' : TE} (h : PE X e t) (f : ∀ σ H Q, t' σ H Q → t σ H Q) : PE X e t' := ⟨fun pins s σ H Q I q => h.run pins s σ H Q I (f σ H Q q)⟩
theorem PT.imp {X : Cx} {e : Expr} {t t' : TT} (h : PT X e t) (f : ∀ σ H Q, t' σ H Q → t σ H Q) : PT X e t' := ⟨fun pins s σ H Q I q => h.run pins s σ H Q I (f σ H Q q)⟩
theorem PA.imp {X : Cx} {e : List Expr} {t t' : TA} (h : PA X e t) (f : ∀ σ H Q, t' σ H Q → t σ H Q) : PA X e t' := ⟨fun pos pins s σ H Q I q => h.run pos pins s σ H Q I (f σ H Q q)⟩
theorem PS.imp {X : Cx} {e : Stmt} {t t' : TS} (h : PS X e t) (f : ∀ D σ H, t' D σ H → t D σ H) : PS X e t' := ⟨fun pins s σ H D I q => h.run pins s σ H D I (f D σ H q)⟩
theorem PSs.imp {X : Cx} {e : List Stmt} {t t' : TS} (h : PSs X e t) (f : ∀ D σ H, t' D σ H → t D σ H) : PSs X e t' := ⟨fun pins s σ H D I q => h.run pins s σ H D I (f D σ H q)⟩

/-- what is wanted behind a result -/
def Rn {α β : Type} (K : Kx) (mg : Str → Option Value) (W : WX) (P : Wd → (Addr → Prop) → Hp → β → α → Prop) (σ : L2.St) (w : Wd) (T : Addr → Prop) (H : Hp) (me : Me) (Q : β → Hp → Prop) (r : Res α) : Prop := match r with
    | .ok a me' => ∀ (v : β) (H' : Hp) (T' : Addr → Prop), Stp w σ T H me T' H' me' → Lv K mg w T' σ H' me' → P w T' H' v a → Q v H'
    | .exc x me' => ∀ (c : Value) (dd : Option Addr) (H' : Hp) (T' : Addr → Prop), Fr T H T' H' → Lv K mg w T' σ H' me' → XR K mg T' H' c dd x → W c dd σ H'
    | .bad => False
/-- the general pure reading of an expression -/
def tR {α β : Type} (K : Kx) (mg : Str → Option Value) (W : WX) (P : Wd → (Addr → Prop) → Hp → β → α → Prop) (m : M α) (σ : L2.St) (H : Hp) (Q : β → Hp → Prop) : Prop :=
  ∃ (w : Wd) (T : Addr → Prop) (me : Me), w.Ok ∧ Lv K mg w T σ H me ∧ Rn K mg W P σ w T H me Q (m me)
/-- a value | what is only looked at | arguments -/
abbrev tP (K : Kx) (mg : Str → Option Value) (W : WX) (m : M Sl) : TE := tR K mg W (fun w T H v s => SV K mg w.sc T H v s) m
abbrev tB (K : Kx) (mg : Str → Option Value) (W : WX) (m : M PyData) : TE := tR K mg W (fun w T H v d => DB K w.sc T H v d) m
abbrev tPs (K : Kx) (mg : Str → Option Value) (W : WX) (m : M (List Sl)) : TA := tR K mg W (fun w T H v s => SVs K mg w.sc T H v s) m
/-- a test -/
abbrev tPt (K : Kx) (mg : Str → Option Value) (W : WX) (m : M Bool) : TT := tR K mg W (fun _ _ _ v b => v = b) m
/-- a new list that nothing else reaches -/
abbrev tF (K : Kx) (mg : Str → Option Value) (W : WX) (m : M PyData) : TE := tR K mg W (fun w T H v l => ∃ p u, v = .ref p ∧ H p = some u ∧ T p ∧ w.H0 p = none ∧ OwnC K T H p u l) m

/-! ### words of the pure program -/
def mC {α : Type} (a : α) : M α := fun m => .ok a m
def mBind {α β : Type} (a : M α) (k : α → M β) : M β := fun m => (a m).bind fun x m' => k x m'
def mVar (i : Nat) : M Sl := fun m => match m.env[i]? with
  | some (some (.own l)) => .ok (.dat l) { m with env := m.env.set i (some (.dat l)) }
  | some (some s) => .ok s m
  | _ => .bad
def mBor (i : Nat) : M PyData := fun m => match m.env[i]? with
  | some (some (.own l)) => .ok l m
  | some (some (.dat d)) => .ok d m
  | _ => .bad
def mDat (a : M Sl) : M PyData := fun m => (a m).bind fun s m' => match s with
  | .dat d => .ok d m'
  | _ => .bad
def mSl (a : M PyData) : M Sl := fun m => (a m).bind fun d m' => .ok (.dat d) m'
def mOp1 (f : PyData → Option PyData) (a : M PyData) : M Sl := fun m => (a m).bind fun x m1 => match f x with
  | some z => .ok (.dat z) m1
  | none => .bad
def mOp (f : PyData → PyData → Option PyData) (a b : M PyData) : M Sl := fun m => (a m).bind fun x m1 => (b m1).bind fun y m2 => match f x y with
  | some z => .ok (.dat z) m2
  | none => .bad
def mArgs : List (M Sl) → M (List Sl)
  | [] => fun m => .ok [] m
  | a :: r => fun m => (a m).bind fun x m1 => (mArgs r m1).bind fun xs m2 => .ok (x :: xs) m2
def mTest (a : M Sl) : M Bool := fun m => (a m).bind fun s m' => match s with
  | .dat (.bool b) => .ok b m'
  | _ => .bad
def mTru (a : M PyData) : M Bool := fun m => (a m).bind fun s m' => match s with
  | .none => .ok false m'
  | .bool b => .ok b m'
  | .int i => .ok (i != 0) m'
  | .str x => if x.length ≤ sizeLine then .ok (x.length != 0) m' else .bad
  | .list l => .ok (!l.isEmpty) m'
  | .tuple l => .ok (!l.isEmpty) m'
  | _ => .bad
def mNot (a : M Bool) : M Bool := fun m => (a m).bind fun b m' => .ok (!b) m'
def mAnd (a b : M Bool) : M Bool := fun m => (a m).bind fun x m' => if x = true then b m' else .ok false m'
def mOr (a b : M Bool) : M Bool := fun m => (a m).bind fun x m' => if x = true then .ok true m' else b m'
def mBl (a : M Bool) : M Sl := fun m => (a m).bind fun b m' => .ok (.dat (.bool b)) m'
def mIf {α : Type} (c : M Bool) (a b : M α) : M α := fun m => (c m).bind fun x m' => if x = true then a m' else b m'

section
variable {X : Cx} {W : WX} {pos : Pos} {a b c : Expr} {es : List Expr}
abbrev PP (X : Cx) (W : WX) (e : Expr) (m : M Sl) : Prop := PE X e (tP X.KK X.mg W m)
abbrev PB (X : Cx) (W : WX) (e : Expr) (m : M PyData) : Prop := PE X e (tB X.KK X.mg W m)
abbrev PF (X : Cx) (W : WX) (e : Expr) (m : M PyData) : Prop := PE X e (tF X.KK X.mg W m)
abbrev PPs (X : Cx) (W : WX) (es : List Expr) (m : M (List Sl)) : Prop := PA X es (tPs X.KK X.mg W m)
abbrev PPt (X : Cx) (W : WX) (e : Expr) (m : M Bool) : Prop := PT X e (tPt X.KK X.mg W m)
abbrev PWt (X : Cx) (W : WX) (e : Expr) (m : M Bool) : Prop := PW X e (tPt X.KK X.mg W m)

/-- the bind of readings: first m, then what is wanted of its value -/
theorem Rn.seq {α β γ δ : Type} {K : Kx} {mg : Str → Option Value} {P : Wd → (Addr → Prop) → Hp → β → α → Prop} {R : Wd → (Addr → Prop) → Hp → δ → γ → Prop} {m : M α} {k : α → Me → Res γ} {σ : L2.St} {H : Hp} {Q : δ → Hp → Prop} {Q' : β → Hp → Prop}
    {w : Wd} {T : Addr → Prop} {me : Me} (ok : w.Ok) (lv : Lv K mg w T σ H me) (h : Rn K mg W R σ w T H me Q ((m me).bind k))
    (f : ∀ (T1 : Addr → Prop) (me1 : Me) (v : β) (x : α) (H1 : Hp), Stp w σ T H me T1 H1 me1 → Lv K mg w T1 σ H1 me1 → P w T1 H1 v x → Rn K mg W R σ w T1 H1 me1 Q (k x me1) → Q' v H1) : tR K mg W P m σ H Q' := by
  refine ⟨w, T, me, ok, lv, ?_⟩
  cases hm : m me with
  | bad => rw [hm] at h; exact h
  | exc x me1 => rw [hm] at h; exact h
  | ok x me1 =>
    rw [hm] at h
    simp only [Res.bind_ok] at h
    intro v H1 T1 s1 lv1 p1
    refine f T1 me1 v x H1 s1 lv1 p1 ?_
    cases hk : k x me1 with
    | bad => rw [hk] at h; exact h
    | exc y me2 =>
      rw [hk] at h
      exact fun c dd H' T' fr lv' xr => h c dd H' T' ((s1.fr ok lv.t0).trans fr) lv' xr
    | ok y me2 =>
      rw [hk] at h
      exact fun v' H' T' s2 lv' r => h v' H' T' (s1.trans s2) lv' r
theorem pp_imp {e : Expr} {m m' : M Sl} (h : PP X W e m) (f : ∀ me, m' me = m me) : PP X W e m' := by
  have : m' = m := funext f
  rw [this]; exact h
/-! names, constants -/
theorem pp_c {e : Expr} {v : V} {s : Sl} (h : PE X e (tC v)) (hs : ∀ sc T H, SV X.KK X.mg sc T H v s) : PP X W e (mC s) := by
  refine PE.imp h fun σ H Q q => ?_
  obtain ⟨w, T, me, ok, lv, q⟩ := q
  exact q v H T (Stp.refl _ _ _ _ _) lv (hs _ _ _)
theorem pp_int {i : Int} {j : Nat} : PP X W (.Constant (.int i) j pos) (mC (.dat (.int i))) := pp_c pe_int fun _ _ _ => .int i
theorem pp_bl {v : Bool} {j : Nat} : PP X W (.Constant (.bool v) j pos) (mC (.dat (.bool v))) := pp_c pe_bl fun _ _ _ => .bl v
theorem pp_non {j : Nat} : PP X W (.Constant .none j pos) (mC (.dat .none)) := pp_c pe_non fun _ _ _ => .non
theorem pp_str {x : Str} {j : Nat} : PP X W (.Constant (.str x) j pos) (mC (.dat (.str x))) := pp_c pe_str fun _ _ _ => .str x
theorem pp_glob {x : Str} {v : V} {d : PyData} {u : Value} (hg : Gl X x) (hm : X.mg x = some u) (r : RelV v u) (hs : ∀ T H, DD X.KK T H v d) (hd : (x == ("__debug__" : Str)) = false := by decide) : PP X W (.Name x pos) (mC (.dat d)) := pp_c (pe_glob hg hm r hd) fun _ T H => hs T H
theorem Lv.get {K : Kx} {mg : Str → Option Value} {w : Wd} {T : Addr → Prop} {σ : L2.St} {H : Hp} {me : Me} (lv : Lv K mg w T σ H me) {i : Nat} {s : Sl} (h : me.env[i]? = some (some s)) (ho : ∀ l, s ≠ .own l) : ∃ v, σ[i]? = some (some v) ∧ SV K mg w.sc T H v s := by
  have q := lv.slot i s h
  cases s with
  | own l => exact absurd rfl (ho l)
  | dat d => exact q
  | src => exact q
  | exc x => exact q
  | obj x => exact q
theorem SlotOk.fr {K : Kx} {mg : Str → Option Value} {w : Wd} {T T' : Addr → Prop} {H H' : Hp} {o : Option (Option V)} {s : Sl} (h : SlotOk K mg w T H o s) (f : Fr T H T' H') (hk : ∀ p vs l, s = .own l → o = some (some (.ref p)) → H p = some vs → T p → T' p ∧ H' p = some vs) : SlotOk K mg w T' H' o s := by
  cases s with
  | own l =>
    obtain ⟨p, vs, e, tp, h0, hp, hd⟩ := h
    obtain ⟨a, b⟩ := hk p vs l rfl e hp tp
    exact ⟨p, vs, e, a, h0, b, hd.fr f⟩
  | dat d =>
    obtain ⟨v, e, q⟩ := h
    exact ⟨v, e, SV.fr f q⟩
  | src =>
    obtain ⟨v, e, q⟩ := h
    exact ⟨v, e, q⟩
  | exc x =>
    obtain ⟨v, e, q⟩ := h
    exact ⟨v, e, SV.fr f q⟩
  | obj x =>
    obtain ⟨v, e, q⟩ := h
    exact ⟨v, e, SV.fr f q⟩
/-- an own list is given up: from then on it is data -/
theorem Lv.freeze {K : Kx} {mg : Str → Option Value} {w : Wd} {T : Addr → Prop} {σ : L2.St} {H : Hp} {me : Me} (ok : w.Ok) (lv : Lv K mg w T σ H me) {i : Nat} {l : PyData} (h : me.env[i]? = some (some (.own l))) :
    ∃ (p : Addr) (T' : Addr → Prop), σ[i]? = some (some (.ref p)) ∧ Stp w σ T H me T' H { me with env := me.env.set i (some (.dat l)) } ∧ Lv K mg w T' σ H { me with env := me.env.set i (some (.dat l)) } ∧ DD K T' H (.ref p) l := by
  obtain ⟨p, vs, e, tp, h0, hp, hd⟩ := lv.slot i _ h
  have hi : i < me.env.length := by
    rcases Nat.lt_or_ge i me.env.length with z | z
    · exact z
    · rw [List.getElem?_eq_none z] at h; cases h
  have fr : Fr T H (fun b => T b ∧ b ≠ p) H := Fr.weak fun _ z => z.1
  have dd : DD K (fun b => T b ∧ b ≠ p) H (.ref p) l := (hd.fr fr).dd hp fun z => z.2 rfl
  refine ⟨p, fun b => T b ∧ b ≠ p, e, ⟨Ex.refl _ _, fun _ z => z.1, fun b hb nb => ?_, fun j l' hj => ?_⟩, ⟨fun b hb => ⟨lv.t0 b hb, fun z => ?_⟩, fun b hb => lv.al b hb.1, lv.ex, lv.src.weak fun _ z => z.1, ?_, fun j s hj => ?_, fun j k l1 l2 q h1 h2 e1 e2 => ?_⟩, dd⟩
  · have z : b = p := Classical.byContradiction fun n => nb ⟨hb, n⟩
    exact ⟨i, l, h, by rw [z]; exact e⟩
  · by_cases hji : j = i
    · subst hji
      rw [List.getElem?_set_self hi] at hj
      cases hj
    · rw [List.getElem?_set_ne (Ne.symm hji)] at hj
      exact hj
  · subst z
    exact ok.al b hb h0
  · rw [List.length_set]; exact lv.len
  · by_cases hji : j = i
    · subst hji
      rw [List.getElem?_set_self hi] at hj
      cases hj
      exact ⟨.ref p, e, dd⟩
    · rw [List.getElem?_set_ne (Ne.symm hji)] at hj
      refine (lv.slot j s hj).fr fr fun p' vs' l' es ep hp' tp' => ⟨⟨tp', fun z => ?_⟩, hp'⟩
      subst z; subst es
      exact hji (lv.sep j i l' l p' hj h ep e)
  · have h1' : me.env[j]? = some (some (Sl.own l1)) := by
      by_cases hji : j = i
      · subst hji; rw [List.getElem?_set_self hi] at h1; cases h1
      · rw [List.getElem?_set_ne (Ne.symm hji)] at h1; exact h1
    have h2' : me.env[k]? = some (some (Sl.own l2)) := by
      by_cases hji : k = i
      · subst hji; rw [List.getElem?_set_self hi] at h2; cases h2
      · rw [List.getElem?_set_ne (Ne.symm hji)] at h2; exact h2
    exact lv.sep j k l1 l2 q h1' h2' e1 e2
theorem pp_var (i : Nat) {x : Str} (hN : X.N[i]? = some x := by rfl) (hv : Vis X.env.scope x := by first | exact Or.inl rfl | exact Or.inr (Or.inl rfl) | exact Or.inr (Or.inr rfl)) (hd : (x == ("__debug__" : Str)) = false := by decide)
    (hcd : (x == ("__classdict__" : Str)) = false := by decide) : PP X W (.Name x pos) (mVar i) := by
  refine PE.imp (pe_var hN hv hd hcd) fun σ H Q q => ?_
  obtain ⟨w, T, me, ok, lv, q⟩ := q
  unfold mVar at q
  cases he : me.env[i]? with
  | none => rw [he] at q; exact q.elim
  | some o =>
    cases o with
    | none => rw [he] at q; exact q.elim
    | some s =>
      rw [he] at q
      cases s with
      | own l =>
        obtain ⟨p, T', e, s1, lv1, dd⟩ := lv.freeze ok he
        exact ⟨.ref p, e, q (.ref p) H T' s1 lv1 dd⟩
      | dat d =>
        obtain ⟨v, e, r⟩ := lv.get he (fun _ => nofun)
        exact ⟨v, e, q v H T (Stp.refl _ _ _ _ _) lv r⟩
      | src =>
        obtain ⟨v, e, r⟩ := lv.get he (fun _ => nofun)
        exact ⟨v, e, q v H T (Stp.refl _ _ _ _ _) lv r⟩
      | exc x =>
        obtain ⟨v, e, r⟩ := lv.get he (fun _ => nofun)
        exact ⟨v, e, q v H T (Stp.refl _ _ _ _ _) lv r⟩
      | obj x =>
        obtain ⟨v, e, r⟩ := lv.get he (fun _ => nofun)
        exact ⟨v, e, q v H T (Stp.refl _ _ _ _ _) lv r⟩
theorem pb_var (i : Nat) {x : Str} (hN : X.N[i]? = some x := by rfl) (hv : Vis X.env.scope x := by first | exact Or.inl rfl | exact Or.inr (Or.inl rfl) | exact Or.inr (Or.inr rfl)) (hd : (x == ("__debug__" : Str)) = false := by decide)
    (hcd : (x == ("__classdict__" : Str)) = false := by decide) : PB X W (.Name x pos) (mBor i) := by
  refine PE.imp (pe_var hN hv hd hcd) fun σ H Q q => ?_
  obtain ⟨w, T, me, ok, lv, q⟩ := q
  unfold mBor at q
  cases he : me.env[i]? with
  | none => rw [he] at q; exact q.elim
  | some o =>
    cases o with
    | none => rw [he] at q; exact q.elim
    | some s =>
      rw [he] at q
      cases s with
      | own l =>
        obtain ⟨p, vs, e, tp, h0, hp, hd⟩ := lv.slot i _ he
        refine ⟨.ref p, e, q (.ref p) H T (Stp.refl _ _ _ _ _) lv (.inr ⟨p, vs, rfl, hp, fun z => ?_, hd⟩)⟩
        exact ok.al p (ok.s0 p z) h0
      | dat d =>
        obtain ⟨v, e, r⟩ := lv.get he (fun _ => nofun)
        exact ⟨v, e, q v H T (Stp.refl _ _ _ _ _) lv (.inl r)⟩
      | src => exact q.elim
      | exc x => exact q.elim
      | obj x => exact q.elim
theorem pb_of {e : Expr} {m : M Sl} (h : PP X W e m) : PB X W e (mDat m) := by
  refine PE.imp h fun σ H Q q => ?_
  obtain ⟨w, T, me, ok, lv, q⟩ := q
  refine ⟨w, T, me, ok, lv, ?_⟩
  unfold mDat at q
  cases hm : m me with
  | bad => rw [hm] at q; exact q
  | exc x me1 => rw [hm] at q; exact q
  | ok s me1 =>
    rw [hm] at q
    intro v H' T' s1 lv1 sv
    cases s with
    | dat d => exact q v H' T' s1 lv1 (.inl sv)
    | own l => exact q.elim
    | src => exact q.elim
    | exc x => exact q.elim
    | obj x => exact q.elim
theorem DB.fr {K : Kx} {sc : Sc} {T T' : Addr → Prop} {H H' : Hp} {v : V} {d : PyData} (f : Fr T H T' H') (e : Ex sc H H') (h : DB K sc T H v d) : DB K sc T' H' v d := by
  rcases h with h | ⟨p, u, ev, hp, ns, hd⟩
  · exact .inl (h.to f)
  · exact .inr ⟨p, u, ev, e _ _ ns hp, ns, hd.fr f⟩
/-- as data that HandS knows -/
theorem DB.dp {K : Kx} {sc : Sc} {T : Addr → Prop} {H : Hp} {v : V} {d : PyData} (c : d.canLay0 = true) (h : DB K sc T H v d) : Dp K H v d := by
  rcases h with h | ⟨p, u, rfl, hp, ns, hd⟩
  · exact DD.dp d v c h
  · cases d with
    | list l =>
      obtain ⟨vs, rfl, hd⟩ := hd
      exact .lst (.inl (.inl hp)) (DDs.dp l vs (by simpa [PyData.canLay0] using c) hd)
    | dict es => simp [PyData.canLay0] at c
    | none => exact hd.elim
    | bool b => exact hd.elim
    | int i => exact hd.elim
    | str i => exact hd.elim
    | tuple i => exact hd.elim

/-! operators: what a rule's reading asks of data; it may make new objects -/
def Same0 (H H' : Hp) : Prop := ∀ b o, H b = some o → H' b = some o
def OpOk (K : Kx) (r : R2) (f : PyData → PyData → Option PyData) : Prop :=
  ∀ (sc : Sc) (T : Addr → Prop) (H : Hp) (x y : V) (d e z : PyData) (Q : VK), (∀ b, T b → H b ≠ none) → DB K sc T H x d → DB K sc T H y e → f d e = some z → (∀ v H', Same0 H H' → DD K T H' v z → Q v H') → r x y H Q
theorem Lv.same {K : Kx} {mg : Str → Option Value} {w : Wd} {T : Addr → Prop} {σ : L2.St} {H H' : Hp} {me : Me} (lv : Lv K mg w T σ H me) (s : Same0 H H') : Lv K mg w T σ H' me := by
  have fr : Fr T H T H' := fun b o n h => ⟨s b o h, n⟩
  refine ⟨lv.t0, fun b hb n => ?_, lv.ex.trans fun b o _ h => s b o h, lv.src.to fr fun x o _ h => s x o h, lv.len, fun i sl hi => (lv.slot i sl hi).fr fr fun p vs l _ _ hp tp => ⟨tp, s _ _ hp⟩, lv.sep⟩
  cases q : H b with
  | none => exact lv.al b hb q
  | some o => rw [s b o q] at n; cases n
theorem Stp.same {w : Wd} {σ : L2.St} {T : Addr → Prop} {H H' : Hp} {m : Me} (s : Same0 H H') : Stp w σ T H m T H' m := ⟨fun b o _ h => s b o h, fun _ h => h, fun _ a b => absurd a b, fun _ _ h => h⟩
theorem tOp_ok {r : R2} {f : PyData → PyData → Option PyData} (hr : OpOk X.KK r f) {x y : M PyData} {σ : L2.St} {H : Hp} {Q : VK} (q : tP X.KK X.mg W (mOp f x y) σ H Q) : tOp r (tB X.KK X.mg W x) (tB X.KK X.mg W y) σ H Q := by
  obtain ⟨w, T, me, ok, lv, q⟩ := q
  refine Rn.seq ok lv q fun T1 me1 v d H1 s1 lv1 p1 q1 => ?_
  refine Rn.seq ok lv1 q1 fun T2 me2 u e H2 s2 lv2 p2 q2 => ?_
  cases hf : f d e with
  | none => rw [hf] at q2; exact q2.elim
  | some z =>
    rw [hf] at q2
    exact hr w.sc T2 H2 v u d e z Q lv2.al (p1.fr (s2.fr ok lv1.t0) s2.ex) p2 hf fun v' H' sm dd => q2 v' H' T2 (Stp.same sm) (lv2.same sm) dd
theorem pp_op {op : Operator} {r : R2} {f : PyData → PyData → Option PyData} {x y : M PyData} (ho : OpR X (binaryOp op) r) (hr : OpOk X.KK r f) (ha : PB X W a x) (hb : PB X W b y) : PP X W (.BinOp a op b pos) (mOp f x y) :=
  PE.imp (pe_op ho ha hb) fun _ _ _ => tOp_ok hr
theorem pp_cmp {op : CmpOp} {r : R2} {f : PyData → PyData → Option PyData} {x y : M PyData} (ho : OpR X (compareOp op) r) (hr : OpOk X.KK r f) (ha : PB X W a x) (hb : PB X W b y) (hm : behindInMarks op b = false) : PP X W (.Compare a [op] [b] pos) (mOp f x y) :=
  PE.imp (pe_cmpR ho ha hb hm) fun _ _ _ => tOp_ok hr
theorem pp_ix {r : R2} {f : PyData → PyData → Option PyData} {x y : M PyData} (ho : IxR X r) (hr : OpOk X.KK r f) (ha : PB X W a x) (hb : PB X W b y) (hs : PlainIx b) : PP X W (.Subscript a b pos) (mOp f x y) :=
  PE.imp (pe_ix ho ha hb hs) fun _ _ _ => tOp_ok hr
end
end PL
namespace PL
open PySem PySem.Spec PyProof.Rows L2
section
variable {X : Cx} {W : WX} {pos : Pos} {a b c e : Expr} {es : List Expr}

/-! ### arguments of built-ins -/
inductive DBs (K : Kx) (sc : Sc) (T : Addr → Prop) (H : Hp) : List V → List PyData → Prop
  | nil : DBs K sc T H [] []
  | cons {v : V} {vs : List V} {s : PyData} {ss : List PyData} : DB K sc T H v s → DBs K sc T H vs ss → DBs K sc T H (v :: vs) (s :: ss)
theorem DBs.fr {K : Kx} {sc : Sc} {T T' : Addr → Prop} {H H' : Hp} {vs : List V} {ss : List PyData} (f : Fr T H T' H') (e : Ex sc H H') (h : DBs K sc T H vs ss) : DBs K sc T' H' vs ss := by
  induction h with
  | nil => exact .nil
  | cons a _ ih => exact .cons (a.fr f e) ih
def mBs : List (M PyData) → M (List PyData)
  | [] => fun m => .ok [] m
  | a :: r => fun m => (a m).bind fun x m1 => (mBs r m1).bind fun xs m2 => .ok (x :: xs) m2
abbrev tBs (K : Kx) (mg : Str → Option Value) (W : WX) (m : M (List PyData)) : TA := tR K mg W (fun w T H v s => DBs K w.sc T H v s) m
abbrev PBs (X : Cx) (W : WX) (es : List Expr) (m : M (List PyData)) : Prop := PA X es (tBs X.KK X.mg W m)
theorem Rn.pure {α β : Type} {K : Kx} {mg : Str → Option Value} {P : Wd → (Addr → Prop) → Hp → β → α → Prop} {σ : L2.St} {w : Wd} {T : Addr → Prop} {H : Hp} {me : Me} {Q : β → Hp → Prop} {x : α} {v : β} (lv : Lv K mg w T σ H me) (h : Rn K mg W P σ w T H me Q (.ok x me)) (p : P w T H v x) : Q v H :=
  h v H T (Stp.refl _ _ _ _ _) lv p
theorem pbs_nil : PBs X W [] (mBs []) := PA.imp pa_nil fun σ H Q q => by
  obtain ⟨w, T, me, ok, lv, q⟩ := q
  exact Rn.pure lv q .nil
theorem pbs_cons {m : M PyData} {ms : List (M PyData)} (ha : PB X W e m) (hr : PBs X W es (mBs ms)) (hs : starEach (e :: es) X.env = (false, eval e X.env) :: starEach es X.env := by rfl) : PBs X W (e :: es) (mBs (m :: ms)) := by
  refine PA.imp (pa_cons ha hr hs) fun σ H Q q => ?_
  obtain ⟨w, T, me, ok, lv, q⟩ := q
  refine Rn.seq ok lv q fun T1 me1 v d H1 s1 lv1 p1 q1 => ?_
  refine Rn.seq ok lv1 q1 fun T2 me2 vs ds H2 s2 lv2 p2 q2 => ?_
  exact Rn.pure lv2 q2 (.cons (p1.fr (s2.fr ok lv1.t0) s2.ex) p2)
/-- a built-in that reads its arguments and makes at most new objects -/
def CalOk (K : Kx) (r : List V → Hp → VK → Prop) (f : List PyData → Option PyData) : Prop :=
  ∀ (sc : Sc) (T : Addr → Prop) (H : Hp) (xs : List V) (ds : List PyData) (z : PyData) (Q : VK), (∀ b, T b → H b ≠ none) → DBs K sc T H xs ds → f ds = some z → (∀ v H', Same0 H H' → DD K T H' v z → Q v H') → r xs H Q
def mCal (f : List PyData → Option PyData) (a : M (List PyData)) : M Sl := fun m => (a m).bind fun x m1 => match f x with
  | some z => .ok (.dat z) m1
  | none => .bad
theorem tCB_ok {r : List V → Hp → VK → Prop} {f : List PyData → Option PyData} (hr : CalOk X.KK r f) {x : M (List PyData)} {σ : L2.St} {H : Hp} {Q : VK} (q : tP X.KK X.mg W (mCal f x) σ H Q) : tCB r (tBs X.KK X.mg W x) σ H Q := by
  obtain ⟨w, T, me, ok, lv, q⟩ := q
  refine Rn.seq ok lv q fun T1 me1 v d H1 s1 lv1 p1 q1 => ?_
  cases hf : f d with
  | none => rw [hf] at q1; exact q1.elim
  | some z =>
    rw [hf] at q1
    exact hr w.sc T1 H1 v d z Q lv1.al p1 hf fun v' H' sm dd => q1 v' H' T1 (Stp.same sm) (lv1.same sm) dd
theorem pp_callB {r : List V → Hp → VK → Prop} {f : List PyData → Option PyData} {m : M (List PyData)} {id : String} {x : Str} {p : Pos} (hc : CallR X (.builtin id) r) (hr : CalOk X.KK r f) (hg : Gl X x) (hm : X.mg x = none) (hv : bootBuiltins x = some (.builtin id)) (ha : PBs X W (e :: es) m)
    (hn : x ≠ "__name__" := by decide) (hdb : (x == ("__debug__" : Str)) = false := by decide) (he : starEach (e :: es) X.env = (false, eval e X.env) :: starEach es X.env := by rfl) (hpl : (backTo pos (starEach es X.env)).any (·.1) = false := by rfl) :
    PP X W (.Call (.Name x p) (e :: es) [] pos) (mCal f m) := PE.imp (pe_callB hc hg hm hv ha hn hdb he hpl) fun _ _ _ => tCB_ok hr
theorem pp_callTy {r : List V → Hp → VK → Prop} {f : List PyData → Option PyData} {m : M (List PyData)} {id : String} {x : Str} {p : Pos} (hc : CallR X (.type id) r) (hr : CalOk X.KK r f) (hg : Gl X x) (hm : X.mg x = none) (hv : bootBuiltins x = some (.type id)) (ha : PBs X W (e :: es) m)
    (hn : x ≠ "__name__" := by decide) (hdb : (x == ("__debug__" : Str)) = false := by decide) (he : starEach (e :: es) X.env = (false, eval e X.env) :: starEach es X.env := by rfl) (hpl : (backTo pos (starEach es X.env)).any (·.1) = false := by rfl) :
    PP X W (.Call (.Name x p) (e :: es) [] pos) (mCal f m) := PE.imp (pe_callTy hc hg hm hv ha hn hdb he hpl) fun _ _ _ => tCB_ok hr

/-! ### the operators on data -/
theorem nT_new {T : Addr → Prop} {H : Hp} {p : Addr} (al : ∀ b, T b → H b ≠ none) (hp : H p = none) : ¬ T p := fun z => al p z hp
theorem Same0.new {H : Hp} {p : Addr} {o : HO} (h : H p = none) : Same0 H (upd H p o) := fun a u e => by
  rw [upd_ne (ne_of_none e h)]; exact e
theorem Same0.fr {T : Addr → Prop} {H H' : Hp} (s : Same0 H H') : Fr T H T H' := fun b o n h => ⟨s b o h, n⟩
theorem DD.newL {K : Kx} {T : Addr → Prop} {H : Hp} {p : Addr} {xs : List V} {ds : List PyData} (al : ∀ b, T b → H b ≠ none) (hp : H p = none) (h : DDs K T H xs ds) : DD K T (upd H p (.lst xs)) (.ref p) (.list ds) :=
  .lst ⟨.inl upd_same, nT_new al hp⟩ (h.to (Same0.new hp).fr)
theorem DD.newT {K : Kx} {T : Addr → Prop} {H : Hp} {p : Addr} {xs : List V} {ds : List PyData} (al : ∀ b, T b → H b ≠ none) (hp : H p = none) (h : DDs K T H xs ds) : DD K T (upd H p (.tup xs)) (.ref p) (.tuple ds) :=
  .tup (.inl ⟨.inl upd_same, nT_new al hp⟩) (h.to (Same0.new hp).fr)
/-- the items of a list that is looked at -/
theorem DB.list {K : Kx} {sc : Sc} {T : Addr → Prop} {H : Hp} {v : V} {l : List PyData} (h : DB K sc T H v (.list l)) : ∃ p vs, v = .ref p ∧ Rd H p (.lst vs) ∧ DDs K T H vs l := by
  rcases h with h | ⟨p, u, rfl, hp, _, hd⟩
  · cases h with
    | lst q r => exact ⟨_, _, rfl, q.1, r⟩
  · obtain ⟨vs, rfl, hd⟩ := hd
    exact ⟨p, vs, rfl, .inl hp, hd⟩
theorem DB.tuple {K : Kx} {sc : Sc} {T : Addr → Prop} {H : Hp} {v : V} {l : List PyData} (h : DB K sc T H v (.tuple l)) : ∃ p vs, v = .ref p ∧ QT K T H p vs ∧ DDs K T H vs l := by
  rcases h with h | ⟨p, u, rfl, hp, _, hd⟩
  · cases h with
    | tup q r => exact ⟨_, _, rfl, q, r⟩
  · exact hd.elim
theorem DB.int {K : Kx} {sc : Sc} {T : Addr → Prop} {H : Hp} {v : V} {i : Int} (h : DB K sc T H v (.int i)) : v = .int i := by
  rcases h with h | ⟨p, u, rfl, hp, _, hd⟩
  · cases h; rfl
  · exact hd.elim
theorem DB.str {K : Kx} {sc : Sc} {T : Addr → Prop} {H : Hp} {v : V} {i : Str} (h : DB K sc T H v (.str i)) : v = .str i := by
  rcases h with h | ⟨p, u, rfl, hp, _, hd⟩
  · cases h; rfl
  · exact hd.elim
theorem DB.bool {K : Kx} {sc : Sc} {T : Addr → Prop} {H : Hp} {v : V} {i : Bool} (h : DB K sc T H v (.bool i)) : v = .bl i := by
  rcases h with h | ⟨p, u, rfl, hp, _, hd⟩
  · cases h; rfl
  · exact hd.elim
theorem DB.none {K : Kx} {sc : Sc} {T : Addr → Prop} {H : Hp} {v : V} (h : DB K sc T H v .none) : v = .non := by
  rcases h with h | ⟨p, u, rfl, hp, _, hd⟩
  · cases h; rfl
  · exact hd.elim

/-- list + list, also of lists that are read only -/
def rCatR : R2 := fun x y H Q => ∃ l b xs zs, x = .ref l ∧ y = .ref b ∧ Rd H l (.lst xs) ∧ Rd H b (.lst zs) ∧ xs.length + zs.length ≤ sizeLine ∧ ∀ p, H p = none → Q (.ref p) (upd H p (.lst (xs ++ zs)))
theorem op_catR : OpR X (binaryOp .Add) rCatR := by
  intro pins s σ H x y v u Q I rx ry h
  obtain ⟨l, b, xs, zs, rfl, rfl, hH, hB, hz, q⟩ := h
  cases rx
  cases ry
  obtain ⟨z1, its, n, r, e⟩ := hH.ok I.hok
  obtain ⟨z2, its2, n2, r2, e2⟩ := hB.ok I.hok
  have hl := r.length
  have hl2 := r2.length
  refine PySem.P.add_list e e2 ?_ (by rw [List.size_toArray, List.size_toArray]; omega)
  have ea : its.toArray ++ its2.toArray = (its ++ its2).toArray := by simp
  rw [ea]
  exact ⟨.ref _, _, I.lnew (t' := s.toks) (r.append r2) (by rw [List.length_append]; omega), rfl, q _ I.fresh⟩
def pAdd : PyData → PyData → Option PyData
  | .int i, .int j => some (.int (i + j))
  | .str x, .str y => if x.length + y.length ≤ sizeLine then some (.str (x ++ y)) else none
  | .list x, .list y => if x.length + y.length ≤ sizeLine then some (.list (x ++ y)) else none
  | .tuple x, .tuple y => if x.length + y.length ≤ sizeLine then some (.tuple (x ++ y)) else none
  | _, _ => none
def rAddP (K : Kx) : R2 := fun x y H Q => (rI0 fun i j => .int (i + j)) x y H Q ∨ (∃ i j, x = .str i ∧ y = .str j ∧ i.length + j.length ≤ sizeLine ∧ Q (.str (i ++ j)) H) ∨ rCatR x y H Q ∨ rCatA K x y H Q
theorem op_addP : OpR X (binaryOp .Add) (rAddP X.KK) := op_add.or (op_add_str.or (op_catR.or op_catA))
theorem ok_add {K : Kx} : OpOk K (rAddP K) pAdd := by
  intro sc T H x y d e z Q al hx hy hf q
  unfold pAdd at hf
  split at hf
  · cases hf
    exact .inl ⟨_, _, hx.int, hy.int, q _ H (fun _ _ h => h) (.int _)⟩
  · split at hf
    · rename_i hz
      cases hf
      exact .inr (.inl ⟨_, _, hx.str, hy.str, hz, q _ H (fun _ _ h => h) (.str _)⟩)
    · cases hf
  · split at hf
    · rename_i hz
      cases hf
      obtain ⟨p1, v1, rfl, r1, d1⟩ := hx.list
      obtain ⟨p2, v2, rfl, r2, d2⟩ := hy.list
      refine .inr (.inr (.inl ⟨p1, p2, v1, v2, rfl, rfl, r1, r2, by rw [d1.length, d2.length]; exact hz, fun p hp => q _ _ (Same0.new hp) (DD.newL al hp (d2.append d1))⟩))
    · cases hf
  · split at hf
    · rename_i hz
      cases hf
      obtain ⟨p1, v1, rfl, r1, d1⟩ := hx.tuple
      obtain ⟨p2, v2, rfl, r2, d2⟩ := hy.tuple
      refine .inr (.inr (.inr ⟨p1, p2, v1, v2, rfl, rfl, r1.sq, r2.sq, by rw [d1.length, d2.length]; exact hz, fun e0 => ?_, fun _ e0 => ?_, fun _ _ p hp => q _ _ (Same0.new hp) (DD.newT al hp (d2.append d1))⟩))
      · subst e0
        refine q _ H (fun _ _ h => h) (.tup r2 ?_)
        cases d1; exact d2
      · subst e0
        refine q _ H (fun _ _ h => h) (.tup r1 ?_)
        cases d2; rw [List.append_nil]; exact d1
    · cases hf
  · cases hf
theorem pp_add {x y : M PyData} (ha : PB X W a x) (hb : PB X W b y) : PP X W (.BinOp a .Add b pos) (mOp pAdd x y) := pp_op op_addP ok_add ha hb

theorem ok_int {K : Kx} {C : Int → Int → Prop} {g : Int → Int → Int} {f : PyData → PyData → Option PyData} (hf : ∀ d e z, f d e = some z → ∃ i j, d = .int i ∧ e = .int j ∧ C i j ∧ z = .int (g i j)) : OpOk K (rI C fun i j => .int (g i j)) f := by
  intro sc T H x y d e z Q al hx hy h q
  obtain ⟨i, j, rfl, rfl, hc, rfl⟩ := hf d e z h
  exact ⟨i, j, hx.int, hy.int, hc, q _ H (fun _ _ h => h) (.int _)⟩
theorem ok_int0 {K : Kx} {g : Int → Int → Int} {f : PyData → PyData → Option PyData} (hf : ∀ d e z, f d e = some z → ∃ i j, d = .int i ∧ e = .int j ∧ z = .int (g i j)) : OpOk K (rI0 fun i j => .int (g i j)) f := by
  intro sc T H x y d e z Q al hx hy h q
  obtain ⟨i, j, rfl, rfl, rfl⟩ := hf d e z h
  exact ⟨i, j, hx.int, hy.int, q _ H (fun _ _ h => h) (.int _)⟩
theorem ok_bl0 {K : Kx} {g : Int → Int → Bool} {f : PyData → PyData → Option PyData} (hf : ∀ d e z, f d e = some z → ∃ i j, d = .int i ∧ e = .int j ∧ z = .bool (g i j)) : OpOk K (rI0 fun i j => .bl (g i j)) f := by
  intro sc T H x y d e z Q al hx hy h q
  obtain ⟨i, j, rfl, rfl, rfl⟩ := hf d e z h
  exact ⟨i, j, hx.int, hy.int, q _ H (fun _ _ h => h) (.bl _)⟩
def pSub : PyData → PyData → Option PyData
  | .int i, .int j => some (.int (i - j))
  | _, _ => none
theorem pp_sub {x y : M PyData} (ha : PB X W a x) (hb : PB X W b y) : PP X W (.BinOp a .Sub b pos) (mOp pSub x y) := pp_op op_sub (ok_int0 fun d e z h => by
  unfold pSub at h; split at h <;> cases h; exact ⟨_, _, rfl, rfl, rfl⟩) ha hb
/-- the rest, the divisor above 0 -/
def pMod : PyData → PyData → Option PyData
  | .int i, .int j => if 0 < j then some (.int (i % j)) else none
  | _, _ => none
theorem pp_mod {x y : M PyData} (ha : PB X W a x) (hb : PB X W b y) : PP X W (.BinOp a .Mod b pos) (mOp pMod x y) := pp_op op_mod (ok_int fun d e z h => by
  unfold pMod at h
  split at h
  · split at h
    · rename_i hj
      cases h
      exact ⟨_, _, rfl, rfl, hj, rfl⟩
    · cases h
  · cases h) ha hb
def pFdiv : PyData → PyData → Option PyData
  | .int i, .int j => if 0 < j ∧ j < 1073741824 then some (.int (i / j)) else none
  | _, _ => none
theorem pp_fdiv {x y : M PyData} (ha : PB X W a x) (hb : PB X W b y) : PP X W (.BinOp a .FloorDiv b pos) (mOp pFdiv x y) := pp_op op_fdiv (ok_int (C := CDiv) fun d e z h => by
  unfold pFdiv at h
  split at h
  · split at h
    · rename_i hj
      cases h
      exact ⟨_, _, rfl, rfl, hj, rfl⟩
    · cases h
  · cases h) ha hb
/-- powers -/
def CPowW (i j : Int) : Prop := 0 ≤ j ∧ (Builtin.Int.intBits i : Int) * j ≤ 2 ^ 27
instance (i j : Int) : Decidable (CPowW i j) := by unfold CPowW; infer_instance
theorem op_powW : OpR X (binaryOp .Pow) (rI CPowW fun i j => .int (i ^ j.toNat)) := opI fun _ _ _ _ _ _ _ hc q => pow_int hc.1 hc.2 q
def pPow : PyData → PyData → Option PyData
  | .int i, .int j => if CPowW i j then some (.int (i ^ j.toNat)) else none
  | _, _ => none
theorem pp_pow {x y : M PyData} (ha : PB X W a x) (hb : PB X W b y) : PP X W (.BinOp a .Pow b pos) (mOp pPow x y) := pp_op op_powW (ok_int fun d e z h => by
  unfold pPow at h
  split at h
  · split at h
    · rename_i hj
      cases h
      exact ⟨_, _, rfl, rfl, hj, rfl⟩
    · cases h
  · cases h) ha hb
/-- products of ints, texts as often as told -/
def CMulP (i j : Int) : Prop := Builtin.Int.intBits i + Builtin.Int.intBits j < 1000000
instance (i j : Int) : Decidable (CMulP i j) := by unfold CMulP; infer_instance
theorem CMulP.ok {i j : Int} (h : CMulP i j) : IntMulOk i j := by
  have h3 : Builtin.Int.intBits i + Builtin.Int.intBits j < 1000000 := h
  have e : bitsLine = 134217728 := by decide
  unfold IntMulOk
  intro z
  rw [Bool.and_eq_true] at z
  have z2 := z.2
  unfold Builtin.Int.intTooBig at z2
  have z3 := of_decide_eq_true z2
  rw [e] at z3
  omega
theorem op_mulP : OpR X (binaryOp .Mult) (rI CMulP fun i j => .int (i * j)) := opI fun _ _ _ _ _ _ _ hc q => mul_int q hc.ok
/-- a text so many times -/
theorem op_mulS : OpR X (binaryOp .Mult) (fun x y H Q => ∃ i n, x = .str i ∧ y = .int n ∧ MulOk i n ∧ Q (.str (Txt.mul i n)) H) := by
  intro pins s σ H x y v u Q I rx ry h
  obtain ⟨i, n, rfl, rfl, hm, q⟩ := h
  obtain ⟨t, rfl⟩ := rx
  obtain ⟨t', rfl⟩ := ry
  exact SB.mul hm fun t' k => ⟨.str _, H, I.tok k, ⟨t', rfl⟩, q⟩
/-- (..) * n, a tuple or a list, n from 0 -/
def pMul : PyData → PyData → Option PyData
  | .int i, .int j => if CMulP i j then some (.int (i * j)) else none
  | .str x, .int n => if 0 ≤ n ∧ n ≤ 100000 ∧ x.length * n.toNat ≤ 100000 then some (.str (Txt.mul x n)) else none
  | _, _ => none
theorem mulOk_small {x : Str} {n : Int} (h0 : 0 ≤ n) (h1 : n ≤ 100000) (h2 : x.length * n.toNat ≤ 100000) : MulOk x n := by
  refine ⟨?_, fun h _ => ?_, fun _ _ => ?_⟩
  · rw [Bool.or_eq_false_iff]
    exact ⟨decide_eq_false (by omega), decide_eq_false (by omega)⟩
  · have hn : 1 ≤ n := by omega
    have hx : x.length ≤ 100000 := Nat.le_trans (Nat.le_mul_of_pos_right _ (by omega)) h2
    intro z
    have h4 : (100000 : Int) ≤ (2 ^ 63 - 1) / n := Int.le_ediv_of_mul_le (by omega) (by omega)
    omega
  · unfold Builtin.Str.tooLong
    have : x.length * n.toNat ≤ 100000 := h2
    simp only [decide_eq_false_iff_not]
    have e : sizeLine = 16777216 := sizeLine_eq
    omega
theorem ok_mul {K : Kx} : OpOk K (fun x y H Q => (rI CMulP fun i j => .int (i * j)) x y H Q ∨ ∃ i n, x = .str i ∧ y = .int n ∧ MulOk i n ∧ Q (.str (Txt.mul i n)) H) pMul := by
  intro sc T H x y d e z Q al hx hy hf q
  unfold pMul at hf
  split at hf
  · split at hf
    · rename_i hj
      cases hf
      exact .inl ⟨_, _, hx.int, hy.int, hj, q _ H (fun _ _ h => h) (.int _)⟩
    · cases hf
  · split at hf
    · rename_i hj
      cases hf
      exact .inr ⟨_, _, hx.str, hy.int, mulOk_small hj.1 hj.2.1 hj.2.2, q _ H (fun _ _ h => h) (.str _)⟩
    · cases hf
  · cases hf
theorem pp_mul {x y : M PyData} (ha : PB X W a x) (hb : PB X W b y) : PP X W (.BinOp a .Mult b pos) (mOp pMul x y) := pp_op (op_mulP.or op_mulS) ok_mul ha hb
/-! comparisons -/
def pEq : PyData → PyData → Option PyData
  | .int i, .int j => some (.bool (decide (i = j)))
  | .str i, .str j => some (.bool (decide (i = j)))
  | .bool i, .bool j => some (.bool (decide (i = j)))
  | d, e => if SeqAt.shaped d = true ∧ SeqAt.shaped e = true then some (.bool (PyData.eqv d e)) else none
def rEqP (K : Kx) : R2 := fun x y H Q => rEq x y H Q ∨ rEqD K x y H Q
def rNeP (K : Kx) : R2 := fun x y H Q => rNe x y H Q ∨ rNeD K x y H Q
theorem op_eqP (hu : X.A.units + 64 < cLine) : OpR X (compareOp .Eq) (rEqP X.KK) := op_eq.or (op_eqD hu)
theorem op_neP (hu : X.A.units + 64 < cLine) : OpR X (compareOp .NotEq) (rNeP X.KK) := op_ne.or (op_neD hu)
theorem dV_int {i j : Int} : decide (V.int i = V.int j) = decide (i = j) := by simp
theorem dV_str {i j : Str} : decide (V.str i = V.str j) = decide (i = j) := by simp
theorem dV_bl {i j : Bool} : decide (V.bl i = V.bl j) = decide (i = j) := by simp
theorem ok_eq {K : Kx} : OpOk K (rEqP K) pEq := by
  intro sc T H x y d e z Q al hx hy hf q
  unfold pEq at hf
  split at hf
  · cases hf
    rw [hx.int, hy.int]
    exact .inl ⟨rfl, by rw [dV_int]; exact q _ H (fun _ _ h => h) (.bl _)⟩
  · cases hf
    rw [hx.str, hy.str]
    exact .inl ⟨rfl, by rw [dV_str]; exact q _ H (fun _ _ h => h) (.bl _)⟩
  · cases hf
    rw [hx.bool, hy.bool]
    exact .inl ⟨rfl, by rw [dV_bl]; exact q _ H (fun _ _ h => h) (.bl _)⟩
  · split at hf
    · rename_i hs
      cases hf
      exact .inr ⟨_, _, hx.dp (SeqAt.canLay_of_shaped hs.1), hy.dp (SeqAt.canLay_of_shaped hs.2), hs.1, hs.2, q _ H (fun _ _ h => h) (.bl _)⟩
    · cases hf
def pNot (f : PyData → PyData → Option PyData) (d e : PyData) : Option PyData := match f d e with
  | some (.bool b) => some (.bool (!b))
  | _ => none
theorem ok_ne {K : Kx} : OpOk K (rNeP K) (pNot pEq) := by
  intro sc T H x y d e z Q al hx hy hf q
  unfold pNot at hf
  split at hf
  · rename_i b hb
    cases hf
    unfold pEq at hb
    split at hb
    · cases hb
      rw [hx.int, hy.int]
      exact .inl ⟨rfl, by rw [dV_int]; exact q _ H (fun _ _ h => h) (.bl _)⟩
    · cases hb
      rw [hx.str, hy.str]
      exact .inl ⟨rfl, by rw [dV_str]; exact q _ H (fun _ _ h => h) (.bl _)⟩
    · cases hb
      rw [hx.bool, hy.bool]
      exact .inl ⟨rfl, by rw [dV_bl]; exact q _ H (fun _ _ h => h) (.bl _)⟩
    · split at hb
      · rename_i hs
        cases hb
        exact .inr ⟨_, _, hx.dp (SeqAt.canLay_of_shaped hs.1), hy.dp (SeqAt.canLay_of_shaped hs.2), hs.1, hs.2, q _ H (fun _ _ h => h) (.bl _)⟩
      · cases hb
  · cases hf
def pLt : PyData → PyData → Option PyData
  | .int i, .int j => some (.bool (decide (i < j)))
  | _, _ => none
def pLe : PyData → PyData → Option PyData
  | .int i, .int j => some (.bool (decide (i ≤ j)))
  | _, _ => none
def pGt : PyData → PyData → Option PyData
  | .int i, .int j => some (.bool (decide (j < i)))
  | _, _ => none
def pGe : PyData → PyData → Option PyData
  | .int i, .int j => some (.bool (decide (j ≤ i)))
  | _, _ => none
theorem ok_lt {K : Kx} : OpOk K (rI0 fun i j => .bl (decide (i < j))) pLt := ok_bl0 (g := fun i j => decide (i < j)) fun d e z h => by unfold pLt at h; split at h <;> cases h; exact ⟨_, _, rfl, rfl, rfl⟩
theorem ok_le {K : Kx} : OpOk K (rI0 fun i j => .bl (decide (i ≤ j))) pLe := ok_bl0 (g := fun i j => decide (i ≤ j)) fun d e z h => by unfold pLe at h; split at h <;> cases h; exact ⟨_, _, rfl, rfl, rfl⟩
theorem ok_gt {K : Kx} : OpOk K (rI0 fun i j => .bl (decide (j < i))) pGt := ok_bl0 (g := fun i j => decide (j < i)) fun d e z h => by unfold pGt at h; split at h <;> cases h; exact ⟨_, _, rfl, rfl, rfl⟩
theorem ok_ge {K : Kx} : OpOk K (rI0 fun i j => .bl (decide (j ≤ i))) pGe := ok_bl0 (g := fun i j => decide (j ≤ i)) fun d e z h => by unfold pGe at h; split at h <;> cases h; exact ⟨_, _, rfl, rfl, rfl⟩
/-- one sign in a text; an item of a list, of a tuple (flat ones) -/
def isFlat : PyData → Bool
  | .none | .bool _ | .int _ | .str _ => true
  | _ => false
def pIn : PyData → PyData → Option PyData
  | .str x, .str y => if x.cps.size = 1 then some (.bool (decide (x.cps.getD 0 0 ∈ y.cps.toList))) else none
  | d, .list l => if SeqAt.shaped d = true ∧ SeqAt.shaped (.list l) = true then some (.bool (l.any fun z => PyData.eqv z d)) else none
  | _, _ => none
end
end PL
namespace PL
open PySem PySem.Spec PyProof.Rows L2
section
variable {X : Cx} {W : WX} {pos : Pos} {a b c e : Expr} {es : List Expr}
/-! in, not in -/
def rInSg : R2 := fun x y H Q => ∃ (c : Nat) (z : Str), x = .str ⟨#[c]⟩ ∧ y = .str z ∧ Q (.bl (decide (c ∈ z.cps.toList))) H
def rNotInSg : R2 := fun x y H Q => ∃ (c : Nat) (z : Str), x = .str ⟨#[c]⟩ ∧ y = .str z ∧ Q (.bl (!decide (c ∈ z.cps.toList))) H
def rInP (K : Kx) : R2 := fun x y H Q => rInSg x y H Q ∨ rInD K x y H Q
def rNotInP (K : Kx) : R2 := fun x y H Q => rNotInSg x y H Q ∨ rNotInD K x y H Q
theorem op_inP (hu : X.A.units + 65 < cLine) : OpR X (compareOp .In) (rInP X.KK) := OpR.or (r := rInSg) op_in_sign (op_inD hu)
theorem op_notInP (hu : X.A.units + 65 < cLine) : OpR X (compareOp .NotIn) (rNotInP X.KK) := OpR.or (r := rNotInSg) op_notIn_sign (op_notInD hu)
theorem str_one {x : Str} (h : x.cps.size = 1) : x = ⟨#[x.cps.getD 0 0]⟩ := by
  obtain ⟨a⟩ := x
  cases a with
  | mk l =>
    match l, h with
    | [c], _ => rfl
theorem pIn_shape {d e z : PyData} (h : pIn d e = some z) : (∃ x y, d = .str x ∧ e = .str y ∧ x.cps.size = 1 ∧ z = .bool (decide (x.cps.getD 0 0 ∈ y.cps.toList))) ∨ ∃ l, e = .list l ∧ SeqAt.shaped d = true ∧ SeqAt.shaped (.list l) = true ∧ z = .bool (l.any fun u => PyData.eqv u d) := by
  unfold pIn at h
  split at h
  · split at h
    · rename_i hs
      cases h
      exact .inl ⟨_, _, rfl, rfl, hs, rfl⟩
    · cases h
  · split at h
    · rename_i hs
      cases h
      exact .inr ⟨_, rfl, hs.1, hs.2, rfl⟩
    · cases h
  · cases h
theorem ok_in {K : Kx} : OpOk K (rInP K) pIn := by
  intro sc T H x y d e z Q al hx hy hf q
  rcases pIn_shape hf with ⟨u, v, rfl, rfl, hs, rfl⟩ | ⟨l, rfl, h1, h2, rfl⟩
  · exact .inl ⟨_, v, by rw [hx.str]; exact congrArg V.str (str_one hs), hy.str, q _ H (fun _ _ h => h) (.bl _)⟩
  · exact .inr ⟨_, _, hx.dp (SeqAt.canLay_of_shaped h1), hy.dp (SeqAt.canLay_of_shaped h2), h1, h2, q _ H (fun _ _ h => h) (.bl _)⟩
theorem ok_notIn {K : Kx} : OpOk K (rNotInP K) (pNot pIn) := by
  intro sc T H x y d e z Q al hx hy hf q
  unfold pNot at hf
  split at hf
  · rename_i b hb
    cases hf
    rcases pIn_shape hb with ⟨u, v, rfl, rfl, hs, e1⟩ | ⟨l, rfl, h1, h2, e1⟩
    · cases e1
      exact .inl ⟨_, v, by rw [hx.str]; exact congrArg V.str (str_one hs), hy.str, q _ H (fun _ _ h => h) (.bl _)⟩
    · cases e1
      exact .inr ⟨_, _, hx.dp (SeqAt.canLay_of_shaped h1), hy.dp (SeqAt.canLay_of_shaped h2), h1, h2, q _ H (fun _ _ h => h) (.bl _)⟩
  · cases hf
/-! is None -/
def isN : PyData → Bool
  | .none => true
  | _ => false
def pIs : PyData → PyData → Option PyData
  | d, .none => some (.bool (isN d))
  | _, _ => none
def rIsN0 : R2 := fun x y H Q => y = .non ∧ Q (.bl (decide (x = .non))) H
def rNotN0 : R2 := fun x y H Q => y = .non ∧ Q (.bl (!decide (x = .non))) H
theorem op_isN0 : OpR X (compareOp .Is) rIsN0 := op_isN
theorem op_notN0 : OpR X (compareOp .IsNot) rNotN0 := op_notN
theorem DB.isNon {K : Kx} {sc : Sc} {T : Addr → Prop} {H : Hp} {v : V} {d : PyData} (h : DB K sc T H v d) : decide (v = .non) = isN d := by
  rcases h with h | ⟨p, u, rfl, hp, _, hd⟩
  · cases h <;> rfl
  · cases d <;> first | rfl | exact hd.elim
theorem ok_is {K : Kx} : OpOk K rIsN0 pIs := by
  intro sc T H x y d e z Q al hx hy hf q
  unfold pIs at hf
  split at hf
  · cases hf
    exact ⟨hy.none, by rw [hx.isNon]; exact q _ H (fun _ _ h => h) (.bl _)⟩
  · cases hf
theorem ok_isNot {K : Kx} : OpOk K rNotN0 (pNot pIs) := by
  intro sc T H x y d e z Q al hx hy hf q
  unfold pNot at hf
  split at hf
  · rename_i b hb
    cases hf
    unfold pIs at hb
    split at hb
    · cases hb
      exact ⟨hy.none, by rw [hx.isNon]; exact q _ H (fun _ _ h => h) (.bl _)⟩
    · cases hb
  · cases hf
/-! comparisons as expressions -/
theorem pp_eq {x y : M PyData} (hu : X.A.units + 65 < cLine) (ha : PB X W a x) (hb : PB X W b y) : PP X W (.Compare a [.Eq] [b] pos) (mOp pEq x y) := pp_cmp (op_eqP (by omega)) ok_eq ha hb (nomark _)
theorem pp_ne {x y : M PyData} (hu : X.A.units + 65 < cLine) (ha : PB X W a x) (hb : PB X W b y) : PP X W (.Compare a [.NotEq] [b] pos) (mOp (pNot pEq) x y) := pp_cmp (op_neP (by omega)) ok_ne ha hb (nomark _)
theorem pp_lt {x y : M PyData} (ha : PB X W a x) (hb : PB X W b y) : PP X W (.Compare a [.Lt] [b] pos) (mOp pLt x y) := pp_cmp op_lt ok_lt ha hb (nomark _)
theorem pp_le {x y : M PyData} (ha : PB X W a x) (hb : PB X W b y) : PP X W (.Compare a [.LtE] [b] pos) (mOp pLe x y) := pp_cmp op_le ok_le ha hb (nomark _)
theorem pp_gt {x y : M PyData} (ha : PB X W a x) (hb : PB X W b y) : PP X W (.Compare a [.Gt] [b] pos) (mOp pGt x y) := pp_cmp op_gt ok_gt ha hb (nomark _)
theorem pp_ge {x y : M PyData} (ha : PB X W a x) (hb : PB X W b y) : PP X W (.Compare a [.GtE] [b] pos) (mOp pGe x y) := pp_cmp op_ge ok_ge ha hb (nomark _)
theorem pp_in {x y : M PyData} (hu : X.A.units + 65 < cLine) (ha : PB X W a x) (hb : PB X W b y) (hm : behindInMarks .In b = false := by rfl) : PP X W (.Compare a [.In] [b] pos) (mOp pIn x y) := pp_cmp (op_inP hu) ok_in ha hb hm
theorem pp_notIn {x y : M PyData} (hu : X.A.units + 65 < cLine) (ha : PB X W a x) (hb : PB X W b y) (hm : behindInMarks .NotIn b = false := by rfl) : PP X W (.Compare a [.NotIn] [b] pos) (mOp (pNot pIn) x y) := pp_cmp (op_notInP hu) ok_notIn ha hb hm
theorem pp_is {x y : M PyData} (ha : PB X W a x) (hb : PB X W b y) : PP X W (.Compare a [.Is] [b] pos) (mOp pIs x y) := pp_cmp op_isN0 ok_is ha hb (nomark _)
theorem pp_isNot {x y : M PyData} (ha : PB X W a x) (hb : PB X W b y) : PP X W (.Compare a [.IsNot] [b] pos) (mOp (pNot pIs) x y) := pp_cmp op_notN0 ok_isNot ha hb (nomark _)
/-- a chain of two comparisons -/
def mChain (f g : PyData → PyData → Option PyData) (x y z : M PyData) : M Sl := fun m => (x m).bind fun dx m1 => (y m1).bind fun dy m2 => match f dx dy with
  | some (.bool true) => (z m2).bind fun dz m3 => match g dy dz with
    | some (.bool k) => .ok (.dat (.bool k)) m3
    | _ => .bad
  | some (.bool false) => .ok (.dat (.bool false)) m2
  | _ => .bad
theorem DD.bl_of {K : Kx} {T : Addr → Prop} {H : Hp} {v : V} {k : Bool} (h : DD K T H v (.bool k)) : v = .bl k := by cases h; rfl
theorem pp_chain {op op' : CmpOp} {r r' : R2} {f g : PyData → PyData → Option PyData} {x y z : M PyData} (ho : OpR X (compareOp op) r) (ho' : OpR X (compareOp op') r') (hr : OpOk X.KK r f) (hr' : OpOk X.KK r' g) (ha : PB X W a x) (hb : PB X W b y) (hc : PB X W c z)
    (hm : lastMarks [op, op'] [b, c] = false := by rfl) : PP X W (.Compare a [op, op'] [b, c] pos) (mChain f g x y z) := by
  refine PE.imp (pe_chain ho ho' ha hb hc hm) fun σ H Q q => ?_
  obtain ⟨w, T, me, ok, lv, q⟩ := q
  refine Rn.seq ok lv q fun T1 me1 v d H1 s1 lv1 p1 q1 => ?_
  refine Rn.seq ok lv1 q1 fun T2 me2 u e H2 s2 lv2 p2 q2 => ?_
  have p1' := p1.fr (s2.fr ok lv1.t0) s2.ex
  split at q2
  · rename_i hf
    refine hr w.sc T2 H2 v u d e _ _ lv2.al p1' p2 hf fun z2 H3 sm dd => ⟨true, dd.bl_of, ?_⟩
    have lv3 := lv2.same sm
    rw [if_pos rfl]
    have q3 := q2
    have fr3 : Fr T2 H2 T2 H3 := sm.fr
    obtain ⟨wz⟩ : Nonempty Unit := ⟨()⟩
    refine Rn.seq (me := me2) (T := T2) (H := H3) (Q := Q) (R := fun w T H v s => SV X.KK X.mg w.sc T H v s) (P := fun w T H v d => DB X.KK w.sc T H v d) (m := z) (k := fun dz m3 => match g e dz with
      | some (.bool k) => .ok (.dat (.bool k)) m3
      | _ => .bad) ok lv3 ?_ fun T4 me4 t dz H4 s4 lv4 p4 q4 => ?_
    · cases hz : z me2 with
      | bad => rw [hz] at q3; exact q3
      | exc xx m3 =>
        rw [hz] at q3
        exact fun c dd H' T' fr lv' xr => q3 c dd H' T' (fr3.trans fr) lv' xr
      | ok dz m3 =>
        rw [hz] at q3
        simp only [Res.bind_ok] at q3 ⊢
        cases hg : g e dz with
        | none => rw [hg] at q3; exact q3
        | some o =>
          rw [hg] at q3
          cases o with
          | bool k => exact fun v' H' T' s lv' r => q3 v' H' T' ((Stp.same sm).trans s) lv' r
          | none => exact q3
          | int i => exact q3
          | str i => exact q3
          | list i => exact q3
          | tuple i => exact q3
          | dict i => exact q3
    · cases hg : g e dz with
      | none => rw [hg] at q4; exact q4.elim
      | some o =>
        rw [hg] at q4
        cases o with
        | bool k =>
          exact hr' w.sc T4 H4 u t e dz _ Q lv4.al (p2.fr (fr3.trans (s4.fr ok lv3.t0)) (Ex.trans (fun b o _ h => sm b o h) s4.ex)) p4 hg fun v5 H5 sm5 dd5 => q4 v5 H5 T4 (Stp.same sm5) (lv4.same sm5) dd5
        | none => exact q4.elim
        | int i => exact q4.elim
        | str i => exact q4.elim
        | list i => exact q4.elim
        | tuple i => exact q4.elim
        | dict i => exact q4.elim
  · rename_i hf
    refine hr w.sc T2 H2 v u d e _ _ lv2.al p1' p2 hf fun z2 H3 sm dd => ⟨false, dd.bl_of, ?_⟩
    rw [if_neg Bool.false_ne_true]
    exact q2 _ H3 T2 (Stp.same sm) (lv2.same sm) (.bl _)
  · exact q2.elim
end
end PL
namespace PL
open PySem PySem.Spec PyProof.Rows L2
section
variable {X : Cx} {W : WX} {pos : Pos} {a b c e : Expr} {es : List Expr}
/-! items -/
def pIx : PyData → PyData → Option PyData
  | .list l, .int i => atI l i
  | .tuple l, .int i => atI l i
  | .str z, .int i => if z.length ≤ sizeLine then (atI z.cps.toList i).map fun c => .str ⟨#[c]⟩ else none
  | _, _ => none
theorem atI_dds {K : Kx} {T : Addr → Prop} {H : Hp} {vs : List V} {ds : List PyData} (h : DDs K T H vs ds) {i : Int} {d : PyData} (e : atI ds i = some d) : ∃ v, atI vs i = some v ∧ DD K T H v d := by
  unfold atI at e ⊢
  rw [h.length]
  cases hx : ixN ds.length i with
  | none => rw [hx] at e; cases e
  | some j =>
    rw [hx] at e
    exact h.get e
theorem ok_ix {K : Kx} : OpOk K (rIx K) pIx := by
  intro sc T H x y d e z Q al hx hy hf q
  unfold pIx at hf
  split at hf
  · obtain ⟨p, vs, rfl, r, dd⟩ := hx.list
    obtain ⟨v, e1, d1⟩ := atI_dds dd hf
    exact .inl ⟨p, vs, _, v, rfl, hy.int, .inl r, e1, q v H (fun _ _ h => h) d1⟩
  · obtain ⟨p, vs, rfl, r, dd⟩ := hx.tuple
    obtain ⟨v, e1, d1⟩ := atI_dds dd hf
    exact .inr (.inl ⟨p, vs, _, v, rfl, hy.int, r.sq, e1, q v H (fun _ _ h => h) d1⟩)
  · split at hf
    · rename_i z0 i hz
      cases hc : atI z0.cps.toList i with
      | none => rw [hc] at hf; cases hf
      | some ch =>
        rw [hc] at hf; cases hf
        exact .inr (.inr ⟨z0, i, ch, hx.str, hy.int, hz, hc, q _ H (fun _ _ h => h) (.str _)⟩)
    · cases hf
  · cases hf
theorem pp_item {x y : M PyData} (ha : PB X W a x) (hb : PB X W b y) (hs : PlainIx b := by exact fun _ _ => rfl) : PP X W (.Subscript a b pos) (mOp pIx x y) := pp_ix ix_seq ok_ix ha hb hs
/-! slices -/
def mPart : Option (M PyData) → M (Option Int)
  | none => fun m => .ok none m
  | some a => fun m => (a m).bind fun d m1 => match d with
    | .int i => .ok (some i) m1
    | _ => .bad
abbrev tPO (K : Kx) (mg : Str → Option Value) (W : WX) (m : M (Option Int)) : TO := tR K mg W (fun _ _ _ v b => v = b) m
abbrev PPO (X : Cx) (W : WX) (e : Option Expr) (m : Option (M PyData)) : Prop := PO X e (tPO X.KK X.mg W (mPart m))
theorem PO.imp {e : Option Expr} {t t' : TO} (h : PO X e t) (f : ∀ σ H Q, t' σ H Q → t σ H Q) : PO X e t' := ⟨fun pins s σ H Q I q => h.run pins s σ H Q I (f σ H Q q)⟩
theorem ppo_none : PPO X W none none := PO.imp po_none fun σ H Q q => by
  obtain ⟨w, T, me, ok, lv, q⟩ := q
  exact Rn.pure lv q rfl
theorem ppo_some {m : M PyData} (h : PB X W e m) : PPO X W (some e) (some m) := PO.imp (po_some h) fun σ H Q q => by
  obtain ⟨w, T, me, ok, lv, q⟩ := q
  refine Rn.seq ok lv q fun T1 me1 v d H1 s1 lv1 p1 q1 => ?_
  split at q1
  · exact ⟨_, p1.int, Rn.pure lv1 q1 rfl⟩
  · exact q1.elim
def cutD (xs : List PyData) (lo hi : Option Int) : List PyData := (xs.drop (HT.sIx xs.length 0 lo)).take (HT.sIx xs.length xs.length hi - HT.sIx xs.length 0 lo)
def pCut (x : PyData) (lo hi : Option Int) : Option PyData := match x with
  | .str z => if z.length ≤ sizeLine then some (.str (cutS z lo hi)) else none
  | .tuple l => some (.tuple (cutD l lo hi))
  | .list l => some (.list (cutD l lo hi))
  | _ => none
def mCut (x : M PyData) (lo hi : Option (M PyData)) : M Sl := fun m => (x m).bind fun d m1 => (mPart lo m1).bind fun l m2 => (mPart hi m2).bind fun u m3 => match pCut d l u with
  | some z => .ok (.dat z) m3
  | none => .bad
theorem DDs.cut {K : Kx} {T : Addr → Prop} {H : Hp} {vs : List V} {ds : List PyData} (h : DDs K T H vs ds) (lo hi : Option Int) : DDs K T H (cutV vs lo hi) (cutD ds lo hi) := by
  unfold cutV cutD
  rw [h.length]
  exact DDs.take _ (DDs.drop _ h)
def rSlP (K : Kx) : V → Option Int → Option Int → Hp → VK → Prop := fun x lo hi H Q => rSlS x lo hi H Q ∨ rSlA K x lo hi H Q ∨ rSlL K x lo hi H Q
theorem sl_P : SlR X (rSlP X.KK) := sl_str.or (sl_tupA.or sl_list)
theorem cutD_whole (l : List PyData) (lo hi : Option Int) (h : HT.sIx l.length 0 lo = 0 ∧ HT.sIx l.length l.length hi = l.length) : cutD l lo hi = l := by
  unfold cutD
  rw [h.1, h.2]
  simp
theorem ok_cut {K : Kx} {sc : Sc} {T : Addr → Prop} {H : Hp} {x : V} {d z : PyData} {lo hi : Option Int} {Q : VK} (al : ∀ b, T b → H b ≠ none) (hx : DB K sc T H x d) (hf : pCut d lo hi = some z) (q : ∀ v H', Same0 H H' → DD K T H' v z → Q v H') : rSlP K x lo hi H Q := by
  unfold pCut at hf
  split at hf
  · split at hf
    · rename_i hz
      cases hf
      exact .inl ⟨_, hx.str, hz, q _ H (fun _ _ h => h) (.str _)⟩
    · cases hf
  · cases hf
    obtain ⟨p, vs, rfl, r, dd⟩ := hx.tuple
    refine .inr (.inl ⟨p, vs, rfl, r.sq, fun h => ?_, fun _ p' hp => q _ _ (Same0.new hp) (DD.newT al hp (dd.cut lo hi))⟩)
    rw [dd.length] at h
    rw [cutD_whole _ _ _ h] at q
    exact q _ H (fun _ _ h => h) (.tup r dd)
  · cases hf
    obtain ⟨p, vs, rfl, r, dd⟩ := hx.list
    exact .inr (.inr ⟨p, vs, rfl, .inl r, fun p' hp => q _ _ (Same0.new hp) (DD.newL al hp (dd.cut lo hi))⟩)
  · cases hf
theorem pp_slice {x : M PyData} {lo hi : Option (M PyData)} {el eh : Option Expr} {p2 : Pos} (ha : PB X W a x) (hl : PPO X W el lo) (hh : PPO X W eh hi) : PP X W (.Subscript a (.Slice el eh none p2) pos) (mCut x lo hi) := by
  refine PE.imp (pe_slice sl_P ha hl hh) fun σ H Q q => ?_
  obtain ⟨w, T, me, ok, lv, q⟩ := q
  refine Rn.seq ok lv q fun T1 me1 v d H1 s1 lv1 p1 q1 => ?_
  refine Rn.seq ok lv1 q1 fun T2 me2 u o H2 s2 lv2 p2 q2 => ?_
  refine Rn.seq ok lv2 q2 fun T3 me3 u3 o3 H3 s3 lv3 p3 q3 => ?_
  have p1' := p1.fr ((s2.fr ok lv1.t0).trans (s3.fr ok lv2.t0)) (s2.ex.trans s3.ex)
  cases hf : pCut d o o3 with
  | none => rw [hf] at q3; exact q3.elim
  | some z =>
    rw [hf] at q3
    subst p2
    subst p3
    exact ok_cut lv3.al p1' hf fun v' H' sm dd => q3 v' H' T3 (Stp.same sm) (lv3.same sm) dd
/-! built-ins -/
def fLen : List PyData → Option PyData
  | [.str z] => if z.length ≤ sizeLine then some (.int z.length) else none
  | [.list l] => some (.int l.length)
  | [.tuple l] => some (.int l.length)
  | _ => none
theorem DBs.one {K : Kx} {sc : Sc} {T : Addr → Prop} {H : Hp} {xs : List V} {d : PyData} (h : DBs K sc T H xs [d]) : ∃ v, xs = [v] ∧ DB K sc T H v d := by
  cases h with
  | cons a r => cases r; exact ⟨_, rfl, a⟩
theorem DBs.two {K : Kx} {sc : Sc} {T : Addr → Prop} {H : Hp} {xs : List V} {d e : PyData} (h : DBs K sc T H xs [d, e]) : ∃ v u, xs = [v, u] ∧ DB K sc T H v d ∧ DB K sc T H u e := by
  cases h with
  | cons a r => cases r with
    | cons b r => cases r; exact ⟨_, _, rfl, a, b⟩
def rLenP (K : Kx) : List V → Hp → VK → Prop := fun xs H Q => ∃ x n, xs = [x] ∧ LenV K x H n ∧ Q (.int n) H
theorem call_lenP : CallR X (.builtin "len") (rLenP X.KK) := call_len
theorem ok_len {K : Kx} : CalOk K (rLenP K) fLen := by
  intro sc T H xs ds z Q al hx hf q
  unfold fLen at hf
  split at hf
  · split at hf
    · rename_i hz
      cases hf
      obtain ⟨v, rfl, h⟩ := hx.one
      exact ⟨v, _, rfl, by rw [h.str]; exact ⟨hz, rfl⟩, q _ H (fun _ _ h => h) (.int _)⟩
    · cases hf
  · cases hf
    obtain ⟨v, rfl, h⟩ := hx.one
    obtain ⟨p, vs, rfl, r, dd⟩ := h.list
    exact ⟨_, vs.length, rfl, .inl ⟨vs, .inl r, rfl⟩, by rw [dd.length]; exact q _ H (fun _ _ h => h) (.int _)⟩
  · cases hf
    obtain ⟨v, rfl, h⟩ := hx.one
    obtain ⟨p, vs, rfl, r, dd⟩ := h.tuple
    exact ⟨_, vs.length, rfl, .inr ⟨vs, r.sq, rfl⟩, by rw [dd.length]; exact q _ H (fun _ _ h => h) (.int _)⟩
  · cases hf
theorem pp_len {p : Pos} {m : M (List PyData)} (hg : Gl X "len") (hm : X.mg "len" = none) (ha : PBs X W (e :: es) m) (he : starEach (e :: es) X.env = (false, eval e X.env) :: starEach es X.env := by rfl) (hpl : (backTo pos (starEach es X.env)).any (·.1) = false := by rfl) :
    PP X W (.Call (.Name "len" p) (e :: es) [] pos) (mCal fLen m) := pp_callB call_lenP ok_len hg hm PySem.boot_len ha (by decide) (by decide) he hpl
def fAbs : List PyData → Option PyData
  | [.int i] => some (.int (if i < 0 then -i else i))
  | _ => none
theorem ok_abs {K : Kx} : CalOk K (fun xs H Q => ∃ i, xs = [.int i] ∧ Q (.int (if i < 0 then -i else i)) H) fAbs := by
  intro sc T H xs ds z Q al hx hf q
  unfold fAbs at hf
  split at hf
  · cases hf
    obtain ⟨v, rfl, h⟩ := hx.one
    exact ⟨_, by rw [h.int], q _ H (fun _ _ h => h) (.int _)⟩
  · cases hf
def fInt : List PyData → Option PyData
  | [.int i] => some (.int i)
  | [.bool b] => some (.int (if b then 1 else 0))
  | _ => none
theorem ok_int1 {K : Kx} : CalOk K (fun xs H Q => (∃ i, xs = [.int i] ∧ Q (.int i) H) ∨ ∃ k, xs = [.bl k] ∧ Q (.int (if k then 1 else 0)) H) fInt := by
  intro sc T H xs ds z Q al hx hf q
  unfold fInt at hf
  split at hf
  · cases hf
    obtain ⟨v, rfl, h⟩ := hx.one
    exact .inl ⟨_, by rw [h.int], q _ H (fun _ _ h => h) (.int _)⟩
  · cases hf
    obtain ⟨v, rfl, h⟩ := hx.one
    exact .inr ⟨_, by rw [h.bool], q _ H (fun _ _ h => h) (.int _)⟩
  · cases hf
theorem boot_intP : bootBuiltins "int" = some (.type "int") := by decide +kernel
theorem pp_int1 {p : Pos} {m : M (List PyData)} (hg : Gl X "int") (hm : X.mg "int" = none) (ha : PBs X W (e :: es) m) (he : starEach (e :: es) X.env = (false, eval e X.env) :: starEach es X.env := by rfl) (hpl : (backTo pos (starEach es X.env)).any (·.1) = false := by rfl) :
    PP X W (.Call (.Name "int" p) (e :: es) [] pos) (mCal fInt m) := pp_callTy call_int1 ok_int1 hg hm boot_intP ha (by decide) (by decide) he hpl
/-- all, any of a list of truth values -/
def boolsOf : List PyData → Option (List Bool)
  | [] => some []
  | .bool b :: r => (boolsOf r).map (b :: ·)
  | _ => none
theorem DDs.bools {K : Kx} {T : Addr → Prop} {H : Hp} : ∀ {ds : List PyData} {vs : List V} {bs : List Bool}, DDs K T H vs ds → boolsOf ds = some bs → vs = bs.map V.bl
  | [], _, bs, h, e => by
    cases h; cases e; rfl
  | d :: ds, _, bs, h, e => by
    cases h with
    | cons a r =>
      cases d with
      | bool b =>
        unfold boolsOf at e
        cases hb : boolsOf ds with
        | none => rw [hb] at e; cases e
        | some l =>
          rw [hb] at e; cases e
          rw [a.bl_of, r.bools hb]; rfl
      | none => cases e
      | int _ => cases e
      | str _ => cases e
      | list _ => cases e
      | tuple _ => cases e
      | dict _ => cases e
def fAll : List PyData → Option PyData
  | [.list l] => (boolsOf l).map fun bs => .bool (bs.all id)
  | _ => none
def fAny : List PyData → Option PyData
  | [.list l] => (boolsOf l).map fun bs => .bool (bs.any id)
  | _ => none
theorem ok_all {K : Kx} : CalOk K (rAll K) fAll := by
  intro sc T H xs ds z Q al hx hf q
  unfold fAll at hf
  split at hf
  · rename_i l
    cases hb : boolsOf l with
    | none => rw [hb] at hf; cases hf
    | some bs =>
      rw [hb] at hf; cases hf
      obtain ⟨v, rfl, h⟩ := hx.one
      obtain ⟨p, vs, rfl, r, dd⟩ := h.list
      have ev := dd.bools hb
      subst ev
      exact ⟨p, bs, rfl, .inl r, q _ H (fun _ _ h => h) (.bl _)⟩
  · cases hf
theorem ok_any {K : Kx} : CalOk K (rAny K) fAny := by
  intro sc T H xs ds z Q al hx hf q
  unfold fAny at hf
  split at hf
  · rename_i l
    cases hb : boolsOf l with
    | none => rw [hb] at hf; cases hf
    | some bs =>
      rw [hb] at hf; cases hf
      obtain ⟨v, rfl, h⟩ := hx.one
      obtain ⟨p, vs, rfl, r, dd⟩ := h.list
      have ev := dd.bools hb
      subst ev
      exact ⟨p, bs, rfl, .inl r, q _ H (fun _ _ h => h) (.bl _)⟩
  · cases hf
theorem boot_all : bootBuiltins "all" = some (.builtin "all") := by decide +kernel
theorem boot_any : bootBuiltins "any" = some (.builtin "any") := by decide +kernel
theorem pp_all {p : Pos} {m : M (List PyData)} (hc : X.calm = true) (hg : Gl X "all") (hm : X.mg "all" = none) (ha : PBs X W (e :: es) m) (he : starEach (e :: es) X.env = (false, eval e X.env) :: starEach es X.env := by rfl) (hpl : (backTo pos (starEach es X.env)).any (·.1) = false := by rfl) :
    PP X W (.Call (.Name "all" p) (e :: es) [] pos) (mCal fAll m) := pp_callB (cr_all hc) ok_all hg hm boot_all ha (by decide) (by decide) he hpl
theorem pp_any {p : Pos} {m : M (List PyData)} (hc : X.calm = true) (hg : Gl X "any") (hm : X.mg "any" = none) (ha : PBs X W (e :: es) m) (he : starEach (e :: es) X.env = (false, eval e X.env) :: starEach es X.env := by rfl) (hpl : (backTo pos (starEach es X.env)).any (·.1) = false := by rfl) :
    PP X W (.Call (.Name "any" p) (e :: es) [] pos) (mCal fAny m) := pp_callB (cr_any hc) ok_any hg hm boot_any ha (by decide) (by decide) he hpl
/-- tuple(list), tuple(tuple); list(..) as a new list -/
def fTuple : List PyData → Option PyData
  | [.list l] => some (.tuple l)
  | [.tuple l] => some (.tuple l)
  | _ => none
theorem ok_tuple {K : Kx} : CalOk K (fun xs H Q => ∃ p ys, xs = [.ref p] ∧ ((SqL K H p ys ∧ ∀ l, H l = none → Q (.ref l) (upd H l (.tup ys))) ∨ (SqT K H p ys ∧ Q (.ref p) H))) fTuple := by
  intro sc T H xs ds z Q al hx hf q
  unfold fTuple at hf
  split at hf
  · cases hf
    obtain ⟨v, rfl, h⟩ := hx.one
    obtain ⟨p, vs, rfl, r, dd⟩ := h.list
    exact ⟨p, vs, rfl, .inl ⟨.inl r, fun l hl => q _ _ (Same0.new hl) (DD.newT al hl dd)⟩⟩
  · cases hf
    obtain ⟨v, rfl, h⟩ := hx.one
    obtain ⟨p, vs, rfl, r, dd⟩ := h.tuple
    exact ⟨p, vs, rfl, .inr ⟨r.sq, q _ H (fun _ _ h => h) (.tup r dd)⟩⟩
  · cases hf
theorem boot_tuple : bootBuiltins "tuple" = some (.type "tuple") := by decide +kernel
theorem pp_tuple {p : Pos} {m : M (List PyData)} (hg : Gl X "tuple") (hm : X.mg "tuple" = none) (ha : PBs X W (e :: es) m) (he : starEach (e :: es) X.env = (false, eval e X.env) :: starEach es X.env := by rfl) (hpl : (backTo pos (starEach es X.env)).any (·.1) = false := by rfl) :
    PP X W (.Call (.Name "tuple" p) (e :: es) [] pos) (mCal fTuple m) := pp_callTy call_tuple_of ok_tuple hg hm boot_tuple ha (by decide) (by decide) he hpl
/-! isinstance with a built-in type -/
def tyName : PyData → String
  | .none => "NoneType" | .bool _ => "bool" | .int _ => "int" | .str _ => "str" | .list _ => "list" | .tuple _ => "tuple" | .dict _ => "dict"
/-- no dict whose keys are tuples -/
def noTupK : PyData → Bool
  | .dict ((.tuple _, _) :: _) => false
  | _ => true
theorem DNs.tupK {K : Kx} {T : Addr → Prop} {H : Hp} {kvs : List NE} {es : List (PyData × PyData)} (ne : es ≠ []) (h : DNs K T H kvs es) : noTupK (.dict es) = false := by
  cases h with
  | nil => exact absurd rfl ne
  | cons _ _ _ _ _ => rfl
theorem DB.ty {K : Kx} {sc : Sc} {T : Addr → Prop} {H : Hp} {v : V} {d : PyData} (h : DB K sc T H v d) (hn : noTupK d = true) : TyX K H v (.type (tyName d)) := by
  rcases h with h | ⟨p, u, rfl, hp, _, hd⟩
  · cases h with
    | non => exact .base .non
    | bl b => exact .base (.bl b)
    | int b => exact .base (.int b)
    | str b => exact .base (.str b)
    | lst q r =>
      rcases q.1 with q | ⟨o, q⟩
      · exact .base (.lst q)
      · exact .base (.frz q)
    | tup q r =>
      rcases q with ⟨q | ⟨o, q⟩, _⟩ | ⟨o, its, n, k, hc, _⟩
      · exact .base (.tup q)
      · exact .fTuple q
      · exact .kTuple k hc
    | dic q r =>
      rcases q.1 with q | ⟨o, q⟩
      · exact .base (.dK q)
      · exact .fDict q
    | din q ne r => rw [r.tupK ne] at hn; cases hn
  · cases d with
    | list l =>
      obtain ⟨vs, rfl, hd⟩ := hd
      exact .base (.lst hp)
    | dict es =>
      rcases hd with ⟨kvs, rfl, hd⟩ | ⟨kvs, rfl, ne, hd⟩
      · exact .base (.dK hp)
      · rw [hd.tupK ne] at hn; cases hn
    | none => exact hd.elim
    | bool b => exact hd.elim
    | int i => exact hd.elim
    | str i => exact hd.elim
    | tuple i => exact hd.elim
def mIsi (t : String) (a : M PyData) : M Sl := fun m => (a m).bind fun d m1 => if noTupK d = true then (match kitB (tyName d) t with
  | some b => .ok (.dat (.bool b)) m1
  | none => .bad) else .bad
theorem boot_isi : bootBuiltins "isinstance" = some (.builtin "isinstance") := by decide +kernel
theorem pp_isi {p p2 : Pos} {m : M PyData} {t : String} {x : Str} (hg : Gl X "isinstance") (hm : X.mg "isinstance" = none) (ht : PE X (.Name x p2) (tC (.ty t))) (ha : PB X W e m)
    (he : starEach [e, .Name x p2] X.env = (false, eval e X.env) :: starEach [.Name x p2] X.env := by rfl) (he2 : starEach [.Name x p2] X.env = (false, eval (.Name x p2) X.env) :: starEach [] X.env := by rfl) (hpl : (backTo pos (starEach [.Name x p2] X.env)).any (·.1) = false := by rfl) :
    PP X W (.Call (.Name "isinstance" p) [e, .Name x p2] [] pos) (mIsi t m) := by
  refine PE.imp (pe_callB call_isi hg hm boot_isi (pa_cons ha (pa_cons ht pa_nil he2) he) (by decide) (by decide) he hpl) fun σ H Q q => ?_
  obtain ⟨w, T, me, ok, lv, q⟩ := q
  refine Rn.seq ok lv q fun T1 me1 v d H1 s1 lv1 p1 q1 => ?_
  by_cases hn : noTupK d = true
  · rw [if_pos hn] at q1
    cases hk : kitB (tyName d) t with
    | none => rw [hk] at q1; exact q1.elim
    | some k =>
      rw [hk] at q1
      exact ⟨v, .ty t, .type (tyName d), .type t, k, rfl, .ty t, p1.ty hn, kit_ty hk, q1 _ H1 T1 (Stp.refl _ _ _ _ _) lv1 (.bl _)⟩
  · rw [if_neg hn] at q1
    exact q1.elim
/-- a built-in type's name -/
theorem pe_tyN {x : Str} {t : String} {p : Pos} (hg : Gl X x) (hm : X.mg x = none) (hv : bootBuiltins x = some (.type t)) (hn : x ≠ "__name__" := by decide) (hd : (x == ("__debug__" : Str)) = false := by decide) : PE X (.Name x p) (tC (.ty t)) := pe_bltn hg hm hv rfl hn hd
theorem boot_str : bootBuiltins "str" = some (.type "str") := by decide +kernel
theorem boot_bool : bootBuiltins "bool" = some (.type "bool") := by decide +kernel
theorem boot_list : bootBuiltins "list" = some (.type "list") := by decide +kernel
end
end PL
namespace PL
open PySem PySem.Spec PyProof.Rows L2
section
variable {X : Cx} {W : WX} {pos : Pos} {a b c e : Expr} {es rest : List Expr}
/-! ### tests -/
theorem test_of {K : Kx} {mg : Str → Option Value} {m : M Sl} {σ : L2.St} {H : Hp} {Q : Bool → Hp → Prop} (q : tPt K mg W (mTest m) σ H Q) : tP K mg W m σ H (fun x H' => ∃ k, x = .bl k ∧ Q k H') := by
  obtain ⟨w, T, me, ok, lv, q⟩ := q
  refine Rn.seq ok lv q fun T1 me1 v d H1 s1 lv1 p1 q1 => ?_
  split at q1
  · rename_i k
    exact ⟨k, DD.bl_of p1, q1 _ H1 T1 (Stp.refl _ _ _ _ _) lv1 rfl⟩
  · exact q1.elim
theorem ppt_val {m : M Sl} (h : PP X W e m) (he : ∀ whole, isTrue e X.env whole = (do let v ← whole; standAt e.pos; holding [v] (truthy v)) := by intro _; rfl) : PPt X W e (mTest m) :=
  PT.imp (pt_val h he) fun _ _ _ q => test_of q
theorem ppt_cmp {op : CmpOp} {r : R2} {f : PyData → PyData → Option PyData} {x y : M PyData} (ho : OpR X (compareOp op) r) (hr : OpOk X.KK r f) (ha : PB X W a x) (hb : PB X W b y) (hm : behindInMarks op b = false) : PPt X W (.Compare a [op] [b] pos) (mTest (mOp f x y)) :=
  PT.imp (pt_cmpR ho ha hb hm) fun _ _ _ q => tOp_ok hr (test_of q)
theorem ppt_eq {x y : M PyData} (hu : X.A.units + 65 < cLine) (ha : PB X W a x) (hb : PB X W b y) : PPt X W (.Compare a [.Eq] [b] pos) (mTest (mOp pEq x y)) := ppt_cmp (op_eqP (by omega)) ok_eq ha hb (nomark _)
theorem ppt_ne {x y : M PyData} (hu : X.A.units + 65 < cLine) (ha : PB X W a x) (hb : PB X W b y) : PPt X W (.Compare a [.NotEq] [b] pos) (mTest (mOp (pNot pEq) x y)) := ppt_cmp (op_neP (by omega)) ok_ne ha hb (nomark _)
theorem ppt_lt {x y : M PyData} (ha : PB X W a x) (hb : PB X W b y) : PPt X W (.Compare a [.Lt] [b] pos) (mTest (mOp pLt x y)) := ppt_cmp op_lt ok_lt ha hb (nomark _)
theorem ppt_le {x y : M PyData} (ha : PB X W a x) (hb : PB X W b y) : PPt X W (.Compare a [.LtE] [b] pos) (mTest (mOp pLe x y)) := ppt_cmp op_le ok_le ha hb (nomark _)
theorem ppt_gt {x y : M PyData} (ha : PB X W a x) (hb : PB X W b y) : PPt X W (.Compare a [.Gt] [b] pos) (mTest (mOp pGt x y)) := ppt_cmp op_gt ok_gt ha hb (nomark _)
theorem ppt_ge {x y : M PyData} (ha : PB X W a x) (hb : PB X W b y) : PPt X W (.Compare a [.GtE] [b] pos) (mTest (mOp pGe x y)) := ppt_cmp op_ge ok_ge ha hb (nomark _)
theorem ppt_in {x y : M PyData} (hu : X.A.units + 65 < cLine) (ha : PB X W a x) (hb : PB X W b y) (hm : behindInMarks .In b = false := by rfl) : PPt X W (.Compare a [.In] [b] pos) (mTest (mOp pIn x y)) := ppt_cmp (op_inP hu) ok_in ha hb hm
theorem ppt_notIn {x y : M PyData} (hu : X.A.units + 65 < cLine) (ha : PB X W a x) (hb : PB X W b y) (hm : behindInMarks .NotIn b = false := by rfl) : PPt X W (.Compare a [.NotIn] [b] pos) (mTest (mOp (pNot pIn) x y)) := ppt_cmp (op_notInP hu) ok_notIn ha hb hm
theorem ppt_is {x y : M PyData} (ha : PB X W a x) (hb : PB X W b y) : PPt X W (.Compare a [.Is] [b] pos) (mTest (mOp pIs x y)) := ppt_cmp op_isN0 ok_is ha hb (nomark _)
theorem ppt_isNot {x y : M PyData} (ha : PB X W a x) (hb : PB X W b y) : PPt X W (.Compare a [.IsNot] [b] pos) (mTest (mOp (pNot pIs) x y)) := ppt_cmp op_notN0 ok_isNot ha hb (nomark _)
theorem tChain_ok {r r' : R2} {f g : PyData → PyData → Option PyData} {x y z : M PyData} (hr : OpOk X.KK r f) (hr' : OpOk X.KK r' g) {σ : L2.St} {H : Hp} {Q : VK} (q : tP X.KK X.mg W (mChain f g x y z) σ H Q) : tChain r r' (tB X.KK X.mg W x) (tB X.KK X.mg W y) (tB X.KK X.mg W z) σ H Q := by
  obtain ⟨w, T, me, ok, lv, q⟩ := q
  refine Rn.seq ok lv q fun T1 me1 v d H1 s1 lv1 p1 q1 => ?_
  refine Rn.seq ok lv1 q1 fun T2 me2 u e H2 s2 lv2 p2 q2 => ?_
  have p1' := p1.fr (s2.fr ok lv1.t0) s2.ex
  split at q2
  · rename_i hf
    refine hr w.sc T2 H2 v u d e _ _ lv2.al p1' p2 hf fun z2 H3 sm dd => ⟨true, dd.bl_of, ?_⟩
    have lv3 := lv2.same sm
    rw [if_pos rfl]
    have q3 := q2
    have fr3 : Fr T2 H2 T2 H3 := sm.fr
    refine Rn.seq (me := me2) (T := T2) (H := H3) (Q := Q) (R := fun w T H v s => SV X.KK X.mg w.sc T H v s) (P := fun w T H v d => DB X.KK w.sc T H v d) (m := z) (k := fun dz m3 => match g e dz with
      | some (.bool k) => .ok (.dat (.bool k)) m3
      | _ => .bad) ok lv3 ?_ fun T4 me4 t dz H4 s4 lv4 p4 q4 => ?_
    · cases hz : z me2 with
      | bad => rw [hz] at q3; exact q3
      | exc xx m3 =>
        rw [hz] at q3
        exact fun c dd H' T' fr lv' xr => q3 c dd H' T' (fr3.trans fr) lv' xr
      | ok dz m3 =>
        rw [hz] at q3
        simp only [Res.bind_ok] at q3 ⊢
        cases hg : g e dz with
        | none => rw [hg] at q3; exact q3
        | some o =>
          rw [hg] at q3
          cases o with
          | bool k => exact fun v' H' T' s lv' r => q3 v' H' T' ((Stp.same sm).trans s) lv' r
          | none => exact q3
          | int i => exact q3
          | str i => exact q3
          | list i => exact q3
          | tuple i => exact q3
          | dict i => exact q3
    · cases hg : g e dz with
      | none => rw [hg] at q4; exact q4.elim
      | some o =>
        rw [hg] at q4
        cases o with
        | bool k =>
          exact hr' w.sc T4 H4 u t e dz _ Q lv4.al (p2.fr (fr3.trans (s4.fr ok lv3.t0)) (Ex.trans (fun b o _ h => sm b o h) s4.ex)) p4 hg fun v5 H5 sm5 dd5 => q4 v5 H5 T4 (Stp.same sm5) (lv4.same sm5) dd5
        | none => exact q4.elim
        | int i => exact q4.elim
        | str i => exact q4.elim
        | list i => exact q4.elim
        | tuple i => exact q4.elim
        | dict i => exact q4.elim
  · rename_i hf
    refine hr w.sc T2 H2 v u d e _ _ lv2.al p1' p2 hf fun z2 H3 sm dd => ⟨false, dd.bl_of, ?_⟩
    rw [if_neg Bool.false_ne_true]
    exact q2 _ H3 T2 (Stp.same sm) (lv2.same sm) (.bl _)
  · exact q2.elim
theorem ppt_chain {op op' : CmpOp} {r r' : R2} {f g : PyData → PyData → Option PyData} {x y z : M PyData} (ho : OpR X (compareOp op) r) (ho' : OpR X (compareOp op') r') (hr : OpOk X.KK r f) (hr' : OpOk X.KK r' g) (ha : PB X W a x) (hb : PB X W b y) (hc : PB X W c z)
    (hm : lastMarks [op, op'] [b, c] = false := by rfl) : PPt X W (.Compare a [op, op'] [b, c] pos) (mTest (mChain f g x y z)) :=
  PT.imp (pt_chain ho ho' ha hb hc hm) fun _ _ _ q => tChain_ok hr hr' (test_of q)
/-- truth of a value -/
theorem ppt_tru {m : M PyData} (h : PB X W e m) (he : ∀ whole, isTrue e X.env whole = (do let v ← whole; standAt e.pos; holding [v] (truthy v)) := by intro _; rfl) : PPt X W e (mTru m) := by
  refine PT.imp (pt_truth h he) fun σ H Q q => ?_
  obtain ⟨w, T, me, ok, lv, q⟩ := q
  refine Rn.seq ok lv q fun T1 me1 v d H1 s1 lv1 p1 q1 => ?_
  split at q1
  · refine ⟨_, ?_, q1 _ H1 T1 (Stp.refl _ _ _ _ _) lv1 rfl⟩
    rw [p1.none]; rfl
  · refine ⟨_, ?_, q1 _ H1 T1 (Stp.refl _ _ _ _ _) lv1 rfl⟩
    rw [p1.bool]; rfl
  · refine ⟨_, ?_, q1 _ H1 T1 (Stp.refl _ _ _ _ _) lv1 rfl⟩
    rw [p1.int]; rfl
  · split at q1
    · rename_i hz
      refine ⟨_, ?_, q1 _ H1 T1 (Stp.refl _ _ _ _ _) lv1 rfl⟩
      rw [p1.str]
      refine ⟨hz, ?_⟩
      cases hx : Str.length _ with
      | zero => rfl
      | succ n => rw [bne, bne, Bool.not_inj_iff]; rw [beq_eq_false_iff_ne.mpr (Nat.succ_ne_zero n), beq_eq_false_iff_ne.mpr (by omega)]
    · exact q1.elim
  · refine ⟨_, ?_, q1 _ H1 T1 (Stp.refl _ _ _ _ _) lv1 rfl⟩
    obtain ⟨p, vs, rfl, r, dd⟩ := p1.list
    refine .inl ⟨vs, .inl r, ?_⟩
    cases dd <;> rfl
  · refine ⟨_, ?_, q1 _ H1 T1 (Stp.refl _ _ _ _ _) lv1 rfl⟩
    obtain ⟨p, vs, rfl, r, dd⟩ := p1.tuple
    refine .inr (.inl ⟨vs, r.sq, ?_⟩)
    cases dd <;> rfl
  · exact q1.elim
theorem ppt_not {m : M Bool} (h : PPt X W e m) : PPt X W (.UnaryOp .Not e pos) (mNot m) := by
  refine PT.imp (pt_not h) fun σ H Q q => ?_
  obtain ⟨w, T, me, ok, lv, q⟩ := q
  refine Rn.seq ok lv q fun T1 me1 v d H1 s1 lv1 p1 q1 => ?_
  subst p1
  exact Rn.pure lv1 q1 rfl
theorem PW.imp {e : Expr} {t t' : TT} (h : PW X e t) (f : ∀ σ H Q, t' σ H Q → t σ H Q) : PW X e t' := ⟨fun wh pins s σ H Q I q => h.run wh pins s σ H Q I (f σ H Q q)⟩
theorem pwt_and1 {m : M Bool} (h : PPt X W a m) : PWt X W (.BoolOp .And [a] pos) m := pw_and1 h
theorem pwt_or1 {m : M Bool} (h : PPt X W a m) : PWt X W (.BoolOp .Or [a] pos) m := pw_or1 h
theorem tAnd_ok {m n : M Bool} {σ : L2.St} {H : Hp} {Q : Bool → Hp → Prop} (q : tPt X.KK X.mg W (mAnd m n) σ H Q) : tAnd (tPt X.KK X.mg W m) (tPt X.KK X.mg W n) σ H Q := by
  obtain ⟨w, T, me, ok, lv, q⟩ := q
  refine Rn.seq ok lv q fun T1 me1 v d H1 s1 lv1 p1 q1 => ?_
  subst p1
  cases v with
  | true =>
    rw [if_pos rfl] at q1 ⊢
    exact ⟨w, T1, me1, ok, lv1, q1⟩
  | false =>
    rw [if_neg Bool.false_ne_true] at q1 ⊢
    exact Rn.pure lv1 q1 rfl
theorem tOr_ok {m n : M Bool} {σ : L2.St} {H : Hp} {Q : Bool → Hp → Prop} (q : tPt X.KK X.mg W (mOr m n) σ H Q) : tOr (tPt X.KK X.mg W m) (tPt X.KK X.mg W n) σ H Q := by
  obtain ⟨w, T, me, ok, lv, q⟩ := q
  refine Rn.seq ok lv q fun T1 me1 v d H1 s1 lv1 p1 q1 => ?_
  subst p1
  cases v with
  | true =>
    rw [if_pos rfl] at q1 ⊢
    exact Rn.pure lv1 q1 rfl
  | false =>
    rw [if_neg Bool.false_ne_true] at q1 ⊢
    exact ⟨w, T1, me1, ok, lv1, q1⟩
theorem pwt_and {m n : M Bool} (h : PPt X W a m) (hb : PWt X W (.BoolOp .And (b :: rest) pos) n) : PWt X W (.BoolOp .And (a :: b :: rest) pos) (mAnd m n) := PW.imp (pw_and h hb) fun _ _ _ q => tAnd_ok q
theorem pwt_or {m n : M Bool} (h : PPt X W a m) (hb : PWt X W (.BoolOp .Or (b :: rest) pos) n) : PWt X W (.BoolOp .Or (a :: b :: rest) pos) (mOr m n) := PW.imp (pw_or h hb) fun _ _ _ q => tOr_ok q
theorem ppt_bool {m : M Bool} (h : PWt X W e m) : PPt X W e m := h.pt
/-! and, or, not, if as values (truth values) -/
def mAndV (x y : M Sl) : M Sl := fun m => (mTest x m).bind fun k m1 => if k = true then y m1 else .ok (.dat (.bool false)) m1
def mOrV (x y : M Sl) : M Sl := fun m => (mTest x m).bind fun k m1 => if k = true then .ok (.dat (.bool true)) m1 else y m1
def mNotV (x : M Sl) : M Sl := fun m => (mTest x m).bind fun k m1 => .ok (.dat (.bool (!k))) m1
theorem Rn.test {β γ : Type} {R : Wd → (Addr → Prop) → Hp → β → γ → Prop} {x : M Sl} {k : Bool → Me → Res γ} {σ : L2.St} {H : Hp} {Q : β → Hp → Prop} {Q' : V → Hp → Prop} {w : Wd} {T : Addr → Prop} {me : Me} (ok : w.Ok) (lv : Lv X.KK X.mg w T σ H me) (h : Rn X.KK X.mg W R σ w T H me Q ((mTest x me).bind k))
    (f : ∀ (T1 : Addr → Prop) (me1 : Me) (c : Bool) (H1 : Hp), Lv X.KK X.mg w T1 σ H1 me1 → Rn X.KK X.mg W R σ w T1 H1 me1 Q (k c me1) → Q' (.bl c) H1) : tP X.KK X.mg W x σ H Q' := by
  have e : (mTest x me).bind k = (x me).bind fun s m' => (match s with | .dat (.bool b) => Res.ok b m' | _ => .bad : Res Bool).bind k := by
    unfold mTest
    cases x me <;> rfl
  rw [e] at h
  refine Rn.seq ok lv h fun T1 me1 v d H1 s1 lv1 p1 q1 => ?_
  split at q1
  · rename_i c
    rw [DD.bl_of p1]
    exact f T1 me1 c H1 lv1 q1
  · exact q1.elim
theorem pp_one {op : BoolOp} {m : M Sl} (h : PP X W a m) : PP X W (.BoolOp op [a] pos) m := pe_one h
theorem pp_and {m n : M Sl} (h : PP X W a m) (hb : PP X W (.BoolOp .And (b :: rest) pos) n) : PP X W (.BoolOp .And (a :: b :: rest) pos) (mAndV m n) := by
  refine PE.imp (pe_and h hb) fun σ H Q q => ?_
  obtain ⟨w, T, me, ok, lv, q⟩ := q
  refine Rn.test ok lv q fun T1 me1 k H1 lv1 q1 => ⟨k, rfl, ?_⟩
  cases k with
  | true =>
    rw [if_pos rfl] at q1 ⊢
    exact ⟨w, T1, me1, ok, lv1, q1⟩
  | false =>
    rw [if_neg Bool.false_ne_true] at q1 ⊢
    exact Rn.pure lv1 q1 (.bl _)
theorem pp_or {m n : M Sl} (h : PP X W a m) (hb : PP X W (.BoolOp .Or (b :: rest) pos) n) : PP X W (.BoolOp .Or (a :: b :: rest) pos) (mOrV m n) := by
  refine PE.imp (pe_or h hb) fun σ H Q q => ?_
  obtain ⟨w, T, me, ok, lv, q⟩ := q
  refine Rn.test ok lv q fun T1 me1 k H1 lv1 q1 => ⟨k, rfl, ?_⟩
  cases k with
  | true =>
    rw [if_pos rfl] at q1 ⊢
    exact Rn.pure lv1 q1 (.bl _)
  | false =>
    rw [if_neg Bool.false_ne_true] at q1 ⊢
    exact ⟨w, T1, me1, ok, lv1, q1⟩
theorem pp_not {m : M Sl} (h : PP X W a m) : PP X W (.UnaryOp .Not a pos) (mNotV m) := by
  refine PE.imp (pe_not h) fun σ H Q q => ?_
  obtain ⟨w, T, me, ok, lv, q⟩ := q
  refine Rn.test ok lv q fun T1 me1 k H1 lv1 q1 => ⟨k, rfl, ?_⟩
  exact Rn.pure lv1 q1 (.bl _)
theorem pp_if {t : M Bool} {m n : M Sl} (ht : PPt X W c t) (h : PP X W a m) (hb : PP X W b n) : PP X W (.IfExp c a b pos) (mIf t m n) := by
  refine PE.imp (pe_ifExp ht h hb) fun σ H Q q => ?_
  obtain ⟨w, T, me, ok, lv, q⟩ := q
  refine Rn.seq ok lv q fun T1 me1 v d H1 s1 lv1 p1 q1 => ?_
  subst p1
  cases v with
  | true =>
    rw [if_pos rfl] at q1 ⊢
    exact ⟨w, T1, me1, ok, lv1, q1⟩
  | false =>
    rw [if_neg Bool.false_ne_true] at q1 ⊢
    exact ⟨w, T1, me1, ok, lv1, q1⟩
/-! ### argument lists, displays -/
theorem pps_nil : PPs X W [] (mArgs []) := PA.imp pa_nil fun σ H Q q => by
  obtain ⟨w, T, me, ok, lv, q⟩ := q
  exact Rn.pure lv q .nil
theorem pps_cons {m : M Sl} {ms : List (M Sl)} (ha : PP X W e m) (hr : PPs X W es (mArgs ms)) (hs : starEach (e :: es) X.env = (false, eval e X.env) :: starEach es X.env := by rfl) : PPs X W (e :: es) (mArgs (m :: ms)) := by
  refine PA.imp (pa_cons ha hr hs) fun σ H Q q => ?_
  obtain ⟨w, T, me, ok, lv, q⟩ := q
  refine Rn.seq ok lv q fun T1 me1 v d H1 s1 lv1 p1 q1 => ?_
  refine Rn.seq ok lv1 q1 fun T2 me2 vs ds H2 s2 lv2 p2 q2 => ?_
  exact Rn.pure lv2 q2 (.cons (SV.fr (s2.fr ok lv1.t0) p1) p2)
def datsOf : List Sl → Option (List PyData)
  | [] => some []
  | .dat d :: r => (datsOf r).map (d :: ·)
  | _ => none
theorem SVs.dats {K : Kx} {mg : Str → Option Value} {sc : Sc} {T : Addr → Prop} {H : Hp} {vs : List V} {ss : List Sl} (h : SVs K mg sc T H vs ss) : ∀ {ds : List PyData}, datsOf ss = some ds → DDs K T H vs ds := by
  induction h with
  | nil => intro ds e; cases e; exact .nil
  | @cons v vs s ss a r ih =>
    intro ds e
    cases s with
    | dat d =>
      unfold datsOf at e
      cases hb : datsOf ss with
      | none => rw [hb] at e; cases e
      | some l =>
        rw [hb] at e; cases e
        exact .cons a (ih hb)
    | own l => cases e
    | src => cases e
    | exc x => cases e
    | obj x => cases e
def mTup (a : M (List Sl)) : M Sl := fun m => (a m).bind fun xs m1 => match datsOf xs with
  | some ds => if ds.length ≤ sizeLine then .ok (.dat (.tuple ds)) m1 else .bad
  | none => .bad
theorem pp_tup {x1 : Nat} {m : M (List Sl)} (h : PPs X W es m) : PP X W (.Tuple es x1 pos) (mTup m) := by
  refine PE.imp (pe_tup h) fun σ H Q q => ?_
  obtain ⟨w, T, me, ok, lv, q⟩ := q
  refine Rn.seq ok lv q fun T1 me1 vs ss H1 s1 lv1 p1 q1 => ?_
  cases hd : datsOf ss with
  | none => rw [hd] at q1; exact q1.elim
  | some ds =>
    rw [hd] at q1
    have dd := p1.dats hd
    by_cases hz : ds.length ≤ sizeLine
    · simp only [if_pos hz] at q1
      refine ⟨by rw [dd.length]; exact hz, fun p hp => ?_⟩
      exact q1 _ _ T1 (Stp.same (Same0.new hp)) (lv1.same (Same0.new hp)) (DD.newT lv1.al hp dd)
    · simp only [if_neg hz] at q1
      exact q1.elim
/-- own lists of a state one more -/
theorem Lv.grow {K : Kx} {mg : Str → Option Value} {w : Wd} {T : Addr → Prop} {σ : L2.St} {H : Hp} {me : Me} (lv : Lv K mg w T σ H me) {p : Addr} {o : HO} (hp : H p = none) : Lv K mg w (fun b => T b ∨ b = p) σ (upd H p o) me := by
  have sm : Same0 H (upd H p o) := Same0.new hp
  have fr : Fr T H (fun b => T b ∨ b = p) (upd H p o) := fun b u n h => ⟨sm b u h, fun z => z.elim n fun e => by subst e; rw [hp] at h; cases h⟩
  refine ⟨fun b h => .inl (lv.t0 b h), fun b hb => ?_, lv.ex.trans fun b o _ h => sm b o h, lv.src.to fr fun x o _ h => sm x o h, lv.len, fun i s hi => (lv.slot i s hi).fr fr fun p vs l _ _ hp' tp => ⟨.inl tp, sm _ _ hp'⟩, lv.sep⟩
  · rcases hb with hb | hb
    · intro n
      cases q : H b with
      | none => exact lv.al b hb q
      | some o' => rw [sm b o' q] at n; cases n
    · subst hb; rw [upd_same]; exact nofun
theorem Ex.free {sc : Sc} {H H' : Hp} {p : Addr} (e : Ex sc H H') (ns : ¬ InS sc p) (h : H' p = none) : H p = none := by
  cases q : H p with
  | none => rfl
  | some o => rw [e p o ns q] at h; cases h
theorem Lv.fresh {K : Kx} {mg : Str → Option Value} {w : Wd} {T : Addr → Prop} {σ : L2.St} {H : Hp} {me : Me} (ok : w.Ok) (lv : Lv K mg w T σ H me) {p : Addr} (hp : H p = none) : w.H0 p = none ∧ ¬ T p ∧ ¬ InS w.sc p :=
  have nt : ¬ T p := fun z => lv.al p z hp
  have ns := ok.sNot lv.t0 nt
  ⟨lv.ex.free ns hp, nt, ns⟩
/-- a list display as a value, or as a new list -/
def mLst (a : M (List Sl)) : M PyData := fun m => (a m).bind fun xs m1 => match datsOf xs with
  | some ds => if ds.length ≤ sizeLine then .ok (.list ds) m1 else .bad
  | none => .bad
/-- a new list or dict that nothing reaches, at p -/
structure NewL (K : Kx) (mg : Str → Option Value) (w : Wd) (σ : L2.St) (T : Addr → Prop) (H : Hp) (me : Me) (l : PyData) (me' : Me) (p : Addr) (vs : HO) (T' : Addr → Prop) (H' : Hp) : Prop where
  stp : Stp w σ T H me T' H' me'
  lv : Lv K mg w (fun b => T' b ∨ b = p) σ H' me'
  here : H' p = some vs
  nT : ¬ T' p
  h0 : w.H0 p = none
  dd : OwnC K (fun b => T' b ∨ b = p) H' p vs l
  no : ∀ (i : Nat) (l' : PyData), me'.env[i]? = some (some (Sl.own l')) → σ[i]? ≠ some (some (V.ref p))
  new : Fr T H (fun b => T' b ∨ b = p) H'
/-- the reading of a new list -/
abbrev tN (K : Kx) (mg : Str → Option Value) (W : WX) (m : M PyData) : TE := fun σ H Q => ∃ (w : Wd) (T : Addr → Prop) (me : Me), w.Ok ∧ Lv K mg w T σ H me ∧ match m me with
    | .ok l me' => ∀ (p : Addr) (vs : HO) (T' : Addr → Prop) (H' : Hp), NewL K mg w σ T H me l me' p vs T' H' → Q (.ref p) H'
    | .exc x me' => ∀ (c : Value) (dd : Option Addr) (H' : Hp) (T' : Addr → Prop), Fr T H T' H' → Lv K mg w T' σ H' me' → XR K mg T' H' c dd x → W c dd σ H'
    | .bad => False
abbrev PN (X : Cx) (W : WX) (e : Expr) (m : M PyData) : Prop := PE X e (tN X.KK X.mg W m)
theorem DDs.grow {K : Kx} {T : Addr → Prop} {H : Hp} {vs : List V} {ds : List PyData} {p : Addr} {o : HO} (hp : H p = none) (h : DDs K T H vs ds) : DDs K (fun b => T b ∨ b = p) (upd H p o) vs ds :=
  h.to fun b u n hu => ⟨Same0.new hp b u hu, fun z => z.elim n fun e => by subst e; rw [hp] at hu; cases hu⟩
theorem Lv.noRef {K : Kx} {mg : Str → Option Value} {w : Wd} {T : Addr → Prop} {σ : L2.St} {H : Hp} {me : Me} (lv : Lv K mg w T σ H me) {p : Addr} (hp : H p = none) : ∀ (i : Nat) (l : PyData), me.env[i]? = some (some (Sl.own l)) → σ[i]? ≠ some (some (V.ref p)) := fun i l h e => by
  obtain ⟨q, vs, e1, tq, h0, hq, hd⟩ := lv.slot i _ h
  rw [e] at e1; cases e1
  rw [hp] at hq; cases hq
theorem pn_lst {m : M (List Sl)} (h : PPs X W es m) : PN X W (.List es pos) (mLst m) := by
  refine PE.imp (pe_lst h) fun σ H Q q => ?_
  obtain ⟨w, T, me, ok, lv, q⟩ := q
  refine ⟨w, T, me, ok, lv, ?_⟩
  unfold mLst at q
  cases hm : m me with
  | bad => rw [hm] at q; exact q
  | exc x me1 => rw [hm] at q; exact q
  | ok ss me1 =>
    rw [hm] at q
    simp only [Res.bind_ok] at q
    intro vs H1 T1 s1 lv1 p1
    cases hd : datsOf ss with
    | none => rw [hd] at q; exact q.elim
    | some ds =>
      rw [hd] at q
      have dd := p1.dats hd
      by_cases hz : ds.length ≤ sizeLine
      · simp only [if_pos hz] at q
        refine ⟨by rw [dd.length]; exact hz, fun p hp => ?_⟩
        obtain ⟨f0, f1, f2⟩ := lv1.fresh ok hp
        have fr1 : Fr T1 H1 (fun b => T1 b ∨ b = p) (upd H1 p (.lst vs)) := fun b u n hu => ⟨Same0.new hp b u hu, fun z => z.elim n fun e => by subst e; rw [hp] at hu; cases hu⟩
        exact q p _ T1 _ ⟨s1.trans (Stp.same (Same0.new hp)), lv1.grow hp, upd_same, f1, f0, ⟨vs, rfl, dd.grow hp⟩, lv1.noRef hp, (s1.fr ok lv.t0).trans fr1⟩
      · simp only [if_neg hz] at q
theorem Lv.shrink {K : Kx} {mg : Str → Option Value} {w : Wd} {T : Addr → Prop} {σ : L2.St} {H : Hp} {me : Me} {p : Addr} (ok : w.Ok) (lv : Lv K mg w (fun b => T b ∨ b = p) σ H me) (nT : ¬ T p) (h0 : w.H0 p = none) (no : ∀ (i : Nat) (l' : PyData), me.env[i]? = some (some (Sl.own l')) → σ[i]? ≠ some (some (V.ref p))) : Lv K mg w T σ H me := by
  refine ⟨fun b hb => (lv.t0 b hb).elim id fun z => ?_, fun b hb => lv.al b (.inl hb), lv.ex, lv.src.weak fun _ z => .inl z, lv.len, fun i s hi => (lv.slot i s hi).fr (Fr.weak fun _ z => .inl z) fun q vs l es eq hq tq => ⟨tq.elim id fun z => ?_, hq⟩, lv.sep⟩
  · subst z
    exact absurd h0 (ok.al b hb)
  · subst z; subst es
    exact absurd eq (no i l hi)
theorem NewL.val {K : Kx} {mg : Str → Option Value} {w : Wd} {σ : L2.St} {T T' : Addr → Prop} {H H' : Hp} {me me' : Me} {l : PyData} {p : Addr} {vs : HO} (ok : w.Ok) (n : NewL K mg w σ T H me l me' p vs T' H') : Lv K mg w T' σ H' me' ∧ DD K T' H' (.ref p) l :=
  ⟨n.lv.shrink ok n.nT n.h0 n.no, (n.dd.fr (Fr.weak fun _ z => .inl z)).dd n.here n.nT⟩
def mL (m : M PyData) : M Sl := fun me => (m me).bind fun l me' => .ok (.dat l) me'
theorem pp_new {m : M PyData} (h : PN X W e m) : PP X W e (mL m) := by
  refine PE.imp h fun σ H Q q => ?_
  obtain ⟨w, T, me, ok, lv, q⟩ := q
  refine ⟨w, T, me, ok, lv, ?_⟩
  unfold mL at q
  cases hm : m me with
  | bad => rw [hm] at q; exact q
  | exc x me1 => rw [hm] at q; exact q
  | ok l me1 =>
    rw [hm] at q
    intro p vs T' H' n
    obtain ⟨a, b⟩ := n.val ok
    exact q (.ref p) H' T' n.stp a b
/-! ### calls of defs -/
inductive CRes
  | ok (s : Sl) (st : SrcSt)
  | exc (x : Xn) (st : SrcSt)
  | bad
/-- what a def hands back: a value, or a new list or dict that nothing else reaches -/
def RV (K : Kx) (mg : Str → Option Value) (sc : Sc) (T : Addr → Prop) (H H' : Hp) (v : V) : Sl → Prop
  | .own d => ∃ p o, v = .ref p ∧ H p = none ∧ H' p = some o ∧ OwnC K (fun b => T b ∨ b = p) H' p o d
  | s => SV K mg sc T H' v s
theorem RV.of {K : Kx} {mg : Str → Option Value} {sc : Sc} {T : Addr → Prop} {H H' : Hp} {v : V} {s : Sl} (h : SV K mg sc T H' v s) : RV K mg sc T H H' v s := by
  cases s with
  | own d => exact h.elim
  | dat d => exact h
  | src => exact h
  | exc x => exact h
  | obj x => exact h
/-- what is not to be frozen behind a call: what was, and what is handed back as new -/
def retT (T : Addr → Prop) (v : V) : Sl → Addr → Prop
  | .own _ => fun b => T b ∨ v = .ref b
  | _ => T
theorem retT_sub {T : Addr → Prop} {v : V} {s : Sl} {b : Addr} (h : T b) : retT T v s b := by
  cases s with
  | own d => exact .inl h
  | dat d => exact h
  | src => exact h
  | exc x => exact h
  | obj x => exact h
theorem retT_mono {T T' : Addr → Prop} {v : V} {s : Sl} (m : ∀ b, T b → T' b) {b : Addr} (h : retT T v s b) : retT T' v s b := by
  cases s with
  | own d => exact h.elim (fun z => .inl (m b z)) .inr
  | dat d => exact m b h
  | src => exact m b h
  | exc x => exact m b h
  | obj x => exact m b h
theorem SrcAt.ret {K : Kx} {mg : Str → Option Value} {sc sc2 : Sc} {T T0 : Addr → Prop} {H H2 : Hp} {st : SrcSt} {v : V} {s : Sl} (h : SrcAt K T sc H st) (t0 : ∀ b, T0 b → T b) (sv : SV K mg sc2 T H2 v s) : SrcAt K (retT T0 v s) sc H st := by
  cases s with
  | own d => exact sv.elim
  | dat d => exact h.weak t0
  | src => exact h.weak t0
  | exc x => exact h.weak t0
  | obj x => exact h.weak t0
/-- a def's promise by a function of its arguments and the source -/
def spP (K : Kx) (mg : Str → Option Value) (n : Nat) (F : List Sl → SrcSt → CRes) : Sp := fun vs H Q E =>
  ∃ (sc : Sc) (T : Addr → Prop) (args : List Sl) (st : SrcSt), vs.length = n ∧ (∀ b, InS sc b → T b) ∧ (∀ b, T b → H b ≠ none) ∧ SrcAt K T sc H st ∧ SVs K mg sc T H vs args ∧ match F args st with
    | .ok s st' => ∀ (v : V) (H' : Hp), Ex sc H H' → SrcAt K (retT T v s) sc H' st' → RV K mg sc T H H' v s → Q v H'
    | .exc x st' => ∀ (c : Value) (dd : Option Addr) (H' : Hp), Ex sc H H' → SrcAt K T sc H' st' → XR K mg T H' c dd x → E c dd H'
    | .bad => False
def Sl.frz : Sl → Sl
  | .own d => .dat d
  | s => s
def resV (m1 : Me) : CRes → Res Sl
  | .ok s st' => .ok s.frz { m1 with st := st' }
  | .exc x st' => .exc x { m1 with st := st' }
  | .bad => .bad
def resN (m1 : Me) : CRes → Res PyData
  | .ok (.own d) st' => .ok d { m1 with st := st' }
  | .ok _ _ => .bad
  | .exc x st' => .exc x { m1 with st := st' }
  | .bad => .bad
def mCall (F : List Sl → SrcSt → CRes) (a : M (List Sl)) : M Sl := fun m => (a m).bind fun xs m1 => resV m1 (F xs m1.st)
def mCallN (F : List Sl → SrcSt → CRes) (a : M (List Sl)) : M PyData := fun m => (a m).bind fun xs m1 => resN m1 (F xs m1.st)
theorem Lv.call {K : Kx} {mg : Str → Option Value} {w : Wd} {T : Addr → Prop} {σ : L2.St} {H H' : Hp} {me : Me} {st : SrcSt} (ok : w.Ok) (lv : Lv K mg w T σ H me) (ex : Ex w.sc H H') (sr : SrcAt K T w.sc H' st) : Lv K mg w T σ H' { me with st := st } := by
  have fr : Fr T H T H' := fun b o n h => ⟨ex b o (ok.sNot lv.t0 n) h, n⟩
  refine ⟨lv.t0, fun b hb => ?_, lv.ex.trans ex, sr, lv.len, fun i s hi => (lv.slot i s hi).fr fr fun p vs l es ep hp tp => ⟨tp, ex p _ (fun z => ?_) hp⟩, lv.sep⟩
  · by_cases hs : InS w.sc b
    · exact sr.al hs
    · intro n
      cases q : H b with
      | none => exact lv.al b hb q
      | some o => rw [ex b o hs q] at n; cases n
  · subst es
    obtain ⟨p', vs', e1, _, h0, _, _⟩ := lv.slot i _ hi
    rw [ep] at e1; cases e1
    exact ok.al p (ok.s0 p z) h0
/-- the same, and p, that was not there, is of our own now -/
theorem Lv.own1 {K : Kx} {mg : Str → Option Value} {w : Wd} {T : Addr → Prop} {σ : L2.St} {H : Hp} {me : Me} {p : Addr} {o : HO} (ok : w.Ok) (lv : Lv K mg w T σ H me) (f : ∀ b u, ¬ T b → H b = some u → b ≠ p) (hp : H p = some o) (no : ∀ (i : Nat) (l' : PyData), me.env[i]? = some (some (Sl.own l')) → σ[i]? ≠ some (some (V.ref p)))
    (sl : ∀ (i : Nat) (s : Sl), me.env[i]? = some (some s) → SlotOk K mg w (fun b => T b ∨ b = p) H σ[i]? s) : Lv K mg w (fun b => T b ∨ b = p) σ H me := by
  refine ⟨fun b h => .inl (lv.t0 b h), fun b hb => ?_, lv.ex, lv.src.to (fun b u n h => ⟨h, fun z => z.elim n (f b u n h)⟩) fun _ _ _ z => z, lv.len, sl, lv.sep⟩
  rcases hb with hb | hb
  · exact lv.al b hb
  · subst hb; rw [hp]; exact nofun
theorem Lv.callN {K : Kx} {mg : Str → Option Value} {w : Wd} {T : Addr → Prop} {σ : L2.St} {H H' : Hp} {me : Me} {st : SrcSt} {p : Addr} {o : HO} (ok : w.Ok) (lv : Lv K mg w T σ H me) (ex : Ex w.sc H H') (sp : SrcAt K (fun b => T b ∨ b = p) w.sc H' st) (hp : H p = none) (hp' : H' p = some o) : Lv K mg w (fun b => T b ∨ b = p) σ H' { me with st := st } := by
  have fr : Fr T H (fun b => T b ∨ b = p) H' := fun b o n h => ⟨ex b o (ok.sNot lv.t0 n) h, fun z => z.elim n fun e => by subst e; rw [hp] at h; cases h⟩
  have l1 := lv.call ok ex (sp.weak fun _ z => .inl z)
  refine ⟨fun b h => .inl (l1.t0 b h), fun b hb => ?_, l1.ex, sp, l1.len, fun i s hi => (lv.slot i s hi).fr fr fun q vs l es ep hq tq => ⟨.inl tq, ex q _ (fun z => ?_) hq⟩, l1.sep⟩
  · rcases hb with hb | hb
    · exact l1.al b hb
    · subst hb; rw [hp']; exact nofun
  · subst es
    obtain ⟨p', vs', e1, _, h0, _, _⟩ := lv.slot i _ hi
    rw [ep] at e1; cases e1
    exact ok.al q (ok.s0 q z) h0
theorem Stp.call {w : Wd} {σ : L2.St} {T : Addr → Prop} {H H' : Hp} {m : Me} {st : SrcSt} (s : Ex w.sc H H') : Stp w σ T H m T H' { m with st := st } := ⟨s, fun _ h => h, fun _ a b => absurd a b, fun _ _ h => h⟩
abbrev PassX (X : Cx) (W : WX) : Prop := ∀ σ, PassesAt (L2.CX X.prog X.w) X σ (WE W σ)
theorem passW {X : Cx} {W : WX} (tk : Takes X W) : PassX X W := fun σ => passAt tk σ
/-- nothing is let out -/
abbrev W0 : WX := fun _ _ _ _ => False
theorem pass00 {X : Cx} : PassX X W0 := fun σ pins H s e s' I c => by
  obtain ⟨_, _, _, _, _, _, _, _, _, _, _, _, z⟩ := c
  exact z.elim
theorem mArgs_len : ∀ {ms : List (M Sl)} {me me' : Me} {ss : List Sl}, mArgs ms me = .ok ss me' → ss.length = ms.length
  | [], _, _, _, h => by cases h; rfl
  | a :: r, me, me', ss, h => by
    unfold mArgs at h
    cases ha : a me with
    | bad => rw [ha] at h; cases h
    | exc x m => rw [ha] at h; cases h
    | ok s m1 =>
      rw [ha] at h
      simp only [Res.bind_ok] at h
      cases hr : mArgs r m1 with
      | bad => rw [hr] at h; cases h
      | exc x m => rw [hr] at h; cases h
      | ok l m2 =>
        rw [hr] at h
        cases h
        rw [List.length_cons, List.length_cons, mArgs_len hr]
/-- a call, once its arguments stand -/
theorem spP_val {K : Kx} {mg : Str → Option Value} {W : WX} {w : Wd} {σ : L2.St} {T T1 : Addr → Prop} {H H1 : Hp} {me me1 : Me} {F : List Sl → SrcSt → CRes} {ss : List Sl} {vs : List V} {n : Nat} {Q : VK} (ok : w.Ok) (lv : Lv K mg w T σ H me) (s1 : Stp w σ T H me T1 H1 me1) (lv1 : Lv K mg w T1 σ H1 me1) (p1 : SVs K mg w.sc T1 H1 vs ss) (hn : ss.length = n)
    (q : Rn K mg W (fun w T H v s => SV K mg w.sc T H v s) σ w T H me Q (resV me1 (F ss me1.st))) : spP K mg n F vs H1 Q (WE W σ) := by
  refine ⟨w.sc, T1, ss, me1.st, by rw [p1.length]; exact hn, fun b hb => lv1.t0 b (ok.s0 b hb), lv1.al, lv1.src, p1, ?_⟩
  cases hf : F ss me1.st with
  | bad => rw [hf] at q; exact q
  | ok s st' =>
    rw [hf] at q
    refine fun v H' ex sr sv => q v H' T1 (s1.trans (Stp.call ex)) (lv1.call ok ex (sr.weak fun _ z => retT_sub z)) ?_
    cases s with
    | own d =>
      obtain ⟨p, o, rfl, hp, hp', hc⟩ := sv
      exact (hc.fr (Fr.weak fun _ z => .inl z)).dd hp' (nT_new lv1.al hp)
    | dat d => exact sv
    | src => exact sv
    | exc x => exact sv
    | obj x => exact sv
  | exc y st' =>
    rw [hf] at q
    exact fun c dd H' ex sr xr => q c dd H' T1 ((s1.fr ok lv.t0).trans fun b o n h => ⟨ex b o (ok.sNot lv1.t0 n) h, n⟩) (lv1.call ok ex sr) xr
theorem spP_new {K : Kx} {mg : Str → Option Value} {W : WX} {w : Wd} {σ : L2.St} {T T1 : Addr → Prop} {H H1 : Hp} {me me1 : Me} {F : List Sl → SrcSt → CRes} {ss : List Sl} {vs : List V} {n : Nat} {Q : VK} (ok : w.Ok) (lv : Lv K mg w T σ H me) (s1 : Stp w σ T H me T1 H1 me1) (lv1 : Lv K mg w T1 σ H1 me1) (p1 : SVs K mg w.sc T1 H1 vs ss) (hn : ss.length = n)
    (q : match resN me1 (F ss me1.st) with
      | .ok l me' => ∀ (p : Addr) (vs : HO) (T' : Addr → Prop) (H' : Hp), NewL K mg w σ T H me l me' p vs T' H' → Q (.ref p) H'
      | .exc x me' => ∀ (c : Value) (dd : Option Addr) (H' : Hp) (T' : Addr → Prop), Fr T H T' H' → Lv K mg w T' σ H' me' → XR K mg T' H' c dd x → W c dd σ H'
      | .bad => False) : spP K mg n F vs H1 Q (WE W σ) := by
  refine ⟨w.sc, T1, ss, me1.st, by rw [p1.length]; exact hn, fun b hb => lv1.t0 b (ok.s0 b hb), lv1.al, lv1.src, p1, ?_⟩
  cases hf : F ss me1.st with
  | bad => rw [hf] at q; exact q
  | ok s st' =>
    rw [hf] at q
    intro v H' ex sr sv
    cases s with
    | own d =>
      obtain ⟨p, o, rfl, hp, hp', hc⟩ := sv
      obtain ⟨f0, f1, f2⟩ := lv1.fresh ok hp
      have fr1 : Fr T1 H1 (fun b => T1 b ∨ b = p) H' := fun b u n h => ⟨ex b u (ok.sNot lv1.t0 n) h, fun z => z.elim n fun e => by subst e; rw [hp] at h; cases h⟩
      exact q p o T1 H' ⟨s1.trans (Stp.call ex), lv1.callN ok ex (sr.weak fun b z => z.elim .inl fun e => .inr (by rw [e])) hp hp', hp', f1, f0, hc, lv1.noRef hp, (s1.fr ok lv.t0).trans fr1⟩
    | dat d => exact q.elim
    | src => exact q.elim
    | exc x => exact q.elim
    | obj x => exact q.elim
  | exc y st' =>
    rw [hf] at q
    exact fun c dd H' ex sr xr => q c dd H' T1 ((s1.fr ok lv.t0).trans fun b o n h => ⟨ex b o (ok.sNot lv1.t0 n) h, n⟩) (lv1.call ok ex sr) xr
theorem pp_call {F : List Sl → SrcSt → CRes} {ms : List (M Sl)} {k n : Nat} {f : Addr} {fd : FuncData} {ps : List Str} {x : Str} {p : Pos} (G : FnOk X.prog X.w X.KK X.mg X.base (L2.CX X.prog X.w) k f fd ps (spP X.KK X.mg n F)) (hr : Room k X.A) (hg : Gl X x) (hm : X.mg x = some (.ref f)) (hk : PySem.W.keepIn X.KK (.ref f) = true) (hb : Binds X.KK fd ps []) (hx : PassX X W)
    (ha : PPs X W (e :: es) (mArgs ms)) (hn : ms.length = n := by rfl) (hdb : (x == ("__debug__" : Str)) = false := by decide) (he : starEach (e :: es) X.env = (false, eval e X.env) :: starEach es X.env := by rfl) (hpl : (backTo pos (starEach es X.env)).any (·.1) = false := by rfl) :
    PP X W (.Call (.Name x p) (e :: es) [] pos) (mCall F (mArgs ms)) := by
  refine PE.imp (pe_callS G hr hg hm hk hb hx ha hdb he hpl) fun σ H Q q => ?_
  obtain ⟨w, T, me, ok, lv, q⟩ := q
  refine ⟨w, T, me, ok, lv, ?_⟩
  unfold mCall at q
  cases hm : mArgs ms me with
  | bad => rw [hm] at q; exact q
  | exc x me1 => rw [hm] at q; exact q
  | ok ss me1 =>
    rw [hm] at q
    intro vs H1 T1 s1 lv1 p1
    exact spP_val ok lv s1 lv1 p1 (by rw [mArgs_len hm]; exact hn) q
theorem pn_call {F : List Sl → SrcSt → CRes} {ms : List (M Sl)} {k n : Nat} {f : Addr} {fd : FuncData} {ps : List Str} {x : Str} {p : Pos} (G : FnOk X.prog X.w X.KK X.mg X.base (L2.CX X.prog X.w) k f fd ps (spP X.KK X.mg n F)) (hr : Room k X.A) (hg : Gl X x) (hm : X.mg x = some (.ref f)) (hk : PySem.W.keepIn X.KK (.ref f) = true) (hb : Binds X.KK fd ps []) (hx : PassX X W)
    (ha : PPs X W (e :: es) (mArgs ms)) (hn : ms.length = n := by rfl) (hdb : (x == ("__debug__" : Str)) = false := by decide) (he : starEach (e :: es) X.env = (false, eval e X.env) :: starEach es X.env := by rfl) (hpl : (backTo pos (starEach es X.env)).any (·.1) = false := by rfl) :
    PN X W (.Call (.Name x p) (e :: es) [] pos) (mCallN F (mArgs ms)) := by
  refine PE.imp (pe_callS G hr hg hm hk hb hx ha hdb he hpl) fun σ H Q q => ?_
  obtain ⟨w, T, me, ok, lv, q⟩ := q
  refine ⟨w, T, me, ok, lv, ?_⟩
  unfold mCallN at q
  cases hm : mArgs ms me with
  | bad => rw [hm] at q; exact q
  | exc x me1 => rw [hm] at q; exact q
  | ok ss me1 =>
    rw [hm] at q
    intro vs H1 T1 s1 lv1 p1
    exact spP_new ok lv s1 lv1 p1 (by rw [mArgs_len hm]; exact hn) q
end
end PL
namespace PL
open PySem PySem.Spec PyProof.Rows L2
/-! ### what is walked -/
structure Wk (K : Kx) (T : Addr → Prop) (H : Hp) (J : It) (items : List PyData) : Prop where
  ex : ∃ (G : Hp → Prop) (Y : Nat → Hp → V → Hp → Prop), Walk J items.length G Y ∧ (∀ (T' : Addr → Prop) (H' : Hp), Fr T H T' H' → G H') ∧
    ∀ (T' : Addr → Prop) (H' : Hp) (i : Nat) (x : V) (H'' : Hp), Fr T H T' H' → (∀ b, T' b → H' b ≠ none) → i < items.length → Y i H' x H'' → Same0 H' H'' ∧ ∃ d, items[i]? = some d ∧ DD K T' H'' x d
def itemsOf : PyData → Option (List PyData)
  | .list l => some l
  | .tuple l => some l
  | .str z => some (z.cps.toList.map fun c => .str ⟨#[c]⟩)
  | _ => none
def mIt (a : M Sl) : M (List PyData) := fun m => (mDat a m).bind fun d m1 => match itemsOf d with
  | some l => .ok l m1
  | none => .bad
section
variable {X : Cx} {W : WX} {pos : Pos} {tg a b c e : Expr} {es rest : List Expr}
abbrev PIt (X : Cx) (W : WX) (tg e : Expr) (m : M (List PyData)) : Prop := PI X tg e (tR X.KK X.mg W (fun _ T H J items => Wk X.KK T H J items) m)
theorem PI.imp {e : Expr} {t t' : TI} (h : PI X tg e t) (f : ∀ σ H Q, t' σ H Q → t σ H Q) : PI X tg e t' := ⟨fun pins s σ H Q I q => h.run pins s σ H Q I (f σ H Q q)⟩
def iSeq (K : Kx) (te : TE) : TI := fun σ H R => te σ H fun x H1 => (∃ a, x = .ref a ∧ (∃ xs, SqL K H1 a xs) ∧ R (Itl K a) H1) ∨ (∃ a, x = .ref a ∧ (∃ xs, SqT K H1 a xs) ∧ R (Itt K a) H1) ∨ ∃ z, x = .str z ∧ R (Its z) H1
theorem pi_seq {te : TE} (hl : PE X e te) : PI X tg e (iSeq X.KK te) := by
  refine ⟨fun pins s σ H R I h => ?_⟩
  refine thn (hl.run pins s σ H _ I h) fun v s1 ⟨x, H1, I1, r1, q1⟩ => ?_
  rcases q1 with ⟨a, e, ⟨xs, hq⟩, q⟩ | ⟨a, e, ⟨xs, hq⟩, q⟩ | ⟨x, ex, q⟩
  · subst e
    cases r1
    obtain ⟨its, rv, p, hz⟩ := I1.list hq
    refine wpAny_pyIter_list p.isList ?_
    refine ⟨s1.heap.objs.size, [s1.heap.objs.size], _, _, H1, rfl, I1.kept (t' := s1.toks) fun b o e => Heap.get?_push_of_some _ e, turn_list a _, ⟨_, Heap.get?_push_size _ rfl, rfl, rfl⟩, fun b hb => ?_, q⟩
    have e : b = s1.heap.objs.size := by simpa using hb
    subst e
    exact I1.fpOk (Nat.le_refl _) (I1.hok.fresh (Nat.le_refl _))
  · subst e
    cases r1
    obtain ⟨its, rv, p, hz⟩ := I1.tuple hq
    refine wpAny_pyIter_tuple (show s1.heap.IsTuple a its.toArray from p) ?_
    refine ⟨s1.heap.objs.size, [s1.heap.objs.size], _, _, H1, rfl, I1.kept (t' := s1.toks) fun b o e => Heap.get?_push_of_some _ e, turn_tuple a _, ⟨_, Heap.get?_push_size _ rfl, rfl, rfl⟩, fun b hb => ?_, q⟩
    have e : b = s1.heap.objs.size := by simpa using hb
    subst e
    exact I1.fpOk (Nat.le_refl _) (I1.hok.fresh (Nat.le_refl _))
  · subst ex
    obtain ⟨t, rfl⟩ := r1
    cases ha : x.cps.all (· < 128)
    · exact wpAny_pyIter_wide ha (pi_one (tk := s1.toks) I1 _ (turn_str _ x t "str_iterator" (.inr rfl)) ⟨_, Heap.get?_push_size _ rfl, rfl, rfl⟩ q)
    · exact wpAny_pyIter_ascii ha (pi_one (tk := s1.toks) I1 _ (turn_str _ x t "str_ascii_iterator" (.inl rfl)) ⟨_, Heap.get?_push_size _ rfl, rfl, rfl⟩ q)
theorem wk_list {K : Kx} {T : Addr → Prop} {H : Hp} {a : Addr} {xs : List V} {ds : List PyData} (hq : QL K T H a xs) (hd : DDs K T H xs ds) : Wk K T H (Itl K a) ds := by
  refine ⟨_, _, hd.length ▸ walk_list (xs := xs), fun T' H' f => (hq.fr f).sq, fun T' H' i x H'' f _ hi y => ?_⟩
  obtain ⟨rfl, y⟩ := y
  obtain ⟨d, e, dd⟩ := (hd.to f).getV y
  exact ⟨fun _ _ h => h, d, e, dd⟩
theorem wk_tup {K : Kx} {T : Addr → Prop} {H : Hp} {a : Addr} {xs : List V} {ds : List PyData} (hq : QT K T H a xs) (hd : DDs K T H xs ds) : Wk K T H (Itt K a) ds := by
  refine ⟨_, _, hd.length ▸ walk_tup (xs := xs), fun T' H' f => (hq.fr f).sq, fun T' H' i x H'' f _ hi y => ?_⟩
  obtain ⟨rfl, y⟩ := y
  obtain ⟨d, e, dd⟩ := (hd.to f).getV y
  exact ⟨fun _ _ h => h, d, e, dd⟩
theorem wk_str {K : Kx} {T : Addr → Prop} {H : Hp} {z : Str} : Wk K T H (Its z) (z.cps.toList.map fun c => .str ⟨#[c]⟩) := by
  refine ⟨fun _ => True, fun i H v H' => H' = H ∧ ∃ c, z.cps[i]? = some c ∧ v = .str ⟨#[c]⟩, ?_, fun _ _ _ => trivial, fun T' H' i x H'' f _ hi y => ?_⟩
  · have e : (z.cps.toList.map fun c => PyData.str ⟨#[c]⟩).length = z.cps.size := by simp
    rw [e]
    exact walk_str
  · obtain ⟨rfl, ch, e, rfl⟩ := y
    refine ⟨fun _ _ h => h, .str ⟨#[ch]⟩, ?_, .str _⟩
    rw [List.getElem?_map, Array.getElem?_toList, e]
    rfl
theorem Rn.dat {K : Kx} {mg : Str → Option Value} {β γ : Type} {R : Wd → (Addr → Prop) → Hp → β → γ → Prop} {x : M Sl} {k : PyData → Me → Res γ} {σ : L2.St} {H : Hp} {Q : β → Hp → Prop} {Q' : V → Hp → Prop} {w : Wd} {T : Addr → Prop} {me : Me} (ok : w.Ok) (lv : Lv K mg w T σ H me) (h : Rn K mg W R σ w T H me Q ((mDat x me).bind k))
    (f : ∀ (T1 : Addr → Prop) (me1 : Me) (v : V) (d : PyData) (H1 : Hp), Stp w σ T H me T1 H1 me1 → Lv K mg w T1 σ H1 me1 → DD K T1 H1 v d → Rn K mg W R σ w T1 H1 me1 Q (k d me1) → Q' v H1) : tP K mg W x σ H Q' := by
  have e : (mDat x me).bind k = (x me).bind fun s m' => (match s with | .dat d => Res.ok d m' | _ => .bad : Res PyData).bind k := by
    unfold mDat
    cases x me <;> rfl
  rw [e] at h
  refine Rn.seq ok lv h fun T1 me1 v s H1 s1 lv1 p1 q1 => ?_
  cases s with
  | dat d => exact f T1 me1 v d H1 s1 lv1 p1 q1
  | own l => exact q1.elim
  | src => exact q1.elim
  | exc x => exact q1.elim
  | obj x => exact q1.elim
theorem pit_seq {m : M Sl} (h : PP X W e m) : PIt X W tg e (mIt m) := by
  refine PI.imp (pi_seq h) fun σ H Q q => ?_
  obtain ⟨w, T, me, ok, lv, q⟩ := q
  refine Rn.dat ok lv q fun T1 me1 v d H1 s1 lv1 p1 q1 => ?_
  cases hi : itemsOf d with
  | none => rw [hi] at q1; exact q1.elim
  | some l =>
    rw [hi] at q1
    unfold itemsOf at hi
    split at hi
    · cases hi
      cases p1 with
      | lst hq hd => exact .inl ⟨_, rfl, ⟨_, hq.sq⟩, q1 _ H1 T1 (Stp.refl _ _ _ _ _) lv1 (wk_list hq hd)⟩
    · cases hi
      cases p1 with
      | tup hq hd => exact .inr (.inl ⟨_, rfl, ⟨_, hq.sq⟩, q1 _ H1 T1 (Stp.refl _ _ _ _ _) lv1 (wk_tup hq hd)⟩)
    · cases hi
      cases p1
      exact .inr (.inr ⟨_, rfl, q1 _ H1 T1 (Stp.refl _ _ _ _ _) lv1 wk_str⟩)
    · cases hi
/-- range(n), range(a, b) -/
def rngD (lo : Int) (n : Nat) : List PyData := (List.range n).map fun i => .int (lo + (i : Nat))
def inB (n : Int) : Prop := -(2 ^ 62) ≤ n ∧ n < 2 ^ 62
noncomputable instance inBd (n : Int) : Decidable (inB n) := Classical.propDecidable _
noncomputable def mRng1 (a : M (List PyData)) : M (List PyData) := fun m => (a m).bind fun ds m1 => match ds with
  | [.int n] => if inB n then .ok (rngD 0 n.toNat) m1 else .bad
  | _ => .bad
noncomputable def mRng2 (a : M (List PyData)) : M (List PyData) := fun m => (a m).bind fun ds m1 => match ds with
  | [.int i, .int j] => if inB i ∧ inB j then .ok (rngD i (j - i).toNat) m1 else .bad
  | _ => .bad
theorem wk_range {K : Kx} {T : Addr → Prop} {H : Hp} {lo : Int} {n : Nat} : Wk K T H (Itr lo n) (rngD lo n) := by
  have e : (rngD lo n).length = n := by simp [rngD]
  refine ⟨fun _ => True, YFn fun i => .int (lo + i), by rw [e]; exact walk_range, fun _ _ _ => trivial, fun T' H' i x H'' f _ hi y => ?_⟩
  obtain ⟨rfl, rfl⟩ := y
  rw [e] at hi
  exact ⟨fun _ _ h => h, .int (lo + i), by simp [rngD, hi], .int _⟩
theorem pit_range1 {m : M (List PyData)} {p : Pos} (hg : Gl X "range") (hm : X.mg "range" = none) (ha : PBs X W [a] m) (hs : starEach [a] X.env = [(false, eval a X.env)] := by rfl) : PIt X W tg (.Call (.Name "range" p) [a] [] pos) (mRng1 m) := by
  refine PI.imp (pi_range1 hg hm ha hs) fun σ H Q q => ?_
  obtain ⟨w, T, me, ok, lv, q⟩ := q
  refine Rn.seq ok lv q fun T1 me1 v d H1 s1 lv1 p1 q1 => ?_
  split at q1
  · split at q1
    · rename_i hn
      obtain ⟨u, rfl, h⟩ := p1.one
      exact ⟨_, by rw [h.int], hn.1, hn.2, q1 _ H1 T1 (Stp.refl _ _ _ _ _) lv1 wk_range⟩
    · exact q1.elim
  · exact q1.elim
theorem pit_range2 {m : M (List PyData)} {p : Pos} (hg : Gl X "range") (hm : X.mg "range" = none) (ha : PBs X W [a, b] m) (hs : starEach [a, b] X.env = [(false, eval a X.env), (false, eval b X.env)] := by rfl) (hs2 : starEach [b] X.env = [(false, eval b X.env)] := by rfl) : PIt X W tg (.Call (.Name "range" p) [a, b] [] pos) (mRng2 m) := by
  refine PI.imp (pi_range2 hg hm ha hs hs2) fun σ H Q q => ?_
  obtain ⟨w, T, me, ok, lv, q⟩ := q
  refine Rn.seq ok lv q fun T1 me1 v d H1 s1 lv1 p1 q1 => ?_
  split at q1
  · split at q1
    · rename_i hn
      obtain ⟨u, u2, rfl, h, h2⟩ := p1.two
      exact ⟨_, _, by rw [h.int, h2.int], ⟨hn.1.1, hn.1.2, hn.2.1, hn.2.2⟩, q1 _ H1 T1 (Stp.refl _ _ _ _ _) lv1 wk_range⟩
    · exact q1.elim
  · exact q1.elim
end
/-! ### targets -/
inductive Tg
  | nm (i : Nat)
  | tp (l : List Nat)
def Tg.slots : Tg → List Nat
  | .nm i => [i]
  | .tp l => l
def setE (env : List (Option Sl)) : List Nat → List PyData → List (Option Sl)
  | i :: r, d :: ds => setE (env.set i (some (.dat d))) r ds
  | _, _ => env
def mTgt (t : Tg) (d : PyData) (m : Me) : Option Me := match t with
  | .nm i => if i < m.env.length then some { m with env := m.env.set i (some (.dat d)) } else none
  | .tp l => match d with
    | .tuple ds => if ds.length = l.length ∧ (l.all fun i => decide (i < m.env.length)) = true then some { m with env := setE m.env l ds } else none
    | .list ds => if ds.length = l.length ∧ (l.all fun i => decide (i < m.env.length)) = true then some { m with env := setE m.env l ds } else none
    | _ => none
def setV (σ : L2.St) : List Nat → List V → L2.St
  | i :: r, v :: vs => setV (σ.set i (some v)) r vs
  | _, _ => σ
theorem Lv.set {K : Kx} {mg : Str → Option Value} {w : Wd} {T : Addr → Prop} {σ : L2.St} {H : Hp} {me : Me} (lv : Lv K mg w T σ H me) {i : Nat} {v : V} {s : Sl} (hi : i < me.env.length) (h : SlotOk K mg w T H (some (some v)) s) (hs : ∀ l, s ≠ .own l) : Lv K mg w T (σ.set i (some v)) H { me with env := me.env.set i (some s) } := by
  have hi' : i < σ.length := by rw [lv.len]; exact hi
  refine ⟨lv.t0, lv.al, lv.ex, lv.src, by rw [List.length_set, List.length_set]; exact lv.len, fun j s' hj => ?_, fun j k l l' p h1 h2 e1 e2 => ?_⟩
  · by_cases hji : j = i
    · subst hji
      rw [List.getElem?_set_self hi] at hj
      cases hj
      rw [List.getElem?_set_self hi']
      exact h
    · rw [List.getElem?_set_ne (Ne.symm hji)] at hj ⊢
      exact lv.slot j s' hj
  · have g : ∀ (j : Nat) (l : PyData), (me.env.set i (some s))[j]? = some (some (Sl.own l)) → j ≠ i ∧ me.env[j]? = some (some (Sl.own l)) := fun j l hj => by
      by_cases hji : j = i
      · subst hji; rw [List.getElem?_set_self hi] at hj
        exact absurd (Option.some.inj (Option.some.inj hj)) (hs l)
      · rw [List.getElem?_set_ne (Ne.symm hji)] at hj; exact ⟨hji, hj⟩
    obtain ⟨a1, a2⟩ := g j l h1
    obtain ⟨b1, b2⟩ := g k l' h2
    have e1' : σ[j]? = some (some (V.ref p)) := by rw [← e1]; exact (List.getElem?_set_ne (Ne.symm a1)).symm
    have e2' : σ[k]? = some (some (V.ref p)) := by rw [← e2]; exact (List.getElem?_set_ne (Ne.symm b1)).symm
    exact lv.sep j k l l' p a2 b2 e1' e2'
theorem Lv.setAll {K : Kx} {mg : Str → Option Value} {w : Wd} {T : Addr → Prop} {H : Hp} {st : SrcSt} : ∀ (l : List Nat) (ds : List PyData) (vs : List V) (σ : L2.St) (env : List (Option Sl)), DDs K T H vs ds → (∀ i ∈ l, i < env.length) → Lv K mg w T σ H ⟨env, st⟩ → Lv K mg w T (setV σ l vs) H ⟨setE env l ds, st⟩
  | [], ds, vs, σ, env, hd, hl, lv => by
    unfold setV setE; exact lv
  | i :: r, ds, vs, σ, env, hd, hl, lv => by
    cases hd with
    | nil => unfold setV setE; exact lv
    | @cons v vs d ds a b =>
      unfold setV setE
      refine Lv.setAll r ds vs _ _ b (fun j hj => by rw [List.length_set]; exact hl j (List.mem_cons_of_mem _ hj)) ?_
      exact lv.set (me := ⟨env, st⟩) (hl i List.mem_cons_self) ⟨v, rfl, a⟩ (fun _ => nofun)
/-- what a target does with a value -/
def tTg (K : Kx) (mg : Str → Option Value) (t : Tg) : TG := fun v σ H Q => ∃ (w : Wd) (T : Addr → Prop) (me me' : Me) (d : PyData), Lv K mg w T σ H me ∧ DD K T H v d ∧ mTgt t d me = some me' ∧
  ∀ vs, Lv K mg w T (setV σ t.slots vs) H me' → Q (setV σ t.slots vs) H
section
variable {X : Cx} {W : WX} {pos : Pos} {tg a b c e : Expr} {es rest : List Expr}
theorem PG.imp {e : Expr} {t t' : TG} (h : PG X e t) (f : ∀ v σ H Q, t' v σ H Q → t v σ H Q) : PG X e t' := ⟨fun pins s σ H v u Q I r q => h.run pins s σ H v u Q I r (f v σ H Q q)⟩
theorem PG.or {e : Expr} {t t' : TG} (h : PG X e t) (h' : PG X e t') : PG X e (fun v σ H Q => t v σ H Q ∨ t' v σ H Q) := ⟨fun pins s σ H v u Q I r q => q.elim (fun q => h.run pins s σ H v u Q I r q) fun q => h'.run pins s σ H v u Q I r q⟩
theorem ptg_nm {i : Nat} {x : Str} (hN : X.N.Nodup) (hi : X.N[i]? = some x) (hx : Loc X.env.scope x) (hf : X.fn x = true ∨ X.env.scope.names.lookup x = some .local := by first | exact .inl rfl | exact .inr rfl | assumption) : PG X (.Name x pos) (tTg X.KK X.mg (.nm i)) := by
  refine PG.imp (pg_name hN hi hx hf) fun v σ H Q q => ?_
  obtain ⟨w, T, me, me', d, lv, dd, e, q⟩ := q
  unfold mTgt at e
  simp only at e
  split at e
  · rename_i hlt
    cases e
    exact q [v] (lv.set hlt ⟨v, rfl, dd⟩ (fun _ => nofun))
  · cases e
/-- names, one behind the other -/
inductive PTn (X : Cx) : List Expr → List Nat → Prop
  | nil : PTn X [] []
  | cons {i : Nat} {x : Str} {pos : Pos} {es : List Expr} {l : List Nat} (hi : X.N[i]? = some x) (hx : Loc X.env.scope x) (hf : X.fn x = true ∨ X.env.scope.names.lookup x = some .local) (hs : (assignEach (.Name x pos :: es) X.env).map (·.2) = assign (.Name x pos) X.env :: (assignEach es X.env).map (·.2)) (r : PTn X es l) : PTn X (.Name x pos :: es) (i :: l)
def gAll : List Nat → TGs
  | [] => gNil
  | i :: r => gCons (gName i) (gAll r)
theorem PTn.pgs (hN : X.N.Nodup) {es : List Expr} {l : List Nat} (h : PTn X es l) : PGs X es (gAll l) := by
  induction h with
  | nil => exact pgs_nil
  | cons hi hx hf hs r ih => exact pgs_cons (pg_name hN hi hx hf) ih hs
theorem gAll_ok : ∀ (l : List Nat) (vs : List V) (σ : L2.St) (H : Hp) (Q : L2.St → Hp → Prop), vs.length = l.length → Q (setV σ l vs) H → gAll l vs σ H Q
  | [], [], σ, H, Q, _, q => ⟨rfl, q⟩
  | i :: r, v :: vs, σ, H, Q, h, q => ⟨v, vs, rfl, gAll_ok r vs (σ.set i (some v)) H Q (by simpa using h) q⟩
theorem ptg_tp {es : List Expr} {k : Nat} {l : List Nat} (hc : X.calm = true) (hN : X.N.Nodup) (h : PTn X es l) (hn : (assignEach es X.env).length = l.length := by rfl) (hst : (assignEach es X.env).findIdx? (·.1) = none := by rfl) : PG X (.Tuple es k pos) (tTg X.KK X.mg (.tp l)) := by
  refine PG.imp (PG.or (pg_tup hc (h.pgs hN) hn hst) (pg_unl hc (h.pgs hN) hn hst)) fun v σ H Q q => ?_
  obtain ⟨w, T, me, me', d, lv, dd, e, q⟩ := q
  unfold mTgt at e
  simp only at e
  split at e
  · split at e
    · rename_i ds hlt
      cases e
      cases dd with
      | @tup a xs ds hq hd =>
        refine .inl ⟨a, xs, rfl, hq.sq, by rw [hd.length]; exact hlt.1, gAll_ok _ _ _ _ _ (by rw [hd.length]; exact hlt.1) (q xs ?_)⟩
        exact Lv.setAll l ds xs σ me.env hd (fun i hi => of_decide_eq_true (List.all_eq_true.mp hlt.2 i hi)) lv
    · cases e
  · split at e
    · rename_i ds hlt
      cases e
      cases dd with
      | @lst a xs ds hq hd =>
        refine .inr ⟨a, xs, rfl, hq.sq, by rw [hd.length]; exact hlt.1, gAll_ok _ _ _ _ _ (by rw [hd.length]; exact hlt.1) (q xs ?_)⟩
        exact Lv.setAll l ds xs σ me.env hd (fun i hi => of_decide_eq_true (List.all_eq_true.mp hlt.2 i hi)) lv
    · cases e
  · cases e
end
end PL
namespace PL
open PySem PySem.Spec PyProof.Rows L2
/-! ### comprehensions -/
def wipeE (env : List (Option Sl)) : List Nat → List (Option Sl)
  | [] => env
  | v :: vs => (wipeE env vs).set v none
def wipeM (vs : List Nat) (m : Me) : Me := ⟨wipeE m.env vs, m.st⟩
def noX {α : Type} (r : Res α) : Res α := match r with
  | .exc _ _ => .bad
  | r => r
def compL (vs : List Nat) (t : Tg) (c : M Bool) (e : M Sl) : List PyData → M (List PyData)
  | [] => fun m => .ok [] m
  | d :: r => fun m => match mTgt t d m with
    | none => .bad
    | some m0 => (noX (c m0)).bind fun b m1 => if b = true then (noX (mDat e m1)).bind fun z m2 => (compL vs t c e r (wipeM vs m2)).bind fun zs m3 => .ok (z :: zs) m3 else compL vs t c e r (wipeM vs m1)
def mComp (vs : List Nat) (t : Tg) (it : M (List PyData)) (c : M Bool) (e : M Sl) : M PyData := fun m => (it m).bind fun l m1 => if l.length ≤ 1000000 then (noX (compL vs t c e l (wipeM vs m1))).bind fun zs m2 => .ok (.list zs) m2 else .bad
theorem wipeE_length (env : List (Option Sl)) : ∀ vs : List Nat, (wipeE env vs).length = env.length
  | [] => rfl
  | v :: vs => by unfold wipeE; rw [List.length_set, wipeE_length env vs]
theorem wipeE_get {env : List (Option Sl)} {i : Nat} {s : Sl} : ∀ {vs : List Nat}, (wipeE env vs)[i]? = some (some s) → env[i]? = some (some s) ∧ i ∉ vs
  | [], h => ⟨h, by simp⟩
  | v :: vs, h => by
    unfold wipeE at h
    by_cases hi : v = i
    · subst hi
      by_cases hv : v < (wipeE env vs).length
      · rw [List.getElem?_set_self hv] at h; cases h
      · rw [List.getElem?_eq_none (by simpa using hv)] at h; cases h
    · rw [List.getElem?_set_ne hi] at h
      obtain ⟨h1, h2⟩ := wipeE_get h
      exact ⟨h1, by simp only [List.mem_cons, not_or]; exact ⟨fun e => hi e.symm, h2⟩⟩
theorem wipe_out {σ : L2.St} {i : Nat} : ∀ {vs : List Nat}, i ∉ vs → (wipe σ vs)[i]? = σ[i]?
  | [], _ => rfl
  | v :: vs, h => by
    unfold wipe
    rw [List.getElem?_set_ne (fun e => h (by rw [e]; exact List.mem_cons_self))]
    exact wipe_out fun z => h (List.mem_cons_of_mem _ z)
theorem wipe_in {σ : L2.St} {i : Nat} : ∀ {vs : List Nat}, i ∈ vs → i < σ.length → (wipe σ vs)[i]? = some none
  | v :: vs, h, hl => by
    unfold wipe
    by_cases hi : v = i
    · subst hi
      rw [List.getElem?_set_self (by rw [wipe_length]; exact hl)]
    · rw [List.getElem?_set_ne hi]
      exact wipe_in ((List.mem_cons.mp h).elim (fun e => absurd e.symm hi) id) hl
theorem setV_length : ∀ (l : List Nat) (vs : List V) (σ : L2.St), (setV σ l vs).length = σ.length
  | [], _, _ => by unfold setV; rfl
  | _ :: _, [], _ => by unfold setV; rfl
  | i :: r, v :: vs, σ => by unfold setV; rw [setV_length r vs, List.length_set]
theorem setV_out : ∀ (l : List Nat) (vs : List V) (σ : L2.St) {i : Nat}, i ∉ l → (setV σ l vs)[i]? = σ[i]?
  | [], _, _, _, _ => by unfold setV; rfl
  | _ :: _, [], _, _, _ => by unfold setV; rfl
  | j :: r, v :: vs, σ, i, h => by
    unfold setV
    rw [setV_out r vs _ (fun z => h (List.mem_cons_of_mem _ z)), List.getElem?_set_ne (fun e => h (by rw [e]; exact List.mem_cons_self))]
theorem wipe_eq {σ σ' : L2.St} {vs : List Nat} (hl : σ'.length = σ.length) (h : ∀ i, i ∉ vs → σ'[i]? = σ[i]?) : wipe σ' vs = wipe σ vs := by
  apply List.ext_getElem?
  intro i
  by_cases hi : i ∈ vs
  · by_cases hk : i < σ.length
    · rw [wipe_in hi hk, wipe_in hi (by omega)]
    · rw [List.getElem?_eq_none (by rw [wipe_length]; omega), List.getElem?_eq_none (by rw [wipe_length]; omega)]
  · rw [wipe_out hi, wipe_out hi]
    exact h i hi
theorem setE_length : ∀ (l : List Nat) (ds : List PyData) (env : List (Option Sl)), (setE env l ds).length = env.length
  | [], _, _ => by unfold setE; rfl
  | _ :: _, [], _ => by unfold setE; rfl
  | i :: r, d :: ds, env => by unfold setE; rw [setE_length r ds, List.length_set]
theorem setE_own : ∀ (l : List Nat) (ds : List PyData) (env : List (Option Sl)), ds.length = l.length → ∀ (i : Nat) (x : PyData), (setE env l ds)[i]? = some (some (Sl.own x)) → env[i]? = some (some (Sl.own x)) ∧ i ∉ l
  | [], _, _, _, i, x, h => by unfold setE at h; exact ⟨h, by simp⟩
  | j :: r, [], _, hl, _, _, _ => by simp at hl
  | j :: r, d :: ds, env, hl, i, x, h => by
    unfold setE at h
    obtain ⟨h1, h2⟩ := setE_own r ds _ (by simpa using hl) i x h
    have hij : j ≠ i := fun e => by
      subst e
      by_cases hj : j < env.length
      · rw [List.getElem?_set_self hj] at h1; cases h1
      · rw [List.getElem?_eq_none (by simpa using hj)] at h1; cases h1
    rw [List.getElem?_set_ne hij] at h1
    exact ⟨h1, by simp only [List.mem_cons, not_or]; exact ⟨fun e => hij e.symm, h2⟩⟩
theorem mTgt_shape {t : Tg} {d : PyData} {m m' : Me} (h : mTgt t d m = some m') : m'.env.length = m.env.length ∧ m'.st = m.st ∧ ∀ (i : Nat) (x : PyData), m'.env[i]? = some (some (Sl.own x)) → m.env[i]? = some (some (Sl.own x)) ∧ i ∉ t.slots := by
  unfold mTgt at h
  cases t with
  | nm j =>
    simp only at h
    split at h
    · rename_i hj
      cases h
      refine ⟨by simp, rfl, fun i x e => ?_⟩
      have hij : j ≠ i := fun q => by
        subst q
        rw [List.getElem?_set_self hj] at e; cases e
      rw [List.getElem?_set_ne hij] at e
      exact ⟨e, by unfold Tg.slots; simp only [List.mem_singleton]; exact fun q => hij q.symm⟩
    · cases h
  | tp l =>
    simp only at h
    split at h
    · split at h
      · rename_i ds hq
        cases h
        exact ⟨setE_length _ _ _, rfl, fun i x e => setE_own l ds _ hq.1 i x e⟩
      · cases h
    · split at h
      · rename_i ds hq
        cases h
        exact ⟨setE_length _ _ _, rfl, fun i x e => setE_own l ds _ hq.1 i x e⟩
      · cases h
    · cases h
/-- slots forgotten, or taken back -/
theorem Lv.forget {K : Kx} {mg : Str → Option Value} {w : Wd} {T : Addr → Prop} {σ σ' : L2.St} {H : Hp} {me : Me} {vs : List Nat} (lv : Lv K mg w T σ H me) (hl : σ'.length = σ.length) (h : ∀ i, i ∉ vs → σ'[i]? = σ[i]?) : Lv K mg w T σ' H (wipeM vs me) := by
  refine ⟨lv.t0, lv.al, lv.ex, lv.src, by show σ'.length = (wipeE me.env vs).length; rw [wipeE_length, hl]; exact lv.len, fun i s hi => ?_, fun i j l l' p h1 h2 e1 e2 => ?_⟩
  · obtain ⟨a, b⟩ := wipeE_get hi
    rw [h i b]
    exact lv.slot i s a
  · obtain ⟨a1, b1⟩ := wipeE_get h1
    obtain ⟨a2, b2⟩ := wipeE_get h2
    rw [h i b1] at e1
    rw [h j b2] at e2
    exact lv.sep i j l l' p a1 a2 e1 e2
/-- an object of our own that is no slot's is changed -/
theorem Lv.mut {K : Kx} {mg : Str → Option Value} {w : Wd} {T : Addr → Prop} {σ : L2.St} {H : Hp} {me : Me} {p : Addr} {o : HO} (ok : w.Ok) (lv : Lv K mg w T σ H me) (tp : T p) (h0 : w.H0 p = none) (no : ∀ (i : Nat) (l' : PyData), me.env[i]? = some (some (Sl.own l')) → σ[i]? ≠ some (some (V.ref p))) : Lv K mg w T σ (upd H p o) me := by
  have ns : ¬ InS w.sc p := fun z => ok.al p (ok.s0 p z) h0
  have fr : Fr T H T (upd H p o) := fun b u n h => ⟨by rw [upd_ne (fun e => n (by rw [e]; exact tp))]; exact h, n⟩
  refine ⟨lv.t0, fun b hb => ?_, fun b u n h => ?_, lv.src.to fr fun x o hx z => by rw [upd_ne (fun (e : x = p) => ns (e ▸ hx))]; exact z, lv.len, fun i s hi => (lv.slot i s hi).fr fr fun q vs l es eq hq tq => ⟨tq, ?_⟩, lv.sep⟩
  · by_cases hbp : b = p
    · subst hbp; rw [upd_same]; exact nofun
    · rw [upd_ne hbp]; exact lv.al b hb
  · rw [upd_ne (fun e => by subst e; rw [h0] at h; cases h)]
    exact lv.ex b u n h
  · subst es
    rw [upd_ne (fun e => by subst e; exact no i l hi eq)]
    exact hq
structure CI (K : Kx) (mg : Str → Option Value) (w : Wd) (vs : List Nat) (σw : L2.St) (Tb : Addr → Prop) (Hb : Hp) (mb : Me) (D : Addr) (T : Addr → Prop) (H : Hp) (m : Me) (acc : List V) (done : List PyData) : Prop where
  lv : Lv K mg w T σw H m
  wp : ∀ (i : Nat) (s : Sl), m.env[i]? = some (some s) → i ∉ vs
  dT : T D
  hD : H D = some (.lst acc)
  dd : DDs K T H acc done
  fr : Fr Tb Hb T H
  ex : ∀ b o, ¬ InS w.sc b → b ≠ D → Hb b = some o → H b = some o
  sub : ∀ b, T b → Tb b
  fz : ∀ b, Tb b → ¬ T b → ∃ (i : Nat) (l : PyData), mb.env[i]? = some (some (Sl.own l)) ∧ σw[i]? = some (some (V.ref b))
  mono : ∀ (i : Nat) (l : PyData), m.env[i]? = some (some (Sl.own l)) → mb.env[i]? = some (some (Sl.own l))
theorem noX_ok {α : Type} {r : Res α} {a : α} {m : Me} (h : noX r = .ok a m) : r = .ok a m := by
  cases r with
  | ok a m => exact h
  | exc x m => cases h
  | bad => cases h
theorem bind_ok {α β : Type} {r : Res α} {k : α → Me → Res β} {b : β} {m' : Me} (h : r.bind k = .ok b m') : ∃ a m, r = .ok a m ∧ k a m = .ok b m' := by
  cases r with
  | ok a m => exact ⟨a, m, rfl, h⟩
  | exc x m => cases h
  | bad => cases h
theorem mDat_ok {a : M Sl} {m m' : Me} {d : PyData} (h : mDat a m = .ok d m') : a m = .ok (.dat d) m' := by
  unfold mDat at h
  obtain ⟨s, m1, e, h⟩ := bind_ok h
  cases s with
  | dat d => cases h; exact e
  | own l => cases h
  | src => cases h
  | exc x => cases h
  | obj x => cases h
section
variable {X : Cx} {W : WX} {pos : Pos} {tg a b c e : Expr} {es rest : List Expr}
theorem CI.turn {K : Kx} {mg : Str → Option Value} {w : Wd} {σ : L2.St} {vs : List Nat} {Tb : Addr → Prop} {Hb : Hp} {mb : Me} {D : Addr} {T : Addr → Prop} {H H' : Hp} {m mF : Me} {acc : List V} {done zs : List PyData} {t : Tg} {cn : M Bool} {el : M Sl} {d : PyData} {r : List PyData} {x : V}
    (ok : w.Ok) (hsub : ∀ i ∈ t.slots, i ∈ vs) (h0 : w.H0 D = none) (noD : ∀ (i : Nat) (l' : PyData), mb.env[i]? = some (some (Sl.own l')) → (wipe σ vs)[i]? ≠ some (some (V.ref D)))
    (I : CI K mg w vs (wipe σ vs) Tb Hb mb D T H m acc done) (sm : Same0 H H') (dx : DD K T H' x d) (hz : acc.length < sizeLine) (run : compL vs t cn el (d :: r) m = .ok zs mF)
    (Pn : Hp → Prop) (hP : ∀ T2 H2 m2 acc2 done2 zs2, CI K mg w vs (wipe σ vs) Tb Hb mb D T2 H2 m2 acc2 done2 → compL vs t cn el r m2 = .ok zs2 mF → done2 ++ zs2 = done ++ zs → acc2.length ≤ acc.length + 1 → Pn H2) :
    tTg K mg t x (wipe σ vs) H' fun σ2 H2 => wipe σ2 vs = wipe σ vs ∧ tPt K mg W0 cn σ2 H2 fun b H3 =>
      if b = true then tP K mg W0 el σ2 H3 fun y H4 => ∃ acc, H4 D = some (.lst acc) ∧ acc.length < sizeLine ∧ Pn (upd H4 D (.lst (acc ++ [y]))) else Pn H3 := by
  unfold compL at run
  cases ht : mTgt t d m with
  | none => rw [ht] at run; cases run
  | some m0 =>
    rw [ht] at run
    obtain ⟨bl, m1, hc, run⟩ := bind_ok run
    have hc := noX_ok hc
    obtain ⟨hlen, hst, hown⟩ := mTgt_shape ht
    have ns : ¬ InS w.sc D := fun z => ok.al D (ok.s0 D z) h0
    refine ⟨w, T, m, m0, d, I.lv.same sm, dx, ht, fun us lv0 => ?_⟩
    have slen : (setV (L2.wipe σ vs) t.slots us).length = (L2.wipe σ vs).length := setV_length _ _ _
    have sout : ∀ i, i ∉ vs → (setV (L2.wipe σ vs) t.slots us)[i]? = (L2.wipe σ vs)[i]? := fun i hi => setV_out _ _ _ fun z => hi (hsub i z)
    have soutS : ∀ i, i ∉ t.slots → (setV (L2.wipe σ vs) t.slots us)[i]? = (L2.wipe σ vs)[i]? := fun i hi => setV_out _ _ _ hi
    have wback : ∀ i, i ∉ vs → (L2.wipe σ vs)[i]? = (setV (L2.wipe σ vs) t.slots us)[i]? := fun i hi => (sout i hi).symm
    have weq : L2.wipe (setV (L2.wipe σ vs) t.slots us) vs = L2.wipe σ vs := by
      rw [wipe_eq (σ := L2.wipe σ vs) slen sout]
      exact wipe_eq (wipe_length _ _) fun i hi => PL.wipe_out hi
    refine ⟨weq, ?_⟩
    refine ⟨w, T, m0, ok, lv0, ?_⟩
    rw [hc]
    intro v H3 T3 s3 lv3 ev
    subst ev
    have D3 : H3 D = some (.lst acc) := s3.ex D _ ns (sm _ _ I.hD)
    have ownBack : ∀ (mm : Me), (∀ (i : Nat) (l : PyData), mm.env[i]? = some (some (Sl.own l)) → m0.env[i]? = some (some (Sl.own l))) → ∀ (i : Nat) (l : PyData), mm.env[i]? = some (some (Sl.own l)) → mb.env[i]? = some (some (Sl.own l)) ∧ i ∉ t.slots := fun mm q i l hi => by
      obtain ⟨a1, a2⟩ := hown i l (q i l hi)
      exact ⟨I.mono i l a1, a2⟩
    have keepD : ∀ (T' : Addr → Prop), (∀ b, T b → ¬ T' b → ∃ (i : Nat) (l : PyData), m0.env[i]? = some (some (Sl.own l)) ∧ (setV (L2.wipe σ vs) t.slots us)[i]? = some (some (V.ref b))) → T' D := fun T' q => Classical.byContradiction fun n => by
      obtain ⟨i, l, e1, e2⟩ := q D I.dT n
      obtain ⟨a1, a2⟩ := ownBack m0 (fun _ _ z => z) i l e1
      rw [soutS i a2] at e2
      exact noD i l a1 e2
    have fzAll : ∀ (T' : Addr → Prop), (∀ b, T b → ¬ T' b → ∃ (i : Nat) (l : PyData), m0.env[i]? = some (some (Sl.own l)) ∧ (setV (L2.wipe σ vs) t.slots us)[i]? = some (some (V.ref b))) → ∀ b, Tb b → ¬ T' b → ∃ (i : Nat) (l : PyData), mb.env[i]? = some (some (Sl.own l)) ∧ (L2.wipe σ vs)[i]? = some (some (V.ref b)) := fun T' q b hb n => by
      by_cases hT : T b
      · obtain ⟨i, l, e1, e2⟩ := q b hT n
        obtain ⟨a1, a2⟩ := ownBack m0 (fun _ _ z => z) i l e1
        rw [soutS i a2] at e2
        exact ⟨i, l, a1, e2⟩
      · exact I.fz b hb hT
    have fr0 : Fr Tb Hb T H' := I.fr.trans sm.fr
    cases v with
    | false =>
      rw [if_neg Bool.false_ne_true] at run ⊢
      have lv4 := (lv3.forget (σ' := L2.wipe σ vs) (vs := vs) slen.symm wback)
      refine hP T3 H3 (wipeM vs m1) acc done zs ⟨lv4, fun i s h => (wipeE_get h).2, keepD T3 s3.fz, D3, (I.dd.to sm.fr).to (s3.fr ok lv0.t0), fr0.trans (s3.fr ok lv0.t0), fun b o nb nD h => s3.ex b o nb (sm b o (I.ex b o nb nD h)), fun b h => I.sub b (s3.sub b h), fzAll T3 s3.fz, fun i l h => ?_⟩ run rfl (Nat.le_succ _)
      obtain ⟨h1, h2⟩ := wipeE_get h
      exact (ownBack m1 s3.mono i l h1).1
    | true =>
      rw [if_pos rfl] at run ⊢
      obtain ⟨z, m2, hel, run⟩ := bind_ok run
      have hel := noX_ok hel
      obtain ⟨zs2, mF2, hrec, e5⟩ := bind_ok run
      cases e5
      have q4 : ∀ (y : V) (T4 : Addr → Prop) (H4 : Hp), Stp w (setV (L2.wipe σ vs) t.slots us) T3 H3 m1 T4 H4 m2 → Lv K mg w T4 (setV (L2.wipe σ vs) t.slots us) H4 m2 → DD K T4 H4 y z → ∃ acc, H4 D = some (.lst acc) ∧ acc.length < sizeLine ∧ Pn (upd H4 D (.lst (acc ++ [y]))) := fun y T4 H4 s4 lv4 dy => by
        have s34 := s3.trans s4
        have D4 : H4 D = some (.lst acc) := s4.ex D _ ns D3
        have tD4 : T4 D := keepD T4 s34.fz
        have lv5 := (lv4.forget (σ' := L2.wipe σ vs) (vs := vs) slen.symm wback)
        have mono5 : ∀ (i : Nat) (l : PyData), (wipeM vs m2).env[i]? = some (some (Sl.own l)) → mb.env[i]? = some (some (Sl.own l)) := fun i l h => (ownBack m2 s34.mono i l (wipeE_get h).1).1
        have lv6 := lv5.mut (o := .lst (acc ++ [y])) ok tD4 h0 fun i l h => noD i l (mono5 i l h)
        have frU : Fr T4 H4 T4 (L2.upd H4 D (.lst (acc ++ [y]))) := fun b u n h => ⟨by rw [upd_ne (fun e => n (by rw [e]; exact tD4))]; exact h, n⟩
        have frA : Fr T H' T4 H4 := s34.fr ok lv0.t0
        refine ⟨acc, D4, hz, hP T4 _ (wipeM vs m2) (acc ++ [y]) (done ++ [z]) zs2 ⟨lv6, fun i s h => (wipeE_get h).2, tD4, upd_same, DDs.append (DDs.cons (dy.to frU) .nil) (((I.dd.to sm.fr).to frA).to frU), (fr0.trans frA).trans frU, fun b o nb nD h => ?_, fun b h => I.sub b (s34.sub b h), fzAll T4 s34.fz, mono5⟩ hrec (by simp) (by simp)⟩
        rw [upd_ne nD]
        exact s34.ex b o nb (sm b o (I.ex b o nb nD h))
      refine ⟨w, T3, m1, ok, lv3, ?_⟩
      rw [mDat_ok hel]
      exact fun y H4 T4 s4 lv4 dy => q4 y T4 H4 s4 lv4 dy
/-- the list comprehension as a new list -/
theorem tLc_ok {vs : List Nat} {t : Tg} {it : M (List PyData)} {cn : M Bool} {el : M Sl} {σ : L2.St} {H : Hp} {Q : VK} (hsub : ∀ i ∈ t.slots, i ∈ vs) (q : tN X.KK X.mg W (mComp vs t it cn el) σ H Q) :
    tLc (tR X.KK X.mg W (fun _ T H J items => Wk X.KK T H J items) it) (tTg X.KK X.mg t) (tPt X.KK X.mg W0 cn) (tP X.KK X.mg W0 el) vs σ H Q := by
  obtain ⟨w, T, me, ok, lv, q⟩ := q
  unfold mComp at q
  refine ⟨w, T, me, ok, lv, ?_⟩
  cases hm : it me with
  | bad => rw [hm] at q; exact q
  | exc x me1 => rw [hm] at q; exact q
  | ok l m1 =>
    rw [hm] at q
    simp only [Res.bind_ok] at q
    by_cases hl : l.length ≤ 1000000
    · rw [if_pos hl] at q
      intro J H1 T1 s1 lv1 wk D hD
      cases hrun : compL vs t cn el l (wipeM vs m1) with
      | bad => rw [hrun] at q; exact q.elim
      | exc x m2 => rw [hrun] at q; exact q.elim
      | ok zs mF =>
        rw [hrun] at q
        obtain ⟨f0, f1, f2⟩ := lv1.fresh ok hD
        obtain ⟨G, Y, wa, hG, hY⟩ := wk.ex
        have sout : ∀ i, i ∉ vs → (L2.wipe σ vs)[i]? = σ[i]? := fun i hi => PL.wipe_out hi
        have lvb : Lv X.KK X.mg w (fun b => T1 b ∨ b = D) (L2.wipe σ vs) (L2.upd H1 D (.lst [])) (wipeM vs m1) := (lv1.grow hD).forget (wipe_length _ _) sout
        have noD : ∀ (i : Nat) (l' : PyData), (wipeM vs m1).env[i]? = some (some (Sl.own l')) → (L2.wipe σ vs)[i]? ≠ some (some (V.ref D)) := fun i l' h e => by
          obtain ⟨a1, a2⟩ := wipeE_get h
          rw [sout i a2] at e
          exact lv1.noRef hD i l' a1 e
        have frb : Fr T1 H1 (fun b => T1 b ∨ b = D) (L2.upd H1 D (.lst [])) := fun b u n hu => ⟨Same0.new hD b u hu, fun z => z.elim n fun e => by subst e; rw [hD] at hu; cases hu⟩
        refine lc_it wa (fun i H' => ∃ (T' : Addr → Prop) (m' : Me) (acc : List V) (done zs' : List PyData), CI X.KK X.mg w vs (L2.wipe σ vs) (fun b => T1 b ∨ b = D) (L2.upd H1 D (.lst [])) (wipeM vs m1) D T' H' m' acc done ∧ compL vs t cn el (l.drop i) m' = .ok zs' mF ∧ done ++ zs' = zs ∧ acc.length ≤ i)
          ⟨_, _, [], [], zs, ⟨lvb, fun i s h => (wipeE_get h).2, .inr rfl, upd_same, .nil, Fr.refl _ _, fun _ _ _ _ h => h, fun _ h => h, fun _ a b => absurd a b, fun _ _ h => h⟩, by rw [List.drop_zero]; exact hrun, rfl, Nat.le_refl _⟩ (fun i H' _ p => ?_) (fun i x H' H'' hi p y => ?_) (fun H' p => ?_)
        · obtain ⟨T', m', acc, done, zs', I, _⟩ := p
          exact hG T' H' (frb.trans I.fr)
        · obtain ⟨T', m', acc, done, zs', I, run, ez, la⟩ := p
          obtain ⟨sm, d, ed, dx⟩ := hY T' H' i x H'' (frb.trans I.fr) I.lv.al hi y
          have hdrop : l.drop i = d :: l.drop (i + 1) := by
            rw [List.getElem?_eq_getElem hi] at ed
            rw [List.drop_eq_getElem_cons hi, Option.some.inj ed]
          rw [hdrop] at run
          have hz : acc.length < sizeLine := by
            have : i < 1000000 := by omega
            have e : sizeLine = 16777216 := sizeLine_eq
            omega
          refine CI.turn ok hsub f0 noD I sm dx hz run _ fun T2 H2 m2 acc2 done2 zs2 I2 run2 e2 l2 => ?_
          exact ⟨T2, m2, acc2, done2, zs2, I2, run2, e2.trans ez, by omega⟩
        · obtain ⟨T', m', acc, done, zs', I, run, ez, la⟩ := p
          have hd0 : l.drop l.length = [] := List.drop_length
          rw [hd0] at run
          cases run
          rw [List.append_nil] at ez
          subst ez
          have no2 : ∀ (i : Nat) (l' : PyData), mF.env[i]? = some (some (Sl.own l')) → σ[i]? ≠ some (some (V.ref D)) := fun i l' h e => by
            obtain ⟨a1, a2⟩ := wipeE_get (I.mono i l' h)
            exact lv1.noRef hD i l' a1 e
          have eT : (fun b => (T' b ∧ b ≠ D) ∨ b = D) = T' := funext fun b => propext ⟨fun z => z.elim (fun z => z.1) fun e => by rw [e]; exact I.dT, fun z => (Classical.em (b = D)).elim .inr fun n => .inl ⟨z, n⟩⟩
          have lvF : Lv X.KK X.mg w T' σ H' mF := by
            refine ⟨I.lv.t0, I.lv.al, I.lv.ex, I.lv.src, by rw [← I.lv.len, wipe_length], fun i s hi => ?_, fun i j l1 l2 p h1 h2 e1 e2 => ?_⟩
            · rw [← sout i (I.wp i s hi)]
              exact I.lv.slot i s hi
            · rw [← sout i (I.wp i _ h1)] at e1
              rw [← sout j (I.wp j _ h2)] at e2
              exact I.lv.sep i j l1 l2 p h1 h2 e1 e2
          have exAll : Ex w.sc H H' := s1.ex.trans fun b o nb h => I.ex b o nb (fun e => by subst e; rw [hD] at h; cases h) (Same0.new hD b o h)
          refine q D _ (fun b => T' b ∧ b ≠ D) H' ⟨⟨exAll, fun b h => s1.sub b ((I.sub b h.1).elim id fun e => absurd e h.2), fun b hb nb => ?_, fun i l' h => s1.mono i l' (wipeE_get (I.mono i l' h)).1⟩, by rw [eT]; exact lvF, I.hD, fun z => z.2 rfl, f0, ⟨_, rfl, by rw [eT]; exact I.dd⟩, no2, by rw [eT]; exact ((s1.fr ok lv.t0).trans frb).trans I.fr⟩
          by_cases h1 : T1 b
          · have nT' : ¬ T' b := fun z => nb ⟨z, fun e => f1 (by rw [← e]; exact h1)⟩
            obtain ⟨i, l', e1, e2⟩ := I.fz b (.inl h1) nT'
            obtain ⟨a1, a2⟩ := wipeE_get e1
            rw [sout i a2] at e2
            exact ⟨i, l', s1.mono i l' a1, e2⟩
          · exact s1.fz b hb h1
    · rw [if_neg hl] at q
      exact q.elim
theorem pn_lc {vs : List Nat} {t : Tg} {it : M (List PyData)} {cn : M Bool} {el : M Sl} {elt iter : Expr} {ifs : List Expr} {scope : Scope} {own : List (Str × Nat)} (hc : X.calm = true) (hN : X.N.Nodup) (hi : PIt X W tg iter it) (ok : BlkOk X.N X.env.scope scope own) (hv : own.map (·.2) = vs) (hsub : ∀ i ∈ t.slots, i ∈ vs)
    (hg : ∀ (s : Shared) (H : Hp) (C : Addr) (cl : List (Str × Addr)) (fp : List Addr), PG (X.blk s H scope (compEnvC scope cl C X.env) fp) tg (tTg X.KK X.mg t)) (ht : ∀ (s : Shared) (H : Hp) (C : Addr) (cl : List (Str × Addr)) (fp : List Addr), PTs (X.blk s H scope (compEnvC scope cl C X.env) fp) ifs (tPt X.KK X.mg W0 cn))
    (he : ∀ (s : Shared) (H : Hp) (C : Addr) (cl : List (Str × Addr)) (fp : List Addr), PE (X.blk s H scope (compEnvC scope cl C X.env) fp) elt (tP X.KK X.mg W0 el)) (hs : ∀ x, foldedSetIterable iter X.env x = pure x := by intro _; rfl) :
    PN X W (.ListComp elt [⟨tg, iter, ifs, 0⟩] scope pos) (mComp vs t it cn el) :=
  PE.imp (pe_lc hc hN hi ok hg ht he hs) fun σ H Q q => by rw [hv]; exact tLc_ok hsub q
def mYes : M Bool := fun m => .ok true m
theorem pts_yes {K : Kx} {mg : Str → Option Value} {Y : Cx} : PTs Y [] (tPt K mg W mYes) := ⟨fun pins s σ H Q I q => by
  obtain ⟨w, T, me, ok, lv, q⟩ := q
  exact pts_nil.run pins s σ H Q I (Rn.pure lv q rfl)⟩
theorem pts_if {K : Kx} {mg : Str → Option Value} {Y : Cx} {c : Expr} {m : M Bool} (h : PT Y c (tPt K mg W m)) : PTs Y [c] (tPt K mg W m) := pts_one h
end
end PL
namespace PL
open PySem PySem.Spec PyProof.Rows L2
/-! ### statements -/
def SRn (K : Kx) (mg : Str → Option Value) (W : WX) (D : Ends) (w : Wd) (T : Addr → Prop) (H : Hp) (r : Res Flow) : Prop := match r with
  | .ok .next me' => ∀ (σ' : L2.St) (H' : Hp) (T' : Addr → Prop), Fr T H T' H' → Lv K mg w T' σ' H' me' → D.nx σ' H'
  | .ok .brk me' => ∀ (σ' : L2.St) (H' : Hp) (T' : Addr → Prop), Fr T H T' H' → Lv K mg w T' σ' H' me' → D.bk σ' H'
  | .ok .cont me' => ∀ (σ' : L2.St) (H' : Hp) (T' : Addr → Prop), Fr T H T' H' → Lv K mg w T' σ' H' me' → D.ct σ' H'
  | .ok (.ret s) me' => ∀ (v : V) (H' : Hp), Ex w.sc w.H0 H' → SrcAt K (retT w.T0 v s) w.sc H' me'.st → RV K mg w.sc w.T0 w.H0 H' v s → D.rt v H'
  | .exc x me' => ∀ (c : Value) (dd : Option Addr) (σ' : L2.St) (H' : Hp) (T' : Addr → Prop), Fr T H T' H' → Lv K mg w T' σ' H' me' → XR K mg T' H' c dd x → W c dd σ' H'
  | .bad => False
def tS (K : Kx) (mg : Str → Option Value) (W : WX) (m : M Flow) : TS := fun D σ H => ∃ (w : Wd) (T : Addr → Prop) (me : Me), w.Ok ∧ Lv K mg w T σ H me ∧ SRn K mg W D w T H (m me)
theorem SRn.after {K : Kx} {mg : Str → Option Value} {W : WX} {D : Ends} {w : Wd} {T T1 : Addr → Prop} {H H1 : Hp} {r : Res Flow} (f : Fr T H T1 H1) (q : SRn K mg W D w T H r) : SRn K mg W D w T1 H1 r := by
  cases r with
  | bad => exact q
  | exc x m => exact fun c dd σ' H' T' fr lv xr => q c dd σ' H' T' (f.trans fr) lv xr
  | ok fl m =>
    cases fl with
    | next => exact fun σ' H' T' fr lv => q σ' H' T' (f.trans fr) lv
    | brk => exact fun σ' H' T' fr lv => q σ' H' T' (f.trans fr) lv
    | cont => exact fun σ' H' T' fr lv => q σ' H' T' (f.trans fr) lv
    | ret s => exact q
/-- first m, then the rest of a statement -/
theorem SRn.seq {α β : Type} {K : Kx} {mg : Str → Option Value} {W : WX} {P : Wd → (Addr → Prop) → Hp → β → α → Prop} {m : M α} {k : α → Me → Res Flow} {σ : L2.St} {H : Hp} {D : Ends} {Q' : β → Hp → Prop}
    {w : Wd} {T : Addr → Prop} {me : Me} (ok : w.Ok) (lv : Lv K mg w T σ H me) (h : SRn K mg W D w T H ((m me).bind k))
    (f : ∀ (T1 : Addr → Prop) (me1 : Me) (v : β) (x : α) (H1 : Hp), Stp w σ T H me T1 H1 me1 → Lv K mg w T1 σ H1 me1 → P w T1 H1 v x → SRn K mg W D w T1 H1 (k x me1) → Q' v H1) : tR K mg W P m σ H Q' := by
  refine ⟨w, T, me, ok, lv, ?_⟩
  cases hm : m me with
  | bad => rw [hm] at h; exact h
  | exc x me1 =>
    rw [hm] at h
    exact fun c dd H' T' fr lv' xr => h c dd σ H' T' fr lv' xr
  | ok x me1 =>
    rw [hm] at h
    simp only [Res.bind_ok] at h
    exact fun v H1 T1 s1 lv1 p1 => f T1 me1 v x H1 s1 lv1 p1 (h.after (s1.fr ok lv.t0))
theorem SRn.nx {K : Kx} {mg : Str → Option Value} {W : WX} {D : Ends} {w : Wd} {T : Addr → Prop} {σ : L2.St} {H : Hp} {me : Me} (lv : Lv K mg w T σ H me) (h : SRn K mg W D w T H (.ok .next me)) : D.nx σ H := h σ H T (Fr.refl _ _) lv

def mNext : M Flow := fun m => .ok .next m
def mBrk : M Flow := fun m => .ok .brk m
def mCont : M Flow := fun m => .ok .cont m
def mSeq (a b : M Flow) : M Flow := fun m => (a m).bind fun f m1 => match f with
  | .next => b m1
  | f => .ok f m1
def mIfS (c : M Bool) (a b : M Flow) : M Flow := fun m => (c m).bind fun x m1 => if x = true then a m1 else b m1
def putE (i : Nat) (s : Sl) (m : Me) : Option Me := match s with
  | .own _ => none
  | s => if i < m.env.length then some { m with env := m.env.set i (some s) } else none
def mSet (i : Nat) (e : M Sl) : M Flow := fun m => (e m).bind fun s m1 => match putE i s m1 with
  | some m2 => .ok .next m2
  | none => .bad
def mSetN (i : Nat) (e : M PyData) : M Flow := fun m => (e m).bind fun l m1 => if i < m1.env.length then .ok .next { m1 with env := m1.env.set i (some (.own l)) } else .bad
def mAsg (t : Tg) (e : M Sl) : M Flow := fun m => (mDat e m).bind fun d m1 => match mTgt t d m1 with
  | some m2 => .ok .next m2
  | none => .bad
def mDrop (e : M Sl) : M Flow := fun m => (e m).bind fun _ m1 => .ok .next m1
def mRet (e : M Sl) : M Flow := fun m => (e m).bind fun s m1 => .ok (.ret s) m1
def mRetN : M Flow := fun m => .ok (.ret (.dat .none)) m
def mRaise (x : Xn) : M Flow := fun m => .exc x m
def mApp (i : Nat) (e : M Sl) : M Flow := fun m => match m.env[i]? with
  | some (some (.own (.list _))) => (mDat e m).bind fun d m1 => match m1.env[i]? with
    | some (some (.own (.list l))) => if l.length < sizeLine then .ok .next { m1 with env := m1.env.set i (some (.own (.list (l ++ [d])))) } else .bad
    | _ => .bad
  | _ => .bad
def mAug (f : Int → Int → Int) (i : Nat) (e : M PyData) : M Flow := fun m => match m.env[i]? with
  | some (some (.dat (.int a))) => (e m).bind fun d m1 => match d with
    | .int b => .ok .next { m1 with env := m1.env.set i (some (.dat (.int (f a b)))) }
    | _ => .bad
  | _ => .bad
def forL (t : Tg) (b : M Flow) : List PyData → M Flow
  | [] => fun m => .ok .next m
  | d :: r => fun m => match mTgt t d m with
    | none => .bad
    | some m0 => (b m0).bind fun f m1 => match f with
      | .next => forL t b r m1
      | .cont => forL t b r m1
      | .brk => .ok .next m1
      | .ret s => .ok (.ret s) m1
def mFor (t : Tg) (it : M (List PyData)) (b : M Flow) : M Flow := fun m => (it m).bind fun l m1 => forL t b l m1
def whileN (c : M Bool) (b : M Flow) : Nat → M Flow
  | 0 => fun _ => .bad
  | n + 1 => fun m => (c m).bind fun k m1 => if k = true then (b m1).bind fun f m2 => match f with
      | .next => whileN c b n m2
      | .cont => whileN c b n m2
      | .brk => .ok .next m2
      | .ret s => .ok (.ret s) m2
    else .ok .next m1
section
variable {X : Cx} {W : WX} {pos : Pos} {tg a b c e : Expr} {es : List Expr} {st : Stmt} {rest body : List Stmt}
abbrev PPS (X : Cx) (W : WX) (s : Stmt) (m : M Flow) : Prop := PS X s (tS X.KK X.mg W m)
abbrev PPSs (X : Cx) (W : WX) (s : List Stmt) (m : M Flow) : Prop := PSs X s (tS X.KK X.mg W m)
theorem ppss_nil : PPSs X W [] mNext := PSs.imp pss_nil fun D σ H q => by
  obtain ⟨w, T, me, ok, lv, q⟩ := q
  exact q.nx lv
theorem ppss_one {m : M Flow} (h : PPS X W st m) : PPSs X W [st] m := pss_one h
theorem ppss_cons {m n : M Flow} (h : PPS X W st m) (hr : PPSs X W rest n) : PPSs X W (st :: rest) (mSeq m n) := by
  refine PSs.imp (pss_cons h hr) fun D σ H q => ?_
  obtain ⟨w, T, me, ok, lv, q⟩ := q
  refine ⟨w, T, me, ok, lv, ?_⟩
  unfold mSeq at q
  cases hm : m me with
  | bad => rw [hm] at q; exact q
  | exc x me1 => rw [hm] at q; exact q
  | ok f me1 =>
    rw [hm] at q
    simp only [Res.bind_ok] at q
    cases f with
    | next => exact fun σ' H' T' fr lv' => ⟨w, T', me1, ok, lv', q.after fr⟩
    | brk => exact q
    | cont => exact q
    | ret s => exact q
theorem pps_pass : PPS X W (.Pass pos) mNext := PS.imp ps_pass fun D σ H q => by
  obtain ⟨w, T, me, ok, lv, q⟩ := q
  exact q.nx lv
theorem pps_break : PPS X W (.Break pos) mBrk := PS.imp ps_break fun D σ H q => by
  obtain ⟨w, T, me, ok, lv, q⟩ := q
  exact q σ H T (Fr.refl _ _) lv
theorem pps_continue : PPS X W (.Continue pos) mCont := PS.imp ps_continue fun D σ H q => by
  obtain ⟨w, T, me, ok, lv, q⟩ := q
  exact q σ H T (Fr.refl _ _) lv
theorem pps_if {cn : M Bool} {m n : M Flow} {sa sb : List Stmt} (hc : PPt X W c cn) (ha : PPSs X W sa m) (hb : PPSs X W sb n) : PPS X W (.If c sa sb pos) (mIfS cn m n) := by
  refine PS.imp (ps_if hc ha hb) fun D σ H q => ?_
  obtain ⟨w, T, me, ok, lv, q⟩ := q
  refine SRn.seq ok lv q fun T1 me1 v x H1 s1 lv1 p1 q1 => ?_
  subst p1
  cases v with
  | true =>
    rw [if_pos rfl] at q1 ⊢
    exact ⟨w, T1, me1, ok, lv1, q1⟩
  | false =>
    rw [if_neg Bool.false_ne_true] at q1 ⊢
    exact ⟨w, T1, me1, ok, lv1, q1⟩
theorem putE_ok {K : Kx} {mg : Str → Option Value} {w : Wd} {T : Addr → Prop} {σ : L2.St} {H : Hp} {me me' : Me} {i : Nat} {v : V} {s : Sl} (lv : Lv K mg w T σ H me) (sv : SV K mg w.sc T H v s) (e : putE i s me = some me') : Lv K mg w T (σ.set i (some v)) H me' := by
  unfold putE at e
  split at e
  · exact sv.elim
  · split at e
    · rename_i hno hi
      cases e
      refine lv.set hi ?_ (fun l z => hno l z)
      cases s with
      | own l => exact sv.elim
      | dat d => exact ⟨v, rfl, sv⟩
      | src => exact ⟨v, rfl, sv⟩
      | exc x => exact ⟨v, rfl, sv⟩
      | obj x => exact ⟨v, rfl, sv⟩
    · cases e
theorem pps_set {m : M Sl} {i : Nat} {x : Str} {pos' : Pos} (hN : X.N.Nodup) (he : PP X W e m) (hi : X.N[i]? = some x := by rfl) (hx : Loc X.env.scope x := by first | exact .inl rfl | exact .inr rfl) (hs : swapsWith e (some (.Name x pos')) pos.line X.env = pure false := by rfl)
    (hf : X.fn x = true ∨ X.env.scope.names.lookup x = some .local := by first | exact .inl rfl | exact .inr rfl) : PPS X W (.Assign [.Name x pos'] e pos) (mSet i m) := by
  refine PS.imp (ps_set hN hi hx he hs hf) fun D σ H q => ?_
  obtain ⟨w, T, me, ok, lv, q⟩ := q
  refine SRn.seq ok lv q fun T1 me1 v s H1 s1 lv1 p1 q1 => ?_
  cases hp : putE i s me1 with
  | none => rw [hp] at q1; exact q1.elim
  | some m2 =>
    rw [hp] at q1
    exact q1.nx (putE_ok lv1 p1 hp)
theorem Lv.setOwn {K : Kx} {mg : Str → Option Value} {w : Wd} {T : Addr → Prop} {σ : L2.St} {H : Hp} {me : Me} (lv : Lv K mg w T σ H me) {i : Nat} {p : Addr} {vs : HO} {l : PyData} (hi : i < me.env.length) (tp : T p) (h0 : w.H0 p = none) (hp : H p = some vs) (hd : OwnC K T H p vs l)
    (no : ∀ (j : Nat) (l' : PyData), j ≠ i → me.env[j]? = some (some (Sl.own l')) → σ[j]? ≠ some (some (V.ref p))) : Lv K mg w T (σ.set i (some (.ref p))) H { me with env := me.env.set i (some (.own l)) } := by
  have hi' : i < σ.length := by rw [lv.len]; exact hi
  refine ⟨lv.t0, lv.al, lv.ex, lv.src, by rw [List.length_set, List.length_set]; exact lv.len, fun j s' hj => ?_, fun j k l1 l2 q h1 h2 e1 e2 => ?_⟩
  · by_cases hji : j = i
    · subst hji
      rw [List.getElem?_set_self hi] at hj
      cases hj
      rw [List.getElem?_set_self hi']
      exact ⟨p, vs, rfl, tp, h0, hp, hd⟩
    · rw [List.getElem?_set_ne (Ne.symm hji)] at hj ⊢
      exact lv.slot j s' hj
  · by_cases hj : j = i
    · subst hj
      by_cases hk : k = j
      · exact hk.symm
      · rw [List.getElem?_set_self hi'] at e1
        cases e1
        rw [List.getElem?_set_ne (Ne.symm hk)] at h2 e2
        exact absurd e2 (no k l2 hk h2)
    · by_cases hk : k = i
      · subst hk
        rw [List.getElem?_set_self hi'] at e2
        cases e2
        rw [List.getElem?_set_ne (Ne.symm hj)] at h1 e1
        exact absurd e1 (no j l1 hj h1)
      · rw [List.getElem?_set_ne (Ne.symm hj)] at h1 e1
        rw [List.getElem?_set_ne (Ne.symm hk)] at h2 e2
        exact lv.sep j k l1 l2 q h1 h2 e1 e2
theorem tN_set {m : M PyData} {i : Nat} {D : Ends} {σ : L2.St} {H : Hp} (q : tS X.KK X.mg W (mSetN i m) D σ H) : tAsg (tN X.KK X.mg W m) (gName i) D σ H := by
  obtain ⟨w, T, me, ok, lv, q⟩ := q
  refine ⟨w, T, me, ok, lv, ?_⟩
  unfold mSetN at q
  cases hm : m me with
  | bad => rw [hm] at q; exact q
  | exc x me1 =>
    rw [hm] at q
    exact fun c dd H' T' fr lv' xr => q c dd σ H' T' fr lv' xr
  | ok l me1 =>
    rw [hm] at q
    simp only [Res.bind_ok] at q
    intro p vs T' H' n
    by_cases hi : i < me1.env.length
    · rw [if_pos hi] at q
      exact q _ H' _ n.new (n.lv.setOwn hi (.inr rfl) n.h0 n.here n.dd fun j l' _ h => n.no j l' h)
    · rw [if_neg hi] at q
      exact q.elim
theorem pps_setN {m : M PyData} {i : Nat} {x : Str} {pos' : Pos} (hN : X.N.Nodup) (he : PN X W e m) (hi : X.N[i]? = some x := by rfl) (hx : Loc X.env.scope x := by first | exact .inl rfl | exact .inr rfl) (hs : swapsWith e (some (.Name x pos')) pos.line X.env = pure false := by rfl)
    (hf : X.fn x = true ∨ X.env.scope.names.lookup x = some .local := by first | exact .inl rfl | exact .inr rfl) : PPS X W (.Assign [.Name x pos'] e pos) (mSetN i m) :=
  PS.imp (ps_set hN hi hx he hs hf) fun _ _ _ q => tN_set q
theorem pps_setLc {i : Nat} {y : Str} {py : Pos} {vs : List Nat} {t : Tg} {it : M (List PyData)} {cn : M Bool} {el : M Sl} {elt iter : Expr} {ifs : List Expr} {scope : Scope} {own : List (Str × Nat)} {pos spos : Pos} (hc : X.calm = true) (hN : X.N.Nodup) (hi : PIt X W tg iter it) (ok : BlkOk X.N X.env.scope scope own) (hv : own.map (·.2) = vs) (hsub : ∀ i ∈ t.slots, i ∈ vs)
    (hg : ∀ (s : Shared) (H : Hp) (C : Addr) (cl : List (Str × Addr)) (fp : List Addr), PG (X.blk s H scope (compEnvC scope cl C X.env) fp) tg (tTg X.KK X.mg t)) (ht : ∀ (s : Shared) (H : Hp) (C : Addr) (cl : List (Str × Addr)) (fp : List Addr), PTs (X.blk s H scope (compEnvC scope cl C X.env) fp) ifs (tPt X.KK X.mg W0 cn))
    (he : ∀ (s : Shared) (H : Hp) (C : Addr) (cl : List (Str × Addr)) (fp : List Addr), PE (X.blk s H scope (compEnvC scope cl C X.env) fp) elt (tP X.KK X.mg W0 el)) (hy : X.N[i]? = some y) (hyl : X.env.scope.names.lookup y = some .local)
    (hsw : swapsWith (.ListComp elt [⟨tg, iter, ifs, 0⟩] scope pos) (some (.Name y py)) spos.line X.env = pure true) (hs : ∀ x, foldedSetIterable iter X.env x = pure x := by intro _; rfl) :
    PPS X W (.Assign [.Name y py] (.ListComp elt [⟨tg, iter, ifs, 0⟩] scope pos) spos) (mSetN i (mComp vs t it cn el)) :=
  PS.imp (ps_setLc hc hN hy hyl hsw hi ok hg ht he hs) fun D σ H q => by
    rw [hv]
    obtain ⟨w, T, me, ok, lv, q⟩ := q
    refine tLc_ok (W := W) (X := X) hsub ?_
    exact tN_set (X := X) (W := W) ⟨w, T, me, ok, lv, q⟩
theorem pps_asg {m : M Sl} {t : Tg} (he : PP X W e m) (hg : PG X tg (tTg X.KK X.mg t)) (hs : swapsWithSole [tg] e pos.line X.env = pure false := by rfl) (hw : swappedStores [tg] e X.env = pure none := by rfl) (h1 : (assignEach [tg] X.env).map (·.2) = [assign tg X.env] := by rfl) : PPS X W (.Assign [tg] e pos) (mAsg t m) := by
  refine PS.imp (ps_asg he hg hs hw h1) fun D σ H q => ?_
  obtain ⟨w, T, me, ok, lv, q⟩ := q
  have q' : tP X.KK X.mg W m σ H (fun x H1 => tTg X.KK X.mg t x σ H1 D.nx) := by
    refine ⟨w, T, me, ok, lv, ?_⟩
    unfold mAsg at q
    cases hm : m me with
    | bad => unfold mDat at q; rw [hm] at q; exact q
    | exc x me1 =>
      unfold mDat at q; rw [hm] at q
      exact fun c dd H' T' fr lv' xr => q c dd σ H' T' fr lv' xr
    | ok s me1 =>
      unfold mDat at q; rw [hm] at q
      simp only [Res.bind_ok] at q
      intro v H1 T1 s1 lv1 p1
      cases s with
      | own l => exact q.elim
      | src => exact q.elim
      | exc x => exact q.elim
      | obj x => exact q.elim
      | dat d =>
        simp only [Res.bind_ok] at q
        cases ht : mTgt t d me1 with
        | none => rw [ht] at q; exact q.elim
        | some m2 =>
          rw [ht] at q
          exact ⟨w, T1, me1, m2, d, lv1, p1, ht, fun vs lv2 => q _ H1 T1 (s1.fr ok lv.t0) lv2⟩
  exact q'
theorem pps_expr {m : M Sl} (he : PP X W e m) (hs : swapsWith e none pos.line X.env = pure false := by rfl) : PPS X W (.Expr e pos) (mDrop m) := by
  refine PS.imp (ps_expr he hs) fun D σ H q => ?_
  obtain ⟨w, T, me, ok, lv, q⟩ := q
  exact SRn.seq ok lv q fun T1 me1 v s H1 s1 lv1 p1 q1 => q1.nx lv1
theorem pps_ret {m : M Sl} (he : PP X W e m) : PPS X W (.Return (some e) pos) (mRet m) := by
  refine PS.imp (ps_ret he) fun D σ H q => ?_
  obtain ⟨w, T, me, ok, lv, q⟩ := q
  exact SRn.seq ok lv q fun T1 me1 v s H1 s1 lv1 p1 q1 => q1 v H1 lv1.ex (lv1.src.ret lv1.t0 p1) (RV.of (SV.fr (Fr.weak lv1.t0) p1))
theorem pps_retN : PPS X W (.Return none pos) mRetN := by
  refine PS.imp ps_retN fun D σ H q => ?_
  obtain ⟨w, T, me, ok, lv, q⟩ := q
  exact q .non H lv.ex (lv.src.weak lv.t0) .non
theorem pps_doc {x : Str} {j : Nat} {pos' : Pos} : PPS X W (.Expr (.Constant (.str x) j pos) pos') mNext := PS.imp ps_doc fun D σ H q => by
  obtain ⟨w, T, me, ok, lv, q⟩ := q
  exact q.nx lv
theorem pps_for {t : Tg} {it : M (List PyData)} {m : M Flow} {iter : Expr} (hp : PassesOwn (model X.prog X.w) X.A X.env X.xe) (hc : X.calm = true) (hi : PIt X W tg iter it) (hg : PG X tg (tTg X.KK X.mg t)) (hb : PPSs X W body m) (hs : ∀ x, foldedSetIterable iter X.env x = pure x := by intro _; rfl) : PPS X W (.For tg iter body [] pos) (mFor t it m) := by
  refine PS.imp (ps_for hp hc hi hg hb hs) fun D σ H q => ?_
  obtain ⟨w, T, me, ok, lv, q⟩ := q
  refine SRn.seq ok lv q fun T1 me1 J l H1 s1 lv1 wk q1 => ?_
  obtain ⟨G, Y, wa, hG, hY⟩ := wk.ex
  refine for_it wa (fun i σ' H' => ∃ (T' : Addr → Prop) (m' : Me), Fr T1 H1 T' H' ∧ Lv X.KK X.mg w T' σ' H' m' ∧ SRn X.KK X.mg W D w T' H' (forL t m (l.drop i) m')) ⟨T1, me1, Fr.refl _ _, lv1, by rw [List.drop_zero]; exact q1⟩ (fun i σ' H' _ p => ?_) (fun i x σ' H' H'' hi p y => ?_) (fun σ' H' p => ?_)
  · obtain ⟨T', m', fr, _⟩ := p
    exact hG T' H' fr
  · obtain ⟨T', m', fr, lv', q'⟩ := p
    obtain ⟨sm, d, ed, dx⟩ := hY T' H' i x H'' fr lv'.al hi y
    have hdrop : l.drop i = d :: l.drop (i + 1) := by
      rw [List.getElem?_eq_getElem hi] at ed
      rw [List.drop_eq_getElem_cons hi, Option.some.inj ed]
    rw [hdrop] at q'
    unfold forL at q'
    cases ht : mTgt t d m' with
    | none => rw [ht] at q'; exact q'.elim
    | some m0 =>
      rw [ht] at q'
      refine ⟨w, T', m', m0, d, lv'.same sm, dx, ht, fun vs lv0 => ⟨w, T', m0, ok, lv0, ?_⟩⟩
      simp only at q'
      have q2 := q'.after sm.fr
      cases hm : m m0 with
      | bad => rw [hm] at q2; exact q2
      | exc z m1 => rw [hm] at q2; exact q2
      | ok f m1 =>
        rw [hm] at q2
        simp only [Res.bind_ok] at q2
        cases f with
        | next => exact fun σ3 H3 T3 fr3 lv3 => ⟨T3, m1, (fr.trans sm.fr).trans fr3, lv3, q2.after fr3⟩
        | cont => exact fun σ3 H3 T3 fr3 lv3 => ⟨T3, m1, (fr.trans sm.fr).trans fr3, lv3, q2.after fr3⟩
        | brk => exact q2
        | ret s => exact q2
  · obtain ⟨T', m', fr, lv', q'⟩ := p
    rw [List.drop_length] at q'
    exact q'.nx lv'
theorem pps_while {cn : M Bool} {m : M Flow} (n : Nat) (hp : PassesOwn (model X.prog X.w) X.A X.env X.xe) (hc : PPt X W c cn) (hb : PPSs X W body m) : PPS X W (.While c body [] pos) (whileN cn m n) := by
  refine PS.imp (ps_while hp hc hb) fun D σ H q => ?_
  obtain ⟨w, T, me, ok, lv, q⟩ := q
  refine ⟨fun n σ' H' => ∃ (T' : Addr → Prop) (m' : Me), Fr T H T' H' ∧ Lv X.KK X.mg w T' σ' H' m' ∧ SRn X.KK X.mg W D w T' H' (whileN cn m n m'), ⟨n, T, me, Fr.refl _ _, lv, q⟩, fun n σ' H' p => ?_⟩
  obtain ⟨T', m', fr, lv', q'⟩ := p
  cases n with
  | zero => exact q'.elim
  | succ n =>
    unfold whileN at q'
    refine SRn.seq ok lv' q' fun T1 me1 v x H1 s1 lv1 p1 q1 => ?_
    subst p1
    cases v with
    | false =>
      rw [if_neg Bool.false_ne_true] at q1 ⊢
      exact q1.nx lv1
    | true =>
      rw [if_pos rfl] at q1 ⊢
      refine ⟨fun σ2 H2 => ∃ (T' : Addr → Prop) (m' : Me), Fr T H T' H2 ∧ Lv X.KK X.mg w T' σ2 H2 m' ∧ SRn X.KK X.mg W D w T' H2 (whileN cn m n m'), fun σ2 H2 p2 => ⟨n, Nat.lt_succ_self n, p2⟩, w, T1, me1, ok, lv1, ?_⟩
      cases hm : m me1 with
      | bad => rw [hm] at q1; exact q1
      | exc z m1 => rw [hm] at q1; exact q1
      | ok f m1 =>
        rw [hm] at q1
        simp only [Res.bind_ok] at q1
        have fr1 := fr.trans (s1.fr ok lv'.t0)
        cases f with
        | next => exact fun σ3 H3 T3 fr3 lv3 => ⟨T3, m1, fr1.trans fr3, lv3, q1.after fr3⟩
        | cont => exact fun σ3 H3 T3 fr3 lv3 => ⟨T3, m1, fr1.trans fr3, lv3, q1.after fr3⟩
        | brk => exact q1
        | ret s => exact q1
theorem pps_aug {op : Operator} {f : Int → Int → Int} {m : M PyData} {i : Nat} {x : Str} {pos' : Pos} (hN : X.N.Nodup) (he : PB X W e m) (ho : PIp X op (ipI f)) (hi : X.N[i]? = some x := by rfl) (hx : Loc X.env.scope x := by first | exact .inl rfl | exact .inr rfl) (hf : X.fn x = true ∨ X.env.scope.names.lookup x = some .local := by first | exact .inl rfl | exact .inr rfl) :
    PPS X W (.AugAssign (.Name x pos') op e pos) (mAug f i m) := by
  refine PS.imp (ps_aug hN hi hx he ho hf) fun D σ H q => ?_
  obtain ⟨w, T, me, ok, lv, q⟩ := q
  unfold mAug at q
  split at q
  · rename_i z hz
    obtain ⟨v, ev, sv⟩ := lv.get hz (fun _ => nofun)
    refine ⟨v, ev, ?_⟩
    refine SRn.seq ok lv q fun T1 me1 u d H1 s1 lv1 p1 q1 => ?_
    split at q1
    · have hlt : i < me1.env.length := by
        rw [← lv1.len, lv.len]
        exact (List.getElem?_eq_some_iff.mp hz).1
      cases sv
      exact ⟨_, _, rfl, p1.int, q1.nx (lv1.set hlt (s := .dat (.int _)) ⟨_, rfl, .int _⟩ (fun _ z => nomatch z))⟩
    · exact q1.elim
  · exact q.elim
theorem pps_append {m : M Sl} {i : Nat} {x : Str} {p1 p2 p3 : Pos} (he : PP X W e m) (hN : X.N[i]? = some x := by rfl) (hv : Vis X.env.scope x := by first | exact Or.inl rfl | exact Or.inr (Or.inl rfl) | exact Or.inr (Or.inr rfl)) (hd : (x == ("__debug__" : Str)) = false := by decide) (hcd : (x == ("__classdict__" : Str)) = false := by decide)
    (hbase : attributeBase (.Name x p1) "append" X.env (eval (.Name x p1) X.env) = eval (.Name x p1) X.env := by rfl)
    (hfew : ((backTo p3 (starEach [e] X.env)).all (fun x => !x.1) && (backToKw p3 (keywordEach [] X.env)).all (fun x => x.1.isSome) && decide ([e].length + ([] : List Keyword).length + (if ([] : List Keyword).isEmpty then 0 else 1) < 30)) = true := by rfl)
    (hline : (p2.endLine == p3.line) = true := by rfl) (hs : starEach [e] X.env = (false, eval e X.env) :: starEach [] X.env := by rfl) (hpl : (backTo p3 (starEach [] X.env)).any (·.1) = false := by rfl)
    (hs2 : swapsWith (.Call (.Attribute (.Name x p1) "append" p2) [e] [] p3) none pos.line X.env = pure false := by rfl) : PPS X W (.Expr (.Call (.Attribute (.Name x p1) "append" p2) [e] [] p3) pos) (mApp i m) := by
  refine PS.imp (ps_expr (pe_bm PySem.F.plainAttrs_list PySem.F.slot_list_append PySem.F.type_list_append mt_append (pe_var hN hv hd hcd) (pa_cons he pa_nil hs) hbase hfew hline hs hpl) hs2) fun D σ H q => ?_
  obtain ⟨w, T, me, ok, lv, q⟩ := q
  unfold mApp at q
  split at q
  · rename_i l0 hz
    obtain ⟨p, _, ep, tp, h0, hp, vs0, rfl, hd0⟩ := lv.slot i _ hz
    refine ⟨.ref p, ep, .inl ⟨rfl, vs0, .inl (.inl hp)⟩, ?_⟩
    have ns : ¬ InS w.sc p := fun z => ok.al p (ok.s0 p z) h0
    refine ⟨w, T, me, ok, lv, ?_⟩
    unfold mDat at q
    cases hm : m me with
    | bad => rw [hm] at q; exact q
    | exc x me1 =>
      rw [hm] at q
      exact fun c dd H' T' fr lv' xr => q c dd σ H' T' fr lv' xr
    | ok s me1 =>
      rw [hm] at q
      simp only [Res.bind_ok] at q
      intro v H1 T1 s1 lv1 p1
      cases s with
      | own l => exact q.elim
      | src => exact q.elim
      | exc x => exact q.elim
      | obj x => exact q.elim
      | dat d =>
        simp only [Res.bind_ok] at q
        split at q
        · rename_i l hz1
          split at q
          · rename_i hlen
            obtain ⟨p', _, ep', tp', h0', hp', vs, rfl, hd'⟩ := lv1.slot i _ hz1
            rw [ep] at ep'; cases ep'
            refine ⟨p, vs, v, rfl, rfl, hp', by rw [hd'.length]; exact hlen, ?_⟩
            have frU : Fr T1 H1 T1 (L2.upd H1 p (.lst (vs ++ [v]))) := fun b u n h => ⟨by rw [upd_ne (fun e => n (by rw [e]; exact tp'))]; exact h, n⟩
            have hlt : i < me1.env.length := (List.getElem?_eq_some_iff.mp hz1).1
            -- the slot is given up, the list turned, the slot taken again
            obtain ⟨_, T2, _, s2, lv2, _⟩ := lv1.freeze ok hz1
            have key : Lv X.KK X.mg w T1 σ (L2.upd H1 p (.lst (vs ++ [v]))) { me1 with env := me1.env.set i (some (.own (.list (l ++ [d])))) } := by
              refine ⟨lv1.t0, fun b hb => ?_, fun b u n h => ?_, lv1.src.to frU fun x o hx z => by rw [upd_ne (fun (e : x = p) => ns (e ▸ hx))]; exact z, by rw [List.length_set]; exact lv1.len, fun j s' hj => ?_, fun j k l1 l2 q h1 h2 e1 e2 => ?_⟩
              · by_cases hbp : b = p
                · subst hbp; rw [upd_same]; exact nofun
                · rw [upd_ne hbp]; exact lv1.al b hb
              · rw [upd_ne (fun e => by subst e; rw [h0'] at h; cases h)]
                exact lv1.ex b u n h
              · by_cases hji : j = i
                · subst hji
                  rw [List.getElem?_set_self hlt] at hj
                  cases hj
                  exact ⟨p, _, ep, tp', h0', upd_same, _, rfl, DDs.append (DDs.cons (DD.to p1 frU) .nil) (hd'.to frU)⟩
                · rw [List.getElem?_set_ne (Ne.symm hji)] at hj
                  refine (lv1.slot j s' hj).fr frU fun q vs' l' es eq hq tq => ⟨tq, ?_⟩
                  subst es
                  rw [upd_ne (fun e => by subst e; exact hji (lv1.sep j i l' _ q hj hz1 eq ep))]
                  exact hq
              · have g : ∀ (j : Nat) (l' : PyData), (me1.env.set i (some (Sl.own (.list (l ++ [d])))))[j]? = some (some (Sl.own l')) → ∃ l'', me1.env[j]? = some (some (Sl.own l'')) := fun j l' hj => by
                  by_cases hji : j = i
                  · subst hji; exact ⟨_, hz1⟩
                  · rw [List.getElem?_set_ne (Ne.symm hji)] at hj; exact ⟨l', hj⟩
                obtain ⟨m1, g1⟩ := g j l1 h1
                obtain ⟨m2, g2⟩ := g k l2 h2
                exact lv1.sep j k m1 m2 q g1 g2 e1 e2
            exact q σ _ T1 ((s1.fr ok lv.t0).trans frU) key
          · exact q.elim
        · exact q.elim
  · exact q.elim
end
/-! ### a def's contract -/
def callOf (n : Nat) (body : M Flow) (args : List Sl) (st : SrcSt) : CRes := match body ⟨args.map some ++ List.replicate (n - args.length) none, st⟩ with
  | .ok .next m => .ok (.dat .none) m.st
  | .ok (.ret s) m => .ok s m.st
  | .ok _ _ => .bad
  | .exc x m => .exc x m.st
  | .bad => .bad
theorem SVs.get {K : Kx} {mg : Str → Option Value} {sc : Sc} {T : Addr → Prop} {H : Hp} {vs : List V} {ss : List Sl} (h : SVs K mg sc T H vs ss) : ∀ {i : Nat} {s : Sl}, ss[i]? = some s → ∃ v, vs[i]? = some v ∧ SV K mg sc T H v s := by
  induction h with
  | nil => intro i s e; simp at e
  | @cons v vs s ss a r ih =>
    intro i s' e
    cases i with
    | zero => exact ⟨v, rfl, (Option.some.inj e) ▸ a⟩
    | succ i => exact ih (by simpa using e)
theorem start_slot {args : List Sl} {n i : Nat} {s : Sl} (h : (args.map some ++ List.replicate n none)[i]? = some (some s)) : args[i]? = some s := by
  by_cases hi : i < args.length
  · rw [List.getElem?_append_left (by simpa using hi), List.getElem?_map] at h
    cases q : args[i]? with
    | none => rw [q] at h; cases h
    | some z => rw [q] at h; exact Option.some.inj h
  · rw [List.getElem?_append_right (by simpa using hi)] at h
    rw [List.getElem?_replicate] at h
    split at h <;> cases h
theorem okP {P : Program} {w : World} {K : PySem.W.Frag} {mg : Str → Option Value} {base : Heap} {x qual : Str} {st : Stmt} {f : Addr} {fd : FuncData} {N ps : List Str} {k n : Nat} {body : M Flow} (F : Fun K x qual st f fd) (S : FnScope N ps (defScope st)) (hn : ps.length = n) (hle : n ≤ N.length)
    (hb : ∀ (cdv : Value) (A : Around) (outer : List Env) (s : Shared) (H : Hp) (E : XK), Room k (A.deeper (envOfC qual (defScope st) s.heap.objs.size f cdv)) →
      PSs (cxOf (L2.CX P w) P w K mg base N qual (defScope st) f cdv A outer s H E) (defBody st) (tS ⟨K, P, w⟩ mg (fun c d _ H => E c d H) body)) : FnOk P w K mg base (L2.CX P w) (k + 1) f fd ps (spP ⟨K, P, w⟩ mg n (callOf N.length body)) := by
  refine F.okX S (fun vs H Q E h => ?_) (fun cdv A outer s H vs Q E hr h => ⟨_, hb cdv A outer s H E hr, ?_⟩)
  · obtain ⟨_, _, _, _, h, _⟩ := h
    rw [h, hn]
  · obtain ⟨sc, T, args, sst, hl, hs, al, sr, sv, h⟩ := h
    have hla := sv.length
    refine ⟨⟨sc, H, T⟩, T, ⟨args.map some ++ List.replicate (N.length - args.length) none, sst⟩, ⟨hs, al⟩, ⟨fun _ h => h, al, Ex.refl _ _, sr, ?_, fun i s hi => ?_, fun i j l l' p h1 h2 e1 e2 => ?_⟩, ?_⟩
    · unfold L2.start
      simp only [List.length_append, List.length_map, List.length_replicate]
      omega
    · have e := start_slot hi
      obtain ⟨v, ev, q⟩ := sv.get e
      have hv : (L2.start N vs)[i]? = some (some v) := by
        unfold L2.start
        have hlt := (List.getElem?_eq_some_iff.mp ev).1
        rw [List.getElem?_append_left (by simpa using hlt), List.getElem?_map, ev]
        rfl
      rw [hv]
      cases s with
      | own l => exact q.elim
      | dat d => exact ⟨v, rfl, q⟩
      | src => exact ⟨v, rfl, q⟩
      | exc x => exact ⟨v, rfl, q⟩
      | obj x => exact ⟨v, rfl, q⟩
    · obtain ⟨v, ev, q⟩ := sv.get (start_slot h1)
      exact q.elim
    · unfold callOf at h
      cases hm : body ⟨args.map some ++ List.replicate (N.length - args.length) none, sst⟩ with
      | bad => rw [hm] at h; exact h
      | exc y m =>
        rw [hm] at h
        exact fun c dd σ' H' T' fr lv xr => h c dd H' lv.ex (lv.src.weak lv.t0) (xr.fr (Fr.weak lv.t0))
      | ok fl m =>
        rw [hm] at h
        cases fl with
        | next => exact fun σ' H' T' fr lv => h .non H' lv.ex (lv.src.weak lv.t0) .non
        | ret s => exact fun v H' ex sr sv => h v H' ex sr sv
        | brk => exact h.elim
        | cont => exact h.elim
end PL
namespace PL
open PySem PySem.Spec PyProof.Rows L2
/-! ### texts put together -/
def strsOf : List PyData → Option (List Str)
  | [] => some []
  | .str b :: r => (strsOf r).map (b :: ·)
  | _ => none
theorem DD.str_of {K : Kx} {T : Addr → Prop} {H : Hp} {v : V} {k : Str} (h : DD K T H v (.str k)) : v = .str k := by cases h; rfl
theorem DDs.strs {K : Kx} {T : Addr → Prop} {H : Hp} : ∀ {ds : List PyData} {vs : List V} {bs : List Str}, DDs K T H vs ds → strsOf ds = some bs → vs = bs.map V.str
  | [], _, bs, h, e => by
    cases h; cases e; rfl
  | d :: ds, _, bs, h, e => by
    cases h with
    | cons a r =>
      cases d with
      | str b =>
        unfold strsOf at e
        cases hb : strsOf ds with
        | none => rw [hb] at e; cases e
        | some l =>
          rw [hb] at e; cases e
          rw [a.str_of, r.strs hb]; rfl
      | none => cases e
      | int _ => cases e
      | bool _ => cases e
      | list _ => cases e
      | tuple _ => cases e
      | dict _ => cases e
def pJoin (s : PyData) (l : PyData) : Option PyData := match s, l with
  | .str a, .list ds => match strsOf ds with
    | some ys => if (ys.map (·.length)).sum + ys.length * a.length ≤ 16777216 then some (.str (Txt.join a ys)) else none
    | none => none
  | .str a, .tuple ds => match strsOf ds with
    | some ys => if (ys.map (·.length)).sum + ys.length * a.length ≤ 16777216 then some (.str (Txt.join a ys)) else none
    | none => none
  | _, _ => none
def mStr (x : M PyData) : M PyData := fun m => (x m).bind fun d m1 => match d with
  | .str s => .ok (.str s) m1
  | _ => .bad
section
variable {X : Cx} {W : WX} {pos : Pos} {tg a b c e o : Expr} {es : List Expr}
theorem Rn.str {K : Kx} {mg : Str → Option Value} {β γ : Type} {R : Wd → (Addr → Prop) → Hp → β → γ → Prop} {x : M PyData} {k : PyData → Me → Res γ} {σ : L2.St} {H : Hp} {Q : β → Hp → Prop} {Q' : V → Hp → Prop} {w : Wd} {T : Addr → Prop} {me : Me} (ok : w.Ok) (lv : Lv K mg w T σ H me) (h : Rn K mg W R σ w T H me Q ((mStr x me).bind k))
    (f : ∀ (T1 : Addr → Prop) (me1 : Me) (s : Str) (H1 : Hp), Stp w σ T H me T1 H1 me1 → Lv K mg w T1 σ H1 me1 → Rn K mg W R σ w T1 H1 me1 Q (k (.str s) me1) → Q' (.str s) H1) : tB K mg W x σ H Q' := by
  have e : (mStr x me).bind k = (x me).bind fun d m' => (match d with | .str s => Res.ok (.str s) m' | _ => .bad : Res PyData).bind k := by
    unfold mStr
    cases x me <;> rfl
  rw [e] at h
  refine Rn.seq ok lv h fun T1 me1 v s H1 s1 lv1 p1 q1 => ?_
  split at q1
  · rw [p1.str]
    exact f T1 me1 _ H1 s1 lv1 q1
  · exact q1.elim
theorem pp_join {apos : Pos} {x y : M PyData} (ho : PB X W o x) (he : PB X W e y) (hs : starEach [e] X.env = [(false, eval e X.env)] := by rfl) (hbase : attributeBase o "join" X.env (eval o X.env) = eval o X.env := by rfl) (hline : (apos.endLine == pos.line) = true := by rfl) :
    PP X W (.Call (.Attribute o "join" apos) [e] [] pos) (mOp pJoin (mStr x) y) := by
  refine PE.imp (pe_join ho he hs hbase hline) fun σ H Q q => ?_
  obtain ⟨w, T, me, ok, lv, q⟩ := q
  refine Rn.str ok lv q fun T1 me1 s H1 s1 lv1 q1 => ⟨⟨s, rfl⟩, ?_⟩
  refine Rn.seq ok lv1 q1 fun T2 me2 u d H2 s2 lv2 p2 q2 => ?_
  cases hf : pJoin (.str s) d with
  | none => rw [hf] at q2; exact q2.elim
  | some z =>
    rw [hf] at q2
    unfold pJoin at hf
    split at hf
    · rename_i a0 ds e1
      cases e1
      split at hf
      · rename_i ys hy
        split at hf
        · rename_i hz
          cases hf
          obtain ⟨p, vs, rfl, r, dd⟩ := p2.list
          have ev := dd.strs hy
          subst ev
          exact ⟨_, p, ys, rfl, rfl, .inl (.inl r), hz, q2 _ H2 T2 (Stp.refl _ _ _ _ _) lv2 (.str _)⟩
        · cases hf
      · cases hf
    · rename_i a0 ds e1
      cases e1
      split at hf
      · rename_i ys hy
        split at hf
        · rename_i hz
          cases hf
          obtain ⟨p, vs, rfl, r, dd⟩ := p2.tuple
          have ev := dd.strs hy
          subst ev
          exact ⟨_, p, ys, rfl, rfl, .inr r.sq, hz, q2 _ H2 T2 (Stp.refl _ _ _ _ _) lv2 (.str _)⟩
        · cases hf
      · cases hf
    · cases hf
/-! f-strings -/
abbrev tSt (K : Kx) (mg : Str → Option Value) (W : WX) (m : M Str) : TE := tR K mg W (fun _ _ _ v s => v = V.str s) m
def mFmt (x : M PyData) : M Str := fun m => (x m).bind fun d m1 => match d with
  | .str s => if s.length ≤ sizeLine then .ok s m1 else .bad
  | .int i => if i.natAbs.log2 < 1920 then .ok (toString i) m1 else .bad
  | _ => .bad
theorem pf_c {x : Str} {j : Nat} : PE X (.Constant (.str x) j pos) (tSt X.KK X.mg W (mC x)) := PE.imp pe_str fun σ H Q q => by
  obtain ⟨w, T, me, ok, lv, q⟩ := q
  exact q _ H T (Stp.refl _ _ _ _ _) lv rfl
theorem pf_fmt {x : M PyData} (h : PB X W e x) : PE X (.FormattedValue e (-1) none pos) (tSt X.KK X.mg W (mFmt x)) := by
  refine PE.imp (pe_fmt h) fun σ H Q q => ?_
  obtain ⟨w, T, me, ok, lv, q⟩ := q
  refine Rn.seq ok lv q fun T1 me1 v d H1 s1 lv1 p1 q1 => ?_
  split at q1
  · split at q1
    · rename_i hz
      exact .inl ⟨_, p1.str, hz, q1 _ H1 T1 (Stp.refl _ _ _ _ _) lv1 rfl⟩
    · exact q1.elim
  · split at q1
    · rename_i hz
      exact .inr ⟨_, p1.int, hz, q1 _ H1 T1 (Stp.refl _ _ _ _ _) lv1 rfl⟩
    · exact q1.elim
  · exact q1.elim
/-- the parts one behind the other -/
def mJs : List (M Str) → Str → M Str
  | [], acc => fun m => .ok acc m
  | x :: r, acc => fun m => (x m).bind fun s m1 => if (acc ++ s).length ≤ sizeLine then mJs r (acc ++ s) m1 else .bad
def mJoined (l : List (M Str)) : M Sl := fun m => (mJs l Str.empty m).bind fun s m1 => .ok (.dat (.str s)) m1
inductive PJm (X : Cx) (W : WX) : List Expr → List (M Str) → Prop where
  | nil : PJm X W [] []
  | cons {e : Expr} {t : M Str} {es : List Expr} {ts : List (M Str)} (h : PE X e (tSt X.KK X.mg W t)) (r : PJm X W es ts) : PJm X W (e :: es) (t :: ts)
theorem PJm.pj {es : List Expr} {ms : List (M Str)} (h : PJm X W es ms) : PJ X es (ms.map (tSt X.KK X.mg W)) := by
  induction h with
  | nil => exact .nil
  | cons h r ih => exact .cons h ih
theorem tJs_ok {w : Wd} (ok : w.Ok) {σ : L2.St} {Q : V → Hp → Prop} : ∀ (ms : List (M Str)) (acc : Str) (T : Addr → Prop) (H : Hp) (me : Me), Lv X.KK X.mg w T σ H me →
    Rn X.KK X.mg W (fun w T H v s => SV X.KK X.mg w.sc T H v s) σ w T H me Q ((mJs ms acc me).bind fun s m1 => .ok (.dat (.str s)) m1) → tJs (ms.map (tSt X.KK X.mg W)) acc σ H (fun out H1 => Q (.str out) H1)
  | [], acc, T, H, me, lv, q => q _ H T (Stp.refl _ _ _ _ _) lv (.str _)
  | x :: r, acc, T, H, me, lv, q => by
    have e : (mJs (x :: r) acc me).bind (fun s m1 => Res.ok (Sl.dat (.str s)) m1) = (x me).bind fun s m1 => (if (acc ++ s).length ≤ sizeLine then mJs r (acc ++ s) m1 else .bad : Res Str).bind fun s m1 => Res.ok (Sl.dat (.str s)) m1 := by
      show ((x me).bind fun s m1 => if (acc ++ s).length ≤ sizeLine then mJs r (acc ++ s) m1 else .bad).bind _ = _
      cases x me <;> rfl
    rw [e] at q
    refine Rn.seq ok lv q fun T1 me1 v s H1 s1 lv1 p1 q1 => ⟨s, p1, ?_⟩
    by_cases hz : (acc ++ s).length ≤ sizeLine
    · rw [if_pos hz] at q1
      exact ⟨hz, tJs_ok ok r (acc ++ s) T1 H1 me1 lv1 q1⟩
    · rw [if_neg hz] at q1
      exact q1.elim
theorem pp_joined {v1 v2 : Expr} {rest : List Expr} {ms : List (M Str)} (h : PJm X W (v1 :: v2 :: rest) ms) : PP X W (.JoinedStr (v1 :: v2 :: rest) pos) (mJoined ms) := by
  refine PE.imp (pe_joined h.pj) fun σ H Q q => ?_
  obtain ⟨w, T, me, ok, lv, q⟩ := q
  exact tJs_ok ok ms Str.empty T H me lv q
/-! ### errors raised -/
theorem xr_none {K : Kx} {mg : Str → Option Value} {T : Addr → Prop} {H : Hp} {x : Str} {C : Addr} (g : mg x = some (.ref C)) : XR K mg T H (.ref C) none ⟨x, []⟩ :=
  ⟨C, rfl, g, .inl rfl, fun f e h => by simp at h⟩
theorem pps_raise {C : Addr} {bmB : List Value} {B newId initId : String} {x m : Str} {j : Nat} {p p2 pos2 : Pos} (hc : X.calm = true) (tk : Takes X W) (F : ExcBaseFacts B newId initId bmB) (q : PySem.W.excIn X.KK C bmB newId = true) (gC : X.mg x = some (.ref C)) (kC : PySem.W.keepIn X.KK (.ref C) = true) (r : Raises X (.ref C)) (hg : Gl X x)
    (hdb : (x == ("__debug__" : Str)) = false := by decide) : PPS X W (.Raise (some (.Call (.Name x p) [.Constant (.str m) j p2] [] pos)) none pos2) (mRaise ⟨x, []⟩) := by
  refine PS.imp (ps_raise hc tk (pmk_own F q gC kC r hg hdb)) fun D σ H q => ?_
  obtain ⟨w, T, me, ok, lv, q⟩ := q
  exact q (.ref C) none σ H T (Fr.refl _ _) lv (xr_none gC)
/-- an __init__ that keeps one argument | two arguments -/
def spIn1 (C : Addr) (f : Str) : Sp := fun vs H Q _ => ∃ (a : Addr) (y : V), vs = [.ref a, y] ∧ H a = some (exo a C none) ∧ ∀ dx, H dx = none → dx ≠ a → Q .non (upd (upd H dx (exd dx [(f, y)])) a (exo a C (some dx)))
def spIn2 (C : Addr) (f g : Str) : Sp := fun vs H Q _ => ∃ (a : Addr) (y z : V), vs = [.ref a, y, z] ∧ H a = some (exo a C none) ∧ ∀ dx, H dx = none → dx ≠ a → Q .non (upd (upd (upd H dx (exd dx [(f, y)])) a (exo a C (some dx))) dx (exd dx [(g, z), (f, y)]))
def mRaise1 (x f : Str) (a : M (List Sl)) : M Flow := fun m => (a m).bind fun ss m1 => match datsOf ss with
  | some [d] => .exc ⟨x, [(f, d)]⟩ m1
  | _ => .bad
def mRaise2 (x f g : Str) (a : M (List Sl)) : M Flow := fun m => (a m).bind fun ss m1 => match datsOf ss with
  | some [d, e] => .exc ⟨x, [(g, e), (f, d)]⟩ m1
  | _ => .bad
theorem lk1 {α : Type} {f n : Str} {y z : α} (h : List.lookup n [(f, y)] = some z) : n = f ∧ y = z := by
  unfold List.lookup at h
  split at h
  · rename_i e
    exact ⟨by simpa using e, Option.some.inj h⟩
  · simp [List.lookup] at h
theorem lkself {α : Type} {f : Str} {y : α} {r : List (Str × α)} : List.lookup f ((f, y) :: r) = some y := by simp [List.lookup]
theorem pps_raise1 {CX : CXT} {x f : Str} {C fI : Addr} {k : Nat} {fd : FuncData} {ps : List Str} {m : M (List Sl)} {p pos2 : Pos} (hc : X.calm = true) (tk : Takes X W) (T : OexC X.KK C) (iC : PySem.W.findIn X.KK (.ref C) "__init__" = some (some (.ref fI))) (tI : PySem.W.typeIn X.KK (.ref fI) = some (.type "function"))
    (F1 : FnOk X.prog X.w X.KK X.mg X.base CX k fI fd ps (spIn1 C f)) (hr : Room (k + 1) X.A) (hb : Binds X.KK fd ps []) (hx : Passes CX X (fun _ _ _ => False)) (hg : Gl X x) (hm : X.mg x = some (.ref C)) (ha : PPs X W [e] m)
    (hdb : (x == ("__debug__" : Str)) = false := by decide) (he : starEach [e] X.env = (false, eval e X.env) :: starEach [] X.env := by rfl) (hpl : (backTo pos (starEach [] X.env)).any (·.1) = false := by rfl) :
    PPS X W (.Raise (some (.Call (.Name x p) [e] [] pos)) none pos2) (mRaise1 x f m) := by
  refine PS.imp (ps_raise hc tk (pmk_oex T iC tI F1 hr hb .nil hx hg hm ha hdb he hpl)) fun D σ H q => ?_
  obtain ⟨w, TT, me, ok, lv, q⟩ := q
  refine SRn.seq ok lv q fun T1 me1 vs ss H1 s1 lv1 p1 q1 => ?_
  split at q1
  · rename_i d hd
    have dd := p1.dats hd
    cases dd with
    | @cons y vs' _ _ dy r =>
      cases r
      refine ⟨by show 1 ≤ 1000; decide, fun a ha0 => ⟨a, y, rfl, upd_same, fun dx hdx nda => ⟨rfl, dx, [(f, y)], upd_same, by rw [upd_ne nda, upd_same], ?_, ?_⟩⟩⟩
      · rw [upd_ne nda] at hdx; exact hdx
      · have hdx1 : H1 dx = none := by rw [upd_ne nda] at hdx; exact hdx
        have sm : Same0 H1 (upd (L2.del (upd (upd (upd H1 a (exo a C none)) dx (exd dx [(f, y)])) a (exo a C (some dx))) a) dx (.xd [(f, y)])) := fun b o h => by
          have h1 : b ≠ dx := ne_of_none h hdx1
          have h2 : b ≠ a := ne_of_none h ha0
          rw [upd_ne h1, L2.del_ne h2, upd_ne h2, upd_ne h1, upd_ne h2]
          exact h
        refine q1 (.ref C) (some dx) σ _ T1 sm.fr (lv1.same sm) ⟨C, rfl, hm, .inr ⟨dx, _, rfl, upd_same, nT_new lv1.al hdx1⟩, fun n z hz => ?_⟩
        obtain ⟨e1, e2⟩ := lk1 hz
        subst e1; subst e2
        exact ⟨dx, [(n, y)], y, rfl, upd_same, nT_new lv1.al hdx1, lkself, dy.to sm.fr⟩
  · exact q1.elim
/-- the __init__ of an own error that keeps its one argument -/
theorem ok_init1 {P : Program} {w : World} {K : PySem.W.Frag} {mg : Str → Option Value} {base : Heap} {qual f : Str} {st : Stmt} {fI C : Addr} {fd : FuncData} {p1 p2 p3 p4 : Pos} (F : Fun K "__init__" qual st fI fd) (S : FnScope ["self", f] ["self", f] (defScope st)) (T : OexC K C) (hno : PySem.W.findIn K (.ref C) f = some none)
    (hb : defBody st = [.Assign [.Attribute (.Name "self" p1) f p2] (.Name f p3) p4]) (h0 : (defScope st).names.lookup ("self" : Str) = some NameKind.local) (h1 : (defScope st).names.lookup f = some NameKind.local) (d1 : (f == ("__debug__" : Str)) = false) (d2 : (f == ("__classdict__" : Str)) = false)
    (hs : ∀ (env : Env), env.scope = defScope st → swapsWith (.Name f p3) (some (.Attribute (.Name "self" p1) f p2)) p4.line env = pure false) : FnOk P w K mg base CX0 1 fI fd ["self", f] (spIn1 C f) := by
  refine F.ok S (fun vs H Q E h => ?_) (fun cdv A outer s H vs Q E hr h => ?_)
  · obtain ⟨a, y, rfl, _⟩ := h
    rfl
  · obtain ⟨a, y, rfl, ha, q⟩ := h
    rw [hb]
    refine ⟨_, pss_one (ps_ost (pe_var (i := 0) rfl (.inl h0)) (pe_var (i := 1) rfl (.inl h1) d1 d2) (hs _ rfl)), ?_⟩
    exact ⟨y, rfl, .ref a, rfl, a, C, rfl, T, hno, .inl ⟨ha, fun dx hdx nda => q dx hdx nda⟩⟩
theorem ok_init2 {P : Program} {w : World} {K : PySem.W.Frag} {mg : Str → Option Value} {base : Heap} {qual f g : Str} {st : Stmt} {fI C : Addr} {fd : FuncData} {p1 p2 p3 p4 q1 q2 q3 q4 : Pos} (F : Fun K "__init__" qual st fI fd) (S : FnScope ["self", f, g] ["self", f, g] (defScope st)) (T : OexC K C) (hno : PySem.W.findIn K (.ref C) f = some none) (hno2 : PySem.W.findIn K (.ref C) g = some none)
    (hb : defBody st = [.Assign [.Attribute (.Name "self" p1) f p2] (.Name f p3) p4, .Assign [.Attribute (.Name "self" q1) g q2] (.Name g q3) q4]) (h0 : (defScope st).names.lookup ("self" : Str) = some NameKind.local) (h1 : (defScope st).names.lookup f = some NameKind.local) (h2 : (defScope st).names.lookup g = some NameKind.local) (d1 : (f == ("__debug__" : Str)) = false) (d2 : (f == ("__classdict__" : Str)) = false) (e1 : (g == ("__debug__" : Str)) = false) (e2 : (g == ("__classdict__" : Str)) = false)
    (hs : ∀ (env : Env), env.scope = defScope st → swapsWith (.Name f p3) (some (.Attribute (.Name "self" p1) f p2)) p4.line env = pure false) (hs2 : ∀ (env : Env), env.scope = defScope st → swapsWith (.Name g q3) (some (.Attribute (.Name "self" q1) g q2)) q4.line env = pure false) : FnOk P w K mg base CX0 1 fI fd ["self", f, g] (spIn2 C f g) := by
  refine F.ok S (fun vs H Q E h => ?_) (fun cdv A outer s H vs Q E hr h => ?_)
  · obtain ⟨a, y, z, rfl, _⟩ := h
    rfl
  · obtain ⟨a, y, z, rfl, ha, q⟩ := h
    rw [hb]
    refine ⟨_, pss_cons (ps_ost (pe_var (i := 0) rfl (.inl h0)) (pe_var (i := 1) rfl (.inl h1) d1 d2) (hs _ rfl)) (pss_one (ps_ost (pe_var (i := 0) rfl (.inl h0)) (pe_var (i := 2) rfl (.inl h2) e1 e2) (hs2 _ rfl))), ?_⟩
    refine ⟨y, rfl, .ref a, rfl, a, C, rfl, T, hno, .inl ⟨ha, fun dx hdx nda => ?_⟩⟩
    refine ⟨z, rfl, .ref a, rfl, a, C, rfl, T, hno2, .inr ⟨dx, [(f, y)], upd_same, by rw [upd_ne nda, upd_same], by show 1 ≤ 900; decide, ?_⟩⟩
    exact q dx hdx nda
/-! ### short words for printed proofs -/
theorem u65 {k : Nat} {A : Around} (hr : Room k A) : A.units + 65 < cLine := by have := hr.un; omega
theorem pp_gS {x s : Str} (hg : Gl X x) (h : ∃ t, X.mg x = some (.str s t)) (hd : (x == ("__debug__" : Str)) = false := by decide) : PP X W (.Name x pos) (mC (.dat (.str s))) := by
  obtain ⟨t, h⟩ := h
  exact pp_glob (v := .str s) hg h ⟨t, rfl⟩ (fun _ _ => .str s) hd
theorem pp_gI {x : Str} {i : Int} (hg : Gl X x) (h : ∃ t, X.mg x = some (.int i t)) (hd : (x == ("__debug__" : Str)) = false := by decide) : PP X W (.Name x pos) (mC (.dat (.int i))) := by
  obtain ⟨t, h⟩ := h
  exact pp_glob (v := .int i) hg h ⟨t, rfl⟩ (fun _ _ => .int i) hd
/-- names, each with its own value, stored at once -/
def mPar2 (i j : Nat) (a : M (List Sl)) : M Flow := fun m => (a m).bind fun ss m1 => match ss with
  | [s, t] => match putE i s m1 with
    | some m2 => match putE j t m2 with
      | some m3 => .ok .next m3
      | none => .bad
    | none => .bad
  | _ => .bad
theorem SVs.two {K : Kx} {mg : Str → Option Value} {sc : Sc} {T : Addr → Prop} {H : Hp} {vs : List V} {s t : Sl} (h : SVs K mg sc T H vs [s, t]) : ∃ v u, vs = [v, u] ∧ SV K mg sc T H v s ∧ SV K mg sc T H u t := by
  cases h with
  | cons a r => cases r with
    | cons b r => cases r; exact ⟨_, _, rfl, a, b⟩
theorem SVs.three {K : Kx} {mg : Str → Option Value} {sc : Sc} {T : Addr → Prop} {H : Hp} {vs : List V} {s t z : Sl} (h : SVs K mg sc T H vs [s, t, z]) : ∃ v u w, vs = [v, u, w] ∧ SV K mg sc T H v s ∧ SV K mg sc T H u t ∧ SV K mg sc T H w z := by
  cases h with
  | cons a r => cases r with
    | cons b r => cases r with
      | cons c r => cases r; exact ⟨_, _, _, rfl, a, b, c⟩
theorem pps_par2 {i j : Nat} {x y : Str} {m : M (List Sl)} {px py pt : Pos} {kt k2 : Nat} {pt2 : Pos} (hc : X.calm = true) (hN : X.N.Nodup) (hi : X.N[i]? = some x) (hj : X.N[j]? = some y) (hij : i ≠ j)
    (hx : X.env.scope.names.lookup x = some .local) (hy : X.env.scope.names.lookup y = some .local) (ha : PPs X W [a, b] m)
    (hw : swappedStores [.Tuple [.Name x px, .Name y py] kt pt] (.Tuple [a, b] k2 pt2) X.env = pure (some [x, y]) := by rfl)
    (hs : swapsWithSole [.Tuple [.Name x px, .Name y py] kt pt] (.Tuple [a, b] k2 pt2) pos.line X.env = pure false := by rfl) :
    PPS X W (.Assign [.Tuple [.Name x px, .Name y py] kt pt] (.Tuple [a, b] k2 pt2) pos) (mPar2 i j m) := by
  refine PS.imp (ps_par hc hN hi hj hij hx hy ha hw hs) fun D σ H q => ?_
  obtain ⟨w, T, me, ok, lv, q⟩ := q
  refine SRn.seq ok lv q fun T1 me1 vs ss H1 s1 lv1 p1 q1 => ?_
  split at q1
  · rename_i s t
    obtain ⟨v, u, rfl, h1, h2⟩ := p1.two
    cases hp : putE i s me1 with
    | none => rw [hp] at q1; exact q1.elim
    | some m2 =>
      rw [hp] at q1
      simp only at q1
      cases hp2 : putE j t m2 with
      | none => rw [hp2] at q1; exact q1.elim
      | some m3 =>
        rw [hp2] at q1
        exact ⟨v, u, rfl, q1.nx (putE_ok (putE_ok lv1 h1 hp) h2 hp2)⟩
  · exact q1.elim
end
end PL
namespace PL
open PySem PySem.Spec PyProof.Rows L2
/-! ### a law's source of draws -/
def mixD (c t : Int) : Int :=
  let n := (c % 2147483629 * 48271 + t * t * 69621 + 11) % 2147483647
  let n := n * n % 2147483629
  n * n % 2147483587
def SrcIn (st : SrcSt) : Prop := st.1 ≠ [] ∧ st.1.length ≤ 100000 ∧ 0 ≤ st.2 ∧ st.2 < 2 ^ 62
def drawOk (st : SrcSt) (lim : Int) : Prop := SrcIn st ∧ 0 < lim ∧ lim < 2 ^ 30
noncomputable instance drawOkd (st : SrcSt) (lim : Int) : Decidable (drawOk st lim) := Classical.propDecidable _
noncomputable def drawF : List Sl → SrcSt → CRes
  | [.src, .dat (.int lim)], st => if drawOk st lim then
      (if 10 ^ 18 ≤ st.1.getD (st.2 % (st.1.length : Int)).toNat 0 then .ok (.dat (.int (st.1.getD (st.2 % (st.1.length : Int)).toNat 0 % lim))) ⟨st.1.set (st.2 % (st.1.length : Int)).toNat (st.1.getD (st.2 % (st.1.length : Int)).toNat 0 / lim), st.2 + 1, st.3⟩
      else .ok (.dat (.int (mixD (st.1.getD (st.2 % (st.1.length : Int)).toNat 0) st.2 % lim))) ⟨st.1, st.2 + 1, st.3⟩) else .bad
  | _, _ => .bad
theorem drawF_shape {args : List Sl} {st : SrcSt} (h : drawF args st ≠ .bad) : ∃ lim, args = [.src, .dat (.int lim)] ∧ SrcIn st ∧ 0 < lim ∧ lim < 2 ^ 30 := by
  unfold drawF at h
  split at h
  · split at h
    · rename_i lim hc
      exact ⟨lim, rfl, hc⟩
    · exact absurd rfl h
  · exact absurd rfl h
theorem SV.src {K : Kx} {mg : Str → Option Value} {sc : Sc} {T : Addr → Prop} {H : Hp} {v : V} (h : SV K mg sc T H v .src) : ∃ a c, sc.s = some (a, c) ∧ v = .ref a := h
theorem SV.int {K : Kx} {mg : Str → Option Value} {sc : Sc} {T : Addr → Prop} {H : Hp} {v : V} {i : Int} (h : SV K mg sc T H v (.dat (.int i))) : v = .int i := by
  have h' : DD K T H v (.int i) := h
  cases h'; rfl
end PL
namespace PL
open PySem PySem.Spec PyProof.Rows L2
theorem canLay_ints : ∀ ns : List Int, PyData.canLayAll0 (ns.map PyData.int) = true
  | [] => rfl
  | n :: r => by
    show (PyData.canLay0 (.int n) && PyData.canLayAll0 (r.map PyData.int)) = true
    rw [canLay_ints r]; rfl
theorem depth_ints : ∀ ns : List Int, PyData.depthAll (ns.map PyData.int) ≤ PyData.depth (.int 0)
  | [] => by simp [PyData.depthAll]
  | n :: r => by
    have h := depth_ints r
    simp only [List.map_cons, PyData.depthAll, PyData.depth] at h ⊢
    omega
theorem shaped_ints (ns : List Int) : SeqAt.shaped (.list (ns.map PyData.int)) = true := by
  unfold SeqAt.shaped
  have h := depth_ints ns
  rw [Bool.and_eq_true]
  refine ⟨?_, decide_eq_true ?_⟩
  · show PyData.canLayAll0 (ns.map PyData.int) = true
    exact canLay_ints ns
  · simp only [PyData.depth] at h ⊢
    omega
theorem dp_ints {K : PySem.W.Frag} {H : Hp} : ∀ ns : List Int, DpAll K H (ns.map V.int) (ns.map PyData.int)
  | [] => .nil
  | n :: r => .cons (.int n) (dp_ints r)
theorem eqv_nil (ns : List Int) : PyData.eqv (.list (ns.map PyData.int)) (.list []) = ns.isEmpty := by
  cases ns <;> rfl
/-- what _law_source promises -/
def spSource (K : PySem.W.Frag) : Sp := fun vs H Q _ => ∃ (a0 : Addr) (ns : List Int), vs = [.ref a0] ∧ SqL K H a0 (ns.map V.int) ∧ ns.length ≤ 63 ∧
  ∀ (H' : Hp) (a c : Addr) (cells : List Int), Same0 H H' → H a = none → H c = none → a ≠ c → H' a = some (.lst [.ref c, .int 0]) → H' c = some (.lst (cells.map V.int)) → cells ≠ [] → cells.length ≤ 63 → Q (.ref a) H'
end PL
namespace PL
open PySem PySem.Spec PyProof.Rows L2
/-- what a law promises -/
def spLaw (K : PySem.W.Frag) : Sp := fun vs _H Q _ => ∃ (a : Addr) (ns : List Int), vs = [.ref a] ∧ SqL K _H a (ns.map V.int) ∧ ns.length ≤ 63 ∧ ∀ H', Q (.bl true) H'
/-- the source alone stands at slot 1 -/
def env1 (n : Nat) : List (Option Sl) := none :: some .src :: List.replicate n none
theorem env1_get {n i : Nat} {s : Sl} (h : (env1 n)[i]? = some (some s)) : i = 1 ∧ s = .src := by
  unfold env1 at h
  match i, h with
  | 0, h => cases h
  | 1, h => cases h; exact ⟨rfl, rfl⟩
  | i + 2, h =>
    rw [List.getElem?_cons_succ, List.getElem?_cons_succ, List.getElem?_replicate] at h
    split at h <;> cases h
theorem law_rest {K : Kx} {mg : Str → Option Value} {W : WX} {m : M Flow} {σ : L2.St} {H : Hp} {a c : Addr} {cells : List Int} {n : Nat} {m' : Me} {D : Ends} (hl : σ.length = n + 2) (h1 : σ[1]? = some (some (.ref a))) (nac : a ≠ c) (ha : H a = some (.lst [.ref c, .int 0])) (hc : H c = some (.lst (cells.map V.int)))
    (hm : m ⟨env1 n, ⟨cells, 0, .no⟩⟩ = .ok (.ret (.dat (.bool true))) m') (hq : ∀ H'', D.rt (.bl true) H'') : tS K mg W m D σ H := by
  have al : ∀ b, (b = a ∨ b = c) → H b ≠ none := fun b hb => by
    rcases hb with e | e
    · rw [e, ha]; exact nofun
    · rw [e, hc]; exact nofun
  refine ⟨⟨⟨some (a, c), none⟩, H, fun b => b = a ∨ b = c⟩, fun b => b = a ∨ b = c, ⟨env1 n, ⟨cells, 0, .no⟩⟩, ⟨fun b hb => ?_, al⟩, ⟨fun _ h => h, al, Ex.refl _ _, ⟨fun a' c' e => ?_, fun _ => rfl, fun _ _ e => nomatch e⟩, ?_, fun i s hi => ?_, fun i j l l' p g1 g2 e1 e2 => ?_⟩, ?_⟩
  · rcases hb with ⟨a', c', e, hb⟩ | ⟨a', c', e, hb⟩
    · cases e; exact hb
    · cases e
  · cases e; exact ⟨nac, ha, hc⟩
  · show σ.length = (env1 n).length
    rw [hl]; simp [env1]
  · obtain ⟨rfl, rfl⟩ := env1_get hi
    exact ⟨.ref a, h1, a, c, rfl, rfl⟩
  · obtain ⟨_, z⟩ := env1_get g1
    cases z
  · rw [hm]
    intro v H' _ _ sv
    have sv' : DD K _ H' v (.bool true) := sv
    cases sv'
    exact hq H'
theorem noCX {P : Program} {w : World} {H : Hp} {s : Shared} {e : Value} {s' : Shared} (h : L2.CX P w [] H s (fun _ _ _ => False) e s') : False := by
  obtain ⟨_, _, _, _, _, _, _, _, _, _, _, _, z⟩ := h
  exact z
end PL
namespace PL
open PySem PySem.Spec PyProof.Rows L2
/-! ### try: a suite whose exception may be kept -/
theorem exk_obj {P : Program} {w : World} {H : Hp} {h : Heap} {a C : Addr} {d : Option Addr} {oe : Obj} {vs : Array Value} (e : h.get? a = some oe) (z : Zc (.ref C) d oe) (q : oe.data = .fields vs) : ObjOk P w H h a (exk a C d) :=
  ⟨⟨oe, vs, e, z, q⟩, ⟨oe, e⟩, fun _ _ ⟨o, v, x, y⟩ k => ⟨o, v, k o x, y⟩⟩
section
variable {X : Cx} {pins : List (Addr × Obj)} {σ : L2.St} {H : Hp} {s : Shared}
/-- an object that nothing tracked is tracked as a kept exception -/
theorem keep_exc {sI : Shared} {a C : Addr} {d : Option Addr} {oe : Obj} {vs : Array Value} (I : Inv X pins σ H s) (J : Inv X pins σ H sI) (n0 : sI.heap.get? a = none) (e : s.heap.get? a = some oe) (z : Zc (.ref C) d oe) (q : oe.data = .fields vs) (na : H a = none)
    (hx : X.ex = []) (nL : a ≠ X.env.locals) : Inv X pins σ (upd H a (exk a C d)) s where
  ok := I.ok
  os := I.os
  bare := I.bare
  base := by
    have old : ∀ b o, X.s_0.heap.get? b = some o → b ≠ a := fun b o e1 e2 => by
      obtain ⟨o', e3⟩ := J.base.there b o e1 (by rw [hx]; exact fun k => nomatch k)
      rw [e2, n0] at e3
      cases e3
    have trk : ∀ b o, H b = some o → b ≠ a := fun b o e1 e2 => by rw [e2, na] at e1; cases e1
    refine ⟨I.base.keep, I.base.slot, fun b o e1 e2 e3 => ?_, I.base.there, fun b xs e1 => ?_, fun b o u e1 => ?_, fun b ps e1 => ?_⟩
    · rw [upd_ne (old b o e1)]; exact I.base.free b o e1 e2 e3
    · have t := I.base.tups b xs e1
      rw [upd_ne (trk b _ t)]; exact t
    · have t := I.base.frzs b o u e1
      rw [upd_ne (trk b _ t)]; exact t
    · obtain ⟨more, t⟩ := I.base.tbls b ps e1
      exact ⟨more, by rw [upd_ne (trk b _ t)]; exact t⟩
  loc := I.loc
  cell := I.cell
  free := by rw [upd_ne nL.symm]; exact I.free
  freeC := fun x c ec => by
    have nc : c ≠ a := fun k => by
      obtain ⟨v, o, e1, e2⟩ := I.cell x c ec
      rw [k, e] at e1
      cases e1
      rw [q] at e2
      cases e2
    rw [upd_ne nc]; exact I.freeC x c ec
  pin := fun p hp => by
    obtain ⟨p1, p2, p3, p4, p5⟩ := I.pin p hp
    have np : p.1 ≠ a := fun k => by
      have r := (J.pin p hp).1
      rw [k, n0] at r
      cases r
    exact ⟨p1, by rw [upd_ne np]; exact p2, p3, p4, p5⟩
  hok := fun b u e1 => by
    by_cases hb : b = a
    · subst hb
      rw [upd_same] at e1
      cases e1
      exact exk_obj e z q
    · rw [upd_ne hb] at e1
      exact (I.hok b u e1).stay (fun _ _ _ k => k) (fun c k => by rw [upd_ne (ne_of_none k na)]; exact k) fun c xs k => by rw [upd_ne (ne_of_none k na)]; exact k
  len := I.len
/-- into the suite, and out of it -/
theorem suite_in {a : Addr} (I : Inv X pins σ H s) : Inv (X.suite a (X.pn ++ pins)) [] σ H s where
  ok := Cx.Ok.suite I.ok a (X.pn ++ pins)
  os := I.os
  bare := I.bare
  base := I.base
  loc := I.loc
  cell := I.cell
  free := I.free
  freeC := I.freeC
  pin := fun p hp => I.pin p (by rw [List.append_nil] at hp; exact hp)
  hok := I.hok
  len := I.len
theorem suite_out {a : Addr} {pn' : List (Addr × Obj)} (I : Inv (X.suite a (X.pn ++ pins)) pn' σ H s) (ok : X.Ok) : Inv X pins σ H s where
  ok := ok
  os := I.os
  bare := I.bare
  base := I.base
  loc := I.loc
  cell := I.cell
  free := I.free
  freeC := I.freeC
  pin := fun p hp => I.pin p (List.mem_append_left _ hp)
  hok := I.hok
  len := I.len
end
/-- every exception of the body is of the class c: the suite runs with it at slot i, kept -/
def wKeep (K : Kx) (c : Value) (i : Nat) (ts : TS) (D : Ends) : WX := fun cls d σ H =>
  PySem.W.exmOne K cls c = some true ∧ ∃ C, cls = .ref C ∧ ∀ a, H a = none → ts ⟨fun σ' H' => D.nx (σ'.set i none) H', D.rt, fun σ' H' => D.bk (σ'.set i none) H', fun σ' H' => D.ct (σ'.set i none) H'⟩ (σ.set i (some (.ref a))) (upd H a (exk a C d))
section
variable {X : Cx} {x n : Str} {c : Value} {i : Nat} {body suite : List Stmt} {b0 : Stmt} {np pos pos2 : Pos} {tb : WX → TS} {ts : TS}
theorem ps_keep (hst : X.stack = X.env :: X.outer) (hfr : X.env.frame = some X.env.locals) (hN : X.N.Nodup) (hi : X.N[i]? = some n) (hk : X.env.kindOf n = some .local) (hc : Names X x c) (hex : X.ex = [])
    (hb : ∀ (W : WX) (pn : List (Addr × Obj)) (xe : Value → Shared → Prop), Takes (X.tr pn xe) W → PassesOwn (model X.prog X.w) X.A X.env xe → PSs (X.tr pn xe) body (tb W))
    (hsu : ∀ (a : Addr) (pn : List (Addr × Obj)), PSs (X.suite a pn) (b0 :: suite) ts) :
    PS X (.Try body [.ExceptHandler (some (.Name x np)) (some n) (b0 :: suite) pos2] [] [] pos) (fun D σ H => tb (wKeep X.KK c i ts D) D σ H) where
  run pins s σ H D I h := by
    have ok := I.ok
    have fs : X.A.frames = some (X.env :: X.outer) := by rw [ok.frames, hst]
    apply wpAny_Try_except
    refine wpAny_mono ((hb (wKeep X.KK c i ts D) (X.pn ++ pins) _ ?_ PassesOwn.looking).run [] s σ H D (I.toTry _) h) ?_ fun _ _ k => k
    · rintro u s1 ⟨a, B, sI, pns, σ1, H1, cls, d, rfl, J0, nb, up, sky, na, os, ag, hyes, C, rfl, hts⟩
      have J : Inv X pins σ1 H1 sI := J0.ofTry ok
      rw [show (X.tr (X.pn ++ pins) _).stack = X.env :: X.outer from hst] at sky
      refine Sky.land Zc.steady fs hfr sky fun h2 fl2 up2 => ?_
      have I2 : Inv X pins σ1 H1 { s1 with heap := h2 } := J.landed nb fl2.1 (up.trans up2) os ag
      obtain ⟨o2, v2, e2, z2, q2⟩ := fl2.there
      -- the exception's object is no frame, and new
      have nfr : a ∉ frs (X.env :: X.outer) := fun hm => by
        obtain ⟨_, o', e', k⟩ := fl2.2.2.1.mem hm
        rw [e2] at e'
        cases e'
        exact k _ q2
      have n0 : sI.heap.get? a = none := by
        cases hz : sI.heap.get? a with
        | none => rfl
        | some o =>
          have k := nb a o hz (by rw [show (X.tr (X.pn ++ pins) _).stack = X.env :: X.outer from hst]; exact nfr)
          rw [fl2.2.1] at k
          cases k
      have nL : a ≠ X.env.locals := fun k => nfr (List.mem_filterMap.mpr ⟨X.env, List.mem_cons_self, by rw [hfr, k]⟩)
      have kept : ∀ {h3 : Heap}, Inv X pins σ1 H1 { s1 with heap := h3 } → (∃ oe vs, h3.get? a = some oe ∧ Zc (.ref C) d oe ∧ oe.data = .fields vs) → Inv X pins σ1 (upd H1 a (exk a C d)) { s1 with heap := h3 } := fun I3 ⟨_, _, e3, z3, q3⟩ => keep_exc I3 J n0 e3 z3 q3 na hex nL
      -- the clause's class
      refine wpAny_handleBy_cons (codeAny_handlers_test ?_) (fun k => nomatch k)
      have cls2 : ∀ {Q : Value → Shared → Prop} {E : Value → Shared → Prop}, Q c { s1 with heap := h2 } → wpAny (model X.prog X.w) (X.A.mark (some (.ref a))) (eval (.Name x np) X.env) Q E { s1 with heap := h2 } := fun {Q E} k => by
        have S2 : Inv (X.suite a (X.pn ++ pins)) [] σ1 H1 { s1 with heap := h2 } := suite_in I2
        rcases hc with ⟨hg, hd, hm | ⟨hm, hv, hn⟩⟩
        · exact ld_glob S2 hg hm k hd
        · exact ld_blt S2 hg hm hv k hn hd
      apply cls2
      have lt : PySem.W.Looks (model X.prog X.w) h2 (typeOf (.ref a)) (.ref C) := fun A Q E s k r => wpAny_typeOf_ref (k _ _ e2) (by rw [z2.1]; exact r)
      apply (PySem.W.exm_one (M := model X.prog X.w) I2.kIn lt hyes).here
      -- the suite
      apply codeAny_handlers_suite_as
      refine HandSPX.lands_againZ fl2 fun h3 fl3 up3 => ?_
      have I3 : Inv X pins σ1 H1 { s1 with heap := h3 } := J.landed nb fl3.1 ((up.trans up2).trans up3) os ag
      have S3 : Inv (X.suite a (X.pn ++ pins)) [] σ1 (upd H1 a (exk a C d)) { s1 with heap := h3 } := suite_in (kept I3 fl3.there)
      refine store_ok (X := X.suite a (X.pn ++ pins)) (v := .ref a) S3 hN hi (.inl hk) rfl (fun s4 S4 => ?_) (.inr hk)
      refine wpAny_mono ((hsu a (X.pn ++ pins)).run [] s4 _ _ _ S4 (hts a na)) ?_ fun _ _ k => k.elim
      have away : ∀ {σ5 : L2.St} {H5 : Hp} {s5 : Shared} {Q : Shared → Prop}, Inv (X.suite a (X.pn ++ pins)) [] σ5 H5 s5 → (∀ s6, Inv X pins (σ5.set i none) H5 s6 → Q s6) → wpAny (model X.prog X.w) X.A (do bindName X.env n .none; unbindBehindTheSuite X.env n pos2) (fun _ s6 => Q s6) X.xe s5 :=
        fun S5 k => gone_ok (suite_out S5 ok) hN hi hk k
      intro f s5 hf
      cases f with
      | next => rcases hf with ⟨σ5, H5, S5, k⟩; exact away S5 fun _ K5 => ⟨_, _, K5, k⟩
      | brk => rcases hf with ⟨σ5, H5, S5, k⟩; exact away S5 fun _ K5 => ⟨_, _, K5, k⟩
      | cont => rcases hf with ⟨σ5, H5, S5, k⟩; exact away S5 fun _ K5 => ⟨_, _, K5, k⟩
      | ret u => rcases hf with ⟨v5, σ5, H5, S5, r5, k⟩; exact away S5 fun _ K5 => ⟨_, _, _, K5, r5, k⟩
    · intro f s1 hf
      cases f with
      | next => rcases hf with ⟨σ1, H1, J, k⟩; exact wpAny_execs_nil ⟨σ1, H1, J.ofTry ok, k⟩
      | brk => rcases hf with ⟨σ1, H1, J, k⟩; exact ⟨σ1, H1, J.ofTry ok, k⟩
      | cont => rcases hf with ⟨σ1, H1, J, k⟩; exact ⟨σ1, H1, J.ofTry ok, k⟩
      | ret u => rcases hf with ⟨v1, σ1, H1, J, r1, k⟩; exact ⟨v1, σ1, H1, J.ofTry ok, r1, k⟩
end
end PL
namespace PL
open PySem PySem.Spec PyProof.Rows L2
/-! ### try, kept exceptions: pure readings -/
/-- try: body / except .. as i: suite; tab tells by a class's name whether the clause takes it -/
def mTry (tab : Str → Option Bool) (i : Nat) (body suite : M Flow) : M Flow := fun m => match body m with
  | .exc x m1 => if tab x.cls = some true then (match putE i (.exc x) m1 with
      | some m2 => (match suite m2 with
          | .ok f m3 => .ok f ⟨m3.env.set i none, m3.st⟩
          | _ => .bad)
      | none => .bad) else .bad
  | r => r
/-- what tab says is so: of the class c -/
def TabX (X : Cx) (tab : Str → Option Bool) (c : Value) : Prop := ∀ (n : Str) (C : Addr), X.mg n = some (.ref C) → tab n = some true → PySem.W.exmOne X.KK (.ref C) c = some true
/-- what tab says is so: isinstance with the class c -/
def TabI (X : Cx) (tab : Str → Option Bool) (c : Value) : Prop := ∀ (n : Str) (C : Addr) (b : Bool), X.mg n = some (.ref C) → tab n = some b → ExcC X.KK C ∧ PySem.W.kitOne X.KK (.ref C) c = some b
section
variable {X : Cx} {W : WX} {pos : Pos} {e : Expr} {x n : Str} {c : Value} {i : Nat} {body suite : List Stmt} {b0 : Stmt} {np pos2 : Pos} {tab : Str → Option Bool}
theorem Lv.gone {K : Kx} {mg : Str → Option Value} {w : Wd} {T : Addr → Prop} {σ : L2.St} {H : Hp} {me : Me} (lv : Lv K mg w T σ H me) (i : Nat) : Lv K mg w T (σ.set i none) H ⟨me.env.set i none, me.st⟩ :=
  Lv.forget (vs := [i]) lv (by rw [List.length_set]) fun j hj => by rw [List.getElem?_set_ne (fun z => hj (by rw [z]; exact List.mem_singleton.2 rfl))]
theorem pps_try {mb ms : M Flow} (hst : X.stack = X.env :: X.outer) (hfr : X.env.frame = some X.env.locals) (hN : X.N.Nodup) (hc : Names X x c) (hex : X.ex = []) (ht : TabX X tab c)
    (hb : ∀ (W : WX) (pn : List (Addr × Obj)) (xe : Value → Shared → Prop), Takes (X.tr pn xe) W → PassesOwn (model X.prog X.w) X.A X.env xe → PPSs (X.tr pn xe) W body mb)
    (hsu : ∀ (a : Addr) (pn : List (Addr × Obj)), PPSs (X.suite a pn) W0 (b0 :: suite) ms) (hi : X.N[i]? = some n := by rfl) (hk : X.env.kindOf n = some .local := by rfl) :
    PPS X W (.Try body [.ExceptHandler (some (.Name x np)) (some n) (b0 :: suite) pos2] [] [] pos) (mTry tab i mb ms) := by
  refine PS.imp (ps_keep (tb := fun W => tS X.KK X.mg W mb) (ts := tS X.KK X.mg W0 ms) hst hfr hN hi hk hc hex hb hsu) fun D σ H q => ?_
  obtain ⟨w, T, me, ok, lv, q⟩ := q
  refine ⟨w, T, me, ok, lv, ?_⟩
  unfold mTry at q
  cases hm : mb me with
  | bad => rw [hm] at q; exact q
  | ok f m1 => rw [hm] at q; cases f <;> exact q
  | exc y m1 =>
    rw [hm] at q
    dsimp only at q
    split at q
    · rename_i hy
      split at q
      · rename_i m2 hp
        split at q
        · rename_i f m3 hs
          intro c' dd σ' H' T' fr lv' xr
          obtain ⟨C, rfl, g, xr2⟩ := xr
          refine ⟨ht _ C g hy, C, rfl, fun a na => ?_⟩
          have sm : Same0 H' (upd H' a (exk a C dd)) := Same0.new na
          have sv : SV X.KK X.mg w.sc T' (upd H' a (exk a C dd)) (.ref a) (.exc y) := ⟨a, C, dd, rfl, upd_same, nT_new lv'.al na, XR.fr sm.fr ⟨C, rfl, g, xr2⟩⟩
          refine ⟨w, T', m2, ok, putE_ok (lv'.same sm) sv hp, ?_⟩
          rw [hs]
          cases f with
          | next => exact fun σ6 H6 T6 fr6 lv6 => q (σ6.set i none) H6 T6 (fr.trans (sm.fr.trans fr6)) (lv6.gone i)
          | brk => exact fun σ6 H6 T6 fr6 lv6 => q (σ6.set i none) H6 T6 (fr.trans (sm.fr.trans fr6)) (lv6.gone i)
          | cont => exact fun σ6 H6 T6 fr6 lv6 => q (σ6.set i none) H6 T6 (fr.trans (sm.fr.trans fr6)) (lv6.gone i)
          | ret s => exact q
        · exact q.elim
      · exact q.elim
    · exact q.elim
/-- a kept exception's object, as the library looks at it -/
theorem exk_inst {pins : List (Addr × Obj)} {σ : L2.St} {H : Hp} {s : Shared} {a C : Addr} {dd : Option Addr} {T : Addr → Prop} {y : Xn} (I : Inv X pins σ H s) (ha : H a = some (exk a C dd)) (xr : XR X.KK X.mg T H (.ref C) dd y) :
    ∃ ox od, PySem.W.InstAt s.heap a ox C od ∧ ox.dict = dd ∧ ∀ d0, dd = some d0 → ∃ o, od = some o ∧ s.heap.get? d0 = some o := by
  obtain ⟨⟨oe, vs, e1, ⟨z1, z2⟩, e2⟩, _, _⟩ := (show ObjOk X.prog X.w H s.heap a (exk a C dd) from I.hok a _ ha)
  have hn : PySem.W.notCls oe = true := by unfold PySem.W.notCls; rw [e2]
  obtain ⟨C', hC, _, hd, _⟩ := xr
  rcases hd with hd | ⟨d0, fs, hd, hx, _⟩
  · subst hd
    exact ⟨oe, none, ⟨e1, z1, hn, by rw [z2]; trivial⟩, z2, fun d0 k => nomatch k⟩
  · subst hd
    obtain ⟨mA, hns, _⟩ := (show ObjOk X.prog X.w H s.heap d0 (.xd fs) from I.hok d0 _ hx)
    obtain ⟨od, ho, _⟩ := lookIn_ns hns
    exact ⟨oe, some od, ⟨e1, z1, hn, by rw [z2]; exact ho⟩, z2, fun d1 k => by cases k; exact ⟨od, rfl, ho⟩⟩
/-- isinstance(e, c) of a kept exception -/
def rIsK (X : Cx) (tab : Str → Option Bool) (c : Value) : List V → Hp → VK → Prop := fun xs H Q => ∃ (v cv : V) (T : Addr → Prop) (y : Xn) (b : Bool), xs = [v, cv] ∧ ClsV cv c ∧ XV X.KK X.mg T H v y ∧ tab y.cls = some b ∧ Q (.bl b) H
theorem call_isK (ht : TabI X tab c) : CallR X (.builtin "isinstance") (rIsK X tab c) := by
  intro pins s σ H xs us Q I r h
  obtain ⟨v, cv, T, y, b, rfl, k, xv, hb, q⟩ := h
  obtain ⟨a, C, dd, rfl, ha, nT, xr⟩ := xv
  obtain ⟨u1, u2, rfl, r1, r2⟩ := vals2 r
  obtain rfl : u1 = Value.ref a := r1
  have ec := k.eq r2
  subst ec
  obtain ⟨C', hC, g, _⟩ := id xr
  cases hC
  obtain ⟨E, ke⟩ := ht _ C b g hb
  obtain ⟨ox, od, J, _⟩ := exk_inst I ha xr
  have hcl : (PySem.W.clsIn X.KK C).isSome = true := by
    obtain ⟨cd, hc, _⟩ := PySem.W.any_some E.hd
    rw [hc]; rfl
  exact PySem.W.kia_one (PySem.W.kitx_exc hcl E.hg E.hk E.hs E.ha E.hn E.ht E.hm) I.kIn J ke (fun z => nomatch z) fun tk => ⟨.bl b, H, I.kept (t' := tk) fun _ _ z => z, rfl, q⟩
def mIsX (tab : Str → Option Bool) (a : M Sl) : M Sl := fun m => (a m).bind fun s m1 => match s with
  | .exc y => (match tab y.cls with
      | some b => .ok (.dat (.bool b)) m1
      | none => .bad)
  | _ => .bad
theorem pp_isX {p p2 : Pos} {m : M Sl} {y : Str} {cv : V} (hg : Gl X "isinstance") (hm : X.mg "isinstance" = none) (hv : ClsV cv c) (hcl : PE X (.Name y p2) (tC cv)) (ht : TabI X tab c) (ha : PP X W e m)
    (he : starEach [e, .Name y p2] X.env = (false, eval e X.env) :: starEach [.Name y p2] X.env := by rfl) (he2 : starEach [.Name y p2] X.env = (false, eval (.Name y p2) X.env) :: starEach [] X.env := by rfl) (hpl : (backTo pos (starEach [.Name y p2] X.env)).any (·.1) = false := by rfl) :
    PP X W (.Call (.Name "isinstance" p) [e, .Name y p2] [] pos) (mIsX tab m) := by
  refine PE.imp (pe_callB (call_isK ht) hg hm boot_isi (pa_cons ha (pa_cons hcl pa_nil he2) he) (by decide) (by decide) he hpl) fun σ H Q q => ?_
  obtain ⟨w, T, me, ok, lv, q⟩ := q
  refine Rn.seq ok lv q fun T1 me1 v s H1 s1 lv1 p1 q1 => ?_
  split at q1
  · rename_i z
    split at q1
    · rename_i b hb
      exact ⟨v, cv, T1, z, b, rfl, hv, p1, hb, q1 _ H1 T1 (Stp.refl _ _ _ _ _) lv1 (.bl _)⟩
    · exact q1.elim
  · exact q1.elim
end
end PL
namespace PL
open PySem PySem.Spec PyProof.Rows L2
/-! ### a kept exception's field, is None, {}, three names at once -/
section
variable {X : Cx} {W : WX} {pos : Pos} {a b c e : Expr}
def mFld (okc : Str → Bool) (f : Str) (a : M Sl) : M Sl := fun m => (a m).bind fun s m1 => match s with
  | .exc y => if okc y.cls = true then (match y.fs.lookup f with
      | some d => .ok (.dat d) m1
      | none => .bad) else .bad
  | _ => .bad
/-- the classes whose field f may be read -/
def TabF (X : Cx) (okc : Str → Bool) (f : Str) : Prop := ∀ (n : Str) (C : Addr), X.mg n = some (.ref C) → okc n = true → XfC X.KK C ∧ PySem.W.findIn X.KK (.ref C) f = some none
theorem pp_fld {okc : Str → Bool} {f : Str} {m : M Sl} (hf : TabF X okc f) (ha : PP X W e m) (hb : attributeBase e f X.env (eval e X.env) = eval e X.env := by rfl) : PP X W (.Attribute e f pos) (mFld okc f m) := by
  refine ⟨fun pins s σ H Q I q => ?_⟩
  obtain ⟨w, T, me, ok, lv, q⟩ := q
  have q2 : tP X.KK X.mg W m σ H (fun v H1 => ∃ (y : Xn) (d : PyData) (T1 : Addr → Prop), XV X.KK X.mg T1 H1 v y ∧ okc y.cls = true ∧ y.fs.lookup f = some d ∧ ∀ v', DD X.KK T1 H1 v' d → Q v' H1) := by
    refine Rn.seq ok lv q fun T1 me1 v sl H1 s1 lv1 p1 q1 => ?_
    split at q1
    · rename_i y
      split at q1
      · rename_i ho
        split at q1
        · rename_i d hd
          exact ⟨y, d, T1, p1, ho, hd, fun v' dv => q1 v' H1 T1 (Stp.refl _ _ _ _ _) lv1 dv⟩
        · exact q1.elim
      · exact q1.elim
    · exact q1.elim
  refine attr_of hb (thn (ha.run pins s σ H _ I q2) fun u s1 hh => ?_)
  obtain ⟨v, H1, I1, rv, y, d, T1, xv, ho, hd, k⟩ := hh
  obtain ⟨ad, C, dd, rfl, hx, nT, xr⟩ := xv
  obtain rfl : u = Value.ref ad := rv
  obtain ⟨C', hC, g, _, fld⟩ := id xr
  cases hC
  obtain ⟨d0, fs, v, rfl, h2, _, h4, h5⟩ := fld f d hd
  obtain ⟨F, hno⟩ := hf _ C g ho
  obtain ⟨ox, od, J, _, hod⟩ := exk_inst I1 hx xr
  obtain ⟨o, rfl, ho2⟩ := hod d0 rfl
  obtain ⟨mA, hns, hr⟩ := (show ObjOk X.prog X.w H1 s1.heap d0 (.xd fs) from I1.hok d0 _ h2)
  obtain ⟨od2, ho3, hl⟩ := lookIn_ns hns
  rw [ho2] at ho3
  cases ho3
  obtain ⟨u2, hu, ru⟩ := RelO.some_of (v := v) (o := mA f) (by rw [← h4]; exact hr f)
  exact HandSPX.exc_get I1.kIn J F.ga F.gg F.exC (PySem.W.findObj_own F.hdC hno rfl (by rw [hl, hu])) (handed_of ru) ⟨v, H1, I1.tok _, ru, k v h5⟩
/-- e is None, e perhaps an exception -/
def mIsNx (a : M Sl) : M Sl := fun m => (a m).bind fun s m1 => match s with
  | .exc _ => .ok (.dat (.bool false)) m1
  | .dat d => .ok (.dat (.bool (isN d))) m1
  | _ => .bad
theorem tIsNx_ok {x : M Sl} {σ : L2.St} {H : Hp} {Q : VK} (q : tP X.KK X.mg W (mIsNx x) σ H Q) : tP X.KK X.mg W x σ H (fun v H1 => rIsN0 v .non H1 Q) := by
  obtain ⟨w, T, me, ok, lv, q⟩ := q
  refine Rn.seq ok lv q fun T1 me1 v s H1 s1 lv1 p1 q1 => ?_
  split at q1
  · obtain ⟨ad, C, dd, rfl, _⟩ := p1
    exact ⟨rfl, q1 _ H1 T1 (Stp.refl _ _ _ _ _) lv1 (.bl _)⟩
  · rename_i d
    have hd : DB X.KK w.sc T1 H1 v d := .inl p1
    exact ⟨rfl, by rw [hd.isNon]; exact q1 _ H1 T1 (Stp.refl _ _ _ _ _) lv1 (.bl _)⟩
  · exact q1.elim
theorem pp_isNx {x : M Sl} (ha : PP X W a x) (hb : PE X b (tC .non)) (hm : behindInMarks .Is b = false) : PP X W (.Compare a [.Is] [b] pos) (mIsNx x) :=
  PE.imp (pe_cmpR op_isN0 ha hb hm) fun _ _ _ => tIsNx_ok
theorem ppt_isNx {x : M Sl} (ha : PP X W a x) (hb : PE X b (tC .non)) (hm : behindInMarks .Is b = false) : PPt X W (.Compare a [.Is] [b] pos) (mTest (mIsNx x)) :=
  PT.imp (pt_cmpR op_isN0 ha hb hm) fun _ _ _ q => tIsNx_ok (test_of q)
theorem pn_dict0 : PN X W (.Dict [] [] pos) (mC (.dict [])) := by
  refine PE.imp pe_dnewK fun σ H Q q => ?_
  obtain ⟨w, T, me, ok, lv, q⟩ := q
  intro p hp
  obtain ⟨f0, f1, f2⟩ := lv.fresh ok hp
  have fr1 : Fr T H (fun b => T b ∨ b = p) (upd H p (.dK [])) := fun b u n hu => ⟨Same0.new hp b u hu, fun z => z.elim n fun e => by subst e; rw [hp] at hu; cases hu⟩
  exact q p _ T _ ⟨Stp.same (Same0.new hp), lv.grow hp, upd_same, f1, f0, .inl ⟨[], rfl, .nil⟩, lv.noRef hp, fr1⟩
def mPar3 (i j k : Nat) (a : M (List Sl)) : M Flow := fun m => (a m).bind fun ss m1 => match ss with
  | [s, t, u] => match putE i s m1 with
    | some m2 => match putE j t m2 with
      | some m3 => match putE k u m3 with
        | some m4 => .ok .next m4
        | none => .bad
      | none => .bad
    | none => .bad
  | _ => .bad
theorem pps_par3 {i j l : Nat} {x y z : Str} {m : M (List Sl)} {px py pz pt : Pos} {kt k2 : Nat} {pt2 : Pos} (hc : X.calm = true) (hN : X.N.Nodup) (hi : X.N[i]? = some x) (hj : X.N[j]? = some y) (hl : X.N[l]? = some z) (hij : i ≠ j) (hil : i ≠ l) (hjl : j ≠ l)
    (hx : X.env.scope.names.lookup x = some .local) (hy : X.env.scope.names.lookup y = some .local) (hz : X.env.scope.names.lookup z = some .local) (ha : PPs X W [a, b, c] m)
    (hw : swappedStores [.Tuple [.Name x px, .Name y py, .Name z pz] kt pt] (.Tuple [a, b, c] k2 pt2) X.env = pure (some [x, y, z]) := by rfl)
    (hs : swapsWithSole [.Tuple [.Name x px, .Name y py, .Name z pz] kt pt] (.Tuple [a, b, c] k2 pt2) pos.line X.env = pure false := by rfl) :
    PPS X W (.Assign [.Tuple [.Name x px, .Name y py, .Name z pz] kt pt] (.Tuple [a, b, c] k2 pt2) pos) (mPar3 i j l m) := by
  refine PS.imp (ps_par3 hc hN hi hj hl hij hil hjl hx hy hz ha hw hs) fun D σ H q => ?_
  obtain ⟨w, T, me, ok, lv, q⟩ := q
  refine SRn.seq ok lv q fun T1 me1 vs ss H1 s1 lv1 p1 q1 => ?_
  split at q1
  · rename_i s t u
    obtain ⟨v1, v2, v3, rfl, h1, h2, h3⟩ := p1.three
    cases hp : putE i s me1 with
    | none => rw [hp] at q1; exact q1.elim
    | some m2 =>
      rw [hp] at q1
      simp only at q1
      cases hp2 : putE j t m2 with
      | none => rw [hp2] at q1; exact q1.elim
      | some m3 =>
        rw [hp2] at q1
        simp only at q1
        cases hp3 : putE l u m3 with
        | none => rw [hp3] at q1; exact q1.elim
        | some m4 =>
          rw [hp3] at q1
          exact ⟨v1, v2, v3, rfl, q1.nx (putE_ok (putE_ok (putE_ok lv1 h1 hp) h2 hp2) h3 hp3)⟩
  · exact q1.elim
/-! list.count of truth values -/
def eqb (k : Bool) (v : Value) : Bool := match v with
  | .bool n => n == k
  | _ => false
theorem eqb_gives (n k : Bool) : MeetsSeq.EqGives (.bool n) (.bool k) (n == k) := fun prog w A E s Q h => by
  unfold eqBool
  show wpAny _ _ (if (Value.bool n == Value.bool k) = true then _ else _) Q E s
  by_cases hab : (Value.bool n == Value.bool k) = true
  · rw [if_pos hab]
    have e : n = k := by have := eq_of_beq hab; injection this
    subst e
    exact wpAny_bind (wpAny_rule (wpAny_pure (by simpa using h)))
  · rw [if_neg hab]
    exact wpAny_bind (eq_bool (wpAny_truthy_bool h))
theorem bls_vals : ∀ {bs : List Bool} {us : List Value}, Vals (bs.map V.bl) us → us = bs.map Value.bool
  | [], _, .nil => rfl
  | b :: bs, _, .cons r t => by
    have := bls_vals t
    subst this
    cases (show _ = Value.bool b from r)
    rfl
theorem eqb_count (k : Bool) : ∀ bs : List Bool, (bs.map Value.bool).countP (eqb k) = bs.count k
  | [] => rfl
  | b :: bs => by
    have ih := eqb_count k bs
    rw [List.map_cons, List.countP_cons, List.count_cons, ih] <;> rfl
def rCntB (K : Kx) : V → List V → Hp → VK → Prop := fun x xs H Q => ∃ (p : Addr) (bs : List Bool) (k : Bool), x = .ref p ∧ xs = [.bl k] ∧ SqL K H p (bs.map V.bl) ∧ Q (.int (bs.count k : Nat)) H
theorem mt_bcount : MtR X "list.count" (rCntB X.KK) := by
  intro pins s σ H x xs v us Q I rx rxs h
  obtain ⟨p, bs, k, rfl, rfl, hs, q⟩ := h
  cases rx
  obtain ⟨u, rfl, ru⟩ := rxs.one
  cases (show u = Value.bool k from ru)
  obtain ⟨its, rv, ⟨⟨cls, dd, data, sl⟩, n, ho, hc, hdn, hd⟩, hlen⟩ := I.list hs
  simp only at hc hd
  subst hc hd
  have hi := bls_vals rv
  subst hi
  have gv : ∀ y ∈ (bs.map Value.bool), MeetsSeq.EqGives y (.bool k) (eqb k y) := fun y hy => by
    obtain ⟨b, _, rfl⟩ := List.mem_map.1 hy
    exact eqb_gives b k
  have ec := eqb_count k bs
  refine call_meets PySem.F.slot_list_count ⟨_, ho, rfl⟩ PySem.F.entry_list_count (PySem.F.args_list_count_2 _ _) (SeqAt.list_countAt p (bs.map Value.bool).toArray n dd sl (.bool k) (eqb k))
    ⟨ho, fun y hy => (gv y (by simpa using hy)).at _ _, .int (bs.count k : Nat), H, I.tok _, ⟨s.toks, ?_⟩, q⟩
  show Value.int (((bs.map Value.bool).toArray.toList.countP (eqb k) : Nat) : Int) s.toks = _
  rw [show (bs.map Value.bool).toArray.toList = bs.map Value.bool from rfl, ec]
def pCnt (k : Bool) (x : PyData) : Option PyData := match x with
  | .list l => (boolsOf l).map fun bs => .int (bs.count k : Nat)
  | _ => none
theorem pp_count {x : M PyData} {k : Bool} {p2 p3 : Pos} (ha : PB X W a x) (hb : PE X b (tC (.bl k)))
    (hbase : attributeBase a "count" X.env (eval a X.env) = eval a X.env := by rfl)
    (hfew : ((backTo p3 (starEach [b] X.env)).all (fun x => !x.1) && (backToKw p3 (keywordEach [] X.env)).all (fun x => x.1.isSome) && decide ([b].length + ([] : List Keyword).length + (if ([] : List Keyword).isEmpty then 0 else 1) < 30)) = true := by rfl)
    (hline : (p2.endLine == p3.line) = true := by rfl) (hs : starEach [b] X.env = (false, eval b X.env) :: starEach [] X.env := by rfl) (hpl : (backTo p3 (starEach [] X.env)).any (·.1) = false := by rfl) :
    PP X W (.Call (.Attribute a "count" p2) [b] [] p3) (mOp1 (pCnt k) x) := by
  refine PE.imp (pe_bm PySem.F.plainAttrs_list PySem.F.slot_list_count PySem.F.type_list_count mt_bcount ha (pa_cons hb pa_nil hs) hbase hfew hline hs hpl) fun σ H Q q => ?_
  obtain ⟨w, T, me, ok, lv, q⟩ := q
  refine Rn.seq ok lv q fun T1 me1 v d H1 s1 lv1 p1 q1 => ?_
  cases hf : pCnt k d with
  | none => rw [hf] at q1; exact q1.elim
  | some z =>
    rw [hf] at q1
    unfold pCnt at hf
    split at hf
    · rename_i l
      cases hb2 : boolsOf l with
      | none => rw [hb2] at hf; cases hf
      | some bs =>
        rw [hb2] at hf
        cases hf
        obtain ⟨p, vs, rfl, r, dd⟩ := p1.list
        have ev := dd.bools hb2
        subst ev
        exact ⟨.inl ⟨rfl, _, .inl r⟩, p, bs, k, rfl, rfl, .inl r, q1 _ H1 T1 (Stp.refl _ _ _ _ _) lv1 (DD.int (bs.count k : Nat))⟩
    · cases hf
def pNeg : PyData → Option PyData
  | .int i => some (.int (-i))
  | _ => none
theorem pp_neg {x : M PyData} (ha : PB X W a x) : PP X W (.UnaryOp .USub a pos) (mOp1 pNeg x) := by
  refine PE.imp (pe_un un_neg ha) fun σ H Q q => ?_
  obtain ⟨w, T, me, ok, lv, q⟩ := q
  refine Rn.seq ok lv q fun T1 me1 v d H1 s1 lv1 p1 q1 => ?_
  cases hf : pNeg d with
  | none => rw [hf] at q1; exact q1.elim
  | some z =>
    rw [hf] at q1
    unfold pNeg at hf
    split at hf
    · cases hf
      exact ⟨_, p1.int, q1 _ H1 T1 (Stp.refl _ _ _ _ _) lv1 (DD.int _)⟩
    · cases hf
end
end PL
namespace PL
open PySem PySem.Spec PyProof.Rows L2
/-! ### what is handed back as one's own -/
def mRetV (i : Nat) : M Flow := fun m => match m.env[i]? with
  | some (some s) => .ok (.ret s) m
  | _ => .bad
def mRetO (e : M PyData) : M Flow := fun m => (e m).bind fun d m1 => .ok (.ret (.own d)) m1
def resR (m1 : Me) : CRes → Res Flow
  | .ok s st' => .ok (.ret s) { m1 with st := st' }
  | .exc x st' => .exc x { m1 with st := st' }
  | .bad => .bad
def mRetC (F : List Sl → SrcSt → CRes) (a : M (List Sl)) : M Flow := fun m => (a m).bind fun xs m1 => resR m1 (F xs m1.st)
section
variable {X : Cx} {W : WX} {pos : Pos} {tg a b c e : Expr} {es : List Expr} {st : Stmt} {rest body : List Stmt}
theorem pps_retV {i : Nat} {x : Str} (hN : X.N[i]? = some x := by rfl) (hv : Vis X.env.scope x := by first | exact Or.inl rfl | exact Or.inr (Or.inl rfl) | exact Or.inr (Or.inr rfl)) (hd : (x == ("__debug__" : Str)) = false := by decide) (hcd : (x == ("__classdict__" : Str)) = false := by decide) {p2 : Pos} :
    PPS X W (.Return (some (.Name x pos)) p2) (mRetV i) := by
  refine PS.imp (ps_ret (pe_var hN hv hd hcd)) fun D σ H q => ?_
  obtain ⟨w, T, me, ok, lv, q⟩ := q
  unfold mRetV at q
  cases he : me.env[i]? with
  | none => rw [he] at q; exact q.elim
  | some o =>
    cases o with
    | none => rw [he] at q; exact q.elim
    | some s =>
      rw [he] at q
      cases s with
      | own d =>
        obtain ⟨p, u, e, tp, h0, hp, hc⟩ := lv.slot i _ he
        exact ⟨.ref p, e, q (.ref p) H lv.ex (lv.src.weak fun b z => z.elim (lv.t0 b) fun y => by cases y; exact tp) ⟨p, u, rfl, h0, hp, hc.fr (Fr.weak fun b z => z.elim (lv.t0 b) fun y => by rw [y]; exact tp)⟩⟩
      | dat d =>
        obtain ⟨v, e, r⟩ := lv.get he (fun _ => nofun)
        exact ⟨v, e, q v H lv.ex (lv.src.ret lv.t0 r) (RV.of (SV.fr (Fr.weak lv.t0) r))⟩
      | src =>
        obtain ⟨v, e, r⟩ := lv.get he (fun _ => nofun)
        exact ⟨v, e, q v H lv.ex (lv.src.ret lv.t0 r) (RV.of (SV.fr (Fr.weak lv.t0) r))⟩
      | exc x =>
        obtain ⟨v, e, r⟩ := lv.get he (fun _ => nofun)
        exact ⟨v, e, q v H lv.ex (lv.src.ret lv.t0 r) (RV.of (SV.fr (Fr.weak lv.t0) r))⟩
      | obj x =>
        obtain ⟨v, e, r⟩ := lv.get he (fun _ => nofun)
        exact ⟨v, e, q v H lv.ex (lv.src.ret lv.t0 r) (RV.of (SV.fr (Fr.weak lv.t0) r))⟩
theorem pps_retO {m : M PyData} (he : PN X W e m) : PPS X W (.Return (some e) pos) (mRetO m) := by
  refine PS.imp (ps_ret he) fun D σ H q => ?_
  obtain ⟨w, T, me, ok, lv, q⟩ := q
  refine ⟨w, T, me, ok, lv, ?_⟩
  unfold mRetO at q
  cases hm : m me with
  | bad => rw [hm] at q; exact q
  | exc x me1 =>
    rw [hm] at q
    exact fun c dd H' T' fr lv' xr => q c dd σ H' T' fr lv' xr
  | ok l me1 =>
    rw [hm] at q
    intro p vs T' H' n
    exact q (.ref p) H' n.lv.ex (n.lv.src.weak fun b z => z.elim (n.lv.t0 b) fun y => by cases y; exact .inr rfl) ⟨p, vs, rfl, n.h0, n.here, n.dd.fr (Fr.weak fun b z => z.elim (fun y => (n.lv.t0 b y)) fun y => .inr y)⟩
theorem spP_ret {K : Kx} {mg : Str → Option Value} {W : WX} {D : Ends} {w : Wd} {σ : L2.St} {T T1 : Addr → Prop} {H H1 : Hp} {me me1 : Me} {F : List Sl → SrcSt → CRes} {ss : List Sl} {vs : List V} {n : Nat} (ok : w.Ok) (lv : Lv K mg w T σ H me) (s1 : Stp w σ T H me T1 H1 me1) (lv1 : Lv K mg w T1 σ H1 me1) (p1 : SVs K mg w.sc T1 H1 vs ss) (hn : ss.length = n)
    (q : SRn K mg W D w T H (resR me1 (F ss me1.st))) : spP K mg n F vs H1 D.rt (WE W σ) := by
  refine ⟨w.sc, T1, ss, me1.st, by rw [p1.length]; exact hn, fun b hb => lv1.t0 b (ok.s0 b hb), lv1.al, lv1.src, p1, ?_⟩
  cases hf : F ss me1.st with
  | bad => rw [hf] at q; exact q
  | ok s st' =>
    rw [hf] at q
    refine fun v H' ex sr sv => q v H' (lv1.ex.trans ex) (sr.weak fun _ z => retT_mono lv1.t0 z) ?_
    cases s with
    | own d =>
      obtain ⟨p, o, rfl, hp, hp', hc⟩ := sv
      exact ⟨p, o, rfl, (lv1.fresh ok hp).1, hp', hc.fr (Fr.weak fun b z => z.elim (fun y => .inl (lv1.t0 b y)) .inr)⟩
    | dat d => exact DD.to sv (Fr.weak lv1.t0)
    | src => exact sv
    | exc x => exact XV.fr (Fr.weak lv1.t0) sv
    | obj x => exact OV.fr (Fr.weak lv1.t0) sv
  | exc y st' =>
    rw [hf] at q
    exact fun c dd H' ex sr xr => q c dd σ H' T1 ((s1.fr ok lv.t0).trans fun b o n h => ⟨ex b o (ok.sNot lv1.t0 n) h, n⟩) (lv1.call ok ex sr) xr
theorem pps_retC {F : List Sl → SrcSt → CRes} {ms : List (M Sl)} {k n : Nat} {f : Addr} {fd : FuncData} {ps : List Str} {x : Str} {p p2 : Pos} (G : FnOk X.prog X.w X.K X.mg X.base (L2.CX X.prog X.w) k f fd ps (spP X.KK X.mg n F)) (hr : Room k X.A) (hg : Gl X x) (hm : X.mg x = some (.ref f)) (hk : PySem.W.keepIn X.K (.ref f) = true) (hb : Binds X.K fd ps []) (hx : PassX X W)
    (ha : PPs X W (e :: es) (mArgs ms)) (hn : ms.length = n := by rfl) (hdb : (x == ("__debug__" : Str)) = false := by decide) (he : starEach (e :: es) X.env = (false, eval e X.env) :: starEach es X.env := by rfl) (hpl : (backTo pos (starEach es X.env)).any (·.1) = false := by rfl) :
    PPS X W (.Return (some (.Call (.Name x p) (e :: es) [] pos)) p2) (mRetC F (mArgs ms)) := by
  refine PS.imp (ps_ret (pe_callS G hr hg hm hk hb hx ha hdb he hpl)) fun D σ H q => ?_
  obtain ⟨w, T, me, ok, lv, q⟩ := q
  refine ⟨w, T, me, ok, lv, ?_⟩
  unfold mRetC at q
  cases hm : mArgs ms me with
  | bad => rw [hm] at q; exact q
  | exc x me1 =>
    rw [hm] at q
    exact fun c dd H' T' fr lv' xr => q c dd σ H' T' fr lv' xr
  | ok ss me1 =>
    rw [hm] at q
    intro vs H1 T1 s1 lv1 p1
    exact spP_ret ok lv s1 lv1 p1 (by rw [mArgs_len hm]; exact hn) q
/-! ### methods of texts -/
def pSw (x y : PyData) : Option PyData := match x, y with
  | .str a, .str b => some (.bool (Txt.startswith a b))
  | _, _ => none
def pEw (x y : PyData) : Option PyData := match x, y with
  | .str a, .str b => some (.bool (Txt.endswith a b))
  | _, _ => none
def fSw3 : List PyData → Option PyData
  | [.str a, .str b, .int i] => some (.bool (Txt.startswith3 a b i))
  | _ => none
theorem pp_sw {x y : M PyData} {p2 p3 : Pos} (ha : PB X W a x) (hb : PB X W b y)
    (hbase : attributeBase a "startswith" X.env (eval a X.env) = eval a X.env := by rfl)
    (hfew : ((backTo p3 (starEach [b] X.env)).all (fun x => !x.1) && (backToKw p3 (keywordEach [] X.env)).all (fun x => x.1.isSome) && decide ([b].length + ([] : List Keyword).length + (if ([] : List Keyword).isEmpty then 0 else 1) < 30)) = true := by rfl)
    (hline : (p2.endLine == p3.line) = true := by rfl) (hs : starEach [b] X.env = (false, eval b X.env) :: starEach [] X.env := by rfl) (hpl : (backTo p3 (starEach [] X.env)).any (·.1) = false := by rfl) :
    PP X W (.Call (.Attribute a "startswith" p2) [b] [] p3) (mOp pSw (mStr x) y) := by
  refine PE.imp (pe_bm PySem.F.plainAttrs_str PySem.F.slot_str_startswith PySem.F.type_str_startswith mt_startswith ha (pa_cons hb pa_nil hs) hbase hfew hline hs hpl) fun σ H Q q => ?_
  obtain ⟨w, T, me, ok, lv, q⟩ := q
  refine Rn.str ok lv q fun T1 me1 s H1 s1 lv1 q1 => ⟨rfl, ?_⟩
  refine Rn.seq ok lv1 q1 fun T2 me2 u d H2 s2 lv2 p2 q2 => ?_
  cases hf : pSw (.str s) d with
  | none => rw [hf] at q2; exact q2.elim
  | some z =>
    rw [hf] at q2
    unfold pSw at hf
    split at hf
    · rename_i e1
      cases e1; cases hf
      exact ⟨_, _, rfl, by rw [p2.str], q2 _ H2 T2 (Stp.refl _ _ _ _ _) lv2 (.bl _)⟩
    · cases hf
theorem pp_ew {x y : M PyData} {p2 p3 : Pos} (ha : PB X W a x) (hb : PB X W b y)
    (hbase : attributeBase a "endswith" X.env (eval a X.env) = eval a X.env := by rfl)
    (hfew : ((backTo p3 (starEach [b] X.env)).all (fun x => !x.1) && (backToKw p3 (keywordEach [] X.env)).all (fun x => x.1.isSome) && decide ([b].length + ([] : List Keyword).length + (if ([] : List Keyword).isEmpty then 0 else 1) < 30)) = true := by rfl)
    (hline : (p2.endLine == p3.line) = true := by rfl) (hs : starEach [b] X.env = (false, eval b X.env) :: starEach [] X.env := by rfl) (hpl : (backTo p3 (starEach [] X.env)).any (·.1) = false := by rfl) :
    PP X W (.Call (.Attribute a "endswith" p2) [b] [] p3) (mOp pEw (mStr x) y) := by
  refine PE.imp (pe_bm PySem.F.plainAttrs_str PySem.F.slot_str_endswith PySem.F.type_str_endswith mt_endswith ha (pa_cons hb pa_nil hs) hbase hfew hline hs hpl) fun σ H Q q => ?_
  obtain ⟨w, T, me, ok, lv, q⟩ := q
  refine Rn.str ok lv q fun T1 me1 s H1 s1 lv1 q1 => ⟨rfl, ?_⟩
  refine Rn.seq ok lv1 q1 fun T2 me2 u d H2 s2 lv2 p2 q2 => ?_
  cases hf : pEw (.str s) d with
  | none => rw [hf] at q2; exact q2.elim
  | some z =>
    rw [hf] at q2
    unfold pEw at hf
    split at hf
    · rename_i e1
      cases e1; cases hf
      exact ⟨_, _, rfl, by rw [p2.str], q2 _ H2 T2 (Stp.refl _ _ _ _ _) lv2 (.bl _)⟩
    · cases hf
/-- s.startswith(t, i) -/
def mSw3 (x y z : M PyData) : M Sl := fun m => (mStr x m).bind fun s m1 => (y m1).bind fun t m2 => (z m2).bind fun i m3 => match fSw3 [s, t, i] with
  | some r => .ok (.dat r) m3
  | none => .bad
theorem pp_sw3 {x y z : M PyData} {p2 p3 : Pos} (ha : PB X W a x) (hb : PB X W b y) (hc : PB X W c z)
    (hbase : attributeBase a "startswith" X.env (eval a X.env) = eval a X.env := by rfl)
    (hfew : ((backTo p3 (starEach [b, c] X.env)).all (fun x => !x.1) && (backToKw p3 (keywordEach [] X.env)).all (fun x => x.1.isSome) && decide ([b, c].length + ([] : List Keyword).length + (if ([] : List Keyword).isEmpty then 0 else 1) < 30)) = true := by rfl)
    (hline : (p2.endLine == p3.line) = true := by rfl) (hs : starEach [b, c] X.env = (false, eval b X.env) :: starEach [c] X.env := by rfl) (hs2 : starEach [c] X.env = (false, eval c X.env) :: starEach [] X.env := by rfl) (hpl : (backTo p3 (starEach [c] X.env)).any (·.1) = false := by rfl) :
    PP X W (.Call (.Attribute a "startswith" p2) [b, c] [] p3) (mSw3 x y z) := by
  refine PE.imp (pe_bm PySem.F.plainAttrs_str PySem.F.slot_str_startswith PySem.F.type_str_startswith mt_startswith3 ha (pa_cons hb (pa_cons hc pa_nil hs2) hs) hbase hfew hline hs hpl) fun σ H Q q => ?_
  obtain ⟨w, T, me, ok, lv, q⟩ := q
  refine Rn.str ok lv q fun T1 me1 s H1 s1 lv1 q1 => ⟨rfl, ?_⟩
  refine Rn.seq ok lv1 q1 fun T2 me2 u d H2 s2 lv2 p2 q2 => ?_
  refine Rn.seq ok lv2 q2 fun T3 me3 u3 d3 H3 s3 lv3 p3 q3 => ?_
  have p2' := p2.fr (s3.fr ok lv2.t0) s3.ex
  cases hf : fSw3 [.str s, d, d3] with
  | none => rw [hf] at q3; exact q3.elim
  | some z =>
    rw [hf] at q3
    unfold fSw3 at hf
    split at hf
    · rename_i e1
      cases e1; cases hf
      exact ⟨_, _, _, rfl, by rw [p2'.str, p3.int], q3 _ H3 T3 (Stp.refl _ _ _ _ _) lv3 (.bl _)⟩
    · cases hf
end
end PL
namespace PL
open PySem PySem.Spec PyProof.Rows L2
/-! ### an own object is changed -/
theorem frU {T : Addr → Prop} {H : Hp} {p : Addr} {o' : HO} (tp : T p) : Fr T H T (upd H p o') := fun b u n h => ⟨by rw [upd_ne (fun e => n (by rw [e]; exact tp))]; exact h, n⟩
theorem Lv.mutOwn {K : Kx} {mg : Str → Option Value} {w : Wd} {T : Addr → Prop} {σ : L2.St} {H : Hp} {me : Me} {i : Nat} {d d' : PyData} {p : Addr} {o' : HO} (ok : w.Ok) (lv : Lv K mg w T σ H me) (hz : me.env[i]? = some (some (.own d))) (ep : σ[i]? = some (some (.ref p))) (tp : T p) (h0 : w.H0 p = none)
    (hc : OwnC K T (upd H p o') p o' d') : Lv K mg w T σ (upd H p o') { me with env := me.env.set i (some (.own d')) } := by
  have hlt : i < me.env.length := (List.getElem?_eq_some_iff.mp hz).1
  have ns : ¬ InS w.sc p := fun z => ok.al p (ok.s0 p z) h0
  refine ⟨lv.t0, fun b hb => ?_, fun b u n h => ?_, lv.src.to (frU tp) fun x o hx z => by rw [upd_ne (fun (e : x = p) => ns (e ▸ hx))]; exact z, by rw [List.length_set]; exact lv.len, fun j s' hj => ?_, fun j k l1 l2 q h1 h2 e1 e2 => ?_⟩
  · by_cases hbp : b = p
    · subst hbp; rw [upd_same]; exact nofun
    · rw [upd_ne hbp]; exact lv.al b hb
  · rw [upd_ne (fun e => by subst e; rw [h0] at h; cases h)]
    exact lv.ex b u n h
  · by_cases hji : j = i
    · subst hji
      rw [List.getElem?_set_self hlt] at hj
      cases hj
      exact ⟨p, _, ep, tp, h0, upd_same, hc⟩
    · rw [List.getElem?_set_ne (Ne.symm hji)] at hj
      refine (lv.slot j s' hj).fr (frU tp) fun q vs' l' es eq hq tq => ⟨tq, ?_⟩
      subst es
      rw [upd_ne (fun e => by subst e; exact hji (lv.sep j i l' _ q hj hz eq ep))]
      exact hq
  · have g : ∀ (j : Nat) (l' : PyData), (me.env.set i (some (Sl.own d')))[j]? = some (some (Sl.own l')) → ∃ l'', me.env[j]? = some (some (Sl.own l'')) := fun j l' hj => by
      by_cases hji : j = i
      · subst hji; exact ⟨_, hz⟩
      · rw [List.getElem?_set_ne (Ne.symm hji)] at hj; exact ⟨l', hj⟩
    obtain ⟨m1, g1⟩ := g j l1 h1
    obtain ⟨m2, g2⟩ := g k l2 h2
    exact lv.sep j k m1 m2 q g1 g2 e1 e2
/-- an own list of slot i becomes f of it and of the items of e -/
def mExt (i : Nat) (e : M PyData) : M Flow := fun m => match m.env[i]? with
  | some (some (.own (.list _))) => (e m).bind fun d m1 => match d, m1.env[i]? with
    | .list l', some (some (.own (.list l))) => if l.length + l'.length ≤ sizeLine then .ok .next { m1 with env := m1.env.set i (some (.own (.list (l ++ l')))) } else .bad
    | _, _ => .bad
  | _ => .bad
/-- .. and of the items of the own list of slot j -/
def mExtB (i j : Nat) : M Flow := fun m => match m.env[i]?, m.env[j]? with
  | some (some (.own (.list l))), some (some (.own (.list l'))) => if l.length + l'.length ≤ sizeLine then .ok .next { m with env := m.env.set i (some (.own (.list (l ++ l')))) } else .bad
  | _, _ => .bad
section
variable {X : Cx} {W : WX} {pos : Pos} {tg a b c e : Expr} {es : List Expr} {st : Stmt} {rest body : List Stmt}
theorem pps_ext {m : M PyData} {i : Nat} {x : Str} {p1 p2 p3 : Pos} (he : PN X W e m) (hN : X.N[i]? = some x := by rfl) (hv : Vis X.env.scope x := by first | exact Or.inl rfl | exact Or.inr (Or.inl rfl) | exact Or.inr (Or.inr rfl)) (hd : (x == ("__debug__" : Str)) = false := by decide) (hcd : (x == ("__classdict__" : Str)) = false := by decide)
    (hbase : attributeBase (.Name x p1) "extend" X.env (eval (.Name x p1) X.env) = eval (.Name x p1) X.env := by rfl)
    (hfew : ((backTo p3 (starEach [e] X.env)).all (fun x => !x.1) && (backToKw p3 (keywordEach [] X.env)).all (fun x => x.1.isSome) && decide ([e].length + ([] : List Keyword).length + (if ([] : List Keyword).isEmpty then 0 else 1) < 30)) = true := by rfl)
    (hline : (p2.endLine == p3.line) = true := by rfl) (hs : starEach [e] X.env = (false, eval e X.env) :: starEach [] X.env := by rfl) (hpl : (backTo p3 (starEach [] X.env)).any (·.1) = false := by rfl)
    (hs2 : swapsWith (.Call (.Attribute (.Name x p1) "extend" p2) [e] [] p3) none pos.line X.env = pure false := by rfl) : PPS X W (.Expr (.Call (.Attribute (.Name x p1) "extend" p2) [e] [] p3) pos) (mExt i m) := by
  refine PS.imp (ps_expr (pe_bm PySem.F.plainAttrs_list PySem.F.slot_list_extend PySem.F.type_list_extend mt_extend (pe_var hN hv hd hcd) (pa_cons he pa_nil hs) hbase hfew hline hs hpl) hs2) fun D σ H q => ?_
  obtain ⟨w, T, me, ok, lv, q⟩ := q
  unfold mExt at q
  split at q
  · rename_i l0 hz
    obtain ⟨p, _, ep, tp, h0, hp, vs0, rfl, hd0⟩ := lv.slot i _ hz
    refine ⟨.ref p, ep, .inl ⟨rfl, vs0, .inl (.inl hp)⟩, ?_⟩
    refine ⟨w, T, me, ok, lv, ?_⟩
    cases hm : m me with
    | bad => rw [hm] at q; exact q
    | exc x me1 =>
      rw [hm] at q
      exact fun c dd H' T' fr lv' xr => q c dd σ H' T' fr lv' xr
    | ok d me1 =>
      rw [hm] at q
      intro p2 vs T' H' n
      simp only [Res.bind_ok] at q
      split at q
      · rename_i l' l hz1
        split at q
        · rename_i hlen
          obtain ⟨vs2, rfl, dd2⟩ := n.dd
          obtain ⟨p', _, ep', tp', h0', hp', vs1, rfl, hd'⟩ := n.lv.slot i _ hz1
          rw [ep] at ep'; cases ep'
          refine ⟨p, p2, vs1, vs2, rfl, rfl, hp', n.here, by rw [hd'.length, dd2.length]; exact hlen, ?_⟩
          have key := n.lv.mutOwn (o' := .lst (vs1 ++ vs2)) (d' := .list (l ++ l')) ok hz1 ep tp' h0' ⟨_, rfl, DDs.append (dd2.to (frU tp')) (hd'.to (frU tp'))⟩
          exact q σ _ _ (n.new.trans (frU tp')) key
        · exact q.elim
      · exact q.elim
  · exact q.elim
theorem pps_extB {i j : Nat} {x y : Str} {p1 p2 p3 py : Pos} (hN : X.N[i]? = some x := by rfl) (hv : Vis X.env.scope x := by first | exact Or.inl rfl | exact Or.inr (Or.inl rfl) | exact Or.inr (Or.inr rfl)) (hd : (x == ("__debug__" : Str)) = false := by decide) (hcd : (x == ("__classdict__" : Str)) = false := by decide)
    (hN2 : X.N[j]? = some y := by rfl) (hv2 : Vis X.env.scope y := by first | exact Or.inl rfl | exact Or.inr (Or.inl rfl) | exact Or.inr (Or.inr rfl)) (hd2 : (y == ("__debug__" : Str)) = false := by decide) (hcd2 : (y == ("__classdict__" : Str)) = false := by decide)
    (hbase : attributeBase (.Name x p1) "extend" X.env (eval (.Name x p1) X.env) = eval (.Name x p1) X.env := by rfl)
    (hfew : ((backTo p3 (starEach [.Name y py] X.env)).all (fun x => !x.1) && (backToKw p3 (keywordEach [] X.env)).all (fun x => x.1.isSome) && decide ([Expr.Name y py].length + ([] : List Keyword).length + (if ([] : List Keyword).isEmpty then 0 else 1) < 30)) = true := by rfl)
    (hline : (p2.endLine == p3.line) = true := by rfl) (hs : starEach [.Name y py] X.env = (false, eval (.Name y py) X.env) :: starEach [] X.env := by rfl) (hpl : (backTo p3 (starEach [] X.env)).any (·.1) = false := by rfl)
    (hs2 : swapsWith (.Call (.Attribute (.Name x p1) "extend" p2) [.Name y py] [] p3) none pos.line X.env = pure false := by rfl) : PPS X W (.Expr (.Call (.Attribute (.Name x p1) "extend" p2) [.Name y py] [] p3) pos) (mExtB i j) := by
  refine PS.imp (ps_expr (pe_bm PySem.F.plainAttrs_list PySem.F.slot_list_extend PySem.F.type_list_extend mt_extend (pe_var hN hv hd hcd) (pa_cons (pe_var hN2 hv2 hd2 hcd2) pa_nil hs) hbase hfew hline hs hpl) hs2) fun D σ H q => ?_
  obtain ⟨w, T, me, ok, lv, q⟩ := q
  unfold mExtB at q
  split at q
  · rename_i l l' hz hz2
    split at q
    · rename_i hlen
      obtain ⟨p, _, ep, tp, h0, hp, vs0, rfl, hd0⟩ := lv.slot i _ hz
      obtain ⟨p', _, ep', tp', h0', hp', vs1, rfl, hd1⟩ := lv.slot j _ hz2
      refine ⟨.ref p, ep, .inl ⟨rfl, vs0, .inl (.inl hp)⟩, .ref p', ep', ?_⟩
      refine ⟨p, p', vs0, vs1, rfl, rfl, hp, hp', by rw [hd0.length, hd1.length]; exact hlen, ?_⟩
      have key := lv.mutOwn (o' := .lst (vs0 ++ vs1)) (d' := .list (l ++ l')) ok hz ep tp h0 ⟨_, rfl, DDs.append (hd1.to (frU tp)) (hd0.to (frU tp))⟩
      exact q σ _ _ (frU tp) key
    · exact q.elim
  · exact q.elim
end
/-! ### pop of an own list, kept by a target -/
/-- the last item of the own list of slot i goes to the target t -/
def mPopA (t : Tg) (i : Nat) : M Flow := fun m => match m.env[i]? with
  | some (some (.own (.list l))) => match l.getLast? with
    | some d => match mTgt t d { m with env := m.env.set i (some (.own (.list l.dropLast))) } with
      | some m2 => .ok .next m2
      | none => .bad
    | none => .bad
  | _ => .bad
theorem DDs.dropLast {K : Kx} {T : Addr → Prop} {H : Hp} {vs : List V} {ds : List PyData} (h : DDs K T H vs ds) : DDs K T H vs.dropLast ds.dropLast := by
  rw [List.dropLast_eq_take, List.dropLast_eq_take, h.length]
  exact h.take _
section
variable {X : Cx} {W : WX} {pos : Pos} {tg a b c e : Expr} {es : List Expr}
theorem pps_popA {t : Tg} {i : Nat} {x : Str} {p1 p2 p3 : Pos} (hg : PG X tg (tTg X.KK X.mg t)) (hN : X.N[i]? = some x := by rfl) (hv : Vis X.env.scope x := by first | exact Or.inl rfl | exact Or.inr (Or.inl rfl) | exact Or.inr (Or.inr rfl)) (hd : (x == ("__debug__" : Str)) = false := by decide) (hcd : (x == ("__classdict__" : Str)) = false := by decide)
    (hbase : attributeBase (.Name x p1) "pop" X.env (eval (.Name x p1) X.env) = eval (.Name x p1) X.env := by rfl) (hline : (p2.endLine == p3.line) = true := by rfl)
    (hs : swapsWithSole [tg] (.Call (.Attribute (.Name x p1) "pop" p2) [] [] p3) pos.line X.env = pure false := by rfl) (hw : swappedStores [tg] (.Call (.Attribute (.Name x p1) "pop" p2) [] [] p3) X.env = pure none := by rfl) (h1 : (assignEach [tg] X.env).map (·.2) = [assign tg X.env] := by rfl) :
    PPS X W (.Assign [tg] (.Call (.Attribute (.Name x p1) "pop" p2) [] [] p3) pos) (mPopA t i) := by
  refine PS.imp (ps_asg (pe_bm0 PySem.F.plainAttrs_list PySem.F.slot_list_pop PySem.F.type_list_pop mt_pop (pe_var hN hv hd hcd) hbase hline) hg hs hw h1) fun D σ H q => ?_
  obtain ⟨w, T, me, ok, lv, q⟩ := q
  unfold mPopA at q
  split at q
  · rename_i l hz
    split at q
    · rename_i d hl
      split at q
      · rename_i m2 ht
        obtain ⟨p, _, ep, tp, h0, hp, vs, rfl, hdd⟩ := lv.slot i _ hz
        rw [List.getLast?_eq_getElem?] at hl
        obtain ⟨y, hy, dy⟩ := hdd.get hl
        rw [← hdd.length] at hy
        refine ⟨.ref p, ep, .inl ⟨rfl, vs, .inl (.inl hp)⟩, p, vs, y, rfl, rfl, hp, hy, ?_⟩
        have key := lv.mutOwn (o' := .lst vs.dropLast) (d' := .list l.dropLast) ok hz ep tp h0 ⟨_, rfl, (hdd.to (frU tp)).dropLast⟩
        exact ⟨w, T, _, m2, d, key, dy.to (frU tp), ht, fun us lv2 => q _ _ T (frU tp) lv2⟩
      · exact q.elim
    · exact q.elim
  · exact q.elim
end
end PL
namespace PL
open PySem PySem.Spec PyProof.Rows L2
/-! ### enumerate of a list, a tuple, a text -/
theorem meets_enumerate_newB1 {v : Value} {o : Obj} {H : Heap → Prop} (B : Begins v o H) :
    Meets (Builtin.«enumerate.__new__» ⟨[.type "enumerate", v], []⟩) (fun _ R s => H s.heap ∧
      R (.ok (.ret (.ref (s.heap.push o).objs.size))) { s with heap := (s.heap.push o).push { cls := .type "enumerate", data := .fields #[.none, .bool false, .ref s.heap.objs.size, rawInt 0, .none, .none] } }) :=
  .of_wp fun prog w A R s h => by
    obtain ⟨hp, g, d, tk, os⟩ := s; obtain ⟨h1, h⟩ := h
    have hsub := sub_enumerate
    have q1 : ∀ {A' : Around} {E : Value → Shared → Prop} {Q : Value → Shared → Prop}, Q (.ref hp.objs.size) ⟨hp.push o, g, d, tk, os⟩ → wpAny (model prog w) A' (pyIter v) Q E ⟨hp, g, d, tk, os⟩ :=
      fun q => B.iter prog w _ _ ⟨hp, g, d, tk, os⟩ _ h1 q
    wp_walk using q1
    refine wpAny_stack_any fun st => wpAny_pure ?_
    split
    · rename_i c _ _ _ _ _
      cases (c == Value.type "enumerate")
      · wp_walk using q1
        exact ⟨_, rfl, h⟩
      · wp_walk using q1
        exact ⟨_, rfl, h⟩
    · wp_walk using q1
      exact ⟨_, rfl, h⟩
theorem call_enumerate_B {prog : Program} {w : World} {A : Around} {E : Value → Shared → Prop} {s : Shared} {v : Value} {o : Obj} {H : Heap → Prop} {Q : Value → Shared → Prop} (B : Begins v o H) (h1 : H s.heap)
    (h : ∀ h', IsEnum h' (s.heap.objs.size + 1) s.heap.objs.size 0 .none → h'.get? s.heap.objs.size = some o → h'.objs.size = s.heap.objs.size + 2 →
      (∀ b o, s.heap.get? b = some o → h'.get? b = some o) → Q (.ref (s.heap.objs.size + 1)) { s with heap := h' }) :
    wpAny (model prog w) A (call (.type "enumerate") [v]) Q E s := by
  refine callType_new F.called_enumerate (by decide) (F.typeCall_enumerate_1 _) (F.newCall_enumerate_1 _) (fun obj => F.args_object_init_2 obj _) F.entry_enumerate_new
    (meets_enumerate_newB1 B) ⟨h1, ?_⟩
  have hz : (s.heap.push o).objs.size = s.heap.objs.size + 1 := Heap.size_push ..
  show _ ∧ _
  rw [hz]
  have he : IsEnum ((s.heap.push o).push { cls := .type "enumerate", data := .fields #[.none, .bool false, .ref s.heap.objs.size, rawInt 0, .none, .none] }) (s.heap.objs.size + 1) s.heap.objs.size 0 .none := by
    have := Heap.get?_push_size (s.heap.push o) (o := { cls := .type "enumerate", data := .fields #[.none, .bool false, .ref s.heap.objs.size, rawInt 0, .none, .none] }) rfl
    rw [hz] at this; exact this
  refine ⟨⟨_, he, rfl⟩, h _ he (Heap.get?_push_of_some _ (Heap.get?_push_size _ B.free)) (by rw [Heap.size_push, hz]) fun b o x => Heap.get?_push_of_some _ (Heap.get?_push_of_some _ x)⟩
/-- the tuple at a, each item in a new pair | the text z -/
def IteT (K : PySem.W.Frag) (a : Addr) : It :=
  ⟨fun i H => ∃ (xs : List V) (x : V), SqT K H a xs ∧ xs[i]? = some x, fun i H v H' => ∃ T x, v = .ref T ∧ H T = none ∧ H' = upd H T (.tup [.int (i : Nat), x]) ∧ ∀ xs, SqT K H a xs → xs[i]? = some x, fun i H => ∃ xs : List V, SqT K H a xs ∧ xs.length = i⟩
def IteX (z : Str) : It :=
  ⟨fun i _ => i < z.cps.size, fun i H v H' => ∃ T c, v = .ref T ∧ H T = none ∧ H' = upd H T (.tup [.int (i : Nat), .str ⟨#[c]⟩]) ∧ z.cps[i]? = some c, fun i _ => i = z.cps.size⟩
theorem enum_new {X : Cx} {pins : List (Addr × Obj)} {σ : L2.St} {H : Hp} {s : Shared} {E : Value → Shared → Prop} {e it : Addr} {i : Nat} {old x : Value} {y : V} {h' : Heap} {tk : Nat} {J : It} {elts : List Expr} {kk : Nat} {tpos : Pos} {tn : Nat → Heap → Prop} (I : Inv X pins σ H s) (hf : ∀ b ∈ [e, it], FpOk X pins H b) (he : IsEnum s.heap e it i old) (hil : it < s.heap.objs.size) (hne : e ≠ it) (ry : RelV y x)
    (ho : IsEnumOut h' e it ((i : Int) + 1) x s.heap.objs.size) (hT : h'.get? s.heap.objs.size = some { cls := .type "tuple", data := .seq #[.int i tk, x] }) (hk : ∀ b o, b ≠ e → b ≠ it → s.heap.get? b = some o → h'.get? b = some o)
    (hJ : ∀ H', H s.heap.objs.size = none → H' = upd H s.heap.objs.size (.tup [.int (i : Nat), y]) → J.yld i H (.ref s.heap.objs.size) H')
    (htn : ∀ h2, IsEnum h2 e it ((i + 1 : Nat) : Int) x → (∀ o, h'.get? it = some o → h2.get? it = some o) → tn (i + 1) h2) :
    wpAny (model X.prog X.w) X.A (letOwnedTupleGo (.Tuple elts kk tpos) (.ref e) (.ref s.heap.objs.size)) (fun _ s2 => ∃ x H', Inv X pins σ H' s2 ∧ RelV x (.ref s.heap.objs.size) ∧ J.yld i H x H' ∧ tn (i + 1) s2.heap ∧ ∀ b ∈ [e, it], H' b = none) E { s with heap := h', toks := tk + 1 } := by
  have hel : e < s.heap.objs.size := Heap.lt_size he
  refine wpAny_letOwnedTupleGo_enum (s := { s with heap := h', toks := tk + 1 }) ho fun h'' he' sb => ?_
  have hT2 : h''.get? s.heap.objs.size = some { cls := .type "tuple", data := .seq #[.int i tk, x] } := (sb.2 _ (Nat.ne_of_gt hel)).trans hT
  have new : ObjOk X.prog X.w (upd H s.heap.objs.size (.tup [.int (i : Nat), y])) h'' s.heap.objs.size (.tup [.int (i : Nat), y]) :=
    ⟨by show 2 ≤ sizeLine; decide, [.int i tk, x], .cons ⟨_, rfl⟩ (.cons ry .nil), ⟨_, hT2, rfl, _, rfl⟩⟩
  have I1 : Inv X pins σ (upd H s.heap.objs.size (.tup [.int (i : Nat), y])) { s with heap := h'', toks := tk + 1 } :=
    I.turnedNew (ch := [e, it]) (fun b ob hb q => (sb.2 b (fun z => hb (by simp [z]))).trans (hk b ob (fun z => hb (by simp [z])) (fun z => hb (by simp [z])) q)) hf (Nat.le_refl _) new
  refine ⟨.ref s.heap.objs.size, _, I1, rfl, hJ _ (I.hok.fresh (Nat.le_refl _)) rfl, htn h'' ?_ (fun o q => (sb.2 it (Ne.symm hne)).trans q), fun b hb => ?_⟩
  · have e1 : ((i + 1 : Nat) : Int) = (i : Int) + 1 := by omega
    rw [e1]; exact he'
  · have hb' : b < s.heap.objs.size := by
      have e' : b = e ∨ b = it := by simpa using hb
      rcases e' with z | z
      · rw [z]; exact hel
      · rw [z]; exact hil
    rw [upd_ne (Nat.ne_of_lt hb')]
    exact (hf b hb).1
theorem turn_enumT {P : Program} {w : World} {K : PySem.W.Frag} {elts : List Expr} {kk : Nat} {tpos : Pos} (a e it : Addr) :
    Turn P w K (.Tuple elts kk tpos) (IteT K a) [e, it] e (fun i h => (∃ old, IsEnum h e it ((i : Nat) : Int) old) ∧ h.IsTupleIter it a i ∧ e ≠ it ∧ a ≠ it ∧ a ≠ e) where
  mem := by simp
  obj := fun i h st b hb => by
    obtain ⟨⟨old, he⟩, ⟨o, ho, hc, hd⟩, _⟩ := st
    have e' : b = e ∨ b = it := by simpa using hb
    rcases e' with z | z
    · rw [z]; exact ⟨_, he, fun v q => nomatch q⟩
    · rw [z]; exact ⟨o, ho, fun v q => by rw [hd] at q; cases q⟩
  keep := fun i h h' st k => let ⟨⟨old, he⟩, hi, hne⟩ := st; ⟨⟨old, k e (by simp) _ he⟩, hi.at fun o q => k it (by simp) o q, hne⟩
  item := by
    intro X hP hw hK hc i pins s σ H E I hf st hg
    subst hP hw hK
    obtain ⟨⟨old, he⟩, hit, hne, hai, hae⟩ := st
    obtain ⟨xs, x, hq, hx⟩ := hg
    obtain ⟨its, rv, p, hz⟩ := I.tuple hq
    obtain ⟨u, hu, ru⟩ := rv.get hx
    have hlt : i < its.toArray.size := by
      have := (List.getElem?_eq_some_iff.mp hu).1
      simpa using this
    have hil : it < s.heap.objs.size := by obtain ⟨_, q, _⟩ := hit; exact Heap.lt_size q
    refine wpAny_pyNext_enum_itemD (Draws.tuple (A := X.A.in1) (I.ok.hd hc) it a hai its.toArray) he ⟨hit, (show s.heap.IsTuple a its.toArray from p)⟩ hlt hne (by simp [hne, Ne.symm hae]) fun v h' tk hv ho hst' hT hsz hk => ?_
    have ev : v = u := by
      have h1 : its.toArray[i]? = some u := by simpa using hu
      rw [h1] at hv; exact (Option.some.inj hv).symm
    subst ev
    refine ⟨_, rfl, enum_new (J := IteT X.K a) (tn := fun i h => (∃ old, IsEnum h e it ((i : Nat) : Int) old) ∧ h.IsTupleIter it a i ∧ e ≠ it ∧ a ≠ it ∧ a ≠ e) I hf he hil hne ru ho hT hk (fun H' n e1 => ⟨_, x, rfl, n, e1, fun ys hy => by rw [I.tuple_inj hy hq]; exact hx⟩) fun h2 he2 k2 => ⟨⟨_, he2⟩, hst'.1.at k2, hne, hai, hae⟩⟩
  done := by
    intro X hP hw hK hc i pins s σ H E I hf st hg
    subst hP hw hK
    obtain ⟨⟨old, he⟩, hit, hne, hai, hae⟩ := st
    obtain ⟨xs, hq, hx⟩ := hg
    obtain ⟨its, rv, p, hz⟩ := I.tuple hq
    obtain ⟨f0, f1, f2, f3, f4, f5⟩ := hf it (by simp)
    have hl := rv.length
    have hi : i = its.toArray.size := by simp; omega
    subst hi
    exact wpAny_pyNext_enum_endD (Draws.tuple (A := X.A.in1) (I.ok.hd hc) it a hai its.toArray) he ⟨hit, (show s.heap.IsTuple a its.toArray from p)⟩ fun h' eb => ⟨rfl, I.turned (t' := s.toks) (fun b o hb q => eb b o hb q) f0 f1 f3 f4 f5⟩
  self := fun A i s Q E st h => let ⟨⟨_, he⟩, _⟩ := st; wpAny_pyIter_enum he h
theorem strIter_at {h h' : Heap} {it : Addr} {ty : String} {x : Str} {t : Tok} {i : Nat} (q : h.IsStrIter it ty x t i) (k : ∀ o, h.get? it = some o → h'.get? it = some o) : h'.IsStrIter it ty x t i := let ⟨o, ho, r⟩ := q; ⟨o, k o ho, r⟩
theorem turn_enumX {P : Program} {w : World} {K : PySem.W.Frag} {elts : List Expr} {kk : Nat} {tpos : Pos} (z : Str) (tz : Tok) (e it : Addr) :
    Turn P w K (.Tuple elts kk tpos) (IteX z) [e, it] e (fun i h => (∃ old, IsEnum h e it ((i : Nat) : Int) old) ∧ h.IsStrIter it (strIterType z) z tz i ∧ e ≠ it) where
  mem := by simp
  obj := fun i h st b hb => by
    obtain ⟨⟨old, he⟩, ⟨o, ho, hc, hd⟩, _⟩ := st
    have e' : b = e ∨ b = it := by simpa using hb
    rcases e' with z | z
    · rw [z]; exact ⟨_, he, fun v q => nomatch q⟩
    · rw [z]; exact ⟨o, ho, fun v q => by rw [hd] at q; cases q⟩
  keep := fun i h h' st k => let ⟨⟨old, he⟩, hi, hne⟩ := st; ⟨⟨old, k e (by simp) _ he⟩, strIter_at hi fun o q => k it (by simp) o q, hne⟩
  item := by
    intro X hP hw hK hc i pins s σ H E I hf st hg
    subst hP hw hK
    obtain ⟨⟨old, he⟩, hit, hne⟩ := st
    have hil : it < s.heap.objs.size := by obtain ⟨_, q, _⟩ := hit; exact Heap.lt_size q
    refine wpAny_pyNext_enum_itemD (Draws.text (A := X.A.in1) (I.ok.hd hc) it z tz) he hit hg hne (by simp [hne]) fun v h' tk hv ho hst' hT hsz hk => ?_
    obtain ⟨c, u, hc1, rfl⟩ := hv
    exact ⟨_, rfl, enum_new (J := IteX z) (tn := fun i h => (∃ old, IsEnum h e it ((i : Nat) : Int) old) ∧ h.IsStrIter it (strIterType z) z tz i ∧ e ≠ it) (y := .str ⟨#[c]⟩) I hf he hil hne ⟨_, rfl⟩ ho hT hk (fun H' n e1 => ⟨_, c, rfl, n, e1, hc1⟩) fun h2 he2 k2 => ⟨⟨_, he2⟩, strIter_at hst' k2, hne⟩⟩
  done := by
    intro X hP hw hK hc i pins s σ H E I hf st hg
    subst hP hw hK
    obtain ⟨⟨old, he⟩, hit, hne⟩ := st
    obtain ⟨f0, f1, f2, f3, f4, f5⟩ := hf it (by simp)
    have hi : i = z.cps.size := hg
    subst hi
    exact wpAny_pyNext_enum_endD (Draws.text (A := X.A.in1) (I.ok.hd hc) it z tz) he hit fun h' eb => ⟨rfl, I.turned (t' := s.toks) (fun b o hb q => eb b o hb q) f0 f1 f3 f4 f5⟩
  self := fun A i s Q E st h => let ⟨⟨_, he⟩, _⟩ := st; wpAny_pyIter_enum he h
def iEnumA (K : PySem.W.Frag) (te : TE) : TI := fun σ H R => te σ H fun v H1 => (∃ a xs, v = .ref a ∧ SqL K H1 a xs ∧ R (Ite K a) H1) ∨ (∃ a xs, v = .ref a ∧ SqT K H1 a xs ∧ R (IteT K a) H1) ∨ ∃ z, v = .str z ∧ R (IteX z) H1
theorem pi_enumA {X : Cx} {e : Expr} {te : TE} {p pos tpos : Pos} {elts : List Expr} {kk : Nat} (hg : Gl X "enumerate") (hm : X.mg "enumerate" = none) (he : PE X e te) (hs : starEach [e] X.env = (false, eval e X.env) :: starEach [] X.env := by rfl) :
    PI X (.Tuple elts kk tpos) (.Call (.Name "enumerate" p) [e] [] pos) (iEnumA X.K te) := by
  refine ⟨fun pins s σ H R I h => ?_⟩
  refine Call_ (ld_blt I hg hm boot_enumerate (PyProof.Rows.callWith_type1 (args_cons (thn (he.run pins s σ H _ I h) fun u s1 ⟨v, H1, I1, r1, q1⟩ => args_nil ?_) hs) hs rfl))
  have fin : ∀ {h' : Heap} {J : It} {tn : Nat → Heap → Prop}, (∀ b o, s1.heap.get? b = some o → h'.get? b = some o) → Turn X.prog X.w X.K (.Tuple elts kk tpos) J [s1.heap.objs.size + 1, s1.heap.objs.size] (s1.heap.objs.size + 1) tn → tn 0 h' → R J H1 → PIE X pins σ (.Tuple elts kk tpos) R (.ref (s1.heap.objs.size + 1)) { s1 with heap := h' } := fun hk tu h0 q => by
    refine ⟨s1.heap.objs.size + 1, [s1.heap.objs.size + 1, s1.heap.objs.size], _, _, H1, rfl, I1.kept (t' := s1.toks) hk, tu, h0, fun b hb => ?_, q⟩
    have e' : b = s1.heap.objs.size + 1 ∨ b = s1.heap.objs.size := by simpa using hb
    have hle : s1.heap.objs.size ≤ b := by
      rcases e' with z | z
      · rw [z]; exact Nat.le_add_right _ _
      · rw [z]; exact Nat.le_refl _
    exact I1.fpOk hle (I1.hok.fresh hle)
  rcases q1 with ⟨a, xs, ev, hq, q⟩ | ⟨a, xs, ev, hq, q⟩ | ⟨z, ev, q⟩
  · subst ev
    obtain rfl : u = Value.ref a := r1
    obtain ⟨its, rv, p', hz⟩ := I1.list hq
    refine call_enumerate_list p'.isList fun h' he hit hsz hk => wpAny_pyIter_enum he ?_
    exact fin hk (turn_enum a _ _) ⟨⟨.none, he⟩, hit, Nat.succ_ne_self _⟩ q
  · subst ev
    obtain rfl : u = Value.ref a := r1
    obtain ⟨its, rv, p', hz⟩ := I1.tuple hq
    have pt : s1.heap.IsTuple a its.toArray := p'
    have ha : a < s1.heap.objs.size := by obtain ⟨o, ho, _⟩ := pt; exact Heap.lt_size ho
    refine call_enumerate_B (begins_tuple a its.toArray) pt fun h' he hit hsz hk => wpAny_pyIter_enum he ?_
    exact fin hk (turn_enumT a _ _) ⟨⟨.none, he⟩, ⟨_, hit, rfl, rfl⟩, Nat.succ_ne_self _, Nat.ne_of_lt ha, Nat.ne_of_lt (Nat.lt_succ_of_lt ha)⟩ q
  · subst ev
    obtain ⟨t, rfl⟩ := r1
    refine call_enumerate_B (begins_text z t) trivial fun h' he hit hsz hk => wpAny_pyIter_enum he ?_
    exact fin hk (turn_enumX z t _ _) ⟨⟨.none, he⟩, ⟨_, hit, rfl, rfl⟩, Nat.succ_ne_self _⟩ q
/-! pure -/
def enumD : Nat → List PyData → List PyData
  | _, [] => []
  | n, d :: r => .tuple [.int (n : Nat), d] :: enumD (n + 1) r
theorem enumD_length : ∀ (l : List PyData) (n : Nat), (enumD n l).length = l.length
  | [], _ => rfl
  | _ :: r, n => congrArg (· + 1) (enumD_length r (n + 1))
theorem enumD_get : ∀ (l : List PyData) (n i : Nat) (d : PyData), l[i]? = some d → (enumD n l)[i]? = some (.tuple [.int ((n + i : Nat) : Int), d])
  | _ :: r, n, 0, d, h => by cases h; rfl
  | _ :: r, n, i + 1, d, h => by
    have := enumD_get r (n + 1) i d (by simpa using h)
    show (enumD (n + 1) r)[i]? = _
    rw [this, show n + 1 + i = n + (i + 1) by omega]
def mEnum (a : M Sl) : M (List PyData) := fun m => (mDat a m).bind fun d m1 => match itemsOf d with
  | some l => .ok (enumD 0 l) m1
  | none => .bad
theorem pair_new {K : Kx} {T : Addr → Prop} {H : Hp} {p : Addr} {x : V} {d : PyData} {i : Nat} (al : ∀ b, T b → H b ≠ none) (hp : H p = none) (h : DD K T H x d) : DD K T (upd H p (.tup [.int (i : Nat), x])) (.ref p) (.tuple [.int ((0 + i : Nat) : Int), d]) := by
  rw [Nat.zero_add]
  exact DD.newT al hp (.cons (.int _) (.cons h .nil))
theorem wk_enumL {K : Kx} {T : Addr → Prop} {H : Hp} {a : Addr} {xs : List V} {ds : List PyData} (hq : QL K T H a xs) (hd : DDs K T H xs ds) : Wk K T H (Ite K a) (enumD 0 ds) := by
  refine ⟨_, _, by rw [enumD_length]; exact hd.length ▸ walk_enum (xs := xs), fun T' H' f => (hq.fr f).sq, fun T' H' i x H'' f al hi y => ?_⟩
  obtain ⟨Tn, x1, x2, rfl, hn, rfl, e1, e2⟩ := y
  cases e1
  obtain ⟨d, e, dd⟩ := (hd.to f).getV e2
  exact ⟨Same0.new hn, _, enumD_get _ _ _ _ e, pair_new al hn dd⟩
theorem walk_enumT {K : PySem.W.Frag} {a : Addr} {xs : List V} : Walk (IteT K a) xs.length (fun H => SqT K H a xs) (YPair (fun i => some (.int (i : Nat))) (fun i => xs[i]?)) := by
  refine ⟨fun i _ hi q => ⟨xs, xs[i], q, by simp [hi]⟩, fun _ q => ⟨xs, q, rfl⟩, fun i H v H' _ q y => ?_⟩
  obtain ⟨T, x, h1, h2, h3, h4⟩ := y
  exact ⟨T, .int (i : Nat), x, h1, h2, h3, rfl, h4 xs q⟩
theorem wk_enumT {K : Kx} {T : Addr → Prop} {H : Hp} {a : Addr} {xs : List V} {ds : List PyData} (hq : QT K T H a xs) (hd : DDs K T H xs ds) : Wk K T H (IteT K a) (enumD 0 ds) := by
  refine ⟨_, _, by rw [enumD_length]; exact hd.length ▸ walk_enumT (xs := xs), fun T' H' f => (hq.fr f).sq, fun T' H' i x H'' f al hi y => ?_⟩
  obtain ⟨Tn, x1, x2, rfl, hn, rfl, e1, e2⟩ := y
  cases e1
  obtain ⟨d, e, dd⟩ := (hd.to f).getV e2
  exact ⟨Same0.new hn, _, enumD_get _ _ _ _ e, pair_new al hn dd⟩
theorem wk_enumX {K : Kx} {T : Addr → Prop} {H : Hp} {z : Str} : Wk K T H (IteX z) (enumD 0 (z.cps.toList.map fun c => .str ⟨#[c]⟩)) := by
  refine ⟨fun _ => True, fun i H v H' => ∃ T c, v = .ref T ∧ H T = none ∧ H' = upd H T (.tup [.int (i : Nat), .str ⟨#[c]⟩]) ∧ z.cps[i]? = some c, ?_, fun _ _ _ => trivial, fun T' H' i x H'' f al hi y => ?_⟩
  · have e : (enumD 0 (z.cps.toList.map fun c => PyData.str ⟨#[c]⟩)).length = z.cps.size := by rw [enumD_length]; simp
    rw [e]
    exact ⟨fun _ _ hi _ => hi, fun _ _ => rfl, fun _ _ _ _ _ _ y => y⟩
  · obtain ⟨Tn, ch, rfl, hn, rfl, e⟩ := y
    refine ⟨Same0.new hn, _, enumD_get _ _ _ (.str ⟨#[ch]⟩) ?_, pair_new al hn (.str _)⟩
    rw [List.getElem?_map, Array.getElem?_toList, e]
    rfl
section
variable {X : Cx} {W : WX} {pos : Pos} {tg a b c e : Expr} {es rest : List Expr}
theorem pit_enum {m : M Sl} {p tpos : Pos} {elts : List Expr} {kk : Nat} (hg : Gl X "enumerate") (hm : X.mg "enumerate" = none) (h : PP X W e m) (hs : starEach [e] X.env = (false, eval e X.env) :: starEach [] X.env := by rfl) : PIt X W (.Tuple elts kk tpos) (.Call (.Name "enumerate" p) [e] [] pos) (mEnum m) := by
  refine PI.imp (pi_enumA hg hm h hs) fun σ H Q q => ?_
  obtain ⟨w, T, me, ok, lv, q⟩ := q
  refine Rn.dat ok lv q fun T1 me1 v d H1 s1 lv1 p1 q1 => ?_
  cases hi : itemsOf d with
  | none => rw [hi] at q1; exact q1.elim
  | some l =>
    rw [hi] at q1
    unfold itemsOf at hi
    split at hi
    · cases hi
      cases p1 with
      | lst hq hd => exact .inl ⟨_, _, rfl, hq.sq, q1 _ H1 T1 (Stp.refl _ _ _ _ _) lv1 (wk_enumL hq hd)⟩
    · cases hi
      cases p1 with
      | tup hq hd => exact .inr (.inl ⟨_, _, rfl, hq.sq, q1 _ H1 T1 (Stp.refl _ _ _ _ _) lv1 (wk_enumT hq hd)⟩)
    · cases hi
      cases p1
      exact .inr (.inr ⟨_, rfl, q1 _ H1 T1 (Stp.refl _ _ _ _ _) lv1 wk_enumX⟩)
    · cases hi
/-! xs[::-1] -/
def mRev (a : M PyData) : M PyData := fun m => (a m).bind fun d m1 => match d with
  | .list l => .ok (.list l.reverse) m1
  | _ => .bad
theorem DDs.reverse {K : Kx} {T : Addr → Prop} {H : Hp} : ∀ {vs : List V} {ds : List PyData}, DDs K T H vs ds → DDs K T H vs.reverse ds.reverse
  | [], _, h => by cases h; exact .nil
  | _ :: _, _, h => by
    cases h with
    | cons a b => rw [List.reverse_cons, List.reverse_cons]; exact DDs.append (.cons a .nil) b.reverse
/-- a new list laid by a reading -/
theorem Lv.newAt {K : Kx} {mg : Str → Option Value} {w : Wd} {σ : L2.St} {T T1 : Addr → Prop} {H H1 : Hp} {me me1 : Me} {p : Addr} {o : HO} {d : PyData} (ok : w.Ok) (lv : Lv K mg w T σ H me) (s1 : Stp w σ T H me T1 H1 me1) (lv1 : Lv K mg w T1 σ H1 me1) (hp : H1 p = none) (hc : OwnC K (fun b => T1 b ∨ b = p) (upd H1 p o) p o d) : NewL K mg w σ T H me d me1 p o T1 (upd H1 p o) := by
  obtain ⟨f0, f1, f2⟩ := lv1.fresh ok hp
  have fr1 : Fr T1 H1 (fun b => T1 b ∨ b = p) (upd H1 p o) := fun b u n hu => ⟨Same0.new hp b u hu, fun z => z.elim n fun e => by subst e; rw [hp] at hu; cases hu⟩
  exact ⟨s1.trans (Stp.same (Same0.new hp)), lv1.grow hp, upd_same, f1, f0, hc, lv1.noRef hp, (s1.fr ok lv.t0).trans fr1⟩
theorem Rn.new {α β : Type} {K : Kx} {mg : Str → Option Value} {W : WX} {P : Wd → (Addr → Prop) → Hp → β → α → Prop} {m : M α} {k : α → Me → Res PyData} {σ : L2.St} {H : Hp} {Q : VK} {Q' : β → Hp → Prop} {w : Wd} {T : Addr → Prop} {me : Me} (ok : w.Ok) (lv : Lv K mg w T σ H me)
    (h : match (m me).bind k with
      | .ok l me' => ∀ (p : Addr) (vs : HO) (T' : Addr → Prop) (H' : Hp), NewL K mg w σ T H me l me' p vs T' H' → Q (.ref p) H'
      | .exc x me' => ∀ (c : Value) (dd : Option Addr) (H' : Hp) (T' : Addr → Prop), Fr T H T' H' → Lv K mg w T' σ H' me' → XR K mg T' H' c dd x → W c dd σ H'
      | .bad => False)
    (f : ∀ (T1 : Addr → Prop) (me1 : Me) (v : β) (x : α) (H1 : Hp), Stp w σ T H me T1 H1 me1 → Lv K mg w T1 σ H1 me1 → P w T1 H1 v x → (match k x me1 with
      | .ok l me' => ∀ (p : Addr) (vs : HO) (T' : Addr → Prop) (H' : Hp), NewL K mg w σ T1 H1 me1 l me' p vs T' H' → Q (.ref p) H'
      | .exc x me' => ∀ (c : Value) (dd : Option Addr) (H' : Hp) (T' : Addr → Prop), Fr T1 H1 T' H' → Lv K mg w T' σ H' me' → XR K mg T' H' c dd x → W c dd σ H'
      | .bad => False) → Q' v H1) : tR K mg W P m σ H Q' := by
  refine ⟨w, T, me, ok, lv, ?_⟩
  cases hm : m me with
  | bad => rw [hm] at h; exact h
  | exc x me1 => rw [hm] at h; exact h
  | ok x me1 =>
    rw [hm] at h
    simp only [Res.bind_ok] at h
    intro v H1 T1 s1 lv1 p1
    refine f T1 me1 v x H1 s1 lv1 p1 ?_
    cases hk : k x me1 with
    | bad => rw [hk] at h; exact h
    | exc y me2 =>
      rw [hk] at h
      exact fun c dd H' T' fr lv' xr => h c dd H' T' ((s1.fr ok lv.t0).trans fr) lv' xr
    | ok y me2 =>
      rw [hk] at h
      exact fun p vs T' H' n => h p vs T' H' ⟨s1.trans n.stp, n.lv, n.here, n.nT, n.h0, n.dd, n.no, (s1.fr ok lv.t0).trans n.new⟩
theorem pn_rev {x : M PyData} {k : Nat} {p1 p2 p3 : Pos} (h : PB X W e x) : PN X W (.Subscript e (.Slice none none (some (.UnaryOp .USub (.Constant (.int 1) k p1) p2)) p3) pos) (mRev x) := by
  refine PE.imp (pe_revL h) fun σ H Q q => ?_
  obtain ⟨w, T, me, ok, lv, q⟩ := q
  refine Rn.new ok lv q fun T1 me1 v d H1 s1 lv1 p1 q1 => ?_
  cases d with
  | list l =>
    obtain ⟨p, vs, rfl, r, dd⟩ := p1.list
    exact ⟨p, vs, rfl, .inl r, fun p' hp => q1 p' _ _ _ (lv1.newAt ok (Stp.refl _ _ _ _ _) lv1 hp ⟨_, rfl, (DDs.grow hp dd).reverse⟩)⟩
  | none => exact q1.elim
  | bool b => exact q1.elim
  | int i => exact q1.elim
  | str i => exact q1.elim
  | tuple i => exact q1.elim
  | dict i => exact q1.elim
end
end PL
namespace PL
open PySem PySem.Spec PyProof.Rows L2
/-! ### dicts: pure -/
def leafK : PyData → Bool
  | .int _ => true
  | .str _ => true
  | _ => false
def tupK : PyData → Bool
  | .tuple ds => keyT ds
  | _ => false
def leafD (es : List (PyData × PyData)) : Bool := es.all fun p => leafK p.1
def tupD (es : List (PyData × PyData)) : Bool := es.all fun p => tupK p.1
def dGet (es : List (PyData × PyData)) (k : PyData) : Option PyData := (es.find? fun p => decide (nk p.1 = nk k)).map (·.2)
def dPut (es : List (PyData × PyData)) (k v : PyData) : List (PyData × PyData) := if (es.any fun p => decide (nk p.1 = nk k)) = true then es.map fun p => if nk p.1 = nk k then (p.1, v) else p else es ++ [(k, v)]
/-- the key is of the dict's kind -/
def fitK (es : List (PyData × PyData)) (k : PyData) : Bool := (leafK k && leafD es) || (tupK k && tupD es)
/-! ### what a key is in the heap -/
section
variable {X : Cx} {pins : List (Addr × Obj)} {σ : L2.St} {H : Hp} {s : Shared} {T : Addr → Prop}
theorem nested_set {h : Heap} {ks : List NestedKey} {us : List Value} : True := trivial
mutual
theorem DD.nested (I : Inv X pins σ H s) : ∀ (d : PyData) (v : V) (u : Value), hsh d = true → DD X.KK T H v d → RelV v u → NestedIs s.heap (nk d) u
  | .none, _, _, _, h, r => by cases h; cases r; exact .none
  | .bool b, _, _, _, h, r => by cases h; cases r; exact .bool rfl
  | .int i, _, _, _, h, r => by cases h; obtain ⟨t, rfl⟩ := r; exact .int i t
  | .str x, _, _, _, h, r => by cases h; obtain ⟨t, rfl⟩ := r; exact .text x t
  | .list _, _, _, c, _, _ => by cases c
  | .dict _, _, _, c, _, _ => by cases c
  | .tuple ds, _, _, c, h, r => by
    cases h with
    | tup q dd =>
      cases r
      obtain ⟨its, rv, p, hz⟩ := I.tuple q.sq
      obtain ⟨o, ho, hc, n, hd⟩ := (show s.heap.IsTuple _ its.toArray from p)
      exact .tup ho hc hd (by simpa using DDs.nested I ds _ its c dd rv)
theorem DDs.nested (I : Inv X pins σ H s) : ∀ (ds : List PyData) (vs : List V) (us : List Value), hshs ds = true → DDs X.KK T H vs ds → Vals vs us → NestedAll s.heap (nks ds) us
  | [], _, _, _, h, r => by cases h; cases r; exact .nil
  | d :: ds, _, _, c, h, r => by
    have c' : hsh d = true ∧ hshs ds = true := by simpa [hshs] using c
    cases h with
    | cons a b =>
      cases r with
      | cons ra rb => exact .cons (DD.nested I d _ _ c'.1 a ra) (DDs.nested I ds _ _ c'.2 b rb)
end
theorem keyIs (I : Inv X pins σ H s) {ds : List PyData} {b : Addr} (hk : keyT ds = true) (h : DD X.KK T H (.ref b) (.tuple ds)) : (nestedKind X.prog X.w).is s.heap (nk (.tuple ds)) b := by
  have c : hshs ds = true ∧ (nk (.tuple ds)).depth ≤ 8 := by simpa [keyT] using hk
  exact ⟨DD.nested I (.tuple ds) _ _ c.1 h rfl, c.2⟩
/-- the entries as the library has them -/
theorem DNs.entries (I : Inv X pins σ H s) : ∀ {kvs : List NE} {es : List (PyData × PyData)} {en : List DictEntry}, DNs X.KK T H kvs es → Paired (fun (p : NE) (e : DictEntry) => e.hash = p.1.hash X.w ∧ e.key = .ref p.2.1 ∧ RelV p.2.2 e.val) kvs en →
    ∃ xs : List (NestedKey × Addr × Value), en = xs.map (entryOfKey (nestedKind X.prog X.w)) ∧ (∀ x ∈ xs, (nestedKind X.prog X.w).is s.heap x.1 x.2.1) ∧ xs.map (·.1) = kvs.map (·.1) ∧ Paired (fun (p : NE) (x : NestedKey × Addr × Value) => p.1 = x.1 ∧ p.2.1 = x.2.1 ∧ RelV p.2.2 x.2.2) kvs xs
  | [], _, _, _, r => by cases r; exact ⟨[], rfl, (fun _ h => nomatch h), rfl, .nil⟩
  | p :: kvs, _, _, h, r => by
    cases h with
    | cons g g2 a b t =>
      cases r with
      | @cons _ en' _ en2 re rt =>
        obtain ⟨xs, e1, e2, e3, e4⟩ := DNs.entries I t rt
        obtain ⟨eh, ek, ev⟩ := en'
        obtain ⟨r1, r2, r3⟩ := re
        cases r1; cases r2
        refine ⟨(_, _, ev) :: xs, by rw [List.map_cons, e1]; rfl, fun x hx => ?_, by rw [List.map_cons, List.map_cons, e3], .cons ⟨rfl, rfl, r3⟩ e4⟩
        rcases List.mem_cons.1 hx with rfl | hx
        · subst g; exact keyIs I g2 a
        · exact e2 x hx
theorem dictN_of (I : Inv X pins σ H s) {a : Addr} {kvs : List NE} {es : List (PyData × PyData)} (ha : Rd H a (HN X.KK a kvs)) (dd : DNs X.KK T H kvs es) :
    ∃ xs : List (NestedKey × Addr × Value), s.heap.DictOfH (nestedKind X.prog X.w) a xs ∧ Paired (fun (p : NE) (x : NestedKey × Addr × Value) => p.1 = x.1 ∧ p.2.1 = x.2.1 ∧ RelV p.2.2 x.2.2) kvs xs ∧ kvs.length ≤ sizeLine ∧ (a == sysModules) = false := by
  obtain ⟨o, en, ep, e1, e2, e3, e4, e5, e6, e7⟩ := (show DictN X.KK a kvs s.heap from (ha.ok I.hok).1)
  obtain ⟨xs, g1, g2, g3, g4⟩ := dd.entries I e4
  exact ⟨xs, ⟨o, en, ep, e1, e2, e3, g1, g2, by rw [g3]; exact e5⟩, g4, e6, e7⟩
end
/-! the values by the keys -/
theorem find_pair {K : Kx} {T : Addr → Prop} {H : Hp} {k : NestedKey} : ∀ {kvs : List NE} {es : List (PyData × PyData)} {xs : List (NestedKey × Addr × Value)}, DNs K T H kvs es → Paired (fun (p : NE) (x : NestedKey × Addr × Value) => p.1 = x.1 ∧ p.2.1 = x.2.1 ∧ RelV p.2.2 x.2.2) kvs xs →
    match es.find? (fun p => decide (nk p.1 = k)) with
      | some p => ∃ b v u, atKey xs k = some (b, u) ∧ RelV v u ∧ DD K T H v p.2
      | none => atKey xs k = none
  | [], _, _, h, r => by cases h; cases r; rfl
  | q :: kvs, _, _, h, r => by
    cases h with
    | cons g g2 a b t =>
      cases r with
      | @cons _ x _ xs re rt =>
        obtain ⟨x1, x2, x3⟩ := x
        obtain ⟨r1, r2, r3⟩ := re
        simp only at r1 r2 r3
        subst r1; subst r2; subst g
        rename_i b0 v0 ds e0 es0
        by_cases hk : nk (.tuple ds) = k
        · rw [List.find?_cons_of_pos (by simpa using hk)]
          refine ⟨b0, v0, x3, ?_, r3, b⟩
          simp [atKey, hk]
        · rw [List.find?_cons_of_neg (by simpa using hk)]
          have ih := find_pair (k := k) t rt
          have e : ∀ {x2 x3}, atKey ((nk (PyData.tuple ds), x2, x3) :: xs) k = atKey xs k := fun {x2 x3} => by simp [atKey, hk]
          rw [e]
          exact ih
def keyO : PyData → Option Key
  | .int i => some (.inl i)
  | .str x => some (.inr x)
  | _ => none
theorem keyD_of {k : Key} {d : PyData} (h : KeyD k d) : keyO d = some k ∧ leafK d = true := by
  cases k <;> (cases (show d = _ from h); exact ⟨rfl, rfl⟩)
theorem keyO_of {d : PyData} (h : leafK d = true) : ∃ k, keyO d = some k ∧ KeyD k d := by
  cases d <;> first | exact ⟨_, rfl, rfl⟩ | cases h
theorem key_eq {k k' : Key} {d d' : PyData} (h : KeyD k d) (h' : KeyD k' d') : (nk d = nk d') ↔ (k = k') := by
  cases k <;> cases k' <;> cases (show d = _ from h) <;> cases (show d' = _ from h') <;> simp [nk]
theorem find_leaf {K : Kx} {T : Addr → Prop} {H : Hp} {k : Key} {d : PyData} (hk : KeyD k d) : ∀ {kvs : List (Key × V)} {es : List (PyData × PyData)}, DKs K T H kvs es →
    match es.find? (fun p => decide (nk p.1 = nk d)) with
      | some p => ∃ v, valV kvs k = some v ∧ DD K T H v p.2
      | none => valV kvs k = none
  | [], _, h => by cases h; rfl
  | q :: kvs, _, h => by
    cases h with
    | @cons k' v' _ d' e' es' g b t =>
      by_cases he : k' = k
      · have hn := (key_eq g hk).2 he
        rw [List.find?_cons_of_pos (by simpa using hn)]
        exact ⟨v', by simp [valV, he], b⟩
      · have hn : ¬ nk d' = nk d := fun z => he ((key_eq g hk).1 z)
        rw [List.find?_cons_of_neg (by simpa using hn)]
        have ih := find_leaf hk t
        rw [valV_neg (p := (k', v')) he]
        exact ih
theorem DKs.leaf {K : Kx} {T : Addr → Prop} {H : Hp} {kvs : List (Key × V)} {es : List (PyData × PyData)} (h : DKs K T H kvs es) (ht : tupD es = true) : es = [] := by
  cases h with
  | nil => rfl
  | @cons k v kvs d e es g _ _ =>
    have h1 := (keyD_of g).2
    simp only [tupD, List.all_cons, Bool.and_eq_true] at ht
    have h2 := ht.1
    cases d <;> first | (cases h1; done) | cases h2
theorem DNs.notLeaf {K : Kx} {T : Addr → Prop} {H : Hp} {kvs : List NE} {es : List (PyData × PyData)} (h : DNs K T H kvs es) (ht : leafD es = true) : es = [] := by
  cases h with
  | nil => rfl
  | cons _ _ _ _ _ => simp [leafD, leafK] at ht
theorem DKs.length {K : Kx} {T : Addr → Prop} {H : Hp} : ∀ {kvs : List (Key × V)} {es : List (PyData × PyData)}, DKs K T H kvs es → kvs.length = es.length
  | _, _, .nil => rfl
  | _, _, .cons _ _ t => congrArg (· + 1) (DKs.length t)
theorem DNs.length {K : Kx} {T : Addr → Prop} {H : Hp} : ∀ {kvs : List NE} {es : List (PyData × PyData)}, DNs K T H kvs es → kvs.length = es.length
  | _, _, .nil => rfl
  | _, _, .cons _ _ _ _ t => congrArg (· + 1) (DNs.length t)
/-- what a dict is, looked at -/
theorem DB.dict {K : Kx} {sc : Sc} {T : Addr → Prop} {H : Hp} {v : V} {es : List (PyData × PyData)} (h : DB K sc T H v (.dict es)) : ∃ a, v = .ref a ∧ ((∃ kvs, Rd H a (.dK kvs) ∧ DKs K T H kvs es) ∨ ∃ kvs, Rd H a (HN K a kvs) ∧ es ≠ [] ∧ DNs K T H kvs es) := by
  rcases h with h | ⟨p, u, rfl, hp, _, hd⟩
  · cases h with
    | dic q r => exact ⟨_, rfl, .inl ⟨_, q.1, r⟩⟩
    | din q n r => exact ⟨_, rfl, .inr ⟨_, q.1, n, r⟩⟩
  · rcases hd with ⟨kvs, rfl, h⟩ | ⟨kvs, rfl, n, h⟩
    · exact ⟨p, rfl, .inl ⟨kvs, .inl hp, h⟩⟩
    · exact ⟨p, rfl, .inr ⟨kvs, .inl hp, n, h⟩⟩
theorem keyD_v {k : Key} {d : PyData} {K : Kx} {sc : Sc} {T : Addr → Prop} {H : Hp} {v : V} (h : DB K sc T H v d) (hk : KeyD k d) : v = kV k := by
  cases k with
  | inl i => cases (show d = .int i from hk); exact h.int
  | inr x => cases (show d = .str x from hk); exact h.str
/-! ### d[k] -/
def pDIx : PyData → PyData → Option PyData
  | .dict es, k => if fitK es k = true then dGet es k else none
  | _, _ => none
def rDIx (K : Kx) : R2 := fun x y H Q => ∃ (sc : Sc) (T : Addr → Prop) (d e z : PyData), (∀ b, T b → H b ≠ none) ∧ DB K sc T H x d ∧ DB K sc T H y e ∧ pDIx d e = some z ∧ ∀ v, DD K T H v z → Q v H
section
variable {X : Cx} {W : WX} {pos : Pos} {tg a b c e : Expr} {es : List Expr} {st : Stmt} {rest body : List Stmt}
theorem DB.tupDD {K : Kx} {sc : Sc} {T : Addr → Prop} {H : Hp} {v : V} {ds : List PyData} (h : DB K sc T H v (.tuple ds)) : DD K T H v (.tuple ds) := by
  rcases h with h | ⟨p, u, rfl, hp, _, hd⟩
  · exact h
  · exact hd.elim
theorem tail_dict {prog : Program} {w : World} {A : Around} {E : Value → Shared → Prop} {s : Shared} {value slice : Expr} {o i : Value} {Q : Value → Shared → Prop} (hT : s.TypeIs o "dict") (hs : subscripted slice false o i = operate [o, i] (getItem o i)) (h₂ : wpAny (model prog w) A (getItem o i) Q E s) :
    wpAny (model prog w) A (subscriptTail value slice o i) Q E s := by
  unfold subscriptTail
  refine wpAny_bind ?_
  rw [getitemInPython_of_ne hT.not_modules]
  refine wpAny_bind (wpAny_specialOf hT PySem.F.slot_dict_getitem.lookup ?_)
  have fin : wpAny (model prog w) A (subscripted slice false o i) (fun r s₃ => wpAny (model prog w) A (letTemporaryGo value o r >>= fun _ => pure r) Q E s₃) E s := by
    rw [hs]
    exact wpAny_operating (wpAny_mono h₂ (fun r s₃ h₃ => wpAny_bind (wpAny_letTemporaryGo (wpAny_pure h₃))) fun _ _ x => x)
  first
    | exact wpAny_pure (wpAny_bind fin)
    | exact wpAny_bind (wpAny_pure (wpAny_bind fin))
    | exact wpAny_bind fin
theorem ix_dict (hu : X.A.units + 65 < cLine) : IxR X (rDIx X.KK) := by
  intro value slice pins s σ H x y v u Q I rx ry h hs
  obtain ⟨sc, T, d, e, z, al, hx, hy, hf, q⟩ := h
  unfold pDIx at hf
  split at hf
  · rename_i es
    split at hf
    · rename_i hfit
      obtain ⟨a, rfl, hd⟩ := hx.dict
      obtain rfl : v = Value.ref a := rx
      unfold dGet at hf
      rcases hd with ⟨kvs, hk, dk⟩ | ⟨kvs, hk, hne, dn⟩
      · simp only [fitK, Bool.or_eq_true, Bool.and_eq_true] at hfit
        rcases hfit with ⟨h1, h2⟩ | ⟨h1, h2⟩
        · obtain ⟨k, e1, e2⟩ := keyO_of h1
          have fl := find_leaf e2 dk
          cases hq : es.find? (fun p => decide (nk p.1 = nk e)) with
          | none => rw [hq] at hf; cases hf
          | some p =>
            rw [hq] at fl hf
            obtain ⟨v0, g1, g2⟩ := fl
            cases hf
            have ey := keyD_v hy e2
            subst ey
            have g : DGet H a (kV k) (some v0) := .inl ⟨kvs, k, hk, rfl, g1.symm⟩
            exact tail_dict (dict_typeIs I g) hs (d_getItem (v := v0) (by omega) I g ry fun w' s' I' rw' => ⟨v0, H, I', rw', q v0 g2⟩)
        · rw [dk.leaf h2] at hf; cases hf
      · simp only [fitK, Bool.or_eq_true, Bool.and_eq_true] at hfit
        rcases hfit with ⟨h1, h2⟩ | ⟨h1, h2⟩
        · exact absurd (dn.notLeaf h2) hne
        · unfold tupK at h1
          split at h1
          · rename_i ds
            have hyd := hy.tupDD
            obtain ⟨b, eb⟩ : ∃ b, y = .ref b := by cases hyd; exact ⟨_, rfl⟩
            subst eb
            obtain rfl : u = Value.ref b := ry
            obtain ⟨xs, g1, g2, g3, g4⟩ := dictN_of I hk dn
            have fl := find_pair (k := nk (.tuple ds)) dn g2
            cases hq : es.find? (fun p => decide (nk p.1 = nk (.tuple ds))) with
            | none => rw [hq] at hf; cases hf
            | some p =>
              rw [hq] at fl hf
              obtain ⟨b0, v0, u0, f1, f2, f3⟩ := fl
              cases hf
              refine tail_dict g1.typeIs hs ?_
              exact wpAny_getItem_heap (by show X.A.in1.units + 8 < cLine; have : X.A.in1.units = X.A.units + 1 := rfl; omega) (keyIs I h1 hyd) g1 f1 ⟨v0, H, I.tok _, f2, q v0 f3⟩
          · cases h1
    · cases hf
  · cases hf
end
end PL
namespace PL
open PySem PySem.Spec PyProof.Rows L2
/-! ### in, not in: texts, lists, tuples, dicts -/
def pInA : PyData → PyData → Option PyData
  | d, .str y => match d with
    | .str x => if x.cps.size = 1 then some (.bool (decide (x.cps.getD 0 0 ∈ y.cps.toList))) else some (.bool (!(Builtin.Str.occurrences y x 0 y.length 1).isEmpty))
    | _ => none
  | d, .list l => if SeqAt.shaped d = true ∧ SeqAt.shaped (.list l) = true then some (.bool (l.any fun u => PyData.eqv u d)) else none
  | d, .tuple l => if SeqAt.shaped d = true ∧ SeqAt.shaped (.tuple l) = true then some (.bool (l.any fun u => PyData.eqv u d)) else none
  | k, .dict es => if fitK es k = true then some (.bool (dGet es k).isSome) else none
  | _, _ => none
def rInA (K : Kx) (neg : Bool) : R2 := fun x y H Q => ∃ (sc : Sc) (T : Addr → Prop) (d e : PyData) (b : Bool), (∀ b, T b → H b ≠ none) ∧ DB K sc T H x d ∧ DB K sc T H y e ∧ pInA d e = some (.bool b) ∧ Q (.bl (if neg = true then !b else b)) H
theorem pInA_bool {d e z : PyData} (h : pInA d e = some z) : ∃ b, z = .bool b := by
  unfold pInA at h
  split at h
  · split at h
    · split at h <;> (cases h; exact ⟨_, rfl⟩)
    · cases h
  · split at h
    · cases h; exact ⟨_, rfl⟩
    · cases h
  · split at h
    · cases h; exact ⟨_, rfl⟩
    · cases h
  · split at h
    · cases h; exact ⟨_, rfl⟩
    · cases h
  · cases h
theorem dk_nil {prog : Program} {w : World} {h : Heap} {a : Addr} (hd : h.DictOf (mixKind prog w) a ([] : List (Key × Value))) : h.DictOfH (nestedKind prog w) a [] := by
  obtain ⟨o, es, ep, h1, h2, h3, h4, h5, h6⟩ := hd
  have e : es.toList = [] := by
    generalize es.toList = l at h5
    cases h5; rfl
  exact ⟨o, es, ep, h1, h2, h3, by rw [e]; rfl, (fun x hx => nomatch hx), List.nodup_nil⟩
section
variable {X : Cx} {W : WX} {pos : Pos} {tg a b c e : Expr} {es : List Expr}
theorem in_dict_wp {A : Around} {E : Value → Shared → Prop} {pins : List (Addr × Obj)} {σ : L2.St} {H : Hp} {s : Shared} {sc : Sc} {T : Addr → Prop} {x y : V} {v u : Value} {k : PyData} {ent : List (PyData × PyData)} {neg : Bool} {Q : Value → Shared → Prop} (hu : A.units + 65 < cLine) (I : Inv X pins σ H s) (rx : RelV x v) (ry : RelV y u)
    (hx : DB X.KK sc T H x k) (hy : DB X.KK sc T H y (.dict ent)) (hfit : fitK ent k = true) (q : ∀ s', Inv X pins σ H s' → Q (.bool (if neg = true then !(dGet ent k).isSome else (dGet ent k).isSome)) s') :
    wpAny (model X.prog X.w) A (compareOp (if neg = true then .NotIn else .In) v u) Q E s := by
  obtain ⟨a, rfl, hd⟩ := hy.dict
  obtain rfl : u = Value.ref a := ry
  have room : (nestedKind X.prog X.w).room A.in1 := by show A.in1.units + 8 < cLine; have : A.in1.units = A.units + 1 := rfl; omega
  rcases hd with ⟨kvs, hk, dk⟩ | ⟨kvs, hk, hne, dn⟩
  · simp only [fitK, Bool.or_eq_true, Bool.and_eq_true] at hfit
    rcases hfit with ⟨h1, h2⟩ | ⟨h1, h2⟩
    · obtain ⟨kk, e1, e2⟩ := keyO_of h1
      have fl := find_leaf e2 dk
      have ey := keyD_v hx e2
      subst ey
      have g : DGet H a (kV kk) (valV kvs kk) := .inl ⟨kvs, kk, hk, rfl, rfl⟩
      have es : (valV kvs kk).isSome = (dGet ent k).isSome := by
        unfold dGet
        cases hq : ent.find? (fun p => decide (nk p.1 = nk k)) with
        | none => rw [hq] at fl; rw [fl]; rfl
        | some p => rw [hq] at fl; obtain ⟨v0, g1, _⟩ := fl; rw [g1]; rfl
      cases neg
      · exact d_in (by omega) I g rx fun s' I' => by rw [es]; exact q s' I'
      · exact d_notIn (by omega) I g rx fun s' I' => by rw [es]; exact q s' I'
    · have hnil := dk.leaf h2
      subst hnil
      cases dk
      unfold tupK at h1
      split at h1
      · rename_i ds
        have hxd := hx.tupDD
        obtain ⟨b, eb⟩ : ∃ b, x = .ref b := by cases hxd; exact ⟨_, rfl⟩
        subst eb
        obtain rfl : v = Value.ref b := rx
        obtain ⟨z, hd, vs, rel, dd⟩ := dk_rd I.hok hk
        cases rel
        cases neg
        · exact wpAny_in_heap room (keyIs I h1 hxd) hd (dk_nil dd) (q _ (I.tok _))
        · exact wpAny_notIn_heap room (keyIs I h1 hxd) hd (dk_nil dd) (q _ (I.tok _))
      · cases h1
  · simp only [fitK, Bool.or_eq_true, Bool.and_eq_true] at hfit
    rcases hfit with ⟨h1, h2⟩ | ⟨h1, h2⟩
    · exact absurd (dn.notLeaf h2) hne
    · unfold tupK at h1
      split at h1
      · rename_i ds
        have hxd := hx.tupDD
        obtain ⟨b, eb⟩ : ∃ b, x = .ref b := by cases hxd; exact ⟨_, rfl⟩
        subst eb
        obtain rfl : v = Value.ref b := rx
        obtain ⟨xs, g1, g2, g3, g4⟩ := dictN_of I hk dn
        have fl := find_pair (k := nk (.tuple ds)) dn g2
        have es : (atKey xs (nk (.tuple ds))).isSome = (dGet ent (.tuple ds)).isSome := by
          unfold dGet
          cases hq : ent.find? (fun p => decide (nk p.1 = nk (.tuple ds))) with
          | none => rw [hq] at fl; rw [fl]; rfl
          | some p => rw [hq] at fl; obtain ⟨b0, v0, u0, f1, f2, f3⟩ := fl; rw [f1]; rfl
        cases neg
        · exact wpAny_in_heap room (keyIs I h1 hxd) g4 g1 (by rw [es]; exact q _ (I.tok _))
        · exact wpAny_notIn_heap room (keyIs I h1 hxd) g4 g1 (by rw [es]; exact q _ (I.tok _))
      · cases h1
theorem op_inA {neg : Bool} (hu : X.A.units + 65 < cLine) : OpR X (compareOp (if neg = true then .NotIn else .In)) (rInA X.KK neg) := by
  intro pins s σ H x y v u Q I rx ry h
  obtain ⟨sc, T, d, e, r, al, hx, hy, hf, q⟩ := h
  unfold pInA at hf
  split at hf
  · split at hf
    · rename_i yy xs
      have e1 := hx.str
      have e2 := hy.str
      subst e1 e2
      split at hf
      · rename_i hs
        cases hf
        rw [str_one hs] at rx q
        cases neg
        · exact op_in_sign pins s σ H _ _ v u Q I rx ry ⟨_, _, rfl, rfl, q⟩
        · exact op_notIn_sign pins s σ H _ _ v u Q I rx ry ⟨_, _, rfl, rfl, q⟩
      · cases hf
        cases neg
        · exact op_in_str pins s σ H _ _ v u Q I rx ry ⟨_, _, rfl, rfl, q⟩
        · exact op_notin_str pins s σ H _ _ v u Q I rx ry ⟨_, _, rfl, rfl, q⟩
    · cases hf
  · split at hf
    · rename_i hs
      cases hf
      cases neg
      · exact op_inD hu pins s σ H x y v u Q I rx ry ⟨_, _, hx.dp (SeqAt.canLay_of_shaped hs.1), hy.dp (SeqAt.canLay_of_shaped hs.2), hs.1, hs.2, q⟩
      · exact op_notInD hu pins s σ H x y v u Q I rx ry ⟨_, _, hx.dp (SeqAt.canLay_of_shaped hs.1), hy.dp (SeqAt.canLay_of_shaped hs.2), hs.1, hs.2, q⟩
    · cases hf
  · split at hf
    · rename_i hs
      cases hf
      obtain ⟨as, r1⟩ := Dp.reads I _ x v (hx.dp (SeqAt.canLay_of_shaped hs.1)) rx
      obtain ⟨bs, r2⟩ := Dp.reads I _ y u (hy.dp (SeqAt.canLay_of_shaped hs.2)) ry
      cases neg
      · exact SeqAt.in_tuple_reads r2 r1 (by simpa [PyData.canLay0] using SeqAt.canLay_of_shaped hs.2) (SeqAt.canLay_of_shaped hs.1) (room_in_shaped hs.1 hu) ⟨.bl _, H, I, rfl, q⟩
      · exact SeqAt.notIn_tuple_reads r2 r1 (by simpa [PyData.canLay0] using SeqAt.canLay_of_shaped hs.2) (SeqAt.canLay_of_shaped hs.1) (room_in_shaped hs.1 hu) ⟨.bl _, H, I, rfl, q⟩
    · cases hf
  · split at hf
    · rename_i hs
      cases hf
      exact in_dict_wp hu I rx ry hx hy hs fun s' I' => ⟨.bl _, H, I', by cases neg <;> rfl, q⟩
    · cases hf
  · cases hf
theorem ok_inA {K : Kx} : OpOk K (rInA K false) pInA := by
  intro sc T H x y d e z Q al hx hy hf q
  obtain ⟨b, rfl⟩ := pInA_bool hf
  exact ⟨sc, T, d, e, b, al, hx, hy, hf, q _ H (fun _ _ h => h) (.bl _)⟩
theorem ok_notInA {K : Kx} : OpOk K (rInA K true) (pNot pInA) := by
  intro sc T H x y d e z Q al hx hy hf q
  unfold pNot at hf
  split at hf
  · rename_i b hb
    cases hf
    exact ⟨sc, T, d, e, b, al, hx, hy, hb, q _ H (fun _ _ h => h) (.bl _)⟩
  · cases hf
theorem pp_inA {x y : M PyData} (hu : X.A.units + 65 < cLine) (ha : PB X W a x) (hb : PB X W b y) (hm : behindInMarks .In b = false := by rfl) : PP X W (.Compare a [.In] [b] pos) (mOp pInA x y) := pp_cmp (op_inA (neg := false) hu) ok_inA ha hb hm
theorem pp_notInA {x y : M PyData} (hu : X.A.units + 65 < cLine) (ha : PB X W a x) (hb : PB X W b y) (hm : behindInMarks .NotIn b = false := by rfl) : PP X W (.Compare a [.NotIn] [b] pos) (mOp (pNot pInA) x y) := pp_cmp (op_inA (neg := true) hu) ok_notInA ha hb hm
theorem ppt_inA {x y : M PyData} (hu : X.A.units + 65 < cLine) (ha : PB X W a x) (hb : PB X W b y) (hm : behindInMarks .In b = false := by rfl) : PPt X W (.Compare a [.In] [b] pos) (mTest (mOp pInA x y)) := ppt_cmp (op_inA (neg := false) hu) ok_inA ha hb hm
theorem ppt_notInA {x y : M PyData} (hu : X.A.units + 65 < cLine) (ha : PB X W a x) (hb : PB X W b y) (hm : behindInMarks .NotIn b = false := by rfl) : PPt X W (.Compare a [.NotIn] [b] pos) (mTest (mOp (pNot pInA) x y)) := ppt_cmp (op_inA (neg := true) hu) ok_notInA ha hb hm
/-! items of lists, tuples, texts, dicts -/
def pIxA : PyData → PyData → Option PyData
  | .dict es, k => pDIx (.dict es) k
  | d, k => pIx d k
theorem ok_ixA {K : Kx} : OpOk K (fun x y H Q => rIx K x y H Q ∨ rDIx K x y H Q) pIxA := by
  intro sc T H x y d e z Q al hx hy hf q
  unfold pIxA at hf
  split at hf
  · exact .inr ⟨sc, T, _, e, z, al, hx, hy, hf, fun v h => q v H (fun _ _ h => h) h⟩
  · exact .inl (ok_ix sc T H x y d e z Q al hx hy hf q)
theorem pp_itemA {x y : M PyData} (hu : X.A.units + 65 < cLine) (ha : PB X W a x) (hb : PB X W b y) (hs : PlainIx b := by exact fun _ _ => rfl) : PP X W (.Subscript a b pos) (mOp pIxA x y) := pp_ix (ix_seq.or (ix_dict hu)) ok_ixA ha hb hs
end
/-! ### stores into own lists and dicts -/
def putN (kvs : List NE) (k : NestedKey) (b : Addr) (v : V) : List NE := if (kvs.any fun p => decide (p.1 = k)) = true then kvs.map fun p => if p.1 = k then (p.1, p.2.1, v) else p else kvs ++ [(k, b, v)]
abbrev RNx (p : NE) (x : NestedKey × Addr × Value) : Prop := p.1 = x.1 ∧ p.2.1 = x.2.1 ∧ RelV p.2.2 x.2.2
theorem any_atKey {k : NestedKey} : ∀ {kvs : List NE} {xs : List (NestedKey × Addr × Value)}, Paired RNx kvs xs → (kvs.any fun p => decide (p.1 = k)) = (atKey xs k).isSome
  | [], _, r => by cases r; rfl
  | p :: kvs, _, r => by
    cases r with
    | @cons _ x _ xs re rt =>
      have ih := any_atKey (k := k) rt
      by_cases hk : p.1 = k
      · have hx : x.1 = k := by rw [← re.1]; exact hk
        simp [atKey, hk, hx]
      · have hx : ¬ x.1 = k := by rw [← re.1]; exact hk
        simp only [atKey] at ih
        simp [atKey, hk, hx, ih]
theorem pair_mapPut {k : NestedKey} {v : V} {u : Value} (rv : RelV v u) : ∀ {kvs : List NE} {xs : List (NestedKey × Addr × Value)}, Paired RNx kvs xs → Paired RNx (kvs.map fun p => if p.1 = k then (p.1, p.2.1, v) else p) (xs.map (putAt k u))
  | [], _, r => by cases r; exact .nil
  | p :: kvs, _, r => by
    cases r with
    | @cons _ x _ xs re rt =>
      refine .cons ?_ (pair_mapPut rv rt)
      show RNx (if p.1 = k then (p.1, p.2.1, v) else p) (putAt k u x)
      unfold putAt
      by_cases hk : p.1 = k
      · rw [if_pos hk, if_pos (by rw [← re.1]; exact hk)]
        exact ⟨re.1, re.2.1, rv⟩
      · rw [if_neg hk, if_neg (by rw [← re.1]; exact hk)]
        exact re
theorem Paired.app {α β : Type} {R : α → β → Prop} : ∀ {l : List α} {m : List β} {a : α} {b : β}, Paired R l m → R a b → Paired R (l ++ [a]) (m ++ [b])
  | _, _, _, _, .nil, r => .cons r .nil
  | _, _, _, _, .cons q t, r => .cons q (Paired.app t r)
theorem pair_putN {k : NestedKey} {b : Addr} {v : V} {u : Value} {kvs : List NE} {xs : List (NestedKey × Addr × Value)} (rv : RelV v u) (r : Paired RNx kvs xs) : Paired RNx (putN kvs k b v) (storedH xs k b u) := by
  unfold putN storedH
  rw [any_atKey r]
  split
  · exact pair_mapPut rv r
  · exact Paired.app r ⟨rfl, rfl, rv⟩
theorem pair_entries {prog : Program} {w : World} : ∀ {kvs : List NE} {xs : List (NestedKey × Addr × Value)}, Paired RNx kvs xs → Paired (fun (p : NE) (e : DictEntry) => e.hash = p.1.hash w ∧ e.key = .ref p.2.1 ∧ RelV p.2.2 e.val) kvs (xs.map (entryOfKey (nestedKind prog w))) ∧ xs.map (·.1) = kvs.map (·.1)
  | [], _, r => by cases r; exact ⟨.nil, rfl⟩
  | p :: kvs, _, r => by
    cases r with
    | @cons _ x _ xs re rt =>
      obtain ⟨i1, i2⟩ := pair_entries (prog := prog) (w := w) rt
      refine ⟨.cons ⟨?_, ?_, re.2.2⟩ i1, by rw [List.map_cons, List.map_cons, i2, re.1]⟩
      · show (nestedKind prog w).hash x.1 = _
        rw [← re.1]; rfl
      · show Value.ref x.2.1 = _
        rw [re.2.1]
theorem putN_len (kvs : List NE) (k : NestedKey) (b : Addr) (v : V) : (putN kvs k b v).length ≤ kvs.length + 1 := by
  unfold putN
  split <;> simp
theorem dictN_new {P : Program} {w : World} {K : PySem.W.Frag} {H' : Hp} {h' : Heap} {a : Addr} {kvs : List NE} {xs : List (NestedKey × Addr × Value)} (hm : h'.DictOfH (nestedKind P w) a xs) (r : Paired RNx kvs xs) (hl : kvs.length ≤ sizeLine) (hs : (a == sysModules) = false) : ObjOk P w H' h' a (HN ⟨K, P, w⟩ a kvs) := by
  obtain ⟨o, en, ep, e1, e2, e3, e4, e5, e6⟩ := hm
  obtain ⟨i1, i2⟩ := pair_entries (prog := P) (w := w) r
  refine ⟨⟨o, en, ep, e1, e2, e3, by rw [e4]; exact i1, by rw [← i2]; exact e6, hl, hs⟩, ⟨o, e1⟩, fun h1 h2 p k => ?_⟩
  obtain ⟨o, en, ep, g1, g⟩ := p
  exact ⟨o, en, ep, k o g1, g⟩
/-- the data after a store -/
theorem dPut_nil {es : List (PyData × PyData)} {k v : PyData} : dPut es k v ≠ [] := by
  unfold dPut
  split
  · rename_i h
    intro z
    have : es = [] := by simpa using z
    subst this
    simp at h
  · simp
theorem DKs.put {K : Kx} {T : Addr → Prop} {H : Hp} {k : Key} {d : PyData} {v : V} {z : PyData} (hk : KeyD k d) (hv : DD K T H v z) {kvs : List (Key × V)} {es : List (PyData × PyData)} (h : DKs K T H kvs es) : DKs K T H (putK kvs k v) (dPut es d z) := by
  have hany : ∀ {kvs : List (Key × V)} {es : List (PyData × PyData)}, DKs K T H kvs es → (kvs.any fun kv => decide (kv.1 = k)) = (es.any fun p => decide (nk p.1 = nk d)) := by
    intro kvs es h
    induction es generalizing kvs with
    | nil => cases h; rfl
    | cons p es ih =>
      cases h with
      | cons g a t =>
        have := ih t
        simp only [List.any_cons, this]
        rw [decide_eq_decide.2 (key_eq g hk).symm]
  have hmap : ∀ {kvs : List (Key × V)} {es : List (PyData × PyData)}, DKs K T H kvs es → DKs K T H (kvs.map fun kv => if kv.1 = k then (kv.1, v) else kv) (es.map fun p => if nk p.1 = nk d then (p.1, z) else p) := by
    intro kvs es h
    induction es generalizing kvs with
    | nil => cases h; exact .nil
    | cons p es ih =>
      cases h with
      | @cons k' v' _ d' e' _ g a t =>
        rw [List.map_cons, List.map_cons]
        by_cases he : k' = k
        · rw [if_pos he, if_pos ((key_eq g hk).2 he)]
          exact .cons g hv (ih t)
        · rw [if_neg he, if_neg (fun q => he ((key_eq g hk).1 q))]
          exact .cons g a (ih t)
  have happ : ∀ {kvs : List (Key × V)} {es : List (PyData × PyData)}, DKs K T H kvs es → DKs K T H (kvs ++ [(k, v)]) (es ++ [(d, z)]) := by
    intro kvs es h
    induction es generalizing kvs with
    | nil => cases h; exact .cons hk hv .nil
    | cons p es ih =>
      cases h with
      | cons g a t => exact .cons g a (ih t)
  unfold putK dPut
  rw [hany h]
  by_cases hq : (es.any fun p => decide (nk p.1 = nk d)) = true
  · rw [if_pos hq, if_pos hq]; exact hmap h
  · rw [if_neg hq, if_neg hq]; exact happ h
theorem DNs.put {K : Kx} {T : Addr → Prop} {H : Hp} {ds : List PyData} {b : Addr} {v : V} {z : PyData} (hk : keyT ds = true) (hb : DD K T H (.ref b) (.tuple ds)) (hv : DD K T H v z) {kvs : List NE} {es : List (PyData × PyData)} (h : DNs K T H kvs es) : DNs K T H (putN kvs (nk (.tuple ds)) b v) (dPut es (.tuple ds) z) := by
  have hany : ∀ {kvs : List NE} {es : List (PyData × PyData)}, DNs K T H kvs es → (kvs.any fun kv => decide (kv.1 = nk (.tuple ds))) = (es.any fun p => decide (nk p.1 = nk (.tuple ds))) := by
    intro kvs es h
    induction es generalizing kvs with
    | nil => cases h; rfl
    | cons p es ih =>
      cases h with
      | cons g g2 a c t =>
        have := ih t
        simp only [List.any_cons, this, g]
  have hmap : ∀ {kvs : List NE} {es : List (PyData × PyData)}, DNs K T H kvs es → DNs K T H (kvs.map fun p => if p.1 = nk (.tuple ds) then (p.1, p.2.1, v) else p) (es.map fun p => if nk p.1 = nk (.tuple ds) then (p.1, z) else p) := by
    intro kvs es h
    induction es generalizing kvs with
    | nil => cases h; exact .nil
    | cons p es ih =>
      cases h with
      | @cons k' b' v' _ d' e' _ g g2 a c t =>
        rw [List.map_cons, List.map_cons]
        by_cases he : k' = nk (.tuple ds)
        · rw [if_pos he, if_pos (g.trans he)]
          exact .cons g g2 a hv (ih t)
        · rw [if_neg he, if_neg (fun q => he (g.symm.trans q))]
          exact .cons g g2 a c (ih t)
  have happ : ∀ {kvs : List NE} {es : List (PyData × PyData)}, DNs K T H kvs es → DNs K T H (kvs ++ [(nk (.tuple ds), b, v)]) (es ++ [(.tuple ds, z)]) := by
    intro kvs es h
    induction es generalizing kvs with
    | nil => cases h; exact .cons rfl hk hb hv .nil
    | cons p es ih =>
      cases h with
      | cons g g2 a c t => exact .cons g g2 a c (ih t)
  unfold putN dPut
  rw [hany h]
  by_cases hq : (es.any fun p => decide (nk p.1 = nk (.tuple ds))) = true
  · rw [if_pos hq, if_pos hq]; exact hmap h
  · rw [if_neg hq, if_neg hq]; exact happ h
/-- what a store makes of an own object -/
def pPut : PyData → PyData → PyData → Option PyData
  | .list l, .int i, v => (ixN l.length i).map fun j => .list (l.set j v)
  | .dict es, k, v => if fitK es k = true ∧ es.length < sizeLine then some (.dict (dPut es k v)) else none
  | _, _, _ => none
theorem DDs.setAt {K : Kx} {T : Addr → Prop} {H : Hp} {x : V} {z : PyData} (hx : DD K T H x z) : ∀ {vs : List V} {ds : List PyData} (j : Nat), DDs K T H vs ds → DDs K T H (vs.set j x) (ds.set j z)
  | _, _, _, .nil => .nil
  | _, _, 0, .cons _ t => .cons hx t
  | _, _, j + 1, .cons a t => .cons a (DDs.setAt hx j t)
/-- a store into the object at p, which is of our own -/
def rPutM (K : Kx) : TSet := fun o i v H Q => ∃ (sc : Sc) (T : Addr → Prop) (p : Addr) (u : HO) (d k z d' : PyData), o = .ref p ∧ T p ∧ (∀ b, T b → H b ≠ none) ∧ H p = some u ∧ OwnC K T H p u d ∧ DB K sc T H i k ∧ DD K T H v z ∧ pPut d k z = some d' ∧ ∀ u', OwnC K T (upd H p u') p u' d' → Q (upd H p u')
section
variable {X : Cx} {W : WX} {pos : Pos} {tg a b c e : Expr} {es : List Expr}
theorem set_M (hu : X.A.units + 65 < cLine) : PSet X (rPutM X.KK) := by
  intro pins s σ H o i v ov iv u Q I ro ri rv h
  obtain ⟨sc, T, p, uo, d, k, z, d', rfl, tp, al, hp, hc, hk, hv, hf, q⟩ := h
  obtain rfl : ov = Value.ref p := ro
  unfold pPut at hf
  split at hf
  · rename_i l n
    obtain ⟨vs, rfl, dd⟩ := hc
    cases hx : ixN l.length n with
    | none => rw [hx] at hf; cases hf
    | some j =>
      rw [hx] at hf; cases hf
      have ei := hk.int
      subst ei
      refine set_list pins s σ H (.ref p) _ v _ iv u Q I rfl ri rv ⟨p, vs, n, j, rfl, rfl, hp, by rw [dd.length]; exact hx, q _ ⟨_, rfl, DDs.setAt (hv.to (frU tp)) j (dd.to (frU tp))⟩⟩
  · rename_i es
    split at hf
    · rename_i hfit
      cases hf
      obtain ⟨hfit, hlen⟩ := hfit
      simp only [fitK, Bool.or_eq_true, Bool.and_eq_true] at hfit
      rcases hc with ⟨kvs, rfl, dk⟩ | ⟨kvs, rfl, hne, dn⟩
      · rcases hfit with ⟨h1, h2⟩ | ⟨h1, h2⟩
        · obtain ⟨kk, e1, e2⟩ := keyO_of h1
          have ei := keyD_v hk e2
          subst ei
          exact d_setItem (by omega) I (DPut.k hp (by rw [dk.length]; exact hlen)) ri rv fun s' I' => ⟨_, I', q _ (.inl ⟨_, rfl, DKs.put e2 (hv.to (frU tp)) (dk.to (frU tp))⟩)⟩
        · have hnil := dk.leaf h2
          subst hnil
          cases dk
          unfold tupK at h1
          split at h1
          · rename_i ds
            have hkd := hk.tupDD
            obtain ⟨b, eb⟩ : ∃ b, i = .ref b := by cases hkd; exact ⟨_, rfl⟩
            subst eb
            obtain rfl : iv = Value.ref b := ri
            obtain ⟨z0, hd, vs, rel, dd⟩ := dk_of I.hok hp
            cases rel
            refine wpAny_setItem_heap (hsz := Nat.zero_le _) (by show X.A.in1.units + 8 < cLine; have : X.A.in1.units = X.A.units + 1 := rfl; omega) (keyIs I h1 hkd) (dk_nil dd) fun h' hm' hs => ?_
            have r0 : Paired RNx (putN [] (nk (.tuple ds)) b v) (storedH [] (nk (.tuple ds)) b u) := pair_putN rv .nil
            have he : ∃ q, h'.get? p = some q := let ⟨q, _, _, hq, _⟩ := hm'; ⟨q, hq⟩
            refine ⟨_, d_write I (by rw [hp]; exact True.intro) hs he (dictN_new (K := X.K) hm' r0 (by have := sizeLine_eq; have := putN_len [] (nk (.tuple ds)) b v; simp at this; omega) hd), q _ (.inr ⟨_, rfl, dPut_nil, ?_⟩)⟩
            exact DNs.put h1 (hkd.to (frU tp)) (hv.to (frU tp)) .nil
          · cases h1
      · rcases hfit with ⟨h1, h2⟩ | ⟨h1, h2⟩
        · exact absurd (dn.notLeaf h2) hne
        · unfold tupK at h1
          split at h1
          · rename_i ds
            have hkd := hk.tupDD
            obtain ⟨b, eb⟩ : ∃ b, i = .ref b := by cases hkd; exact ⟨_, rfl⟩
            subst eb
            obtain rfl : iv = Value.ref b := ri
            obtain ⟨xs, g1, g2, g3, g4⟩ := dictN_of I (.inl hp) dn
            refine wpAny_setItem_heap (hsz := by rw [← Paired.length g2]; exact g3) (by show X.A.in1.units + 8 < cLine; have : X.A.in1.units = X.A.units + 1 := rfl; omega) (keyIs I h1 hkd) g1 fun h' hm' hs => ?_
            have he : ∃ q, h'.get? p = some q := let ⟨q, _, _, hq, _⟩ := hm'; ⟨q, hq⟩
            refine ⟨_, d_write I (by rw [hp]; exact True.intro) hs he (dictN_new (K := X.K) hm' (pair_putN rv g2) (by have := putN_len kvs (nk (.tuple ds)) b v; rw [dn.length] at this; omega) g4), q _ (.inr ⟨_, rfl, dPut_nil, ?_⟩)⟩
            exact DNs.put h1 (hkd.to (frU tp)) (hv.to (frU tp)) (dn.to (frU tp))
          · cases h1
    · cases hf
  · cases hf
/-- x[k] = v, x an own list or dict -/
def mPut (i : Nat) (k : M PyData) (v : M Sl) : M Flow := fun m => (mDat v m).bind fun z m1 => match m1.env[i]? with
  | some (some (.own _)) => (k m1).bind fun kk m2 => match m2.env[i]? with
    | some (some (.own d)) => match pPut d kk z with
      | some d' => .ok .next { m2 with env := m2.env.set i (some (.own d')) }
      | none => .bad
    | _ => .bad
  | _ => .bad
theorem pps_put {k : M PyData} {v : M Sl} {i : Nat} {x : Str} {px p2 : Pos} (hu : X.A.units + 65 < cLine) (hk : PB X W b k) (he : PP X W e v) (hN : X.N[i]? = some x := by rfl) (hv : Vis X.env.scope x := by first | exact Or.inl rfl | exact Or.inr (Or.inl rfl) | exact Or.inr (Or.inr rfl)) (hd : (x == ("__debug__" : Str)) = false := by decide) (hcd : (x == ("__classdict__" : Str)) = false := by decide)
    (hs : swapsWithSole [.Subscript (.Name x px) b p2] e pos.line X.env = pure false := by rfl) (hw : swappedStores [.Subscript (.Name x px) b p2] e X.env = pure none := by rfl) (h1 : (assignEach [.Subscript (.Name x px) b p2] X.env).map (·.2) = [assign (.Subscript (.Name x px) b p2) X.env] := by rfl)
    (ha : ∀ v, assign (.Subscript (.Name x px) b p2) X.env v = (do
      let ov ← holding [v] (eval (.Name x px) X.env)
      let iv ← holding [v, ov] (eval b X.env)
      standAt p2
      holding [v, ov, iv] (setItem ov iv v)
      release [v, ov, iv] []) := by intro _; rfl) : PPS X W (.Assign [.Subscript (.Name x px) b p2] e pos) (mPut i k v) := by
  refine PS.imp (ps_asg he (pg_sub (pe_var hN hv hd hcd) hk (set_M hu) ha) hs hw h1) fun D σ H q => ?_
  obtain ⟨w, T, me, ok, lv, q⟩ := q
  have q' : tP X.KK X.mg W v σ H (fun x0 H1 => gSub (tVar i) (tB X.KK X.mg W k) (rPutM X.KK) x0 σ H1 D.nx) := by
    refine ⟨w, T, me, ok, lv, ?_⟩
    unfold mPut at q
    cases hm : v me with
    | bad => unfold mDat at q; rw [hm] at q; exact q
    | exc x me1 =>
      unfold mDat at q; rw [hm] at q
      exact fun c dd H' T' fr lv' xr => q c dd σ H' T' fr lv' xr
    | ok s me1 =>
      unfold mDat at q; rw [hm] at q
      simp only [Res.bind_ok] at q
      intro vz H1 T1 s1 lv1 p1
      cases s with
      | own l => exact q.elim
      | src => exact q.elim
      | exc x => exact q.elim
      | obj x => exact q.elim
      | dat z =>
        simp only [Res.bind_ok] at q
        split at q
        · rename_i d0 hz0
          obtain ⟨p0, u0, ep0, tp0, h00, hp0, hc0⟩ := lv1.slot i _ hz0
          refine ⟨.ref p0, ep0, ?_⟩
          refine SRn.seq ok lv1 (q.after (s1.fr ok lv.t0)) fun T2 me2 vk kk H2 s2 lv2 p2 q2 => ?_
          split at q2
          · rename_i d hz
            obtain ⟨p, u, ep, tp, h0, hp, hc⟩ := lv2.slot i _ hz
            rw [ep0] at ep; cases ep
            cases hf : pPut d kk z with
            | none => rw [hf] at q2; exact q2.elim
            | some d' =>
              rw [hf] at q2
              refine ⟨w.sc, T2, p0, u, d, kk, z, d', rfl, tp, lv2.al, hp, hc, p2, DD.to p1 (s2.fr ok lv1.t0), hf, fun u' hc' => ?_⟩
              exact q2 σ _ T2 (frU tp) (lv2.mutOwn ok hz ep0 tp h0 hc')
          · exact q2.elim
        · exact q.elim
  exact q'
end
end PL
namespace PL
open PySem PySem.Spec PyProof.Rows L2
/-! ### a, b = new, value -/
def mParNP (i j : Nat) (a : M PyData) (b : M Sl) : M Flow := fun m => (a m).bind fun d m1 => (b m1).bind fun s m2 => if i < m2.env.length then (match putE j s { m2 with env := m2.env.set i (some (.own d)) } with
  | some m3 => .ok .next m3
  | none => .bad) else .bad
section
variable {X : Cx} {W : WX} {pos : Pos} {tg a b c e : Expr} {es : List Expr}
theorem pps_parNP {i j : Nat} {x y : Str} {m : M PyData} {n : M Sl} {px py pt : Pos} {kt k2 : Nat} {pt2 : Pos} (hc : X.calm = true) (hN : X.N.Nodup) (hi : X.N[i]? = some x) (hj : X.N[j]? = some y) (hij : i ≠ j)
    (hx : X.env.scope.names.lookup x = some .local) (hy : X.env.scope.names.lookup y = some .local) (ha : PN X W a m) (hb : PP X W b n)
    (hs1 : starEach [a, b] X.env = (false, eval a X.env) :: starEach [b] X.env := by rfl) (hs2 : starEach [b] X.env = (false, eval b X.env) :: starEach [] X.env := by rfl)
    (hw : swappedStores [.Tuple [.Name x px, .Name y py] kt pt] (.Tuple [a, b] k2 pt2) X.env = pure (some [x, y]) := by rfl)
    (hs : swapsWithSole [.Tuple [.Name x px, .Name y py] kt pt] (.Tuple [a, b] k2 pt2) pos.line X.env = pure false := by rfl) :
    PPS X W (.Assign [.Tuple [.Name x px, .Name y py] kt pt] (.Tuple [a, b] k2 pt2) pos) (mParNP i j m n) := by
  refine PS.imp (ps_par hc hN hi hj hij hx hy (pa_cons ha (pa_cons hb pa_nil hs2) hs1) hw hs) fun D σ H q => ?_
  obtain ⟨w, T, me, ok, lv, q⟩ := q
  refine ⟨w, T, me, ok, lv, ?_⟩
  unfold mParNP at q
  cases hm : m me with
  | bad => rw [hm] at q; exact q
  | exc x me1 =>
    rw [hm] at q
    exact fun c dd H' T' fr lv' xr => q c dd σ H' T' fr lv' xr
  | ok d me1 =>
    rw [hm] at q
    simp only [Res.bind_ok] at q
    intro p o T1 H1 n1
    refine SRn.seq ok n1.lv (q.after n1.new) fun T2 me2 v s H2 s2 lv2 p2 q2 => ?_
    have ns : ¬ InS w.sc p := fun z => ok.al p (ok.s0 p z) n1.h0
    have tp : T2 p := Classical.byContradiction fun nt => by
      obtain ⟨k, l, e1, e2⟩ := s2.fz p (.inr rfl) nt
      exact n1.no k l e1 e2
    have hp2 : H2 p = some o := s2.ex p o ns n1.here
    have hc2 : OwnC X.KK T2 H2 p o d := n1.dd.fr (s2.fr ok n1.lv.t0)
    split at q2
    · rename_i hlt
      have key := lv2.setOwn (i := i) hlt tp n1.h0 hp2 hc2 fun k l' _ h => n1.no k l' (s2.mono k l' h)
      split at q2
      · rename_i m3 hp3
        exact ⟨.ref p, v, rfl, q2.nx (putE_ok key p2 hp3)⟩
      · exact q2.elim
    · exact q2.elim
end
/-! ### text += text -/
def mAugS (i : Nat) (e : M PyData) : M Flow := fun m => match m.env[i]? with
  | some (some (.dat (.str a))) => (e m).bind fun d m1 => match d with
    | .str b => if a.length + b.length ≤ sizeLine then .ok .next { m1 with env := m1.env.set i (some (.dat (.str (a ++ b)))) } else .bad
    | _ => .bad
  | _ => .bad
/-- ints, texts -/
def mAugA (i : Nat) (e : M PyData) : M Flow := fun m => match m.env[i]? with
  | some (some (.dat (.str _))) => mAugS i e m
  | _ => mAug (fun i j => i + j) i e m
end PL
namespace PL
open PySem PySem.Spec PyProof.Rows L2
section
variable {X : Cx} {W : WX} {pos : Pos} {tg a b c e o k : Expr} {es : List Expr}
theorem ip_addA : PIp X .Add (fun x y H Q => ipI (fun i j => i + j) x y H Q ∨ ∃ i j, x = .str i ∧ y = .str j ∧ i.length + j.length ≤ sizeLine ∧ Q (.str (i ++ j)) H) := by
  intro pins s σ H x y v u Q I rx ry h
  rcases h with h | h
  · exact ip_add pins s σ H x y v u Q I rx ry h
  · exact iop_add_str pins s σ H x y v u Q I rx ry h
theorem pps_augA {m : M PyData} {i : Nat} {x : Str} {pos' : Pos} (hN : X.N.Nodup) (he : PB X W e m) (hi : X.N[i]? = some x := by rfl) (hx : Loc X.env.scope x := by first | exact .inl rfl | exact .inr rfl) (hf : X.fn x = true ∨ X.env.scope.names.lookup x = some .local := by first | exact .inl rfl | exact .inr rfl) :
    PPS X W (.AugAssign (.Name x pos') .Add e pos) (mAugA i m) := by
  refine PS.imp (ps_aug hN hi hx he ip_addA hf) fun D σ H q => ?_
  obtain ⟨w, T, me, ok, lv, q⟩ := q
  unfold mAugA at q
  split at q
  · rename_i z0 hz0
    unfold mAugS at q
    rw [hz0] at q
    simp only at q
    obtain ⟨v, ev, sv⟩ := lv.get hz0 (fun _ => nofun)
    refine ⟨v, ev, ?_⟩
    refine SRn.seq ok lv q fun T1 me1 u d H1 s1 lv1 p1 q1 => ?_
    split at q1
    · split at q1
      · rename_i hlen
        have hlt : i < me1.env.length := by
          rw [← lv1.len, lv.len]
          exact (List.getElem?_eq_some_iff.mp hz0).1
        cases sv
        exact .inr ⟨_, _, rfl, p1.str, hlen, q1.nx (lv1.set hlt (s := .dat (.str _)) ⟨_, rfl, DD.str _⟩ (fun _ z => nomatch z))⟩
      · exact q1.elim
    · exact q1.elim
  · unfold mAug at q
    split at q
    · rename_i z hz
      obtain ⟨v, ev, sv⟩ := lv.get hz (fun _ => nofun)
      refine ⟨v, ev, ?_⟩
      refine SRn.seq ok lv q fun T1 me1 u d H1 s1 lv1 p1 q1 => ?_
      split at q1
      · have hlt : i < me1.env.length := by
          rw [← lv1.len, lv.len]
          exact (List.getElem?_eq_some_iff.mp hz).1
        cases sv
        exact .inl ⟨_, _, rfl, p1.int, q1.nx (lv1.set hlt (s := .dat (.int _)) ⟨_, rfl, DD.int _⟩ (fun _ z => nomatch z))⟩
      · exact q1.elim
    · exact q.elim
/-! ### dicts of constants; get -/
/-- a constant -/
inductive CC : Expr → V → PyData → Prop
  | str {x : Str} {j : Nat} {pos : Pos} : CC (.Constant (.str x) j pos) (.str x) (.str x)
  | int {i : Int} {j : Nat} {pos : Pos} : CC (.Constant (.int i) j pos) (.int i) (.int i)
  | bl {b : Bool} {j : Nat} {pos : Pos} : CC (.Constant (.bool b) j pos) (.bl b) (.bool b)
theorem CC.pe {v : V} {d : PyData} (h : CC e v d) : PE X e (tC v) := by
  cases h with
  | str => exact pe_str
  | int => exact pe_int
  | bl => exact pe_bl
theorem CC.dd {K : Kx} {T : Addr → Prop} {H : Hp} {v : V} {d : PyData} (h : CC e v d) : DD K T H v d := by
  cases h with
  | str => exact .str _
  | int => exact .int _
  | bl => exact .bl _
inductive CCs : List (Option Expr) → List Expr → List (Key × V) → List (PyData × PyData) → Prop
  | nil : CCs [] [] [] []
  | str {x : Str} {j : Nat} {pos : Pos} {v : Expr} {u : V} {d : PyData} {ks : List (Option Expr)} {vs : List Expr} {kvs : List (Key × V)} {es : List (PyData × PyData)} (h : CC v u d) (r : CCs ks vs kvs es) : CCs (some (.Constant (.str x) j pos) :: ks) (v :: vs) ((.inr x, u) :: kvs) ((.str x, d) :: es)
theorem CCs.pps {keys : List (Option Expr)} {vals : List Expr} {kvs : List (Key × V)} {es : List (PyData × PyData)} (h : CCs keys vals kvs es) : L2.PPs X pos keys vals (kvs.map fun kv => (tC (kV kv.1), tC kv.2)) := by
  induction h with
  | nil => exact L2.pps_nil
  | str h r ih => exact L2.pps_cons pe_str h.pe ih
theorem CCs.pairs {keys : List (Option Expr)} {vals : List Expr} {kvs : List (Key × V)} {es : List (PyData × PyData)} (h : CCs keys vals kvs es) {σ : L2.St} {H : Hp} : ∀ {Q : List (V × V) → Hp → Prop}, Q (kvs.map fun kv => (kV kv.1, kv.2)) H → tPairs (kvs.map fun kv => (tC (kV kv.1), tC kv.2)) σ H Q := by
  induction h with
  | nil => intro Q q; exact q
  | str h r ih => intro Q q; exact ih q
theorem CCs.shape {keys : List (Option Expr)} {vals : List Expr} {kvs : List (Key × V)} {es : List (PyData × PyData)} (h : CCs keys vals kvs es) : keys.all (·.isSome) = true ∧ keys.length = vals.length ∧ keys.length = kvs.length := by
  induction h with
  | nil => exact ⟨rfl, rfl, rfl⟩
  | str h r ih => exact ⟨by simp [ih.1], by simp [ih.2.1], by simp [ih.2.2]⟩
def mergeD (acc more : List (PyData × PyData)) : List (PyData × PyData) := more.foldl (fun acc p => dPut acc p.1 p.2) acc
theorem CCs.dks {K : Kx} {T : Addr → Prop} {H : Hp} {keys : List (Option Expr)} {vals : List Expr} {kvs : List (Key × V)} {es : List (PyData × PyData)} (h : CCs keys vals kvs es) : ∀ {acc : List (Key × V)} {acd : List (PyData × PyData)}, DKs K T H acc acd → DKs K T H (mergeK acc kvs) (mergeD acd es) := by
  induction h with
  | nil => intro acc acd q; exact q
  | str h r ih => intro acc acd q; exact ih (DKs.put (k := .inr _) rfl h.dd q)
theorem pn_dispC {keys : List (Option Expr)} {vals : List Expr} {kvs : List (Key × V)} {ent : List (PyData × PyData)} (h : CCs keys vals kvs ent) (h0 : keys ≠ []) (h15 : keys.length ≤ 15) : PN X W (.Dict keys vals pos) (mC (.dict (mergeD [] ent))) := by
  obtain ⟨s1, s2, s3⟩ := h.shape
  refine PE.imp (pe_disp h.pps s1 s2 h0 h15) fun σ H Q q => ?_
  obtain ⟨w, T, me, ok, lv, q⟩ := q
  intro p hp
  refine h.pairs ⟨upd_same, kvs, rfl, by omega, ?_⟩
  rw [upd_upd]
  exact q p _ T _ (lv.newAt ok (Stp.refl _ _ _ _ _) lv hp (.inl ⟨_, rfl, h.dks .nil⟩))
def mLD (x : M PyData) : M (List (PyData × PyData)) := fun m => (x m).bind fun d m1 => match d with
  | .dict es => if leafD es = true then .ok es m1 else .bad
  | _ => .bad
def mGet2 (x y : M PyData) (z : M Sl) : M Sl := fun m => (mLD x m).bind fun es m1 => (y m1).bind fun k m2 => (mDat z m2).bind fun d m3 => if leafK k = true then .ok (.dat ((dGet es k).getD d)) m3 else .bad
theorem DB.leaf {K : Kx} {sc : Sc} {T : Addr → Prop} {H : Hp} {v : V} {es : List (PyData × PyData)} (h : DB K sc T H v (.dict es)) (hl : leafD es = true) : ∃ a kvs, v = .ref a ∧ Rd H a (.dK kvs) ∧ DKs K T H kvs es := by
  obtain ⟨a, rfl, hd⟩ := h.dict
  rcases hd with ⟨kvs, hk, dk⟩ | ⟨kvs, hk, hne, dn⟩
  · exact ⟨a, kvs, rfl, hk, dk⟩
  · exact absurd (dn.notLeaf hl) hne
theorem Rn.ld {K : Kx} {mg : Str → Option Value} {β γ : Type} {R : Wd → (Addr → Prop) → Hp → β → γ → Prop} {x : M PyData} {kk : List (PyData × PyData) → Me → Res γ} {σ : L2.St} {H : Hp} {Q : β → Hp → Prop} {Q' : V → Hp → Prop} {w : Wd} {T : Addr → Prop} {me : Me} (ok : w.Ok) (lv : Lv K mg w T σ H me) (h : Rn K mg W R σ w T H me Q ((mLD x me).bind kk))
    (f : ∀ (T1 : Addr → Prop) (me1 : Me) (v : V) (es : List (PyData × PyData)) (H1 : Hp), Stp w σ T H me T1 H1 me1 → Lv K mg w T1 σ H1 me1 → DB K w.sc T1 H1 v (.dict es) → leafD es = true → Rn K mg W R σ w T1 H1 me1 Q (kk es me1) → Q' v H1) : tB K mg W x σ H Q' := by
  have e : (mLD x me).bind kk = (x me).bind fun d m1 => (match d with | .dict es => if leafD es = true then Res.ok es m1 else .bad | _ => .bad : Res (List (PyData × PyData))).bind kk := by
    unfold mLD
    cases x me <;> rfl
  rw [e] at h
  refine Rn.seq ok lv h fun T1 me1 v d H1 s1 lv1 p1 q1 => ?_
  cases d with
  | dict es =>
    simp only at q1
    split at q1
    · rename_i hl
      exact f T1 me1 v es H1 s1 lv1 p1 hl q1
    · exact q1.elim
  | none => exact q1.elim
  | bool b => exact q1.elim
  | int i => exact q1.elim
  | str i => exact q1.elim
  | tuple i => exact q1.elim
  | list i => exact q1.elim
theorem pp_get2 {x y : M PyData} {z : M Sl} {apos : Pos} (hu : X.A.units + 65 < cLine) (ho : PB X W o x) (hk : PB X W k y) (hf : PP X W e z) (m : M2 X o "get" apos k e pos) : PP X W (.Call (.Attribute o "get" apos) [k, e] [] pos) (mGet2 x y z) := by
  refine PE.imp (pe_dget2 (by omega) ho hk hf m) fun σ H Q q => ?_
  obtain ⟨w, T, me, ok, lv, q⟩ := q
  refine Rn.ld ok lv q fun T1 me1 v es H1 s1 lv1 p1 hl q1 => ?_
  obtain ⟨a, kvs, rfl, hk1, dk⟩ := p1.leaf hl
  refine ⟨a, rfl, .inl ⟨kvs, hk1⟩, ?_⟩
  refine Rn.seq ok lv1 q1 fun T2 me2 vk d H2 s2 lv2 p2 q2 => ?_
  refine Rn.dat ok lv2 q2 fun T3 me3 vz dz H3 s3 lv3 p3 q3 => ?_
  have p1' := p1.fr ((s2.fr ok lv1.t0).trans (s3.fr ok lv2.t0)) (s2.ex.trans s3.ex)
  have p2' := p2.fr (s3.fr ok lv2.t0) s3.ex
  split at q3
  · rename_i hlk
    obtain ⟨kk, e1, e2⟩ := keyO_of hlk
    obtain ⟨a', kvs', ea, hk3, dk3⟩ := p1'.leaf hl
    cases ea
    have ev := keyD_v p2' e2
    subst ev
    have fl := find_leaf e2 dk3
    refine ⟨valV kvs' kk, .inl ⟨kvs', kk, hk3, rfl, rfl⟩, ?_⟩
    unfold dGet at q3
    cases hq : es.find? (fun p => decide (nk p.1 = nk d)) with
    | none =>
      rw [hq] at fl q3
      rw [fl]
      exact q3 vz H3 T3 (Stp.refl _ _ _ _ _) lv3 p3
    | some p =>
      rw [hq] at fl q3
      obtain ⟨v0, g1, g2⟩ := fl
      rw [g1]
      exact q3 v0 H3 T3 (Stp.refl _ _ _ _ _) lv3 g2
  · exact q3.elim
theorem pb_new {m : M PyData} (h : PN X W e m) : PB X W e (mDat (mL m)) := pb_of (pp_new h)
end
end PL
namespace PL
open PySem PySem.Spec PyProof.Rows L2
/-! ### exceptions as values, lists of them -/
section
variable {X : Cx} {W : WX} {pos : Pos} {a b c e : Expr} {es : List Expr}
theorem pe_excV1 {C : Addr} {bmB : List Value} {B newId initId : String} {x : Str} {e : Expr} {ta : TE} {p pos : Pos} (F : ExcBaseFacts B newId initId bmB) (q : PySem.W.excIn X.K C bmB newId = true) (gC : X.mg x = some (.ref C)) (kC : PySem.W.keepIn X.K (.ref C) = true) (hg : Gl X x)
    (he : PE X e ta) (hs : starEach [e] X.env = (false, eval e X.env) :: starEach [] X.env := by rfl) (hdb : (x == ("__debug__" : Str)) = false := by decide) :
    PE X (.Call (.Name x p) [e] [] pos) (fun σ H Q => ta σ H fun _ H1 => ∀ a, H1 a = none → Q (.ref a) (upd H1 a (exk a C none))) := by
  refine ⟨fun pins s σ H Q I h => ?_⟩
  refine wpAny_Call_Name_kw (ld_glob I hg gC ?_ hdb)
  refine PySem.W.callWith_K (h₀ := X.base) I.ok.mod.kin kC ?_ hs (by rfl)
  rw [hs]
  show wpAny _ _ (spliced ((false, eval e X.env) :: backTo pos (starEach [] X.env))) _ _ s
  refine Calls.spliced_cons (thn (he.run pins s σ H _ I h) fun u s1 ⟨v, H1, I1, r1, q1⟩ => ?_)
  refine Calls.spliced_nil ⟨I1.kIn, ?_⟩
  show wpAny _ _ (call (.ref C) [u]) _ _ _
  obtain ⟨bm, N, nm, qn, bs, hdct, sn, sub, ab, col, dd, k0, k1, k2, k3, k5, mN, hC, hN, hni, T⟩ := exc_obj I1.kIn q
  refine wpAny_call_exc_subT F T hC hN hni (fun h' a hm => ?_) (by show 1 ≤ sizeLine; rw [sizeLine_eq]; omega)
  have hn : H1 a = none := I1.hok.gone hm.new
  obtain ⟨t, ht, _, _⟩ := hm.there
  exact ⟨.ref a, upd H1 a (exk a C none), I1.laidN hm.keeps hm.new hn (exk_obj ht ⟨rfl, rfl⟩ rfl), rfl, q1 a hn⟩
theorem pe_excV0 {C : Addr} {bmB : List Value} {B newId initId : String} {x : Str} {p pos : Pos} (F : ExcBaseFacts B newId initId bmB) (q : PySem.W.excIn X.K C bmB newId = true) (gC : X.mg x = some (.ref C)) (kC : PySem.W.keepIn X.K (.ref C) = true) (hg : Gl X x)
    (hs : starEach [] X.env = [] := by rfl) (hdb : (x == ("__debug__" : Str)) = false := by decide) :
    PE X (.Call (.Name x p) [] [] pos) (fun σ H Q => ∀ a, H a = none → Q (.ref a) (upd H a (exk a C none))) := by
  refine ⟨fun pins s σ H Q I h => ?_⟩
  refine wpAny_Call_Name_kw (ld_glob I hg gC ?_ hdb)
  refine PySem.W.callWith_K0 I.kIn kC ?_
  show wpAny _ _ (call (.ref C) []) _ _ _
  obtain ⟨bm, N, nm, qn, bs, hdct, sn, sub, ab, col, dd, k0, k1, k2, k3, k5, mN, hC, hN, hni, T⟩ := exc_obj I.kIn q
  refine wpAny_call_exc_subT F T hC hN hni (fun h' a hm => ?_) (by show 0 ≤ sizeLine; omega)
  have hn : H a = none := I.hok.gone hm.new
  obtain ⟨t, ht, _, _⟩ := hm.there
  exact ⟨.ref a, upd H a (exk a C none), I.laidN hm.keeps hm.new hn (exk_obj ht ⟨rfl, rfl⟩ rfl), rfl, h a hn⟩
/-- C(e, ..), C's own __init__ keeping sp, as a value -/
def tMkV (C : Addr) (sp : Sp) (ta : TA) : TE := fun σ H Q => ta σ H fun vs H1 => vs.length ≤ 1000 ∧ ∀ a, H1 a = none → sp (.ref a :: vs) (upd H1 a (exo a C none))
  (fun v H2 => v = .non ∧ ∃ (d : Addr) (fs : List (Str × V)), H2 a = some (exo a C (some d)) ∧ H2 d = some (exd d fs) ∧ H1 d = none ∧ Q (.ref a) (upd (upd (L2.del H2 a) d (.xd fs)) a (exk a C (some d)))) (fun _ _ _ => False)
theorem pe_oexV {CX : CXT} {x : Str} {C fI : Addr} {k : Nat} {fd : FuncData} {ps : List Str} {sp : Sp} {ta : TA} {p : Pos} (T : OexC X.K C) (iC : PySem.W.findIn X.K (.ref C) "__init__" = some (some (.ref fI))) (tI : PySem.W.typeIn X.K (.ref fI) = some (.type "function"))
    (F1 : FnOk X.prog X.w X.K X.mg X.base CX k fI fd ps sp) (hr : Room (k + 1) X.A) (hb : Binds X.K fd ps []) (hx : Passes CX X (fun _ _ _ => False)) (hg : Gl X x) (hm : X.mg x = some (.ref C)) (ha : PA X (e :: es) ta)
    (hdb : (x == ("__debug__" : Str)) = false := by decide) (he : starEach (e :: es) X.env = (false, eval e X.env) :: starEach es X.env := by rfl) (hpl : (backTo pos (starEach es X.env)).any (·.1) = false := by rfl) :
    PE X (.Call (.Name x p) (e :: es) [] pos) (tMkV C sp ta) := by
  refine ⟨fun pins s σ H Q I h => ?_⟩
  obtain ⟨nm, q, N, bs, bm, sn, sub, ab, col, dd, k0, k1, k2, k3, k5, hC, hbm⟩ := T.cls
  refine wpAny_Call_Name_kw (ld_glob I hg hm ?_ hdb)
  refine PySem.W.callWith_K (h₀ := X.base) I.ok.mod.kin T.kC (thn (ha.run pos pins s σ H _ I h) fun us s1 ⟨vs, H1, I1, r1, hz, q1⟩ => ⟨I1.kIn, ?_⟩) he hpl
  show wpAny _ _ (call (.ref C) us) _ _ _
  obtain ⟨hp, g, dr, tk, os⟩ := s1
  have hsz : hp.objs.size ≤ hp.objs.size + 1 := Nat.le_succ _
  have hn : H1 (hp.objs.size + 1) = none := I1.hok.fresh hsz
  have hq := q1 (hp.objs.size + 1) hn
  have kk : ∀ b o, hp.get? b = some o → ((hp.push (PySem.W.kdv_tup us)).push (PySem.HandSPX.excO C hp.objs.size)).get? b = some o := fun b o e => Heap.get?_push_of_some _ (Heap.get?_push_of_some _ e)
  have hget : ((hp.push (PySem.W.kdv_tup us)).push (PySem.HandSPX.excO C hp.objs.size)).get? (hp.objs.size + 1) = some (PySem.HandSPX.excO C hp.objs.size) := by heap_get
  have I2 : Inv X pins σ (upd H1 (hp.objs.size + 1) (exo (hp.objs.size + 1) C none)) ⟨(hp.push (PySem.W.kdv_tup us)).push (PySem.HandSPX.excO C hp.objs.size), g, dr, tk, os⟩ :=
    I1.laid (t' := tk) (a := hp.objs.size + 1) (o := exo (hp.objs.size + 1) C none) (h' := (hp.push (PySem.W.kdv_tup us)).push (PySem.HandSPX.excO C hp.objs.size)) kk hsz (exo_ok hget)
  have r2 : Vals (V.ref (hp.objs.size + 1) :: vs) (Value.ref (hp.objs.size + 1) :: us) := .cons rfl r1
  have hl : (Value.ref (hp.objs.size + 1) :: us).length = ps.length := by
    have e := r2.length
    rw [F1.len _ _ _ _ hq] at e
    exact e.symm
  have hus : us.length ≤ sizeLine := by
    rw [← Paired.length r1, sizeLine_eq]
    omega
  refine wpAny_call (PySem.HandSPX.call_own F.excBase_ValueError (fun Y => PySem.HandSPX.refsVE_contains Y bm hbm) (I1.kIn _ _ hC) (PySem.W.looks_findIn I1.kIn iC) (fun self => PySem.W.bind_fn I1.kIn self tI) hus
    (codeAny_mono (F1.run _ X.stack _ _ ⟨Value.ref (hp.objs.size + 1) :: us, []⟩ (Value.ref (hp.objs.size + 1) :: us) _ _ (fun _ _ _ => False) (hr.make C us []) (I2.env0.make C us []) (by simpa using hb _ (Value.ref (hp.objs.size + 1) :: us) I2.kIn (by simpa using hl)) r2 hq) fun r s' hq' => ?_))
  cases r with
  | error er => exact hx pins σ _ _ er s' I2 hq'
  | ok fl =>
    cases fl with
    | ret u =>
      obtain ⟨v, H2, os2, bare2, un2, hok2, rv, ev, d, fs, ea, ed, hd1, q2⟩ := hq'
      subst ev
      obtain ⟨h2, g2, d2, t2, os'⟩ := s'
      obtain ⟨t0, G, J, kG, ge, hoe, na⟩ := mk_end0 (d2 := d2) (t2 := t2) I1 hsz kk un2 hok2 os2 bare2 ea ed hd1
      exact ⟨rv, .ref (hp.objs.size + 1), _, J.laidN kG ge na (exk_obj hoe ⟨rfl, rfl⟩ rfl), rfl, q2⟩
    | next => exact False.elim hq'
    | brk => exact False.elim hq'
    | cont => exact False.elim hq'
/-! readings -/
def mErr0 (x : Str) : M Sl := mC (.exc ⟨x, []⟩)
def mErr1 (x : Str) (a : M Sl) : M Sl := fun m => (a m).bind fun _ m1 => .ok (.exc ⟨x, []⟩) m1
def mErrI1 (x f : Str) (a : M (List Sl)) : M Sl := fun m => (a m).bind fun ss m1 => match datsOf ss with
  | some [d] => .ok (.exc ⟨x, [(f, d)]⟩) m1
  | _ => .bad
def mErrI2 (x f g : Str) (a : M (List Sl)) : M Sl := fun m => (a m).bind fun ss m1 => match datsOf ss with
  | some [d, e] => .ok (.exc ⟨x, [(g, e), (f, d)]⟩) m1
  | _ => .bad
theorem pp_exc0 {C : Addr} {bmB : List Value} {B newId initId : String} {x : Str} {p : Pos} (F : ExcBaseFacts B newId initId bmB) (q : PySem.W.excIn X.K C bmB newId = true) (gC : X.mg x = some (.ref C)) (kC : PySem.W.keepIn X.K (.ref C) = true) (hg : Gl X x)
    (hs : starEach [] X.env = [] := by rfl) (hdb : (x == ("__debug__" : Str)) = false := by decide) : PP X W (.Call (.Name x p) [] [] pos) (mErr0 x) := by
  refine PE.imp (pe_excV0 F q gC kC hg hs hdb) fun σ H Q z => ?_
  obtain ⟨w, T, me, ok, lv, z⟩ := z
  intro a ha
  exact z (.ref a) _ T (Stp.same (Same0.new ha)) (lv.same (Same0.new ha)) ⟨a, C, none, rfl, upd_same, nT_new lv.al ha, C, rfl, gC, .inl rfl, fun f e h => by simp [List.lookup] at h⟩
theorem pp_exc1 {C : Addr} {bmB : List Value} {B newId initId : String} {x : Str} {m : M Sl} {p : Pos} (F : ExcBaseFacts B newId initId bmB) (q : PySem.W.excIn X.K C bmB newId = true) (gC : X.mg x = some (.ref C)) (kC : PySem.W.keepIn X.K (.ref C) = true) (hg : Gl X x)
    (he : PP X W e m) (hs : starEach [e] X.env = (false, eval e X.env) :: starEach [] X.env := by rfl) (hdb : (x == ("__debug__" : Str)) = false := by decide) : PP X W (.Call (.Name x p) [e] [] pos) (mErr1 x m) := by
  refine PE.imp (pe_excV1 F q gC kC hg he hs hdb) fun σ H Q z => ?_
  obtain ⟨w, T, me, ok, lv, z⟩ := z
  refine Rn.seq ok lv z fun T1 me1 v s H1 s1 lv1 p1 q1 => fun a ha => ?_
  exact q1 (.ref a) _ T1 (Stp.same (Same0.new ha)) (lv1.same (Same0.new ha)) ⟨a, C, none, rfl, upd_same, nT_new lv1.al ha, C, rfl, gC, .inl rfl, fun f e h => by simp [List.lookup] at h⟩
theorem upd_del {H : Hp} {a : Addr} {b : Addr} {o : HO} (h : b ≠ a) : upd (L2.del H a) a o b = H b := by
  rw [upd_ne h, L2.del_ne h]
theorem pp_excI1 {CX : CXT} {x f : Str} {C fI : Addr} {k : Nat} {fd : FuncData} {ps : List Str} {m : M (List Sl)} {p : Pos} (tk : Takes X W) (T : OexC X.KK C) (iC : PySem.W.findIn X.KK (.ref C) "__init__" = some (some (.ref fI))) (tI : PySem.W.typeIn X.KK (.ref fI) = some (.type "function"))
    (F1 : FnOk X.prog X.w X.KK X.mg X.base CX k fI fd ps (spIn1 C f)) (hr : Room (k + 1) X.A) (hb : Binds X.KK fd ps []) (hx : Passes CX X (fun _ _ _ => False)) (hg : Gl X x) (hm : X.mg x = some (.ref C)) (ha : PPs X W [e] m)
    (hdb : (x == ("__debug__" : Str)) = false := by decide) (he : starEach [e] X.env = (false, eval e X.env) :: starEach [] X.env := by rfl) (hpl : (backTo pos (starEach [] X.env)).any (·.1) = false := by rfl) :
    PP X W (.Call (.Name x p) [e] [] pos) (mErrI1 x f m) := by
  refine PE.imp (pe_oexV T iC tI F1 hr hb hx hg hm ha hdb he hpl) fun σ H Q z => ?_
  obtain ⟨w, TT, me, ok, lv, z⟩ := z
  refine Rn.seq ok lv z fun T1 me1 vs ss H1 s1 lv1 p1 q1 => ?_
  split at q1
  · rename_i d hd
    have dd := p1.dats hd
    cases dd with
    | @cons y vs' _ _ dy r =>
      cases r
      refine ⟨by show 1 ≤ 1000; decide, fun a ha0 => ⟨a, y, rfl, upd_same, fun dx hdx nda => ⟨rfl, dx, [(f, y)], upd_same, by rw [upd_ne nda, upd_same], ?_, ?_⟩⟩⟩
      · rw [upd_ne nda] at hdx; exact hdx
      · have hdx1 : H1 dx = none := by rw [upd_ne nda] at hdx; exact hdx
        have hH : ∀ b, b ≠ dx → b ≠ a → upd (upd (L2.del (upd (upd (upd H1 a (exo a C none)) dx (exd dx [(f, y)])) a (exo a C (some dx))) a) dx (.xd [(f, y)])) a (exk a C (some dx)) b = H1 b := fun b h1 h2 => by
          rw [upd_ne h2, upd_ne h1, L2.del_ne h2, upd_ne h2, upd_ne h1, upd_ne h2]
        have sm : Same0 H1 (upd (upd (L2.del (upd (upd (upd H1 a (exo a C none)) dx (exd dx [(f, y)])) a (exo a C (some dx))) a) dx (.xd [(f, y)])) a (exk a C (some dx))) := fun b o h => by
          rw [hH b (ne_of_none h hdx1) (ne_of_none h ha0)]; exact h
        refine q1 (.ref a) _ T1 (Stp.same sm) (lv1.same sm) ⟨a, C, some dx, rfl, upd_same, nT_new lv1.al ha0, C, rfl, hm, .inr ⟨dx, [(f, y)], rfl, by rw [upd_ne nda, upd_same], nT_new lv1.al hdx1⟩, fun n z hz => ?_⟩
        obtain ⟨e1, e2⟩ := lk1 hz
        subst e1; subst e2
        exact ⟨dx, [(n, y)], y, rfl, by rw [upd_ne nda, upd_same], nT_new lv1.al hdx1, lkself, dy.to sm.fr⟩
  · exact q1.elim
theorem lk2 {α : Type} {f g n : Str} {y z u : α} (h : List.lookup n [(g, z), (f, y)] = some u) : (n = g ∧ z = u) ∨ (n ≠ g ∧ n = f ∧ y = u) := by
  unfold List.lookup at h
  split at h
  · rename_i e
    exact .inl ⟨by simpa using e, Option.some.inj h⟩
  · rename_i e
    obtain ⟨e1, e2⟩ := lk1 h
    exact .inr ⟨by simpa using e, e1, e2⟩
theorem pp_excI2 {CX : CXT} {x f g : Str} {C fI : Addr} {k : Nat} {fd : FuncData} {ps : List Str} {m : M (List Sl)} {p : Pos} (tk : Takes X W) (T : OexC X.KK C) (iC : PySem.W.findIn X.KK (.ref C) "__init__" = some (some (.ref fI))) (tI : PySem.W.typeIn X.KK (.ref fI) = some (.type "function"))
    (F1 : FnOk X.prog X.w X.KK X.mg X.base CX k fI fd ps (spIn2 C f g)) (hr : Room (k + 1) X.A) (hb : Binds X.KK fd ps []) (hx : Passes CX X (fun _ _ _ => False)) (hg : Gl X x) (hm : X.mg x = some (.ref C)) (ha : PPs X W [e, c] m)
    (hdb : (x == ("__debug__" : Str)) = false := by decide) (he : starEach [e, c] X.env = (false, eval e X.env) :: starEach [c] X.env := by rfl) (hpl : (backTo pos (starEach [c] X.env)).any (·.1) = false := by rfl) :
    PP X W (.Call (.Name x p) [e, c] [] pos) (mErrI2 x f g m) := by
  refine PE.imp (pe_oexV T iC tI F1 hr hb hx hg hm ha hdb he hpl) fun σ H Q z => ?_
  obtain ⟨w, TT, me, ok, lv, z⟩ := z
  refine Rn.seq ok lv z fun T1 me1 vs ss H1 s1 lv1 p1 q1 => ?_
  split at q1
  · rename_i d d2 hd
    have dd := p1.dats hd
    cases dd with
    | @cons y vs' _ _ dy r =>
      cases r with
      | @cons y2 vs2 _ _ dy2 r =>
      cases r
      refine ⟨by show 2 ≤ 1000; decide, fun a ha0 => ⟨a, y, y2, rfl, upd_same, fun dx hdx nda => ⟨rfl, dx, [(g, y2), (f, y)], by rw [upd_ne (Ne.symm nda), upd_same], upd_same, ?_, ?_⟩⟩⟩
      · rw [upd_ne nda] at hdx; exact hdx
      · have hdx1 : H1 dx = none := by rw [upd_ne nda] at hdx; exact hdx
        have sm : Same0 H1 (upd (upd (L2.del (upd (upd (upd (upd H1 a (exo a C none)) dx (exd dx [(f, y)])) a (exo a C (some dx))) dx (exd dx [(g, y2), (f, y)])) a) dx (.xd [(g, y2), (f, y)])) a (exk a C (some dx))) := fun b o h => by
          have h1 : b ≠ dx := ne_of_none h hdx1
          have h2 : b ≠ a := ne_of_none h ha0
          rw [upd_ne h2, upd_ne h1, L2.del_ne h2, upd_ne h1, upd_ne h2, upd_ne h1, upd_ne h2]
          exact h
        have hd2 : upd (upd (L2.del (upd (upd (upd (upd H1 a (exo a C none)) dx (exd dx [(f, y)])) a (exo a C (some dx))) dx (exd dx [(g, y2), (f, y)])) a) dx (.xd [(g, y2), (f, y)])) a (exk a C (some dx)) dx = some (.xd [(g, y2), (f, y)]) := by rw [upd_ne nda, upd_same]
        refine q1 (.ref a) _ T1 (Stp.same sm) (lv1.same sm) ⟨a, C, some dx, rfl, upd_same, nT_new lv1.al ha0, C, rfl, hm, .inr ⟨dx, [(g, y2), (f, y)], rfl, hd2, nT_new lv1.al hdx1⟩, fun n z hz => ?_⟩
        rcases lk2 hz with ⟨e1, e2⟩ | ⟨n1, e1, e2⟩
        · subst e1; subst e2
          exact ⟨dx, _, y2, rfl, hd2, nT_new lv1.al hdx1, lkself, dy2.to sm.fr⟩
        · subst e1; subst e2
          refine ⟨dx, _, y, rfl, hd2, nT_new lv1.al hdx1, ?_, dy.to sm.fr⟩
          unfold List.lookup
          split
          · rename_i e
            exact absurd (by simpa using e) n1
          · exact lkself
  · exact q1.elim
end
end PL
namespace PL
open PySem PySem.Spec PyProof.Rows L2
theorem ite_or {α : Type} {c : Prop} [Decidable c] {a b z : α} {P : Prop} (h : (if c then a else b) = z) (f : c → a = z → P) (g : b = z → P) : P := by
  by_cases hc : c
  · rw [if_pos hc] at h; exact f hc h
  · rw [if_neg hc] at h; exact g h
/-! ### lists of exceptions -/
section
variable {X : Cx} {W : WX} {pos : Pos} {tg a b c e : Expr} {es : List Expr} {body : List Stmt}
def excsOf : List Sl → Option (List Xn)
  | [] => some []
  | .exc x :: r => (excsOf r).map (x :: ·)
  | _ => none
theorem SVs.excs {K : Kx} {mg : Str → Option Value} {sc : Sc} {T : Addr → Prop} {H : Hp} {vs : List V} {ss : List Sl} (h : SVs K mg sc T H vs ss) : ∀ {xs : List Xn}, excsOf ss = some xs → XVs K mg T H vs xs := by
  induction h with
  | nil => intro xs e; cases e; exact .nil
  | @cons v vs s ss a r ih =>
    intro xs e
    cases s with
    | exc x =>
      unfold excsOf at e
      cases h2 : excsOf ss with
      | none => rw [h2] at e; cases e
      | some ys => rw [h2] at e; cases e; exact .cons a (ih h2)
    | dat d => cases e
    | own d => cases e
    | src => cases e
    | obj o => cases e
theorem XVs.length {K : Kx} {mg : Str → Option Value} {T : Addr → Prop} {H : Hp} {vs : List V} {xs : List Xn} (h : XVs K mg T H vs xs) : vs.length = xs.length := by
  induction h with
  | nil => rfl
  | cons _ _ ih => exact congrArg (· + 1) ih
theorem XVs.append {K : Kx} {mg : Str → Option Value} {T : Addr → Prop} {H : Hp} {vs us : List V} {xs ys : List Xn} (h : XVs K mg T H vs xs) (h2 : XVs K mg T H us ys) : XVs K mg T H (vs ++ us) (xs ++ ys) := by
  induction h with
  | nil => exact h2
  | cons a _ ih => exact .cons a ih
theorem XVs.get {K : Kx} {mg : Str → Option Value} {T : Addr → Prop} {H : Hp} {vs : List V} {xs : List Xn} (h : XVs K mg T H vs xs) : ∀ {i : Nat} {x : Xn}, xs[i]? = some x → ∃ v, vs[i]? = some v ∧ XV K mg T H v x := by
  induction h with
  | nil => intro i x e; simp at e
  | @cons v vs y ys a r ih =>
    intro i x e
    cases i with
    | zero => cases e; exact ⟨v, rfl, a⟩
    | succ i => exact ih (i := i) (by simpa using e)
def mXs (a : M (List Sl)) : M Sl := fun m => (a m).bind fun ss m1 => match excsOf ss with
  | some xs => if xs.length ≤ sizeLine then .ok (.obj (.xs xs)) m1 else .bad
  | none => .bad
theorem pp_xs {m : M (List Sl)} (h : PPs X W es m) : PP X W (.List es pos) (mXs m) := by
  refine PE.imp (pe_lst h) fun σ H Q q => ?_
  obtain ⟨w, T, me, ok, lv, q⟩ := q
  refine Rn.seq ok lv q fun T1 me1 vs ss H1 s1 lv1 p1 q1 => ?_
  cases hd : excsOf ss with
  | none => rw [hd] at q1; exact q1.elim
  | some xs =>
    rw [hd] at q1
    have xv := p1.excs hd
    by_cases hz : xs.length ≤ sizeLine
    · simp only [if_pos hz] at q1
      refine ⟨by rw [xv.length]; exact hz, fun p hp => ?_⟩
      exact q1 (.ref p) _ T1 (Stp.same (Same0.new hp)) (lv1.same (Same0.new hp)) ⟨p, vs, rfl, ⟨.inl upd_same, nT_new lv1.al hp⟩, xv.fr (Same0.new hp).fr⟩
    · simp only [if_neg hz] at q1
      exact q1.elim
def mXAdd (x y : M Sl) : M Sl := fun m => (x m).bind fun s m1 => (y m1).bind fun t m2 => match s, t with
  | .obj (.xs l), .obj (.xs l') => if l.length + l'.length ≤ sizeLine then .ok (.obj (.xs (l ++ l'))) m2 else .bad
  | _, _ => .bad
theorem pp_xadd {x y : M Sl} (ha : PP X W a x) (hb : PP X W b y) : PP X W (.BinOp a .Add b pos) (mXAdd x y) := by
  refine PE.imp (pe_op op_catR ha hb) fun σ H Q q => ?_
  obtain ⟨w, T, me, ok, lv, q⟩ := q
  refine Rn.seq ok lv q fun T1 me1 v s H1 s1 lv1 p1 q1 => ?_
  refine Rn.seq ok lv1 q1 fun T2 me2 u t H2 s2 lv2 p2 q2 => ?_
  split at q2
  · rename_i l l'
    split at q2
    · rename_i hz
      have p1' := SV.fr (s2.fr ok lv1.t0) p1
      obtain ⟨a1, vs, rfl, hq, hx⟩ := p1'
      obtain ⟨a2, us, rfl, hq2, hx2⟩ := p2
      refine ⟨a1, a2, vs, us, rfl, rfl, hq.1, hq2.1, by rw [hx.length, hx2.length]; exact hz, fun p hp => ?_⟩
      exact q2 (.ref p) _ T2 (Stp.same (Same0.new hp)) (lv2.same (Same0.new hp)) ⟨p, vs ++ us, rfl, ⟨.inl upd_same, nT_new lv2.al hp⟩, (hx.append hx2).fr (Same0.new hp).fr⟩
    · exact q2.elim
  · exact q2.elim
/-- made[at] -/
def mXIx (x : M Sl) (y : M PyData) : M Sl := fun m => (x m).bind fun s m1 => (y m1).bind fun d m2 => match s, d with
  | .obj (.xs l), .int i => (match atI l i with
    | some z => .ok (.exc z) m2
    | none => .bad)
  | _, _ => .bad
theorem atI_xvs {K : Kx} {mg : Str → Option Value} {T : Addr → Prop} {H : Hp} {vs : List V} {xs : List Xn} (h : XVs K mg T H vs xs) {i : Int} {d : Xn} (e : atI xs i = some d) : ∃ v, atI vs i = some v ∧ XV K mg T H v d := by
  unfold atI at e ⊢
  rw [h.length]
  cases hx : ixN xs.length i with
  | none => rw [hx] at e; cases e
  | some j =>
    rw [hx] at e
    exact h.get e
theorem pp_xix {x : M Sl} {y : M PyData} (ha : PP X W a x) (hb : PB X W b y) (hs : PlainIx b := by exact fun _ _ => rfl) : PP X W (.Subscript a b pos) (mXIx x y) := by
  refine PE.imp (pe_ix ix_seq ha hb hs) fun σ H Q q => ?_
  obtain ⟨w, T, me, ok, lv, q⟩ := q
  refine Rn.seq ok lv q fun T1 me1 v s H1 s1 lv1 p1 q1 => ?_
  refine Rn.seq ok lv1 q1 fun T2 me2 u t H2 s2 lv2 p2 q2 => ?_
  split at q2
  · rename_i l i
    split at q2
    · rename_i z hz
      have p1' := SV.fr (s2.fr ok lv1.t0) p1
      obtain ⟨a1, vs, rfl, hq, hx⟩ := p1'
      obtain ⟨v, e1, xv⟩ := atI_xvs hx hz
      exact .inl ⟨a1, vs, _, v, rfl, p2.int, .inl hq.1, e1, q2 v H2 T2 (Stp.refl _ _ _ _ _) lv2 xv⟩
    · exact q2.elim
  · exact q2.elim
/-- len(made) -/
def mXLen (x : M Sl) : M Sl := fun m => (x m).bind fun s m1 => match s with
  | .obj (.xs l) => .ok (.dat (.int l.length)) m1
  | _ => .bad
theorem pp_xlen {p : Pos} {m : M Sl} (hg : Gl X "len") (hm : X.mg "len" = none) (ha : PP X W e m) (he : starEach [e] X.env = (false, eval e X.env) :: starEach [] X.env := by rfl) (hpl : (backTo pos (starEach [] X.env)).any (·.1) = false := by rfl) :
    PP X W (.Call (.Name "len" p) [e] [] pos) (mXLen m) := by
  refine PE.imp (pe_callB call_lenP hg hm PySem.boot_len (pa_cons ha pa_nil he) (by decide) (by decide) he hpl) fun σ H Q q => ?_
  obtain ⟨w, T, me, ok, lv, q⟩ := q
  refine Rn.seq ok lv q fun T1 me1 v s H1 s1 lv1 p1 q1 => ?_
  split at q1
  · rename_i l
    obtain ⟨a1, vs, rfl, hq, hx⟩ := p1
    exact ⟨_, vs.length, rfl, .inl ⟨vs, .inl hq.1, rfl⟩, by rw [hx.length]; exact q1 _ H1 T1 (Stp.refl _ _ _ _ _) lv1 (DD.int _)⟩
  · exact q1.elim
/-! ### for x in [a, b, ..], a, b of any kind -/
def forO (i : Nat) (b : M Flow) : List Sl → M Flow
  | [] => mNext
  | s :: r => fun m => match putE i s m with
    | none => .bad
    | some m0 => (b m0).bind fun f m1 => match f with
      | .next => forO i b r m1
      | .cont => forO i b r m1
      | .brk => .ok .next m1
      | .ret s => .ok (.ret s) m1
def mForO (i : Nat) (it : M (List Sl)) (b : M Flow) : M Flow := fun m => (it m).bind fun l m1 => if l.length ≤ sizeLine then forO i b l m1 else .bad
theorem SVs.getV {K : Kx} {mg : Str → Option Value} {sc : Sc} {T : Addr → Prop} {H : Hp} {vs : List V} {ss : List Sl} (h : SVs K mg sc T H vs ss) : ∀ {i : Nat} {v : V}, vs[i]? = some v → ∃ s, ss[i]? = some s ∧ SV K mg sc T H v s := by
  induction h with
  | nil => intro i v e; simp at e
  | @cons v vs s ss a r ih =>
    intro i u e
    cases i with
    | zero => cases e; exact ⟨s, rfl, a⟩
    | succ i => exact ih (i := i) (by simpa using e)
theorem Lv.put {K : Kx} {mg : Str → Option Value} {w : Wd} {T : Addr → Prop} {σ : L2.St} {H : Hp} {me m0 : Me} (lv : Lv K mg w T σ H me) {i : Nat} {v : V} {s : Sl} (h : putE i s me = some m0) (sv : SV K mg w.sc T H v s) : Lv K mg w T (σ.set i (some v)) H m0 := by
  cases s with
  | own d => exact sv.elim
  | dat d =>
    unfold putE at h; simp only at h; split at h
    · rename_i hlt; cases h; exact lv.set hlt ⟨v, rfl, sv⟩ (fun _ => nofun)
    · cases h
  | src =>
    unfold putE at h; simp only at h; split at h
    · rename_i hlt; cases h; exact lv.set hlt ⟨v, rfl, sv⟩ (fun _ => nofun)
    · cases h
  | exc x =>
    unfold putE at h; simp only at h; split at h
    · rename_i hlt; cases h; exact lv.set hlt ⟨v, rfl, sv⟩ (fun _ => nofun)
    · cases h
  | obj o =>
    unfold putE at h; simp only at h; split at h
    · rename_i hlt; cases h; exact lv.set hlt ⟨v, rfl, sv⟩ (fun _ => nofun)
    · cases h
theorem pps_forO {i : Nat} {x : Str} {it : M (List Sl)} {m : M Flow} {px p2 : Pos} (hp : PassesOwn (model X.prog X.w) X.A X.env X.xe) (hc : X.calm = true) (hN : X.N.Nodup) (ha : PPs X W es it) (hb : PPSs X W body m) (hi : X.N[i]? = some x := by rfl) (hx : Loc X.env.scope x := by first | exact .inl rfl | exact .inr rfl) (hf : X.fn x = true ∨ X.env.scope.names.lookup x = some .local := by first | exact .inl rfl | exact .inr rfl)
    (hs : ∀ x, foldedSetIterable (.List es p2) X.env x = pure x := by intro _; rfl) : PPS X W (.For (.Name x px) (.List es p2) body [] pos) (mForO i it m) := by
  refine PS.imp (ps_for hp hc (pi_seq (pe_lst ha)) (pg_name hN hi hx hf) hb hs) fun D σ H q => ?_
  obtain ⟨w, T, me, ok, lv, q⟩ := q
  refine SRn.seq ok lv q fun T1 me1 vs l H1 s1 lv1 sv q1 => ?_
  have hlen : vs.length = l.length := sv.length
  by_cases hz : l.length ≤ sizeLine
  · rw [if_pos hz] at q1
    refine ⟨by rw [hlen]; exact hz, fun p hp0 => ?_⟩
    have sm0 : Same0 H1 (upd H1 p (.lst vs)) := Same0.new hp0
    have hql : QL X.KK T1 (upd H1 p (.lst vs)) p vs := ⟨.inl upd_same, nT_new lv1.al hp0⟩
    refine .inl ⟨p, rfl, ⟨vs, hql.sq⟩, ?_⟩
    refine for_it (hlen ▸ walk_list (xs := vs)) (fun i' σ' H' => ∃ (T' : Addr → Prop) (m' : Me), Fr T1 (upd H1 p (.lst vs)) T' H' ∧ Lv X.KK X.mg w T' σ' H' m' ∧ SRn X.KK X.mg W D w T' H' (forO i m (l.drop i') m')) ⟨T1, me1, Fr.refl _ _, lv1.same sm0, by rw [List.drop_zero]; exact q1.after sm0.fr⟩ (fun i' σ' H' _ pp => ?_) (fun i' y σ' H' H'' hi' pp yy => ?_) (fun σ' H' pp => ?_)
    · obtain ⟨T', m', fr, _⟩ := pp
      exact (hql.fr fr).sq
    · obtain ⟨T', m', fr, lv', q'⟩ := pp
      obtain ⟨rfl, yy⟩ := yy
      obtain ⟨s, es', svs⟩ := (sv.fr (sm0.fr.trans fr)).getV yy
      have hdrop : l.drop i' = s :: l.drop (i' + 1) := by
        rw [List.getElem?_eq_getElem hi'] at es'
        rw [List.drop_eq_getElem_cons hi', Option.some.inj es']
      rw [hdrop] at q'
      unfold forO at q'
      cases ht : putE i s m' with
      | none => rw [ht] at q'; exact q'.elim
      | some m0 =>
        rw [ht] at q'
        refine ⟨w, T', m0, ok, lv'.put ht svs, ?_⟩
        simp only at q'
        cases hm : m m0 with
        | bad => rw [hm] at q'; exact q'
        | exc z m1 => rw [hm] at q'; exact q'
        | ok f m1 =>
          rw [hm] at q'
          simp only [Res.bind_ok] at q'
          cases f with
          | next => exact fun σ3 H3 T3 fr3 lv3 => ⟨T3, m1, fr.trans fr3, lv3, q'.after fr3⟩
          | cont => exact fun σ3 H3 T3 fr3 lv3 => ⟨T3, m1, fr.trans fr3, lv3, q'.after fr3⟩
          | brk => exact q'
          | ret s => exact q'
    · obtain ⟨T', m', fr, lv', q'⟩ := pp
      rw [List.drop_length] at q'
      exact q'.nx lv'
  · rw [if_neg hz] at q1
    exact q1.elim
/-- a call without arguments -/
theorem pp_call0 {F : List Sl → SrcSt → CRes} {k n : Nat} {f : Addr} {fd : FuncData} {ps : List Str} {x : Str} {p : Pos} (G : FnOk X.prog X.w X.KK X.mg X.base (L2.CX X.prog X.w) k f fd ps (spP X.KK X.mg n F)) (hr : Room k X.A) (hg : Gl X x) (hm : X.mg x = some (.ref f)) (hk : PySem.W.keepIn X.KK (.ref f) = true) (hb : Binds X.KK fd ps []) (hx : PassX X W)
    (hn : ([] : List (M Sl)).length = n := by rfl) (hdb : (x == ("__debug__" : Str)) = false := by decide) : PP X W (.Call (.Name x p) [] [] pos) (mCall F (mArgs [])) := by
  refine ⟨fun pins s σ H Q I q => ?_⟩
  refine wpAny_Call_Name_kw (ld_glob I hg hm ?_ hdb)
  refine PySem.W.callWith_K0 I.kIn hk (run_fnS (us := []) (vs := []) (E := WE W) G hr hb (hx σ) I .nil ?_)
  obtain ⟨w, T, me, ok, lv, q⟩ := q
  exact spP_val ok lv (Stp.refl _ _ _ _ _) lv .nil hn q
end
end PL
namespace PL
open PySem PySem.Spec PyProof.Rows L2
section
variable {X : Cx} {W : WX} {pos : Pos} {tg a b c e : Expr} {es : List Expr} {body : List Stmt}
/-! ### raise C(x, y) -/
theorem pps_raise2 {CX : CXT} {x f g : Str} {C fI : Addr} {k : Nat} {fd : FuncData} {ps : List Str} {m : M (List Sl)} {p pos2 : Pos} (hc : X.calm = true) (tk : Takes X W) (T : OexC X.KK C) (iC : PySem.W.findIn X.KK (.ref C) "__init__" = some (some (.ref fI))) (tI : PySem.W.typeIn X.KK (.ref fI) = some (.type "function"))
    (F1 : FnOk X.prog X.w X.KK X.mg X.base CX k fI fd ps (spIn2 C f g)) (hr : Room (k + 1) X.A) (hb : Binds X.KK fd ps []) (hx : Passes CX X (fun _ _ _ => False)) (hg : Gl X x) (hm : X.mg x = some (.ref C)) (ha : PPs X W [e, c] m)
    (hdb : (x == ("__debug__" : Str)) = false := by decide) (he : starEach [e, c] X.env = (false, eval e X.env) :: starEach [c] X.env := by rfl) (hpl : (backTo pos (starEach [c] X.env)).any (·.1) = false := by rfl) :
    PPS X W (.Raise (some (.Call (.Name x p) [e, c] [] pos)) none pos2) (mRaise2 x f g m) := by
  refine PS.imp (ps_raise hc tk (pmk_oex T iC tI F1 hr hb .nil hx hg hm ha hdb he hpl)) fun D σ H q => ?_
  obtain ⟨w, TT, me, ok, lv, q⟩ := q
  refine SRn.seq ok lv q fun T1 me1 vs ss H1 s1 lv1 p1 q1 => ?_
  split at q1
  · rename_i d d2 hd
    have dd := p1.dats hd
    cases dd with
    | @cons y vs' _ _ dy r =>
      cases r with
      | @cons y2 vs2 _ _ dy2 r =>
      cases r
      refine ⟨by show 2 ≤ 1000; decide, fun a ha0 => ⟨a, y, y2, rfl, upd_same, fun dx hdx nda => ⟨rfl, dx, [(g, y2), (f, y)], by rw [upd_ne (Ne.symm nda), upd_same], upd_same, ?_, ?_⟩⟩⟩
      · rw [upd_ne nda] at hdx; exact hdx
      · have hdx1 : H1 dx = none := by rw [upd_ne nda] at hdx; exact hdx
        have sm : Same0 H1 (upd (L2.del (upd (upd (upd (upd H1 a (exo a C none)) dx (exd dx [(f, y)])) a (exo a C (some dx))) dx (exd dx [(g, y2), (f, y)])) a) dx (.xd [(g, y2), (f, y)])) := fun b o h => by
          have h1 : b ≠ dx := ne_of_none h hdx1
          have h2 : b ≠ a := ne_of_none h ha0
          rw [upd_ne h1, L2.del_ne h2, upd_ne h1, upd_ne h2, upd_ne h1, upd_ne h2]
          exact h
        refine q1 (.ref C) (some dx) σ _ T1 sm.fr (lv1.same sm) ⟨C, rfl, hm, .inr ⟨dx, _, rfl, upd_same, nT_new lv1.al hdx1⟩, fun n z hz => ?_⟩
        rcases lk2 hz with ⟨e1, e2⟩ | ⟨n1, e1, e2⟩
        · subst e1; subst e2
          exact ⟨dx, _, y2, rfl, upd_same, nT_new lv1.al hdx1, lkself, dy2.to sm.fr⟩
        · subst e1; subst e2
          refine ⟨dx, _, y, rfl, upd_same, nT_new lv1.al hdx1, ?_, dy.to sm.fr⟩
          unfold List.lookup
          split
          · rename_i e
            exact absurd (by simpa using e) n1
          · exact lkself
  · exact q1.elim
/-! ### s.split(t) -/
def pSplit (x y : PyData) : Option PyData := match x, y with
  | .str a, .str b => if b.length ≠ 0 ∧ a.length + 2 ≤ sizeLine then some (.list ((Txt.split a b).map .str)) else none
  | _, _ => none
theorem DDs.ofStrs {K : Kx} {T : Addr → Prop} {H : Hp} : ∀ l : List Str, DDs K T H (l.map V.str) (l.map PyData.str)
  | [] => .nil
  | x :: l => .cons (.str x) (DDs.ofStrs l)
theorem pp_split {x y : M PyData} {p2 p3 : Pos} (ha : PB X W a x) (hb : PB X W b y)
    (hbase : attributeBase a "split" X.env (eval a X.env) = eval a X.env := by rfl)
    (hfew : ((backTo p3 (starEach [b] X.env)).all (fun x => !x.1) && (backToKw p3 (keywordEach [] X.env)).all (fun x => x.1.isSome) && decide ([b].length + ([] : List Keyword).length + (if ([] : List Keyword).isEmpty then 0 else 1) < 30)) = true := by rfl)
    (hline : (p2.endLine == p3.line) = true := by rfl) (hs : starEach [b] X.env = (false, eval b X.env) :: starEach [] X.env := by rfl) (hpl : (backTo p3 (starEach [] X.env)).any (·.1) = false := by rfl) :
    PP X W (.Call (.Attribute a "split" p2) [b] [] p3) (mOp pSplit (mStr x) y) := by
  refine PE.imp (pe_bm PySem.F.plainAttrs_str PySem.F.slot_str_split PySem.F.type_str_split mt_split ha (pa_cons hb pa_nil hs) hbase hfew hline hs hpl) fun σ H Q q => ?_
  obtain ⟨w, T, me, ok, lv, q⟩ := q
  refine Rn.str ok lv q fun T1 me1 s H1 s1 lv1 q1 => ⟨rfl, ?_⟩
  refine Rn.seq ok lv1 q1 fun T2 me2 u d H2 s2 lv2 p2 q2 => ?_
  cases hf : pSplit (.str s) d with
  | none => rw [hf] at q2; exact q2.elim
  | some z =>
    rw [hf] at q2
    unfold pSplit at hf
    split at hf
    · rename_i e1
      split at hf
      · rename_i hz
        cases e1; cases hf
        refine ⟨_, _, rfl, by rw [p2.str], by simpa using hz.1, hz.2, fun p hp => ?_⟩
        exact q2 (.ref p) _ T2 (Stp.same (Same0.new hp)) (lv2.same (Same0.new hp)) (DD.newL lv2.al hp (DDs.ofStrs _))
      · cases hf
    · cases hf
/-! ### list(x), sum(l), max(i, j), min(i, j) -/
def keysOf (es : List (PyData × PyData)) : List PyData := es.map (·.1)
def fList : List PyData → Option PyData
  | [.list l] => some (.list l)
  | [.tuple l] => some (.list l)
  | [.dict es] => if leafD es = true then some (.list (keysOf es)) else none
  | _ => none
theorem DKs.keyDDs {K : Kx} {T : Addr → Prop} {H : Hp} : ∀ {kvs : List (Key × V)} {es : List (PyData × PyData)}, DKs K T H kvs es → DDs K T H (kvs.map fun kv => kV kv.1) (keysOf es)
  | [], _, h => by cases h; exact .nil
  | (k, v) :: kvs, _, h => by
    cases h with
    | @cons _ _ _ d e es hk hv r =>
      refine .cons ?_ (DKs.keyDDs r)
      cases k with
      | inl i => cases hk; exact .int i
      | inr s => cases hk; exact .str s
def rListP (K : Kx) : List V → Hp → VK → Prop := fun xs H Q => (∃ p ys, xs = [.ref p] ∧ (SqL K H p ys ∨ SqT K H p ys) ∧ ∀ l, H l = none → Q (.ref l) (upd H l (.lst ys))) ∨
  ∃ (a : Addr) (kvs : List (Key × V)), xs = [.ref a] ∧ Rd H a (.dK kvs) ∧ ∀ p, H p = none → Q (.ref p) (upd H p (.lst (kvs.map fun kv => kV kv.1)))
theorem call_listP (hc : X.calm = true) : CallR X (.type "list") (rListP X.KK) := by
  intro pins s σ H xs us Q I r h
  rcases h with h | h
  · exact call_list_of pins s σ H xs us Q I r h
  · exact call_listD hc pins s σ H xs us Q I r h
theorem ok_list {K : Kx} : CalOk K (rListP K) fList := by
  intro sc T H xs ds z Q al hx hf q
  unfold fList at hf
  split at hf
  · cases hf
    obtain ⟨v, rfl, h⟩ := hx.one
    obtain ⟨p, vs, rfl, r, dd⟩ := h.list
    exact .inl ⟨p, vs, rfl, .inl (.inl r), fun l hl => q _ _ (Same0.new hl) (DD.newL al hl dd)⟩
  · cases hf
    obtain ⟨v, rfl, h⟩ := hx.one
    obtain ⟨p, vs, rfl, r, dd⟩ := h.tuple
    exact .inl ⟨p, vs, rfl, .inr r.sq, fun l hl => q _ _ (Same0.new hl) (DD.newL al hl dd)⟩
  · split at hf
    · rename_i hl
      cases hf
      obtain ⟨v, rfl, h⟩ := hx.one
      obtain ⟨p, kvs, rfl, r, dk⟩ := h.leaf hl
      exact .inr ⟨p, kvs, rfl, r, fun l hl => q _ _ (Same0.new hl) (DD.newL al hl dk.keyDDs)⟩
    · cases hf
  · cases hf
theorem pp_list {p : Pos} {m : M (List PyData)} (hc : X.calm = true) (hg : Gl X "list") (hm : X.mg "list" = none) (ha : PBs X W (e :: es) m) (he : starEach (e :: es) X.env = (false, eval e X.env) :: starEach es X.env := by rfl) (hpl : (backTo pos (starEach es X.env)).any (·.1) = false := by rfl) :
    PP X W (.Call (.Name "list" p) (e :: es) [] pos) (mCal fList m) := pp_callTy (call_listP hc) ok_list hg hm (by decide +kernel) ha (by decide) (by decide) he hpl
def intsOf : List PyData → Option (List Int)
  | [] => some []
  | .int i :: r => (intsOf r).map (i :: ·)
  | _ => none
theorem DDs.ints {K : Kx} {T : Addr → Prop} {H : Hp} : ∀ {ds : List PyData} {vs : List V} {ns : List Int}, DDs K T H vs ds → intsOf ds = some ns → vs = ns.map V.int
  | [], _, ns, h, e => by cases h; cases e; rfl
  | d :: ds, _, ns, h, e => by
    cases h with
    | cons a r =>
      cases d with
      | int i =>
        unfold intsOf at e
        cases h2 : intsOf ds with
        | none => rw [h2] at e; cases e
        | some bs =>
          rw [h2] at e
          cases e
          cases a
          rw [DDs.ints r h2]
          rfl
      | none => cases e
      | bool b => cases e
      | str b => cases e
      | list b => cases e
      | tuple b => cases e
      | dict b => cases e
def fSum : List PyData → Option PyData
  | [.list l] => (intsOf l).map fun ns => .int ns.sum
  | _ => none
theorem ok_sum {K : Kx} : CalOk K (rSum K) fSum := by
  intro sc T H xs ds z Q al hx hf q
  unfold fSum at hf
  split at hf
  · rename_i l
    cases hi : intsOf l with
    | none => rw [hi] at hf; cases hf
    | some ns =>
      rw [hi] at hf
      cases hf
      obtain ⟨v, rfl, h⟩ := hx.one
      obtain ⟨p, vs, rfl, r, dd⟩ := h.list
      have ev := dd.ints hi
      subst ev
      exact ⟨p, ns, rfl, .inl r, q _ H (fun _ _ h => h) (.int _)⟩
  · cases hf
theorem pp_sum {p : Pos} {m : M (List PyData)} (hc : X.calm = true) (hg : Gl X "sum") (hm : X.mg "sum" = none) (ha : PBs X W (e :: es) m) (he : starEach (e :: es) X.env = (false, eval e X.env) :: starEach es X.env := by rfl) (hpl : (backTo pos (starEach es X.env)).any (·.1) = false := by rfl) :
    PP X W (.Call (.Name "sum" p) (e :: es) [] pos) (mCal fSum m) := pp_callB (cr_sum hc) ok_sum hg hm (by decide +kernel) ha (by decide) (by decide) he hpl
def fMax2 : List PyData → Option PyData
  | [.int i, .int j] => some (.int (if j > i then j else i))
  | _ => none
def fMin2 : List PyData → Option PyData
  | [.int i, .int j] => some (.int (if j < i then j else i))
  | _ => none
theorem ok_max2 {K : Kx} : CalOk K (fun xs H Q => ∃ i j, xs = [.int i, .int j] ∧ Q (.int (if j > i then j else i)) H) fMax2 := by
  intro sc T H xs ds z Q al hx hf q
  unfold fMax2 at hf
  split at hf
  · cases hf
    obtain ⟨v, u, rfl, h1, h2⟩ := hx.two
    exact ⟨_, _, by rw [h1.int, h2.int], q _ H (fun _ _ h => h) (.int _)⟩
  · cases hf
theorem ok_min2 {K : Kx} : CalOk K (fun xs H Q => ∃ i j, xs = [.int i, .int j] ∧ Q (.int (if j < i then j else i)) H) fMin2 := by
  intro sc T H xs ds z Q al hx hf q
  unfold fMin2 at hf
  split at hf
  · cases hf
    obtain ⟨v, u, rfl, h1, h2⟩ := hx.two
    exact ⟨_, _, by rw [h1.int, h2.int], q _ H (fun _ _ h => h) (.int _)⟩
  · cases hf
theorem pp_max2 {p : Pos} {m : M (List PyData)} (hc : X.calm = true) (hg : Gl X "max") (hm : X.mg "max" = none) (ha : PBs X W [e, c] m) (he : starEach [e, c] X.env = (false, eval e X.env) :: starEach [c] X.env := by rfl) (hpl : (backTo pos (starEach [c] X.env)).any (·.1) = false := by rfl) :
    PP X W (.Call (.Name "max" p) [e, c] [] pos) (mCal fMax2 m) := pp_callB (call_max2 hc) ok_max2 hg hm (by decide +kernel) ha (by decide) (by decide) he hpl
theorem pp_min2 {p : Pos} {m : M (List PyData)} (hc : X.calm = true) (hg : Gl X "min") (hm : X.mg "min" = none) (ha : PBs X W [e, c] m) (he : starEach [e, c] X.env = (false, eval e X.env) :: starEach [c] X.env := by rfl) (hpl : (backTo pos (starEach [c] X.env)).any (·.1) = false := by rfl) :
    PP X W (.Call (.Name "min" p) [e, c] [] pos) (mCal fMin2 m) := pp_callB (call_min2 hc) ok_min2 hg hm (by decide +kernel) ha (by decide) (by decide) he hpl
/-! ### l.index(x) -/
def firstIx (d : PyData) : List PyData → Option Nat
  | [] => none
  | z :: r => if PyData.eqv z d = true then some 0 else (firstIx d r).map (· + 1)
theorem firstIx_some {d : PyData} : ∀ {l : List PyData} {j : Nat}, firstIx d l = some j → ∃ z, l[j]? = some z ∧ PyData.eqv z d = true ∧ ∀ (m : Nat) (z' : PyData), m < j → l[m]? = some z' → PyData.eqv z' d = false
  | [], _, h => by cases h
  | z :: r, j, h => by
    unfold firstIx at h
    split at h
    · rename_i hz
      cases h
      exact ⟨z, rfl, hz, fun m z' hm => absurd hm (by omega)⟩
    · rename_i hz
      cases hr : firstIx d r with
      | none => rw [hr] at h; cases h
      | some k =>
        rw [hr] at h
        cases h
        obtain ⟨y, h1, h2, h3⟩ := firstIx_some hr
        refine ⟨y, h1, h2, fun m z' hm hz' => ?_⟩
        cases m with
        | zero => cases hz'; simpa using hz
        | succ m => exact h3 m z' (Nat.lt_of_succ_lt_succ hm) hz'
def pIndex (x y : PyData) : Option PyData := match x with
  | .list l => if SeqAt.shaped (.list l) = true ∧ SeqAt.shaped y = true then (firstIx y l).map fun j => .int (j : Nat) else none
  | _ => none
def mLs (x : M PyData) : M PyData := fun m => (x m).bind fun d m1 => match d with
  | .list l => .ok (.list l) m1
  | _ => .bad
theorem Rn.ls {K : Kx} {mg : Str → Option Value} {β γ : Type} {R : Wd → (Addr → Prop) → Hp → β → γ → Prop} {x : M PyData} {k : PyData → Me → Res γ} {σ : L2.St} {H : Hp} {Q : β → Hp → Prop} {Q' : V → Hp → Prop} {w : Wd} {T : Addr → Prop} {me : Me} (ok : w.Ok) (lv : Lv K mg w T σ H me) (h : Rn K mg W R σ w T H me Q ((mLs x me).bind k))
    (f : ∀ (T1 : Addr → Prop) (me1 : Me) (p : Addr) (vs : List V) (l : List PyData) (H1 : Hp), Stp w σ T H me T1 H1 me1 → Lv K mg w T1 σ H1 me1 → DB K w.sc T1 H1 (.ref p) (.list l) → Rd H1 p (.lst vs) → DDs K T1 H1 vs l → Rn K mg W R σ w T1 H1 me1 Q (k (.list l) me1) → Q' (.ref p) H1) : tB K mg W x σ H Q' := by
  have e : (mLs x me).bind k = (x me).bind fun d m' => (match d with | .list l => Res.ok (.list l) m' | _ => .bad : Res PyData).bind k := by
    unfold mLs
    cases x me <;> rfl
  rw [e] at h
  refine Rn.seq ok lv h fun T1 me1 v d H1 s1 lv1 p1 q1 => ?_
  cases d with
  | list l =>
    obtain ⟨p, vs, rfl, r, dd⟩ := p1.list
    exact f T1 me1 p vs l H1 s1 lv1 p1 r dd q1
  | none => exact q1.elim
  | bool b => exact q1.elim
  | int i => exact q1.elim
  | str i => exact q1.elim
  | tuple i => exact q1.elim
  | dict i => exact q1.elim
theorem pp_index {x y : M PyData} {p2 p3 : Pos} (hu : X.A.units + 65 < cLine) (ha : PB X W a x) (hb : PB X W b y)
    (hbase : attributeBase a "index" X.env (eval a X.env) = eval a X.env := by rfl)
    (hfew : ((backTo p3 (starEach [b] X.env)).all (fun x => !x.1) && (backToKw p3 (keywordEach [] X.env)).all (fun x => x.1.isSome) && decide ([b].length + ([] : List Keyword).length + (if ([] : List Keyword).isEmpty then 0 else 1) < 30)) = true := by rfl)
    (hline : (p2.endLine == p3.line) = true := by rfl) (hs : starEach [b] X.env = (false, eval b X.env) :: starEach [] X.env := by rfl) (hpl : (backTo p3 (starEach [] X.env)).any (·.1) = false := by rfl) :
    PP X W (.Call (.Attribute a "index" p2) [b] [] p3) (mOp pIndex (mLs x) y) := by
  refine PE.imp (pe_bm PySem.F.plainAttrs_list PySem.F.slot_list_index PySem.F.type_list_index (mt_indexD hu) ha (pa_cons hb pa_nil hs) hbase hfew hline hs hpl) fun σ H Q q => ?_
  obtain ⟨w, T, me, ok, lv, q⟩ := q
  refine Rn.ls ok lv q fun T1 me1 p vs l H1 s1 lv1 p1 r dd q1 => ⟨.inl ⟨rfl, vs, .inl r⟩, ?_⟩
  refine Rn.seq ok lv1 q1 fun T2 me2 u d H2 s2 lv2 p2 q2 => ?_
  cases hf : pIndex (.list l) d with
  | none => rw [hf] at q2; exact q2.elim
  | some z =>
    rw [hf] at q2
    unfold pIndex at hf
    simp only at hf
    split at hf
    · rename_i hz
      cases hx : firstIx d l with
      | none => rw [hx] at hf; cases hf
      | some j =>
        rw [hx] at hf
        cases hf
        obtain ⟨y, h1, h2, h3⟩ := firstIx_some hx
        exact ⟨p, u, d, l, j, y, rfl, rfl, (p1.fr (s2.fr ok lv1.t0) s2.ex).dp (SeqAt.canLay_of_shaped hz.1), p2.dp (SeqAt.canLay_of_shaped hz.2), hz.1, hz.2, h1, h2, h3, q2 _ H2 T2 (Stp.refl _ _ _ _ _) lv2 (DD.int _)⟩
    · cases hf
/-! ### a list times a number -/
def pRep (x y : PyData) : Option PyData := match x, y with
  | .list l, .int k => if -(2 ^ 62) ≤ k ∧ k ≤ 1000000 ∧ l.length * k.toNat ≤ 1000000 then some (.list (List.replicate k.toNat l).flatten) else none
  | _, _ => none
theorem DDs.rep {K : Kx} {T : Addr → Prop} {H : Hp} {vs : List V} {ds : List PyData} (h : DDs K T H vs ds) : ∀ n : Nat, DDs K T H (List.replicate n vs).flatten (List.replicate n ds).flatten
  | 0 => .nil
  | n + 1 => by
    rw [List.replicate_succ, List.replicate_succ, List.flatten_cons, List.flatten_cons]
    exact DDs.append (DDs.rep h n) h
def rRepR : R2 := fun x y H Q => ∃ l k xs, x = .ref l ∧ y = .int k ∧ Rd H l (.lst xs) ∧ -(2 ^ 63) ≤ k ∧ k < 2 ^ 63 ∧ xs.length * k.toNat ≤ sizeLine ∧
  ∀ p, H p = none → Q (.ref p) (upd H p (.lst (List.replicate k.toNat xs).flatten))
theorem op_repR : OpR X (binaryOp .Mult) rRepR := by
  intro pins s σ H x y v u Q I rx ry h
  obtain ⟨l, k, xs, rfl, rfl, hH, h1, h2, hz, q⟩ := h
  cases rx
  obtain ⟨t, rfl⟩ := ry
  obtain ⟨z, its, n, r, e⟩ := hH.ok I.hok
  have hl := r.length
  have hlen : its.toArray.size * k.toNat ≤ sizeLine := by rw [List.size_toArray, ← hl]; exact hz
  have hcap : ¬ its.toArray.size * k.toNat > (2 ^ 63 - 1) / 8 := by
    have : (sizeLine : Nat) ≤ (2 ^ 63 - 1) / 8 := by decide
    omega
  have hfit : ¬ (!Builtin.List.listFitsIndex k) = true := by
    rw [fitsIndex_both h1 h2]
    exact Bool.false_ne_true
  have hlong : ¬ Builtin.List.listTooLong (its.toArray.size * k.toNat) = true := by
    rw [notLongL hlen]
    exact Bool.false_ne_true
  have hnew : List.foldl (fun x1 x2 => x1 ++ x2) #[] (List.replicate (if its.toArray.isEmpty = true then 0 else k.toNat) its.toArray) = (List.replicate k.toNat its).flatten.toArray := by
    have f0 : ∀ m : Nat, List.foldl (fun x1 x2 => x1 ++ x2) #[] (List.replicate m its.toArray) = (List.replicate m its).flatten.toArray := fun m => by
      have := foldl_rep its m []
      rw [List.nil_append] at this
      exact this
    rw [f0]
    cases its with
    | nil => simp
    | cons a r' => rw [if_neg (by simp)]
  refine wpAny_binaryOp_repeat_ref (T := "list") (U := "int") (by decide) ⟨_, e, rfl⟩ (fun s' => typeIs_int s' k t) noFill_list_mul PySem.F.fills_int_mul PySem.F.slot_int_rmul repeat_list PySem.F.slot_int_index.lookup
    (call_meets PySem.F.slot_int_rmul (typeIs_int s k t) PySem.F.entry_int_rmul (PySem.F.args_int_rmul_2 _ _) (int___rmul___int_list k t l its.toArray n)
      ⟨e, rfl, ⟨_, e, rfl⟩, call_meets PySem.F.slot_list_mul ⟨_, e, rfl⟩ PySem.F.entry_list_mul (PySem.F.args_list_mul_2 _ _) (AutoListH.list___mul___list_int_3 l its.toArray n k t hfit hcap hlong) ⟨e, ?_⟩⟩)
  rw [hnew]
  exact ⟨.ref _, _, I.lnew (t' := s.toks) (r.rep k.toNat) (by rw [PyProof.Rows.lm_len_rep_flat, Nat.mul_comm]; exact hz), rfl, q _ I.fresh⟩
theorem ok_rep {K : Kx} : OpOk K rRepR pRep := by
  intro sc T H x y d e z Q al hx hy hf q
  unfold pRep at hf
  split at hf
  · rename_i l k
    split at hf
    · rename_i hz
      cases hf
      obtain ⟨p, vs, rfl, r, dd⟩ := hx.list
      refine ⟨p, k, vs, rfl, hy.int, r, by omega, by omega, by rw [dd.length]; exact Nat.le_trans hz.2.2 (by rw [sizeLine_eq]; omega), fun p' hp' => ?_⟩
      exact q _ _ (Same0.new hp') (DD.newL al hp' (dd.rep _))
    · cases hf
  · cases hf
theorem pp_rep {x y : M PyData} (ha : PB X W a x) (hb : PB X W b y) : PP X W (.BinOp a .Mult b pos) (mOp pRep x y) := pp_op op_repR ok_rep ha hb
end
end PL
namespace PL
open PySem PySem.Spec PyProof.Rows L2
/-! ### comprehensions of two clauses -/
def compL2 (vs : List Nat) (t : Tg) (c : M Bool) (it1 : M (List PyData)) (vs1 : List Nat) (t1 : Tg) (c1 : M Bool) (e : M Sl) : List PyData → M (List PyData)
  | [] => fun m => .ok [] m
  | d :: r => fun m => match mTgt t d m with
    | none => .bad
    | some m0 => (noX (c m0)).bind fun b m1 => if b = true then (noX (it1 m1)).bind fun l1 m2 => if l1.length ≤ 1000 then (noX (compL vs1 t1 c1 e l1 (wipeM vs1 m2))).bind fun zs m3 => (compL2 vs t c it1 vs1 t1 c1 e r (wipeM vs m3)).bind fun ws m4 => .ok (zs ++ ws) m4 else .bad
      else compL2 vs t c it1 vs1 t1 c1 e r (wipeM vs m1)
def mComp2 (vs : List Nat) (t : Tg) (it : M (List PyData)) (c : M Bool) (it1 : M (List PyData)) (vs1 : List Nat) (t1 : Tg) (c1 : M Bool) (e : M Sl) : M PyData := fun m => (it m).bind fun l m1 => if l.length ≤ 16000 then (noX (compL2 vs t c it1 vs1 t1 c1 e l (wipeM vs m1))).bind fun zs m2 => .ok (.list zs) m2 else .bad
theorem lc_it1 {J : It} {n : Nat} {G : Hp → Prop} {Y : Nat → Hp → V → Hp → Prop} (w : Walk J n G Y) {g : TG} {tt : TT} {te : TE} {vs : List Nat} {σ : L2.St} {H1 : Hp} {D : Addr} {Qd : Hp → Prop} (Pv : Nat → Hp → Prop) (h0 : Pv 0 H1) (hG : ∀ i H, i ≤ n → Pv i H → G H)
    (hs : ∀ i x H H', i < n → Pv i H → Y i H x H' → g x (L2.wipe σ vs) H' fun σ2 H2 => L2.wipe σ2 vs = L2.wipe σ vs ∧ tt σ2 H2 fun b H3 =>
      if b = true then te σ2 H3 fun y H4 => ∃ acc, H4 D = some (.lst acc) ∧ acc.length < sizeLine ∧ Pv (i + 1) (upd H4 D (.lst (acc ++ [y]))) else Pv (i + 1) H3) (hd : ∀ H, Pv n H → Qd H) :
    ∃ W : Nat → Nat → Hp → Prop, (∃ m, W 0 m H1) ∧ ∀ i m H, W i m H →
      (J.stop i H ∧ Qd H) ∨ (J.go i H ∧ ∃ Nx : Hp → Prop, (∀ H', Nx H' → ∃ m', m' < m ∧ W (i + 1) m' H') ∧ ∀ x H', J.yld i H x H' → g x (L2.wipe σ vs) H' fun σ2 H2 => L2.wipe σ2 vs = L2.wipe σ vs ∧ tt σ2 H2 fun b H3 =>
        if b = true then te σ2 H3 fun y H4 => ∃ acc, H4 D = some (.lst acc) ∧ acc.length < sizeLine ∧ Nx (upd H4 D (.lst (acc ++ [y]))) else Nx H3) := by
  refine ⟨fun i m H => m = n - i ∧ i ≤ n ∧ Pv i H, ⟨n, by simp, Nat.zero_le _, h0⟩, ?_⟩
  rintro i m H ⟨rfl, hi, p⟩
  have q := hG i H hi p
  by_cases hlt : i < n
  · refine .inr ⟨w.goes i H hlt q, Pv (i + 1), fun H' p' => ⟨n - (i + 1), by omega, rfl, hlt, p'⟩, fun x H' y => hs i x H H' hlt p (w.yields i H x H' hlt q y)⟩
  · have e : i = n := by omega
    subst e
    exact .inl ⟨w.stops H q, hd H p⟩
/-- the loop outside of a comprehension: any steps -/
theorem lc_it0 {J : It} {n : Nat} {G : Hp → Prop} {Y : Nat → Hp → V → Hp → Prop} (w : Walk J n G Y) {St : V → Hp → (Hp → Prop) → Prop} {H1 : Hp} {Qd : Hp → Prop} (Pv : Nat → Hp → Prop) (h0 : Pv 0 H1) (hG : ∀ i H, i ≤ n → Pv i H → G H)
    (hs : ∀ i x H H', i < n → Pv i H → Y i H x H' → St x H' (Pv (i + 1))) (hd : ∀ H, Pv n H → Qd H) :
    ∃ W : Nat → Nat → Hp → Prop, (∃ m, W 0 m H1) ∧ ∀ i m H, W i m H →
      (J.stop i H ∧ Qd H) ∨ (J.go i H ∧ ∃ Nx : Hp → Prop, (∀ H', Nx H' → ∃ m', m' < m ∧ W (i + 1) m' H') ∧ ∀ x H', J.yld i H x H' → St x H' Nx) := by
  refine ⟨fun i m H => m = n - i ∧ i ≤ n ∧ Pv i H, ⟨n, by simp, Nat.zero_le _, h0⟩, ?_⟩
  rintro i m H ⟨rfl, hi, p⟩
  have q := hG i H hi p
  by_cases hlt : i < n
  · refine .inr ⟨w.goes i H hlt q, Pv (i + 1), fun H' p' => ⟨n - (i + 1), by omega, rfl, hlt, p'⟩, fun x H' y => hs i x H H' hlt p (w.yields i H x H' hlt q y)⟩
  · have e : i = n := by omega
    subst e
    exact .inl ⟨w.stops H q, hd H p⟩
section
variable {X : Cx} {W : WX} {pos : Pos} {tg a b c e : Expr} {es rest : List Expr}
/-- the head of a turn: the target, the test -/
theorem CI.head {K : Kx} {mg : Str → Option Value} {w : Wd} {σ : L2.St} {vs : List Nat} {Tb : Addr → Prop} {Hb : Hp} {mb : Me} {D : Addr} {T : Addr → Prop} {H H' : Hp} {m m0 m1 : Me} {acc : List V} {done : List PyData} {t : Tg} {cn : M Bool} {d : PyData} {x : V} {bl : Bool}
    (ok : w.Ok) (hsub : ∀ i ∈ t.slots, i ∈ vs) (h0 : w.H0 D = none) (noD : ∀ (i : Nat) (l' : PyData), mb.env[i]? = some (some (Sl.own l')) → (wipe σ vs)[i]? ≠ some (some (V.ref D)))
    (I : CI K mg w vs (wipe σ vs) Tb Hb mb D T H m acc done) (sm : Same0 H H') (dx : DD K T H' x d) (ht : mTgt t d m = some m0) (hc : cn m0 = .ok bl m1) (Pf : Hp → Prop) (Pt : L2.St → Hp → Prop)
    (kf : bl = false → ∀ T3 H3, CI K mg w vs (wipe σ vs) Tb Hb mb D T3 H3 (wipeM vs m1) acc done → Pf H3)
    (kt : bl = true → ∀ (σ2 : L2.St) (T3 : Addr → Prop) (H3 : Hp), wipe σ2 vs = wipe σ vs → σ2.length = (wipe σ vs).length → (∀ i, i ∉ vs → σ2[i]? = (wipe σ vs)[i]?) → Lv K mg w T3 σ2 H3 m1 → CI K mg w vs (wipe σ vs) Tb Hb mb D T3 H3 (wipeM vs m1) acc done → (∀ (i : Nat) (l : PyData), m1.env[i]? = some (some (Sl.own l)) → mb.env[i]? = some (some (Sl.own l))) → Pt σ2 H3) :
    tTg K mg t x (wipe σ vs) H' fun σ2 H2 => wipe σ2 vs = wipe σ vs ∧ tPt K mg W0 cn σ2 H2 fun b H3 => if b = true then Pt σ2 H3 else Pf H3 := by
  obtain ⟨hlen, hst, hown⟩ := mTgt_shape ht
  have ns : ¬ InS w.sc D := fun z => ok.al D (ok.s0 D z) h0
  refine ⟨w, T, m, m0, d, I.lv.same sm, dx, ht, fun us lv0 => ?_⟩
  have slen : (setV (L2.wipe σ vs) t.slots us).length = (L2.wipe σ vs).length := setV_length _ _ _
  have sout : ∀ i, i ∉ vs → (setV (L2.wipe σ vs) t.slots us)[i]? = (L2.wipe σ vs)[i]? := fun i hi => setV_out _ _ _ fun z => hi (hsub i z)
  have soutS : ∀ i, i ∉ t.slots → (setV (L2.wipe σ vs) t.slots us)[i]? = (L2.wipe σ vs)[i]? := fun i hi => setV_out _ _ _ hi
  have wback : ∀ i, i ∉ vs → (L2.wipe σ vs)[i]? = (setV (L2.wipe σ vs) t.slots us)[i]? := fun i hi => (sout i hi).symm
  have weq : L2.wipe (setV (L2.wipe σ vs) t.slots us) vs = L2.wipe σ vs := by
    rw [wipe_eq (σ := L2.wipe σ vs) slen sout]
    exact wipe_eq (wipe_length _ _) fun i hi => PL.wipe_out hi
  refine ⟨weq, ?_⟩
  refine ⟨w, T, m0, ok, lv0, ?_⟩
  rw [hc]
  intro v H3 T3 s3 lv3 ev
  subst ev
  have D3 : H3 D = some (.lst acc) := s3.ex D _ ns (sm _ _ I.hD)
  have ownBack : ∀ (mm : Me), (∀ (i : Nat) (l : PyData), mm.env[i]? = some (some (Sl.own l)) → m0.env[i]? = some (some (Sl.own l))) → ∀ (i : Nat) (l : PyData), mm.env[i]? = some (some (Sl.own l)) → mb.env[i]? = some (some (Sl.own l)) ∧ i ∉ t.slots := fun mm q i l hi => by
    obtain ⟨a1, a2⟩ := hown i l (q i l hi)
    exact ⟨I.mono i l a1, a2⟩
  have keepD : ∀ (T' : Addr → Prop), (∀ b, T b → ¬ T' b → ∃ (i : Nat) (l : PyData), m0.env[i]? = some (some (Sl.own l)) ∧ (setV (L2.wipe σ vs) t.slots us)[i]? = some (some (V.ref b))) → T' D := fun T' q => Classical.byContradiction fun n => by
    obtain ⟨i, l, e1, e2⟩ := q D I.dT n
    obtain ⟨a1, a2⟩ := ownBack m0 (fun _ _ z => z) i l e1
    rw [soutS i a2] at e2
    exact noD i l a1 e2
  have fzAll : ∀ (T' : Addr → Prop), (∀ b, T b → ¬ T' b → ∃ (i : Nat) (l : PyData), m0.env[i]? = some (some (Sl.own l)) ∧ (setV (L2.wipe σ vs) t.slots us)[i]? = some (some (V.ref b))) → ∀ b, Tb b → ¬ T' b → ∃ (i : Nat) (l : PyData), mb.env[i]? = some (some (Sl.own l)) ∧ (L2.wipe σ vs)[i]? = some (some (V.ref b)) := fun T' q b hb n => by
    by_cases hT : T b
    · obtain ⟨i, l, e1, e2⟩ := q b hT n
      obtain ⟨a1, a2⟩ := ownBack m0 (fun _ _ z => z) i l e1
      rw [soutS i a2] at e2
      exact ⟨i, l, a1, e2⟩
    · exact I.fz b hb hT
  have fr0 : Fr Tb Hb T H' := I.fr.trans sm.fr
  have lv4 := (lv3.forget (σ' := L2.wipe σ vs) (vs := vs) slen.symm wback)
  have C : CI K mg w vs (L2.wipe σ vs) Tb Hb mb D T3 H3 (wipeM vs m1) acc done := ⟨lv4, fun i s h => (wipeE_get h).2, keepD T3 s3.fz, D3, (I.dd.to sm.fr).to (s3.fr ok lv0.t0), fr0.trans (s3.fr ok lv0.t0), fun b o nb nD h => s3.ex b o nb (sm b o (I.ex b o nb nD h)), fun b h => I.sub b (s3.sub b h), fzAll T3 s3.fz, fun i l h => by
    obtain ⟨h1, h2⟩ := wipeE_get h
    exact (ownBack m1 s3.mono i l h1).1⟩
  cases v with
  | false => rw [if_neg Bool.false_ne_true]; exact kf rfl T3 H3 C
  | true => rw [if_pos rfl]; exact kt rfl _ T3 H3 weq slen sout lv3 C fun i l h => (ownBack m1 s3.mono i l h).1
/-- the inner loop, from an outer state to an outer state -/
theorem CI.inner {K : Kx} {mg : Str → Option Value} {w : Wd} {σ σ2 : L2.St} {vs vs1 : List Nat} {Tb : Addr → Prop} {Hb : Hp} {mb : Me} {D : Addr} {T3 : Addr → Prop} {H3 : Hp} {m1 m3 : Me} {acc : List V} {done zs : List PyData} {it1 : M (List PyData)} {t1 : Tg} {c1 : M Bool} {el : M Sl} {l1 : List PyData} {m2 : Me}
    (ok : w.Ok) (hsub1 : ∀ i ∈ t1.slots, i ∈ vs1) (hv1 : ∀ i ∈ vs1, i ∈ vs) (h0 : w.H0 D = none) (hmb : ∀ (i : Nat) (l' : PyData), mb.env[i]? = some (some (Sl.own l')) → i ∉ vs) (noD : ∀ (i : Nat) (l' : PyData), mb.env[i]? = some (some (Sl.own l')) → (wipe σ vs)[i]? ≠ some (some (V.ref D)))
    (slen : σ2.length = (wipe σ vs).length) (sout : ∀ i, i ∉ vs → σ2[i]? = (wipe σ vs)[i]?) (lv : Lv K mg w T3 σ2 H3 m1) (C : CI K mg w vs (wipe σ vs) Tb Hb mb D T3 H3 (wipeM vs m1) acc done) (mono1 : ∀ (i : Nat) (l : PyData), m1.env[i]? = some (some (Sl.own l)) → mb.env[i]? = some (some (Sl.own l)))
    (hit : it1 m1 = .ok l1 m2) (hl1 : l1.length ≤ 1000) (run : compL vs1 t1 c1 el l1 (wipeM vs1 m2) = .ok zs m3) (hacc : acc.length + 1000 < sizeLine)
    (Nx : Hp → Prop) (kN : ∀ T' H' acc', CI K mg w vs (wipe σ vs) Tb Hb mb D T' H' (wipeM vs m3) acc' (done ++ zs) → acc'.length ≤ acc.length + 1000 → Nx H') :
    (tR K mg W0 (fun _ T H J items => Wk K T H J items) it1) σ2 H3 fun J1 H4 => ∃ W1 : Nat → Nat → Hp → Prop, (∃ m, W1 0 m H4) ∧ ∀ j k H, W1 j k H →
      (J1.stop j H ∧ Nx H) ∨ (J1.go j H ∧ ∃ Nx1 : Hp → Prop, (∀ H', Nx1 H' → ∃ k', k' < k ∧ W1 (j + 1) k' H') ∧ ∀ x H', J1.yld j H x H' → tTg K mg t1 x (wipe σ2 vs1) H' fun σ3 H5 => wipe σ3 vs1 = wipe σ2 vs1 ∧ tPt K mg W0 c1 σ3 H5 fun b H6 =>
        if b = true then tP K mg W0 el σ3 H6 fun y H7 => ∃ acc, H7 D = some (.lst acc) ∧ acc.length < sizeLine ∧ Nx1 (upd H7 D (.lst (acc ++ [y]))) else Nx1 H6) := by
  have ns : ¬ InS w.sc D := fun z => ok.al D (ok.s0 D z) h0
  have noD2 : ∀ (i : Nat) (l' : PyData), mb.env[i]? = some (some (Sl.own l')) → (wipe σ2 vs1)[i]? ≠ some (some (V.ref D)) := fun i l' h e => by
    have hi := hmb i l' h
    rw [PL.wipe_out (fun z => hi (hv1 i z)), sout i hi] at e
    exact noD i l' h e
  refine ⟨w, T3, m1, ok, lv, ?_⟩
  rw [hit]
  intro J H4 T4 s4 lv4 wk
  obtain ⟨G, Y, wa, hG, hY⟩ := wk.ex
  have sb1 : ∀ i, i ∉ vs1 → (wipe σ2 vs1)[i]? = σ2[i]? := fun i hi => PL.wipe_out hi
  have D4 : H4 D = some (.lst acc) := s4.ex D _ ns C.hD
  have keepD : T4 D := Classical.byContradiction fun n => by
    obtain ⟨i, l, e1, e2⟩ := s4.fz D C.dT n
    have h1 := mono1 i l e1
    have hi := hmb i l h1
    rw [sout i hi] at e2
    exact noD i l h1 e2
  have fr4 : Fr T3 H3 T4 H4 := s4.fr ok lv.t0
  have lv5 : Lv K mg w T4 (wipe σ2 vs1) H4 (wipeM vs1 m2) := lv4.forget (wipe_length _ _) sb1
  have mono2 : ∀ (i : Nat) (l : PyData), m2.env[i]? = some (some (Sl.own l)) → mb.env[i]? = some (some (Sl.own l)) := fun i l h => mono1 i l (s4.mono i l h)
  have cv : ∀ b, (∃ (i : Nat) (l : PyData), mb.env[i]? = some (some (Sl.own l)) ∧ (wipe σ vs)[i]? = some (some (V.ref b))) → ∃ (i : Nat) (l : PyData), mb.env[i]? = some (some (Sl.own l)) ∧ (wipe σ2 vs1)[i]? = some (some (V.ref b)) := fun b ⟨i, l, e1, e2⟩ => by
    have hi := hmb i l e1
    exact ⟨i, l, e1, by rw [PL.wipe_out (fun z => hi (hv1 i z)), sout i hi]; exact e2⟩
  have cvB : ∀ b, (∃ (i : Nat) (l : PyData), mb.env[i]? = some (some (Sl.own l)) ∧ (wipe σ2 vs1)[i]? = some (some (V.ref b))) → ∃ (i : Nat) (l : PyData), mb.env[i]? = some (some (Sl.own l)) ∧ (wipe σ vs)[i]? = some (some (V.ref b)) := fun b ⟨i, l, e1, e2⟩ => by
    have hi := hmb i l e1
    rw [PL.wipe_out (fun z => hi (hv1 i z)), sout i hi] at e2
    exact ⟨i, l, e1, e2⟩
  have fz4 : ∀ b, Tb b → ¬ T4 b → ∃ (i : Nat) (l : PyData), mb.env[i]? = some (some (Sl.own l)) ∧ (wipe σ2 vs1)[i]? = some (some (V.ref b)) := fun b hb n => by
    by_cases h3 : T3 b
    · obtain ⟨i, l, e1, e2⟩ := s4.fz b h3 n
      have h1 := mono1 i l e1
      have hi := hmb i l h1
      exact ⟨i, l, h1, by rw [PL.wipe_out (fun z => hi (hv1 i z))]; exact e2⟩
    · exact cv b (C.fz b hb h3)
  have I0 : CI K mg w vs1 (wipe σ2 vs1) T4 H4 (wipeM vs1 m2) D T4 H4 (wipeM vs1 m2) acc done := ⟨lv5, fun i s h => (wipeE_get h).2, keepD, D4, C.dd.to fr4, Fr.refl _ _, fun _ _ _ _ h => h, fun _ h => h, fun _ x y => absurd x y, fun _ _ h => h⟩
  have noD3 : ∀ (i : Nat) (l' : PyData), (wipeM vs1 m2).env[i]? = some (some (Sl.own l')) → (wipe σ2 vs1)[i]? ≠ some (some (V.ref D)) := fun i l' h => noD2 i l' (mono2 i l' (wipeE_get h).1)
  refine lc_it1 wa (fun j H' => ∃ (T' : Addr → Prop) (m' : Me) (acc' : List V) (done' zs' : List PyData), CI K mg w vs1 (wipe σ2 vs1) T4 H4 (wipeM vs1 m2) D T' H' m' acc' done' ∧ compL vs1 t1 c1 el (l1.drop j) m' = .ok zs' m3 ∧ done' ++ zs' = done ++ zs ∧ acc'.length ≤ acc.length + j)
    ⟨T4, _, acc, done, zs, I0, by rw [List.drop_zero]; exact run, rfl, Nat.le_refl _⟩ (fun j H' _ p => ?_) (fun j x H' H'' hj p y => ?_) (fun H' p => ?_)
  · obtain ⟨T', m', acc', done', zs', I, _⟩ := p
    exact hG T' H' I.fr
  · obtain ⟨T', m', acc', done', zs', I, run', ez, la⟩ := p
    obtain ⟨sm, d, ed, dx⟩ := hY T' H' j x H'' I.fr I.lv.al hj y
    have hdrop : l1.drop j = d :: l1.drop (j + 1) := by
      rw [List.getElem?_eq_getElem hj] at ed
      rw [List.drop_eq_getElem_cons hj, Option.some.inj ed]
    rw [hdrop] at run'
    have hz : acc'.length < sizeLine := by omega
    exact CI.turn ok hsub1 h0 noD3 I sm dx hz run' _ fun T2 H2 m2' acc2 done2 zs2 I2 run2 e2 l2 => ⟨T2, m2', acc2, done2, zs2, I2, run2, e2.trans ez, by omega⟩
  · obtain ⟨T', m', acc', done', zs', I, run', ez, la⟩ := p
    have hd0 : l1.drop l1.length = [] := List.drop_length
    rw [hd0] at run'
    cases run'
    rw [List.append_nil] at ez
    subst ez
    refine kN T' H' acc' ⟨(I.lv.forget (σ' := wipe σ vs) (vs := vs) ((wipe_length σ2 vs1).trans slen).symm fun i hi => by rw [PL.wipe_out (σ := σ2) (fun z => hi (hv1 i z)), sout i hi]), fun i s h => (wipeE_get h).2, I.dT, I.hD, I.dd, (C.fr.trans fr4).trans I.fr, fun b o nb nD h => I.ex b o nb nD (s4.ex b o nb (C.ex b o nb nD h)), fun b h => C.sub b (s4.sub b (I.sub b h)), fun b hb n => ?_, fun i l h => mono2 i l (wipeE_get (I.mono i l (wipeE_get h).1)).1⟩ (by omega)
    by_cases h4 : T4 b
    · obtain ⟨i, l, e1, e2⟩ := I.fz b h4 n
      exact cvB b ⟨i, l, mono2 i l (wipeE_get e1).1, e2⟩
    · exact cvB b (fz4 b hb h4)
/-- the list comprehension of two clauses as a new list -/
theorem tLc2_ok {vs vs1 : List Nat} {t t1 : Tg} {it it1 : M (List PyData)} {cn c1 : M Bool} {el : M Sl} {σ : L2.St} {H : Hp} {Q : VK} (hsub : ∀ i ∈ t.slots, i ∈ vs) (hsub1 : ∀ i ∈ t1.slots, i ∈ vs1) (hv1 : ∀ i ∈ vs1, i ∈ vs) (q : tN X.KK X.mg W (mComp2 vs t it cn it1 vs1 t1 c1 el) σ H Q) :
    tLc2 (tR X.KK X.mg W (fun _ T H J items => Wk X.KK T H J items) it) (tTg X.KK X.mg t) (tPt X.KK X.mg W0 cn) (tR X.KK X.mg W0 (fun _ T H J items => Wk X.KK T H J items) it1) (tTg X.KK X.mg t1) (tPt X.KK X.mg W0 c1) (tP X.KK X.mg W0 el) vs vs1 σ H Q := by
  obtain ⟨w, T, me, ok, lv, q⟩ := q
  unfold mComp2 at q
  refine ⟨w, T, me, ok, lv, ?_⟩
  cases hm : it me with
  | bad => rw [hm] at q; exact q
  | exc x me1 => rw [hm] at q; exact q
  | ok l m1 =>
    rw [hm] at q
    simp only [Res.bind_ok] at q
    by_cases hl : l.length ≤ 16000
    · rw [if_pos hl] at q
      intro J H1 T1 s1 lv1 wk D hD
      cases hrun : compL2 vs t cn it1 vs1 t1 c1 el l (wipeM vs m1) with
      | bad => rw [hrun] at q; exact q.elim
      | exc x m2 => rw [hrun] at q; exact q.elim
      | ok zs mF =>
        rw [hrun] at q
        obtain ⟨f0, f1, f2⟩ := lv1.fresh ok hD
        obtain ⟨G, Y, wa, hG, hY⟩ := wk.ex
        have sout : ∀ i, i ∉ vs → (L2.wipe σ vs)[i]? = σ[i]? := fun i hi => PL.wipe_out hi
        have lvb : Lv X.KK X.mg w (fun b => T1 b ∨ b = D) (L2.wipe σ vs) (L2.upd H1 D (.lst [])) (wipeM vs m1) := (lv1.grow hD).forget (wipe_length _ _) sout
        have hmb : ∀ (i : Nat) (l' : PyData), (wipeM vs m1).env[i]? = some (some (Sl.own l')) → i ∉ vs := fun i l' h => (wipeE_get h).2
        have noD : ∀ (i : Nat) (l' : PyData), (wipeM vs m1).env[i]? = some (some (Sl.own l')) → (L2.wipe σ vs)[i]? ≠ some (some (V.ref D)) := fun i l' h e => by
          obtain ⟨a1, a2⟩ := wipeE_get h
          rw [sout i a2] at e
          exact lv1.noRef hD i l' a1 e
        have frb : Fr T1 H1 (fun b => T1 b ∨ b = D) (L2.upd H1 D (.lst [])) := fun b u n hu => ⟨Same0.new hD b u hu, fun z => z.elim n fun e => by subst e; rw [hD] at hu; cases hu⟩
        refine lc_it0 wa (fun i H' => ∃ (T' : Addr → Prop) (m' : Me) (acc : List V) (done zs' : List PyData), CI X.KK X.mg w vs (L2.wipe σ vs) (fun b => T1 b ∨ b = D) (L2.upd H1 D (.lst [])) (wipeM vs m1) D T' H' m' acc done ∧ compL2 vs t cn it1 vs1 t1 c1 el (l.drop i) m' = .ok zs' mF ∧ done ++ zs' = zs ∧ acc.length ≤ i * 1000)
          ⟨_, _, [], [], zs, ⟨lvb, fun i s h => (wipeE_get h).2, .inr rfl, upd_same, .nil, Fr.refl _ _, fun _ _ _ _ h => h, fun _ h => h, fun _ a b => absurd a b, fun _ _ h => h⟩, by rw [List.drop_zero]; exact hrun, rfl, Nat.le_refl _⟩ (fun i H' _ p => ?_) (fun i x H' H'' hi p y => ?_) (fun H' p => ?_)
        · obtain ⟨T', m', acc, done, zs', I, _⟩ := p
          exact hG T' H' (frb.trans I.fr)
        · obtain ⟨T', m', acc, done, zs', I, run, ez, la⟩ := p
          obtain ⟨sm, d, ed, dx⟩ := hY T' H' i x H'' (frb.trans I.fr) I.lv.al hi y
          have hdrop : l.drop i = d :: l.drop (i + 1) := by
            rw [List.getElem?_eq_getElem hi] at ed
            rw [List.drop_eq_getElem_cons hi, Option.some.inj ed]
          rw [hdrop] at run
          have hz : acc.length + 1000 < sizeLine := by
            have : i < 16000 := by omega
            have e : sizeLine = 16777216 := sizeLine_eq
            omega
          unfold compL2 at run
          cases ht : mTgt t d m' with
          | none => rw [ht] at run; cases run
          | some m0 =>
            rw [ht] at run
            obtain ⟨bl, m1', hc, run⟩ := bind_ok run
            have hc := noX_ok hc
            refine CI.head ok hsub f0 noD I sm dx ht hc _ _ (fun hb T3 H3 C => ?_) (fun hb σ2 T3 H3 weq slen sout2 lv3 C mono1 => ?_)
            · subst hb
              rw [if_neg Bool.false_ne_true] at run
              exact ⟨T3, _, acc, done, zs', C, run, ez, by omega⟩
            · subst hb
              rw [if_pos rfl] at run
              obtain ⟨l1, m2, hi1, run⟩ := bind_ok run
              have hi1 := noX_ok hi1
              by_cases hl1 : l1.length ≤ 1000
              · rw [if_pos hl1] at run
                obtain ⟨z1, m3, hc1, run⟩ := bind_ok run
                have hc1 := noX_ok hc1
                obtain ⟨ws, m4, hrec, e5⟩ := bind_ok run
                cases e5
                refine CI.inner ok hsub1 hv1 f0 hmb noD slen sout2 lv3 C mono1 hi1 hl1 hc1 hz _ fun T' H' acc' I2 l2 => ?_
                exact ⟨T', _, acc', done ++ z1, ws, I2, hrec, by rw [List.append_assoc]; exact ez, by omega⟩
              · rw [if_neg hl1] at run; cases run
        · obtain ⟨T', m', acc, done, zs', I, run, ez, la⟩ := p
          have hd0 : l.drop l.length = [] := List.drop_length
          rw [hd0] at run
          cases run
          rw [List.append_nil] at ez
          subst ez
          have no2 : ∀ (i : Nat) (l' : PyData), mF.env[i]? = some (some (Sl.own l')) → σ[i]? ≠ some (some (V.ref D)) := fun i l' h e => by
            obtain ⟨a1, a2⟩ := wipeE_get (I.mono i l' h)
            exact lv1.noRef hD i l' a1 e
          have eT : (fun b => (T' b ∧ b ≠ D) ∨ b = D) = T' := funext fun b => propext ⟨fun z => z.elim (fun z => z.1) fun e => by rw [e]; exact I.dT, fun z => (Classical.em (b = D)).elim .inr fun n => .inl ⟨z, n⟩⟩
          have lvF : Lv X.KK X.mg w T' σ H' mF := by
            refine ⟨I.lv.t0, I.lv.al, I.lv.ex, I.lv.src, by rw [← I.lv.len, wipe_length], fun i s hi => ?_, fun i j l1 l2 p h1 h2 e1 e2 => ?_⟩
            · rw [← sout i (I.wp i s hi)]
              exact I.lv.slot i s hi
            · rw [← sout i (I.wp i _ h1)] at e1
              rw [← sout j (I.wp j _ h2)] at e2
              exact I.lv.sep i j l1 l2 p h1 h2 e1 e2
          have exAll : Ex w.sc H H' := s1.ex.trans fun b o nb h => I.ex b o nb (fun e => by subst e; rw [hD] at h; cases h) (Same0.new hD b o h)
          refine q D _ (fun b => T' b ∧ b ≠ D) H' ⟨⟨exAll, fun b h => s1.sub b ((I.sub b h.1).elim id fun e => absurd e h.2), fun b hb nb => ?_, fun i l' h => s1.mono i l' (wipeE_get (I.mono i l' h)).1⟩, by rw [eT]; exact lvF, I.hD, fun z => z.2 rfl, f0, ⟨_, rfl, by rw [eT]; exact I.dd⟩, no2, by rw [eT]; exact ((s1.fr ok lv.t0).trans frb).trans I.fr⟩
          by_cases h1 : T1 b
          · have nT' : ¬ T' b := fun z => nb ⟨z, fun e => f1 (by rw [← e]; exact h1)⟩
            obtain ⟨i, l', e1, e2⟩ := I.fz b (.inl h1) nT'
            obtain ⟨a1, a2⟩ := wipeE_get e1
            rw [sout i a2] at e2
            exact ⟨i, l', s1.mono i l' a1, e2⟩
          · exact s1.fz b hb h1
    · rw [if_neg hl] at q
      exact q.elim
theorem pn_lc2 {vs vs1 : List Nat} {t t1 : Tg} {it it1 : M (List PyData)} {cn c1 : M Bool} {el : M Sl} {elt iter tg1 iter1 : Expr} {ifs ifs1 : List Expr} {scope : Scope} {own : List (Str × Nat)} (hc : X.calm = true) (hN : X.N.Nodup) (hi : PIt X W tg iter it) (ok : BlkOk X.N X.env.scope scope own) (hv : own.map (·.2) = vs) (hsub : ∀ i ∈ t.slots, i ∈ vs) (hsub1 : ∀ i ∈ t1.slots, i ∈ vs1) (hv1 : ∀ i ∈ vs1, i ∈ vs)
    (hg : ∀ (s : Shared) (H : Hp) (C : Addr) (cl : List (Str × Addr)) (fp : List Addr), PG (X.blk s H scope (compEnvC scope cl C X.env) fp) tg (tTg X.KK X.mg t)) (ht : ∀ (s : Shared) (H : Hp) (C : Addr) (cl : List (Str × Addr)) (fp : List Addr), PTs (X.blk s H scope (compEnvC scope cl C X.env) fp) ifs (tPt X.KK X.mg W0 cn))
    (hi1 : ∀ (s : Shared) (H : Hp) (C : Addr) (cl : List (Str × Addr)) (fp : List Addr), PI (X.blk s H scope (compEnvC scope cl C X.env) fp) tg1 iter1 (tR X.KK X.mg W0 (fun _ T H J items => Wk X.KK T H J items) it1))
    (hg1 : ∀ (s : Shared) (H : Hp) (C : Addr) (cl : List (Str × Addr)) (fp : List Addr), PG (X.blk s H scope (compEnvC scope cl C X.env) fp) tg1 (tTg X.KK X.mg t1)) (ht1 : ∀ (s : Shared) (H : Hp) (C : Addr) (cl : List (Str × Addr)) (fp : List Addr), PTs (X.blk s H scope (compEnvC scope cl C X.env) fp) ifs1 (tPt X.KK X.mg W0 c1))
    (he : ∀ (s : Shared) (H : Hp) (C : Addr) (cl : List (Str × Addr)) (fp : List Addr), PE (X.blk s H scope (compEnvC scope cl C X.env) fp) elt (tP X.KK X.mg W0 el)) (hs : ∀ x, foldedSetIterable iter X.env x = pure x := by intro _; rfl) (hs1 : ∀ env x, foldedSetIterable iter1 env x = pure x := by intro _ _; rfl) :
    PN X W (.ListComp elt [⟨tg, iter, ifs, 0⟩, ⟨tg1, iter1, ifs1, 0⟩] scope pos) (mComp2 vs t it cn it1 vs1 t1 c1 el) :=
  PE.imp (pe_lc2 hc hN hi ok (by rw [hv]; exact hv1) hg ht hi1 hg1 ht1 he hs hs1) fun σ H Q q => by rw [hv]; exact tLc2_ok hsub hsub1 hv1 q
theorem pps_setLc2 {i : Nat} {y : Str} {py : Pos} {vs vs1 : List Nat} {t t1 : Tg} {it it1 : M (List PyData)} {cn c1 : M Bool} {el : M Sl} {elt iter tg1 iter1 : Expr} {ifs ifs1 : List Expr} {scope : Scope} {own : List (Str × Nat)} {pos spos : Pos} (hc : X.calm = true) (hN : X.N.Nodup) (hi : PIt X W tg iter it) (ok : BlkOk X.N X.env.scope scope own) (hv : own.map (·.2) = vs) (hsub : ∀ i ∈ t.slots, i ∈ vs) (hsub1 : ∀ i ∈ t1.slots, i ∈ vs1) (hv1 : ∀ i ∈ vs1, i ∈ vs)
    (hg : ∀ (s : Shared) (H : Hp) (C : Addr) (cl : List (Str × Addr)) (fp : List Addr), PG (X.blk s H scope (compEnvC scope cl C X.env) fp) tg (tTg X.KK X.mg t)) (ht : ∀ (s : Shared) (H : Hp) (C : Addr) (cl : List (Str × Addr)) (fp : List Addr), PTs (X.blk s H scope (compEnvC scope cl C X.env) fp) ifs (tPt X.KK X.mg W0 cn))
    (hi1 : ∀ (s : Shared) (H : Hp) (C : Addr) (cl : List (Str × Addr)) (fp : List Addr), PI (X.blk s H scope (compEnvC scope cl C X.env) fp) tg1 iter1 (tR X.KK X.mg W0 (fun _ T H J items => Wk X.KK T H J items) it1))
    (hg1 : ∀ (s : Shared) (H : Hp) (C : Addr) (cl : List (Str × Addr)) (fp : List Addr), PG (X.blk s H scope (compEnvC scope cl C X.env) fp) tg1 (tTg X.KK X.mg t1)) (ht1 : ∀ (s : Shared) (H : Hp) (C : Addr) (cl : List (Str × Addr)) (fp : List Addr), PTs (X.blk s H scope (compEnvC scope cl C X.env) fp) ifs1 (tPt X.KK X.mg W0 c1))
    (he : ∀ (s : Shared) (H : Hp) (C : Addr) (cl : List (Str × Addr)) (fp : List Addr), PE (X.blk s H scope (compEnvC scope cl C X.env) fp) elt (tP X.KK X.mg W0 el)) (hy : X.N[i]? = some y) (hyl : X.env.scope.names.lookup y = some .local)
    (hsw : swapsWith (.ListComp elt [⟨tg, iter, ifs, 0⟩, ⟨tg1, iter1, ifs1, 0⟩] scope pos) (some (.Name y py)) spos.line X.env = pure true) (hs : ∀ x, foldedSetIterable iter X.env x = pure x := by intro _; rfl) (hs1 : ∀ env x, foldedSetIterable iter1 env x = pure x := by intro _ _; rfl) :
    PPS X W (.Assign [.Name y py] (.ListComp elt [⟨tg, iter, ifs, 0⟩, ⟨tg1, iter1, ifs1, 0⟩] scope pos) spos) (mSetN i (mComp2 vs t it cn it1 vs1 t1 c1 el)) :=
  PS.imp (ps_setLc2 hc hN hy hyl hsw hi ok (by rw [hv]; exact hv1) hg ht hi1 hg1 ht1 he hs hs1) fun D σ H q => by
    rw [hv]
    obtain ⟨w, T, me, ok, lv, q⟩ := q
    refine tLc2_ok (W := W) (X := X) hsub hsub1 hv1 ?_
    exact tN_set (X := X) (W := W) ⟨w, T, me, ok, lv, q⟩
end
end PL
namespace PL
open PySem PySem.Spec PyProof.Rows L2
section
variable {X : Cx} {W : WX} {pos : Pos} {tg a b c e : Expr} {es rest : List Expr}
/-! ### reversed(range(n)), reversed(l) -/
noncomputable def mRRng (a : M PyData) : M (List PyData) := fun m => (a m).bind fun d m1 => match d with
  | .int n => if inB n then .ok (rngD 0 n.toNat).reverse m1 else .bad
  | _ => .bad
theorem wk_rrange {K : Kx} {T : Addr → Prop} {H : Hp} {n : Nat} : Wk K T H (Itc (0 + ((n : Nat) : Int) - 1) (-1) n) (rngD 0 n).reverse := by
  have e : ((rngD 0 n).reverse).length = n := by simp [rngD]
  refine ⟨fun _ => True, YFn fun i => .int (0 + ((n : Nat) : Int) - 1 + (i : Nat) * (-1)), by rw [e]; exact walk_rangeC, fun _ _ _ => trivial, fun T' H' i x H'' f _ hi y => ?_⟩
  obtain ⟨rfl, rfl⟩ := y
  rw [e] at hi
  refine ⟨fun _ _ h => h, .int (0 + ((n : Nat) : Int) - 1 + (i : Nat) * (-1)), ?_, .int _⟩
  rw [List.getElem?_reverse (by simpa [rngD] using hi)]
  have hl : (rngD 0 n).length = n := by simp [rngD]
  rw [hl]
  have h1 : n - 1 - i < n := by omega
  simp only [rngD, List.getElem?_map, List.getElem?_range h1, Option.map_some]
  congr 2
  omega
theorem pit_rrange {m : M PyData} {p p2 pos2 : Pos} (hg : Gl X "reversed") (hm : X.mg "reversed" = none) (hg2 : Gl X "range") (hm2 : X.mg "range" = none) (ha : PB X W a m) (na : starEach [a] X.env = (false, eval a X.env) :: starEach [] X.env := by rfl)
    (hs : starEach [.Call (.Name "range" p2) [a] [] pos2] X.env = (false, eval (.Call (.Name "range" p2) [a] [] pos2) X.env) :: starEach [] X.env := by rfl) : PIt X W tg (.Call (.Name "reversed" p) [.Call (.Name "range" p2) [a] [] pos2] [] pos) (mRRng m) := by
  refine PI.imp (pi_revR hg hm (prg_1 hg2 hm2 ha na) hs) fun σ H Q q => ?_
  obtain ⟨w, T, me, ok, lv, q⟩ := q
  refine Rn.seq ok lv q fun T1 me1 v d H1 s1 lv1 p1 q1 => ?_
  split at q1
  · rename_i n
    split at q1
    · rename_i hn
      refine ⟨n, p1.int, by decide, by decide, hn.1, hn.2, ?_⟩
      have := q1 _ H1 T1 (Stp.refl _ _ _ _ _) lv1 wk_rrange
      rw [Int.sub_zero]
      exact this
    · exact q1.elim
  · exact q1.elim
/-! ### max(texts, key=len) -/
/-- behind a change of the locals' own object alone that leaves its names -/
theorem _root_.L2.Inv.locKept {pins : List (Addr × Obj)} {σ : L2.St} {H : Hp} {s : Shared} {h' : Heap} {m : Str → Option Value} {t' : Nat} (I : Inv X pins σ H s)
    (hl : ∀ (i : Nat) (x : Str) (v : V), X.N[i]? = some x → σ[i]? = some (some v) → Vis X.env.scope x → ∃ u, RelV v u ∧ Look X.env s.heap m x u)
    (hn' : h'.Ns X.env.locals m) (k : ∀ b o, b ≠ X.env.locals → s.heap.get? b = some o → h'.get? b = some o) : Inv X pins σ H { s with heap := h', toks := t' } := by
  have cne := I.cne
  have hok : HOk X.prog X.w H h' := fun b ob e => by
    refine (I.hok b ob e).stay (fun c w' hc q => k c w' ?_ q) (fun _ q => q) fun _ _ q => q
    rintro rfl
    rcases hc with rfl | hc
    · rw [I.free] at e; cases e
    · rw [I.free] at hc; cases hc
  refine ⟨I.ok, I.os, I.bare, ⟨fun b o e n hb hx => ?_, fun b o e n hb hx => ?_, I.base.free, fun b o e hx => ?_, I.base.tups, I.base.frzs, I.base.tbls⟩, ⟨m, hn', fun j y v' e1 e2 e3 => ?_⟩, fun y c e => ?_, I.free, I.freeC, fun p hp => ?_, hok, I.len⟩
  · exact k b o (Nat.ne_of_lt (Nat.lt_of_lt_of_le (Heap.lt_size e) I.ok.above)) (I.base.keep b o e n hb hx)
  · obtain ⟨sl, e1⟩ := I.base.slot b o e n hb hx
    exact ⟨sl, k b _ (Nat.ne_of_lt (Nat.lt_of_lt_of_le (Heap.lt_size e) I.ok.above)) e1⟩
  · obtain ⟨o', e1⟩ := I.base.there b o e hx
    exact ⟨o', k b _ (Nat.ne_of_lt (Nat.lt_of_lt_of_le (Heap.lt_size e) I.ok.above)) e1⟩
  · obtain ⟨u', r', q⟩ := hl j y v' e1 e2 e3
    refine ⟨u', r', ?_⟩
    rcases q with ⟨kk, e⟩ | ⟨kk, c, e, z⟩
    · exact .inl ⟨kk, e⟩
    · obtain ⟨o, z1, z2⟩ := z
      exact .inr ⟨kk, c, e, o, k c o (cne y c e) z1, z2⟩
  · obtain ⟨w', o, z1, z2⟩ := I.cell y c e
    exact ⟨w', o, k c o (cne y c e) z1, z2⟩
  · obtain ⟨e, n, ne, nf, d⟩ := I.pin p hp
    exact ⟨k p.1 _ ne e, n, ne, nf, d⟩
/-- all objects but the base's and one -/
def others (h₀ h : Heap) (L : Addr) : List (Addr × Obj) := (List.range h.objs.size).filterMap fun b => if b = L ∨ (h₀.get? b).isSome = true then none else (h.get? b).map fun o => (b, o)
theorem others_news {h₀ h : Heap} {L : Addr} : News h₀ L h (others h₀ h L) := by
  intro p hp
  obtain ⟨b, _, hb⟩ := List.mem_filterMap.1 hp
  split at hb
  · cases hb
  · rename_i hc
    cases ho : h.get? b with
    | none => rw [ho] at hb; cases hb
    | some o =>
      rw [ho] at hb
      cases hb
      refine ⟨ho, fun e => hc (.inl e), ?_⟩
      cases e : h₀.get? b with
      | none => rfl
      | some o' => exact absurd (.inr (by rw [e]; rfl)) hc
theorem others_keep {h₀ h h' : Heap} {L : Addr} {m : Str → Option Value} (F0 : PyProof.Rows.Fr h₀ L h m) (F : PyProof.Rows.Fr h₀ L h' m) (N : News h₀ L h' (others h₀ h L)) : ∀ b o, b ≠ L → h.get? b = some o → h'.get? b = some o := by
  intro b o hb ho
  cases e : h₀.get? b with
  | some o' =>
    have h1 := F0.keep b o' e
    rw [ho] at h1
    cases h1
    exact F.keep b o e
  | none =>
    refine (N (b, o) ?_).1
    refine List.mem_filterMap.2 ⟨b, List.mem_range.2 (Heap.lt_size ho), ?_⟩
    rw [if_neg (by rintro (z | z); exact hb z; rw [e] at z; cases z), ho]
    rfl
def maxLen (x : Str) : List Str → Str
  | [] => x
  | y :: r => if x.length < y.length then maxLen y r else maxLen x r
/-- the first one of the greatest length -/
def Best (l : List Str) (i : Nat) (v : Str) : Prop := l[i]? = some v ∧ ∀ (j : Nat) (u : Str), l[j]? = some u → u.length ≤ v.length ∧ (j < i → u.length < v.length)
theorem Best.eq {l : List Str} {i i' : Nat} {v v' : Str} (h : Best l i v) (h' : Best l i' v') : v = v' := by
  rcases Nat.lt_trichotomy i i' with z | z | z
  · have a := (h'.2 i v h.1).2 z
    have b := (h.2 i' v' h'.1).1
    omega
  · subst z
    exact Option.some.inj (h.1.symm.trans h'.1)
  · have a := (h.2 i' v' h'.1).2 z
    have b := (h'.2 i v h.1).1
    omega
theorem maxLen_best : ∀ (l : List Str) (x : Str), ∃ i, Best (x :: l) i (maxLen x l)
  | [], x => ⟨0, rfl, fun j u h => by
    cases j with
    | zero => cases h; exact ⟨Nat.le_refl _, fun z => absurd z (by omega)⟩
    | succ j => simp at h⟩
  | y :: r, x => by
    unfold maxLen
    by_cases hc : x.length < y.length
    · rw [if_pos hc]
      obtain ⟨i, h1, h2⟩ := maxLen_best r y
      refine ⟨i + 1, by simpa using h1, fun j u h => ?_⟩
      have hy := (h2 0 y rfl).1
      cases j with
      | zero => cases h; exact ⟨by omega, fun _ => by omega⟩
      | succ j =>
        obtain ⟨a, b⟩ := h2 j u (by simpa using h)
        exact ⟨a, fun z => b (by omega)⟩
    · rw [if_neg hc]
      obtain ⟨i, h1, h2⟩ := maxLen_best r x
      cases i with
      | zero =>
        refine ⟨0, by simpa using h1, fun j u h => ?_⟩
        refine ⟨?_, fun z => absurd z (by omega)⟩
        have hx := (h2 0 x rfl).1
        cases j with
        | zero => cases h; exact hx
        | succ j =>
          cases j with
          | zero => cases h; omega
          | succ j => exact (h2 (j + 1) u (by simpa using h)).1
      | succ i =>
        refine ⟨i + 2, by simpa using h1, fun j u h => ?_⟩
        have hx := (h2 0 x rfl).2 (by omega)
        cases j with
        | zero => cases h; exact ⟨by omega, fun _ => hx⟩
        | succ j =>
          cases j with
          | zero => cases h; exact ⟨by omega, fun _ => by omega⟩
          | succ j =>
            obtain ⟨a, b⟩ := h2 (j + 1) u (by simpa using h)
            exact ⟨a, fun z => b (by omega)⟩
theorem call_maxLen {pins : List (Addr × Obj)} {σ : L2.St} {H : Hp} {s : Shared} {a : Addr} {xs : List Str} {x0 : Str} {r : List Str} {Q : VK} (hc : X.calm = true) (I : Inv X pins σ H s) (hs : SqL X.K H a (xs.map V.str)) (hx : xs = x0 :: r) (hl : ∀ x ∈ xs, x.length ≤ 1000000) (q : Q (.str (maxLen x0 r)) H) :
    wpAny (model X.prog X.w) X.A (call (.builtin "max") [.ref a] [(Str.ofString "key", .builtin "len")]) (EP X pins σ Q) X.xe s := by
  obtain ⟨its, rv, hpl, hz⟩ := I.list hs
  obtain ⟨m, hn, hlk⟩ := id I.loc
  have F0 : PyProof.Rows.Fr X.base X.env.locals s.heap m := ⟨hn, I.bk, by
    obtain ⟨m', F⟩ := I.fr
    exact F.above⟩
  have hlen : its.length = xs.length := by rw [← rv.length, List.length_map]
  have val : ∀ (i : Nat) (v : Value), its[i]? = some v → ∃ x t, xs[i]? = some x ∧ v = .str x t := fun i v hv => by
    have hi : i < xs.length := by
      rw [← hlen]
      exact (List.getElem?_eq_some_iff.mp hv).1
    have h1 : (xs.map V.str)[i]? = some (V.str xs[i]) := by rw [List.getElem?_map, List.getElem?_eq_getElem hi]; rfl
    obtain ⟨u, hu, t, e⟩ := Vals.get rv h1
    rw [hv] at hu
    cases hu
    exact ⟨xs[i], t, List.getElem?_eq_getElem hi, e⟩
  have valB : ∀ (i : Nat) (x : Str), xs[i]? = some x → ∃ t, its[i]? = some (.str x t) := fun i x hx2 => by
    have h1 : (xs.map V.str)[i]? = some (V.str x) := by rw [List.getElem?_map, hx2]; rfl
    obtain ⟨u, hu, t, e⟩ := Vals.get rv h1
    exact ⟨t, by rw [hu, e]⟩
  have hne : 0 < its.length := by rw [hlen, hx]; simp
  have hin : ∀ h, PyProof.Rows.Fr X.base X.env.locals h m → News X.base X.env.locals h (others X.base s.heap X.env.locals) → h.IsList a its.toArray := fun h F N => by
    have nl : a ≠ X.env.locals := fun e => by
      obtain ⟨o, ho, _, n, hd⟩ := hpl.isList
      obtain ⟨oL, es, ep, hL, hx, _⟩ := hn
      rw [e] at ho
      rw [ho] at hL
      cases hL
      rw [hx] at hd
      cases hd
    obtain ⟨o, ho, rest⟩ := hpl.isList
    exact ⟨o, others_keep F0 F N a o nl ho, rest⟩
  refine PyProof.Rows.kmb_max (h₀ := X.base) (L := X.env.locals) (m := m) (news := others X.base s.heap X.env.locals) (vs := its) (fun i => ((xs.getD i x0).length : Int)) (I.ok.hd hc) F0 others_news hin hne (fun i v hv h tk own F N => ?_) (fun i v h' tk' hv hb F N => ?_)
  · obtain ⟨x, t, hx2, rfl⟩ := val i v hv
    have hl2 := hl x (List.mem_of_getElem? hx2)
    refine PySem.P.len_str (by omega) ?_
    refine ⟨h, tk + 1 + 1, tk + 1, rfl, ?_, F, N⟩
    show Value.int _ _ = Value.int ((xs.getD i x0).length : Int) _
    rw [List.getD_eq_getElem?_getD, hx2]
    rfl
  · obtain ⟨x, t, hx2, rfl⟩ := val i v hv
    have hB : Best xs i x := ⟨hx2, fun j u hu => by
      have hj : j < its.length := by
        rw [hlen]
        exact (List.getElem?_eq_some_iff.mp hu).1
      have := hb j hj
      simp only [List.getD_eq_getElem?_getD, hx2, hu, Option.getD_some] at this
      exact ⟨by omega, fun z => by have := this.2 z; omega⟩⟩
    obtain ⟨i2, hB2⟩ := maxLen_best r x0
    rw [← hx] at hB2
    have ev := hB.eq hB2
    refine ⟨.str x, H, I.locKept hlk F.ns (others_keep F0 F N), ⟨t, rfl⟩, ?_⟩
    rw [ev]
    exact q
def pMaxLen : PyData → Option PyData
  | .list l => match strsOf l with
    | some (x :: r) => if ((x :: r).all fun y => decide (y.length ≤ 1000000)) = true then some (.str (maxLen x r)) else none
    | _ => none
  | _ => none
theorem pp_maxLen {x : M PyData} {p p2 kpos : Pos} (hc : X.calm = true) (hg : Gl X "max") (hm : X.mg "max" = none) (hg2 : Gl X "len") (hm2 : X.mg "len" = none) (ha : PB X W e x)
    (he : backTo pos (starEach [e] X.env) = (false, eval e X.env) :: backTo pos (starEach [] X.env) := by rfl) (hpl : (backTo pos (starEach [e] X.env)).any (·.1) = false := by rfl) :
    PP X W (.Call (.Name "max" p) [e] [⟨some "key", .Name "len" p2, kpos⟩] pos) (mOp1 pMaxLen x) := by
  refine ⟨fun pins s σ H Q I q => ?_⟩
  obtain ⟨w, T, me, ok, lv, q⟩ := q
  have q2 : tB X.KK X.mg W x σ H (fun v H1 => ∃ (a : Addr) (xs : List Str) (x0 : Str) (r : List Str), v = .ref a ∧ SqL X.K H1 a (xs.map V.str) ∧ xs = x0 :: r ∧ (∀ y ∈ xs, y.length ≤ 1000000) ∧ Q (.str (maxLen x0 r)) H1) := by
    refine Rn.seq ok lv q fun T1 me1 v d H1 s1 lv1 p1 q1 => ?_
    cases hf : pMaxLen d with
    | none => rw [hf] at q1; exact q1.elim
    | some z =>
      rw [hf] at q1
      unfold pMaxLen at hf
      split at hf
      · rename_i l
        split at hf
        · rename_i x0 r hxs
          split at hf
          · rename_i hal
            cases hf
            obtain ⟨p, vs, rfl, rd, dd⟩ := p1.list
            have ev := dd.strs hxs
            subst ev
            exact ⟨p, x0 :: r, x0, r, rfl, .inl rd, rfl, fun y hy => of_decide_eq_true (List.all_eq_true.mp hal y hy), q1 _ H1 T1 (Stp.refl _ _ _ _ _) lv1 (.str _)⟩
          · cases hf
        · cases hf
      · cases hf
  refine wpAny_Call_Name_kw (ld_blt (u := .builtin "max") I hg hm (by decide +kernel) ?_)
  refine PyProof.Rows.callWith_kw ?_ he hpl rfl rfl
  rw [he]
  refine Calls.spliced_cons (thn (ha.run pins s σ H _ I q2) fun u s1 ⟨v, H1, I1, r1, a, xs, x0, r, ev, hs, hx, hl, q1⟩ => ?_)
  refine Calls.spliced_nil ?_
  subst ev
  obtain rfl : u = Value.ref a := r1
  show wpAny _ _ (evalAll [(do let v ← eval (.Name "len" p2) X.env; standAt pos; pure v)]) _ _ s1
  refine wpAny_evalAll_cons (wpAny_bind (ld_blt (u := .builtin "len") I1 hg2 hm2 (by decide +kernel) (wpAny_bind (wpAny_standAt (wpAny_pure ?_)))))
  refine wpAny_evalAll_nil ?_
  exact call_maxLen hc I1 hs hx hl q1
end
end PL
namespace PL
open PySem PySem.Spec PyProof.Rows L2
/-! ### sorted(set(list of ints)) -/
/-- a set as it is made -/
abbrev nilSet (w : World) : Obj := { cls := .type "set", dict := none, data := .set #[] 0 (.fresh 0 0 (!w.params.followText "set-order")) }
section
variable {P : Program} {w : World} {A : Around} {E : Value → Shared → Prop} {s : Shared}
theorem list_set_fill {l : Addr} {vs : List Value} (ns : List Int) {R : Result → Shared → Prop} (hh : A.handled = none) (hl : s.heap.IsList l vs.toArray) (hi : IntsAre vs ns) (hb : ns.length + 1 < scanBound)
    (hR : ∀ (h' : Heap) (tk c : Nat), SetR w h' s.heap.objs.size (fun j => decide (j ∈ ns)) c → (∀ b o, s.heap.get? b = some o → h'.get? b = some o) → R (.ok (.ret .none)) { s with heap := h', toks := tk }) :
    codeAny (model P w) A (.builtin "set.update.loop" ⟨[.ref s.heap.objs.size, .ref (s.heap.push (nilSet w)).objs.size], []⟩) R { s with heap := (s.heap.push (nilSet w)).push { cls := .type "list_iterator", data := .fields #[.ref l, .int 0 0] } } := by
  have sz : vs.toArray.size = ns.length := by rw [List.size_toArray]; exact hi.length
  obtain ⟨ol, hol, hcl⟩ := id hl
  have lS : l < s.heap.objs.size := Heap.lt_size hol
  have l1 : (s.heap.push (nilSet w)).IsList l vs.toArray := ⟨ol, Heap.get?_push_of_some _ hol, hcl⟩
  have z1 : (s.heap.push (nilSet w)).objs.size = s.heap.objs.size + 1 := Heap.size_push ..
  have n1 : l ≠ (s.heap.push (nilSet w)).objs.size := by rw [z1]; exact Nat.ne_of_lt (Nat.lt_succ_of_lt lS)
  have n2 : s.heap.objs.size ∉ [(s.heap.push (nilSet w)).objs.size, l] := by
    rw [z1]; exact fun z => by
      rcases List.mem_cons.mp z with z | z
      · exact absurd z (Nat.ne_of_lt (Nat.lt_succ_self _))
      · exact absurd (List.mem_singleton.mp z) (Nat.ne_of_gt lS)
  have val : ∀ (i : Nat) (v : Value), vs.toArray[i]? = some v → ∃ k t, ns[i]? = some k ∧ v = .int k t := fun i v hv => by
    have lt : i < ns.length := sz ▸ (Array.getElem?_eq_some_iff.mp hv).1
    obtain ⟨t, e⟩ := hi.int_at i v (by simpa using hv)
    refine ⟨ns[i], t, List.getElem?_eq_getElem lt, ?_⟩
    rw [e, List.getD_eq_getElem?_getD, List.getElem?_eq_getElem lt, Option.getD_some]
  have at0 : ((s.heap.push (nilSet w)).push { cls := .type "list_iterator", data := .fields #[.ref l, .int 0 0] }).get? s.heap.objs.size = some (nilSet w) := Heap.get?_push_of_some _ (Heap.get?_push_size _ rfl)
  refine set_update_ints (P := P) (w := w) ((Walks.list (A := A.in1) (by simpa using hh) (s.heap.push (nilSet w)).objs.size l n1 vs.toArray).toS) s.heap.objs.size n2 ns sz hb val _ 0 _ rfl (Nat.zero_le _) ⟨⟨_, Heap.get?_push_size _ rfl, rfl, rfl⟩, l1.push _⟩ ⟨0, Nat.le_refl 0, setR_new_at at0⟩ fun s' c hm _ hS => ?_
  obtain ⟨h', g2, d', tk', os'⟩ := s'
  obtain rfl : g2 = s.gens := hm.gens
  obtain rfl : d' = s.drawn := hm.drawn
  obtain rfl : os' = s.os := hm.os
  refine hR h' tk' c hS fun b o e => ?_
  have b0 : b < s.heap.objs.size := Heap.lt_size e
  have n3 : b ∉ [s.heap.objs.size, (s.heap.push (nilSet w)).objs.size] := by
    rw [z1]; exact fun z => by
      rcases List.mem_cons.mp z with z | z
      · exact absurd z (Nat.ne_of_lt b0)
      · exact absurd (List.mem_singleton.mp z) (Nat.ne_of_lt (Nat.lt_succ_of_lt b0))
  exact hm.heap b o n3 (Heap.get?_push_of_some _ (Heap.get?_push_of_some _ e))
set_option maxHeartbeats 3200000 in
theorem call_setL {l : Addr} {vs : List Value} (ns : List Int) {Q : Value → Shared → Prop} (hh : A.handled = none) (hl : s.heap.IsList l vs.toArray) (hi : IntsAre vs ns) (hb : ns.length + 1 < scanBound)
    (hQ : ∀ (h' : Heap) (tk c : Nat), SetR w h' s.heap.objs.size (fun j => decide (j ∈ ns)) c → (∀ b o, s.heap.get? b = some o → h'.get? b = some o) → Q (.ref s.heap.objs.size) { s with heap := h', toks := tk }) :
    wpAny (model P w) A (call (.type "set") [.ref l]) Q E s := by
  obtain ⟨_, _, mro⟩ := F.called_set.mro; have made := F.called_set.made; have subs := F.called_set.sub; have no := F.called_set.notType; have can := F.called_set.canCreate; have tc := F.typeCall_set_1 (.ref l)
  refine wpAny_call (codeAny_of_tree (show wpAny _ _ (callAny (.type "set") _) _ _ _ from wpAny_pure ⟨Code.quiet_builtin _ (by decide +kernel), codeAny_builtin F.entry_type_call ?_⟩)); rw [Around.under_plain (weight_type_call_type "set" [.ref l] []) rfl]
  repeat (any_goals (first | assumption | wp_step))
  refine codeAny_mono (code_set_led1 (.ref l) (E := E) (Q₁ := fun z t => z = .ref s.heap.objs.size ∧ t = { s with heap := s.heap.push (nilSet w) }) ⟨rfl, rfl⟩) fun r t hr => ?_
  rcases r with e | f
  · exact hr
  rcases f with _ | _ | _ | v
  · exact hr.elim
  · exact hr.elim
  · exact hr.elim
  obtain ⟨rfl, rfl⟩ := hr
  have hS : (s.heap.push (nilSet w)).get? s.heap.objs.size = some (nilSet w) := Heap.get?_push_size _ rfl
  have hT : Shared.TypeIs { s with heap := s.heap.push (nilSet w) } (.ref s.heap.objs.size) "set" := ⟨_, hS, rfl⟩
  have look := F.called_set.init.lookup; have bnd := F.called_set.init.bind (.ref s.heap.objs.size)
  repeat (any_goals (first | assumption | wp_step))
  refine codeAny_mono (codeAny_call_builtin (R := wants (fun r t => r = .none ∧ ∃ h' tk c, t = { s with heap := h', toks := tk } ∧ SetR w h' s.heap.objs.size (fun j => decide (j ∈ ns)) c ∧ (∀ b o, s.heap.get? b = some o → h'.get? b = some o)) E)
    F.called_set.init.plain F.entry_set_init (check_set_init_1 hT ?_)) fun r t hr => ?_
  · obtain ⟨⟨ocls, odict, odata, oslots⟩, hol, hcl, nl, hdl⟩ := id hl
    simp only at hcl hdl
    subst hcl hdl
    have h1 : (s.heap.push (nilSet w)).get? l = some { cls := .type "list", dict := odict, data := .seq vs.toArray nl, slots := oslots } := Heap.get?_push_of_some _ hol
    have l1 : (s.heap.push (nilSet w)).IsList l vs.toArray := ⟨_, h1, rfl, nl, rfl⟩
    have k1 := F.sub_list_set; have k2 := F.sub_list_frozenset
    have k3 : (Value.type "list" == Value.type "dict") = false := by decide
    unfold Builtin.«set.__init__» noKeywords Builtin.Frozenset.updateFrom
    generalize hPI : pyIter = PI
    wp_walk
    subst hPI
    refine wpAny_pyIter_list l1 (wpAny_bind (wpAny_runValue ?_))
    refine list_set_fill ns (by simp [hh]) hl hi hb fun h' tk c hc hk => ?_
    show wpAny _ _ _ _ _ _
    refine wpAny_pure ?_
    show wpAny _ _ (ret Value.none) _ _ _
    exact wpAny_pure ⟨rfl, h', tk, c, rfl, hc, hk⟩
  · rcases r with e | f
    · exact hr
    rcases f with _ | _ | _ | v
    · exact hr.elim
    · exact hr.elim
    · exact hr.elim
    obtain ⟨rfl, h', tk, c, rfl, hc, hk⟩ := hr
    repeat (any_goals (first | assumption | wp_step))
    exact hQ _ _ _ hc hk
end
/-! what comes: ascending, each once -/
def insU (k : Int) : List Int → List Int
  | [] => [k]
  | x :: r => if k < x then k :: x :: r else if k = x then x :: r else x :: insU k r
def sortU : List Int → List Int
  | [] => []
  | k :: r => insU k (sortU r)
theorem mem_insU {k j : Int} : ∀ {l : List Int}, j ∈ insU k l ↔ j = k ∨ j ∈ l
  | [] => by simp [insU]
  | x :: r => by
    unfold insU
    split
    · simp
    · split
      · rename_i h; subst h; simp
      · rw [List.mem_cons, mem_insU, List.mem_cons]
        constructor
        · rintro (h | h | h)
          · exact .inr (.inl h)
          · exact .inl h
          · exact .inr (.inr h)
        · rintro (h | h | h)
          · exact .inr (.inl h)
          · exact .inl h
          · exact .inr (.inr h)
theorem mem_sortU {j : Int} : ∀ {l : List Int}, j ∈ sortU l ↔ j ∈ l
  | [] => by simp [sortU]
  | x :: r => by rw [sortU, mem_insU, mem_sortU, List.mem_cons]
theorem pw_insU {k : Int} : ∀ {l : List Int}, l.Pairwise (· < ·) → (insU k l).Pairwise (· < ·)
  | [], _ => by simp [insU]
  | x :: r, h => by
    obtain ⟨h1, h2⟩ := List.pairwise_cons.mp h
    unfold insU
    split
    · rename_i hk
      refine List.pairwise_cons.mpr ⟨fun y hy => ?_, h⟩
      rcases List.mem_cons.mp hy with rfl | hy
      · exact hk
      · have := h1 y hy; omega
    · split
      · exact h
      · refine List.pairwise_cons.mpr ⟨fun y hy => ?_, pw_insU h2⟩
        rcases mem_insU.mp hy with rfl | hy
        · omega
        · exact h1 y hy
theorem pw_sortU : ∀ {l : List Int}, (sortU l).Pairwise (· < ·)
  | [] => List.Pairwise.nil
  | _ :: r => pw_insU pw_sortU
theorem pw_eq : ∀ {l m : List Int}, l.Pairwise (· < ·) → m.Pairwise (· < ·) → (∀ k, k ∈ l ↔ k ∈ m) → l = m
  | [], [], _, _, _ => rfl
  | [], y :: m, _, _, h => absurd ((h y).mpr List.mem_cons_self) (by simp)
  | x :: l, [], _, _, h => absurd ((h x).mp List.mem_cons_self) (by simp)
  | x :: l, y :: m, hl, hm, h => by
    obtain ⟨a1, a2⟩ := List.pairwise_cons.mp hl
    obtain ⟨b1, b2⟩ := List.pairwise_cons.mp hm
    have e : x = y := by
      rcases List.mem_cons.mp ((h x).mp List.mem_cons_self) with e | e
      · exact e
      · rcases List.mem_cons.mp ((h y).mpr List.mem_cons_self) with f | f
        · exact f.symm
        · have := b1 x e; have := a1 y f; omega
    subst e
    rw [pw_eq a2 b2 fun k => ?_]
    constructor
    · intro hk
      rcases List.mem_cons.mp ((h k).mp (List.mem_cons_of_mem _ hk)) with e | e
      · subst e; have := a1 _ hk; omega
      · exact e
    · intro hk
      rcases List.mem_cons.mp ((h k).mpr (List.mem_cons_of_mem _ hk)) with e | e
      · subst e; have := b1 _ hk; omega
      · exact e
theorem len_nodup : ∀ {l m : List Int}, l.Nodup → (∀ k ∈ l, k ∈ m) → l.length ≤ m.length
  | [], _, _, _ => Nat.zero_le _
  | x :: l, m, hn, h => by
    obtain ⟨h1, h2⟩ := List.nodup_cons.mp hn
    have hx := h x List.mem_cons_self
    have := len_nodup (l := l) (m := m.erase x) h2 fun k hk => by
      have hne : k ≠ x := fun e => h1 (e ▸ hk)
      exact (List.mem_erase_of_ne hne).mpr (h k (List.mem_cons_of_mem _ hk))
    rw [List.length_erase_of_mem hx] at this
    have hp : 0 < m.length := List.length_pos_of_mem hx
    rw [List.length_cons]
    omega
theorem DDs.ofInts {K : Kx} {T : Addr → Prop} {H : Hp} : ∀ l : List Int, DDs K T H (l.map V.int) (l.map PyData.int)
  | [] => .nil
  | x :: l => .cons (.int x) (DDs.ofInts l)
def pSortU : PyData → Option PyData
  | .list l => match intsOf l with
    | some ns => if ns.length ≤ 4000 ∧ (sortU ns).length < 64 then some (.list ((sortU ns).map PyData.int)) else none
    | none => none
  | _ => none
theorem vals_intsAre : ∀ {ns : List Int} {us : List Value}, Vals (ns.map V.int) us → IntsAre us ns
  | [], _, .nil => .nil
  | n :: ns, _, .cons r t => by obtain ⟨k, rfl⟩ := r; exact .cons n k (vals_intsAre t)
section
variable {X : Cx} {W : WX} {pos : Pos} {tg a b c e : Expr} {es rest : List Expr}
theorem pp_sortU {x : M PyData} {p p2 q0 : Pos} (hc : X.calm = true) (hg : Gl X "sorted") (hm : X.mg "sorted" = none) (hg2 : Gl X "set") (hm2 : X.mg "set" = none) (ha : PB X W e x)
    (na : starEach [e] X.env = (false, eval e X.env) :: starEach [] X.env := by rfl) : PP X W (.Call (.Name "sorted" p) [.Call (.Name "set" p2) [e] [] q0] [] pos) (mOp1 pSortU x) := by
  refine ⟨fun pins s σ H Q I q => ?_⟩
  obtain ⟨w, T, me, ok, lv, q⟩ := q
  have q2 : tB X.KK X.mg W x σ H (fun v H1 => ∃ (a : Addr) (ns : List Int), v = .ref a ∧ SqL X.K H1 a (ns.map V.int) ∧ ns.length ≤ 4000 ∧ (sortU ns).length < 64 ∧
      ∀ a0 O p, H1 a0 = none → upd H1 a0 O p = none → Q (.ref p) (upd (upd H1 a0 O) p (.lst ((sortU ns).map V.int)))) := by
    refine Rn.seq ok lv q fun T1 me1 v d H1 s1 lv1 p1 q1 => ?_
    cases hf : pSortU d with
    | none => rw [hf] at q1; exact q1.elim
    | some z =>
      rw [hf] at q1
      unfold pSortU at hf
      split at hf
      · rename_i l
        split at hf
        · rename_i ns hns
          split at hf
          · rename_i hz
            cases hf
            obtain ⟨p, vs, rfl, rd, dd⟩ := p1.list
            obtain rfl := dd.ints hns
            refine ⟨p, ns, rfl, .inl rd, hz.1, hz.2, fun a0 O p h0 hp => ?_⟩
            have lv2 := lv1.same (Same0.new (o := O) h0)
            exact q1 (.ref p) _ T1 ((Stp.same (Same0.new h0)).trans (Stp.same (Same0.new hp))) (lv2.same (Same0.new hp)) (DD.newL lv2.al hp (DDs.ofInts _))
          · cases hf
        · cases hf
      · cases hf
  refine Call_ (ld_blt (u := .builtin "sorted") I hg hm (by decide +kernel) (PyProof.Rows.callWith_builtin1 (PyProof.Rows.args_cons (Call_ (ld_blt I hg2 hm2 boot_set ?_)) rfl) rfl rfl))
  refine PyProof.Rows.callWith_type1 (PyProof.Rows.args_cons (thn (ha.run pins s σ H _ I q2) fun u s1 ⟨v, H1, I1, r1, a, ns, ev, hs, hl, h64, q1⟩ => PyProof.Rows.args_nil ?_) na) na rfl
  subst ev
  obtain rfl : u = Value.ref a := r1
  obtain ⟨its, rv, pl, hz⟩ := I1.list hs
  refine call_setL ns (I1.ok.hd hc) pl.isList (vals_intsAre rv) (by unfold scanBound; omega) fun h' tk c R k => PyProof.Rows.args_nil ?_
  have I2 : Inv X pins σ (upd H1 s1.heap.objs.size (SetO X.w s1.heap.objs.size (fun j => decide (j ∈ ns)) c)) { s1 with heap := h', toks := tk } := I1.laid (t' := tk) k (Nat.le_refl _) (setO_new R)
  have c64 : c < 64 := by
    obtain ⟨o, es, ep, t, ho, hex, hd, g, nd, hmm, hb, hf, hn, _⟩ := R
    have := len_nodup (m := sortU ns) nd fun j hj => mem_sortU.mpr (of_decide_eq_true ((hmm j).mpr hj))
    rw [List.length_map, Array.length_toList] at this
    omega
  refine cr_sortedSet hc pins _ σ _ [.ref _] [.ref _] Q I2 (.cons rfl .nil) ⟨_, _, c, rfl, upd_same, c64, fun ms p h1 h2 _ hp => ?_⟩
  rw [pw_eq h1 (pw_sortU (l := ns)) fun j => by rw [h2 j, mem_sortU, decide_eq_true_eq]]
  exact q1 _ _ p (I1.hok.fresh (Nat.le_refl _)) hp
end
end PL
namespace PL
open PySem PySem.Spec PyProof.Rows L2
section
variable {X : Cx} {W : WX} {pos : Pos} {tg a b c e : Expr} {es : List Expr} {st : Stmt} {rest body : List Stmt}
/-! ### a token is out: s.split(..) gives one out; for over it; s.replace(t, u * n) -/
def PEO (X : Cx) (e : Expr) (t : TE) : Prop :=
  ∀ (pins : List (Addr × Obj)) (s : Shared) (σ : L2.St) (H : Hp) (Q : VK), Inv X pins σ H s → t σ H Q →
    wpAny (model X.prog X.w) X.A (eval e X.env) (fun v s1 => 1 ≤ s1.toks ∧ EP X pins σ Q v s1) X.xe s
def PIO (X : Cx) (tg iter : Expr) (wi : TI) : Prop :=
  ∀ (pins : List (Addr × Obj)) (s : Shared) (σ : L2.St) (H : Hp) (R : It → Hp → Prop), Inv X pins σ H s → wi σ H R →
    wpAny (model X.prog X.w) X.A (eval iter X.env) (fun v s1 => wpAny (model X.prog X.w) X.A (pyIter v) (fun r s2 => 1 ≤ s2.toks ∧ PIE X pins σ tg R r s2) X.xe s1) X.xe s
def tSplitC (y : Str) (to : TE) : TE := fun σ H Q => to σ H fun v H1 => ∃ x, v = .str x ∧ (y.length == 0) = false ∧ x.length + 2 ≤ sizeLine ∧ rNewStrs (Txt.split x y) H1 Q
theorem peo_split {o : Expr} {y : Str} {j : Nat} {c0 p2 p3 : Pos} {to : TE} (ho : PE X o to)
    (hbase : attributeBase o "split" X.env (eval o X.env) = eval o X.env := by rfl)
    (hfew : ((backTo p3 (starEach [.Constant (.str y) j c0] X.env)).all (fun x => !x.1) && (backToKw p3 (keywordEach [] X.env)).all (fun x => x.1.isSome) && decide ([Expr.Constant (.str y) j c0].length + ([] : List Keyword).length + (if ([] : List Keyword).isEmpty then 0 else 1) < 30)) = true := by rfl)
    (hline : (p2.endLine == p3.line) = true := by rfl) (hs : starEach [.Constant (.str y) j c0] X.env = (false, eval (.Constant (.str y) j c0) X.env) :: starEach [] X.env := by rfl) (hpl : (backTo p3 (starEach [] X.env)).any (·.1) = false := by rfl) :
    PEO X (.Call (.Attribute o "split" p2) [.Constant (.str y) j c0] [] p3) (tSplitC y to) := by
  intro pins s σ H Q I h
  refine wpAny_Call_method_late hbase hfew hline rfl (thn (ho.run pins s σ H _ I h) fun v s1 z => ?_)
  obtain ⟨x, H1, I1, r1, b, eb, hy, hz, q1⟩ := z
  subst eb
  obtain ⟨t, rfl⟩ := r1
  refine ⟨"str", _, PySem.F.plainAttrs_str, PySem.F.slot_str_split, PySem.F.type_str_split, typeIs_str _ _ _, (fun _ e => nomatch e), ?_⟩
  rw [hs]
  refine Calls.callWith_builtin (by show (false || (backTo p3 (starEach [] X.env)).any (·.1)) = false; rw [hpl] <;> rfl) (Calls.evalArgs_plain ?_)
  refine Calls.spliced_cons ?_
  show wpAny _ _ (eval (.Constant (.str y) j c0) X.env) _ _ _
  refine Calls.Constant_str ?_
  refine Calls.spliced_nil ?_
  have m := mt_split (X := X) pins { s1 with toks := s1.toks + 1 } σ H1 (.str b) [.str y] (.str b t) [.str y s1.toks] Q (I1.tok _) ⟨t, rfl⟩ (.cons ⟨_, rfl⟩ .nil) ⟨b, y, rfl, rfl, hy, hz, q1⟩
  exact wpAny_mono (PySem.wpAny_toks_of (n := 1) (by show 1 ≤ s1.toks + 1; omega) m) (fun _ _ z => z) fun _ _ z => z.2
theorem pio_list {l : Expr} {tl : TE} (hl : PEO X l tl) : PIO X tg l (iList X.K tl) := by
  intro pins s σ H R I h
  refine thn (hl pins s σ H _ I h) fun v s1 z => ?_
  obtain ⟨hk, x, H1, I1, r1, q1⟩ := z
  obtain ⟨p, ep, ⟨ys, hq⟩, q⟩ := q1
  subst ep
  cases r1
  obtain ⟨its, rv, pl, hz⟩ := I1.list hq
  refine wpAny_mono (PySem.wpAny_toks_of (n := 1) hk (Q := PIE X pins σ tg R) (E := X.xe) ?_) (fun _ _ z => z) fun _ _ z => z.2
  refine wpAny_pyIter_list pl.isList ?_
  exact ⟨s1.heap.objs.size, [s1.heap.objs.size], _, _, H1, rfl, I1.kept (t' := s1.toks) fun b o e => Heap.get?_push_of_some _ e, turn_list p _, ⟨_, Heap.get?_push_size _ rfl, rfl, rfl⟩, fun b hb => (by
    have eb : b = s1.heap.objs.size := by simpa using hb
    subst eb
    exact I1.fpOk (Nat.le_refl _) (I1.hok.fresh (Nat.le_refl _))), q⟩
/-- for: what is walked gives a token out, the suite may ask one -/
theorem ps_forT {iter : Expr} {wi : TI} {g : TG} {tb : TS} (hp : PassesOwn (model X.prog X.w) X.A X.env X.xe) (hc : X.calm = true) (hi : PIO X tg iter wi) (hg : PG X tg g) (hb : PSsT X body tb)
    (hs : ∀ x, foldedSetIterable iter X.env x = pure x := by intro _; rfl) : PS X (.For tg iter body [] pos) (tFor wi g tb) := by
  refine ⟨fun pins s σ H D I h => wpAny_For (thn (hi pins s σ H _ I h) fun v s1 h1 => thn h1 fun itv s2 z => ?_) hs⟩
  obtain ⟨tk2, it, fp, tn, J, H2, rfl, I2, T, at2, f2, W, ⟨m0, w0⟩, turn⟩ := z
  have pin : ∀ {G : Hp}, (∀ b ∈ fp, G b = none) → ∀ b ∈ fp, FpOk X pins G b := fun n b m => ⟨n b m, (f2 b m).2⟩
  have start : 1 ≤ s2.toks ∧ ∃ i τ G, Inv X pins τ G s2 ∧ tn i s2.heap ∧ (∀ b ∈ fp, G b = none) ∧ W i m0 τ G := ⟨tk2, 0, σ, H2, I2, at2, fun b m => (f2 b m).1, w0⟩
  refine codeAny_forLoop_any (fun n t => 1 ≤ t.toks ∧ ∃ i τ G, Inv X pins τ G t ∧ tn i t.heap ∧ (∀ b ∈ fp, G b = none) ∧ W i n τ G) (fun n t z => ?_) m0 start
  obtain ⟨tk3, i, τ, G, I3, at3, fr3, w3⟩ := z
  rcases turn i n τ G w3 with ⟨stop, qn⟩ | ⟨go, N, hN, step⟩
  · refine wpAny_passesOwn hp (thn (T.done X rfl rfl rfl hc i pins t τ G X.xe I3 (pin fr3) at3 stop) fun r s4 z => ?_)
    obtain ⟨rfl, I4⟩ := z
    exact wpAny_execs_nil ⟨τ, G, I4, qn⟩
  · refine wpAny_passesOwn hp (wpAny_mono (PySem.wpAny_toks_of tk3 (T.item X rfl rfl rfl hc i pins t τ G X.xe I3 (pin fr3) at3 go)) (fun r s4 z => ?_) fun _ _ z => z.2)
    obtain ⟨tk4, u, rfl, h4⟩ := z
    refine wpAny_passesOwn hp (wpAny_mono (PySem.wpAny_toks_of tk4 h4) (fun _ s5 z => ?_) fun _ _ z => z.2)
    obtain ⟨tk5, x, H5, I5, r5, y5, at5, fr5⟩ := z
    have I5p := I5.pinned (pin fr5) (T.obj _ _ at5)
    refine wpAny_passesOwn hp (wpAny_mono (PySem.wpAny_toks_of tk5 (hg.run _ s5 τ H5 x u _ I5p r5 (step x H5 y5))) (fun _ s6 z => ?_) fun _ _ z => z.2)
    obtain ⟨tk6, σ6, H6, I6, q6⟩ := z
    refine wpAny_passesOwn hp (wpAny_mono (PySem.wpAny_toks_of tk6 (hb _ s6 σ6 H6 _ tk6 I6 q6)) (fun f s7 z => ?_) fun _ _ z => z.2)
    obtain ⟨tk7, q7⟩ := z
    have inPins : ∀ {b : Addr} {o : Obj}, b ∈ fp → s5.heap.get? b = some o → (b, o) ∈ X.pn ++ (pins ++ pinsAt fp s5.heap) := fun hb e => List.mem_append_right _ (List.mem_append_right _ (mem_pinsAt hb e))
    have more : ∀ {σ7 : L2.St} {H7 : Hp}, Inv X (pins ++ pinsAt fp s5.heap) σ7 H7 s7 → N σ7 H7 → ∃ m, m < n ∧ (1 ≤ s7.toks ∧ ∃ i τ G, Inv X pins τ G s7 ∧ tn i s7.heap ∧ (∀ b ∈ fp, G b = none) ∧ W i m τ G) := fun {σ7 H7} I7 n7 => by
      obtain ⟨k, hk, w7⟩ := hN σ7 H7 n7
      refine ⟨k, hk, tk7, i + 1, σ7, H7, I7.unpinned, T.keep _ _ _ at5 fun b hb o e => (I7.pin (b, o) (inPins hb e)).1, fun b hb => ?_, w7⟩
      obtain ⟨o, e, d⟩ := T.obj _ _ at5 b hb
      exact (I7.pin (b, o) (inPins hb e)).2.1
    cases f with
    | next => obtain ⟨_, _, I7, n7⟩ := q7; exact more I7 n7
    | cont => obtain ⟨_, _, I7, n7⟩ := q7; exact more I7 n7
    | brk => obtain ⟨σ7, H7, I7, q7⟩ := q7; exact ⟨σ7, H7, I7.unpinned, q7⟩
    | ret v => obtain ⟨x7, σ7, H7, I7, r7, q7⟩ := q7; exact ⟨x7, σ7, H7, I7.unpinned, r7, q7⟩
/-- name = e, a token out -/
theorem pst_asg {i : Nat} {x : Str} {e : Expr} {te : TE} {pos2 : Pos} (hN : X.N.Nodup) (hi : X.N[i]? = some x) (hx : Loc X.env.scope x) (he : PET X e te) (hs : swapsWith e (some (.Name x pos2)) pos.line X.env = pure false := by rfl) (hf : X.fn x = true ∨ X.env.scope.names.lookup x = some .local := by first | exact .inl rfl | exact .inr rfl | assumption) :
    PST X (.Assign [.Name x pos2] e pos) (tAsg te (gName i)) := by
  intro pins s σ H D h0 I h
  refine wpAny_Assign_Name (thn (he pins s σ H _ h0 I h) fun v s1 z => ?_) hs
  obtain ⟨y, H1, I1, r1, q1⟩ := z
  exact store_ok I1 hN hi hx r1 (fun s2 I2 => ⟨_, H1, I2, q1⟩) hf
/-- o.replace(y, z * e) -/
def tReplM (y z : Str) (to te : TE) : TE := fun σ H Q => to σ H fun v H1 => ∃ x, v = .str x ∧ te σ H1 fun u H2 => ∃ n : Int, u = .int n ∧ 1 ≤ n ∧ n ≤ 1000 ∧ z.length ≤ 10 ∧ x.length ≤ 1000 ∧ Q (.str (Txt.replace x y (Txt.mul z n))) H2
theorem mul_len {z : Str} {n : Int} (h1 : 1 ≤ n) (h2 : n ≤ 1000) (hz : z.length ≤ 10) : (Txt.mul z n).length ≤ 10000 := by
  have e := PyProof.Rows.len_mul z n
  rw [if_neg (by simpa using (show ¬ n < 0 by omega))] at e
  have : (z.length : Int) * n ≤ 10 * 1000 := Int.mul_le_mul (by omega) h2 (by omega) (by omega)
  omega
theorem pet_replM {o e : Expr} {y z : Str} {j k : Nat} {c0 c1 p1 apos : Pos} {to te : TE} (nb : PySem.W.nsIn X.K cStatics sharingNotToldKey = some none) (ho : PE X o to) (he : PE X e te)
    (hst : starEach [.Constant (.str y) j c0, .BinOp (.Constant (.str z) k c1) .Mult e p1] X.env = [(false, eval (.Constant (.str y) j c0) X.env), (false, eval (.BinOp (.Constant (.str z) k c1) .Mult e p1) X.env)] := by rfl)
    (hbase : attributeBase o "replace" X.env (eval o X.env) = eval o X.env := by rfl) (hline : (apos.endLine == pos.line) = true := by rfl) :
    PET X (.Call (.Attribute o "replace" apos) [.Constant (.str y) j c0, .BinOp (.Constant (.str z) k c1) .Mult e p1] [] pos) (tReplM y z to te) := by
  intro pins s σ H Q h0 I h
  refine PySem.Call_method2 hbase hst hline (wpAny_mono (PySem.wpAny_toks_of h0 (ho.run pins s σ H _ I h)) (fun v s1 q => ?_) fun _ _ z => z.2)
  obtain ⟨hk, v', H1, I1, r1, x, e1, q⟩ := q
  subst e1
  obtain ⟨tx, e2⟩ := r1
  subst e2
  refine ⟨"str", _, PySem.F.plainAttrs_str, PySem.F.slot_str_replace, PySem.F.type_str_replace, typeIs_str _ _ _, (fun _ e => nomatch e), Calls.callWith_builtin rfl (Calls.evalArgs_plain (Calls.spliced_cons ?_))⟩
  refine Calls.Constant_str (Calls.spliced_cons (wpAny_BinOp (Calls.Constant_str ?_)))
  refine wpAny_mono (PySem.wpAny_toks_of (n := s1.toks + 2) (by show s1.toks + 2 ≤ s1.toks + 1 + 1; omega) (he.run pins { s1 with toks := s1.toks + 1 + 1 } σ H1 _ (I1.tok _) q)) (fun w s3 q => ?_) fun _ _ z => z.2
  obtain ⟨hk3, w', H3, I3, r3, n, e3, h1, h2, hz, hx, q⟩ := q
  subst e3
  obtain ⟨tn, e4⟩ := r3
  subst e4
  have hl := mul_len h1 h2 hz
  have hxl : (x.length + 1) * (Txt.mul z n).length ≤ 1001 * 10000 := Nat.mul_le_mul (by omega) hl
  have hb : x.length + (x.length + 1) * (Txt.mul z n).length ≤ 16777216 := by omega
  have hm1 : (z.length : Int) ≤ 10 := by omega
  have hok : MulOk z n := by
    refine ⟨?_, fun _ _ => ?_, fun _ _ => ?_⟩
    · rw [decide_eq_false (by omega), decide_eq_false (by omega)]; rfl
    · have : (10 : Int) ≤ (2 ^ 63 - 1) / n := by
        rw [Int.le_ediv_iff_mul_le (by omega)]
        omega
      omega
    · have hn : n.toNat ≤ 1000 := by omega
      have := Nat.mul_le_mul hz hn
      unfold Builtin.Str.tooLong
      exact decide_eq_false (by rw [sizeLine_eq]; omega)
  have fin : ∀ (t' : Tok) (s4 : Shared), Inv X pins σ H3 s4 → (t' : Nat) ≠ 0 → (s1.toks : Nat) ≠ (t' : Nat) → wpAny (model X.prog X.w) X.A (call (.builtin "str.replace") [.str x tx, .str y s1.toks, .str (Txt.mul z n) t']) (EP X pins σ Q) X.xe s4 := fun t' s4 I4 n0 n1 => by
    refine PySem.SC.replaceA (by show s1.toks ≠ 0; omega) n0 n1 hb (fun t2 k2 => ⟨.str (Txt.replace x y (Txt.mul z n)), H3, I4.tok k2, ⟨t2, rfl⟩, q⟩) ?_
    obtain ⟨mc, hn, _⟩ := I4.nolimit
    exact ⟨mc, hn, PySem.W.ns_none_of I4.kIn hn nb⟩
  refine PySem.P.mul_str hok.1 hok.2.1 hok.2.2 ?_
  rw [if_neg (show ¬ n < 1 by omega)]
  by_cases hc : (n == 1 || z.length == 0) = true
  · rw [if_pos hc]
    refine Calls.spliced_nil ?_
    have ez : z = Txt.mul z n := by unfold Txt.mul; rw [if_neg (show ¬ n < 1 by omega), if_pos hc]
    have f := fin (s1.toks + 1) s3 I3 (by show s1.toks + 1 ≠ 0; omega) (by show s1.toks ≠ s1.toks + 1; omega)
    rw [← ez] at f
    exact f
  · rw [if_neg hc]
    have ez : (⟨(List.replicate n.toNat z.cps).foldl (· ++ ·) #[]⟩ : Str) = Txt.mul z n := by unfold Txt.mul; rw [if_neg (show ¬ n < 1 by omega), if_neg hc]
    rw [ez]
    refine ⟨by rw [sizeLine_eq]; omega, Calls.spliced_nil ?_⟩
    exact fin s3.toks { s3 with toks := s3.toks + 1 } (I3.tok _) (by show s3.toks ≠ 0; omega) (by show s1.toks ≠ s3.toks; omega)
end
/-! the pure readings -/
section
variable {X : Cx} {W : WX} {pos : Pos} {tg a b c e o : Expr} {es : List Expr} {st : Stmt} {rest body : List Stmt}
abbrev PItO (X : Cx) (W : WX) (tg e : Expr) (m : M (List PyData)) : Prop := PIO X tg e (tR X.KK X.mg W (fun _ T H J items => Wk X.KK T H J items) m)
abbrev PPST (X : Cx) (W : WX) (s : Stmt) (m : M Flow) : Prop := PST X s (tS X.KK X.mg W m)
abbrev PPSsT (X : Cx) (W : WX) (s : List Stmt) (m : M Flow) : Prop := PSsT X s (tS X.KK X.mg W m)
theorem pit_splitO {y : Str} {j : Nat} {c0 p2 p3 : Pos} {x : M PyData} (ho : PB X W o x)
    (hbase : attributeBase o "split" X.env (eval o X.env) = eval o X.env := by rfl)
    (hfew : ((backTo p3 (starEach [.Constant (.str y) j c0] X.env)).all (fun x => !x.1) && (backToKw p3 (keywordEach [] X.env)).all (fun x => x.1.isSome) && decide ([Expr.Constant (.str y) j c0].length + ([] : List Keyword).length + (if ([] : List Keyword).isEmpty then 0 else 1) < 30)) = true := by rfl)
    (hline : (p2.endLine == p3.line) = true := by rfl) (hs : starEach [.Constant (.str y) j c0] X.env = (false, eval (.Constant (.str y) j c0) X.env) :: starEach [] X.env := by rfl) (hpl : (backTo p3 (starEach [] X.env)).any (·.1) = false := by rfl) :
    PItO X W tg (.Call (.Attribute o "split" p2) [.Constant (.str y) j c0] [] p3) (mIt (mOp pSplit (mStr x) (mC (.str y)))) := by
  intro pins s σ H R I q
  refine pio_list (peo_split ho hbase hfew hline hs hpl) pins s σ H R I ?_
  obtain ⟨w, T, me, ok, lv, q⟩ := q
  have q' : Rn X.KK X.mg W (fun _ T H J items => Wk X.KK T H J items) σ w T H me R ((mStr x me).bind fun d m1 => match pSplit d (.str y) with | some z => (match itemsOf z with | some l => Res.ok l m1 | none => .bad) | none => .bad) := by
    have e : mIt (mOp pSplit (mStr x) (mC (.str y))) me = (mStr x me).bind fun d m1 => match pSplit d (.str y) with | some z => (match itemsOf z with | some l => Res.ok l m1 | none => .bad) | none => .bad := by
      unfold mIt mDat mOp mC
      cases mStr x me with
      | ok d m1 =>
        simp only [Res.bind_ok]
        cases pSplit d (.str y) with
        | none => rfl
        | some z =>
          simp only [Res.bind_ok]
          all_goals (cases itemsOf z <;> rfl)
      | exc z m1 => rfl
      | bad => rfl
    rw [← e]; exact q
  refine Rn.str ok lv q' fun T1 me1 s H1 s1 lv1 q1 => ⟨s, rfl, ?_⟩
  cases hf : pSplit (.str s) (.str y) with
  | none => rw [hf] at q1; exact q1.elim
  | some z =>
    rw [hf] at q1
    unfold pSplit at hf
    simp only at hf
    split at hf
    · rename_i hz
      cases hf
      refine ⟨by simpa using hz.1, hz.2, fun p hp => ⟨p, rfl, ⟨_, .inl (.inl upd_same)⟩, ?_⟩⟩
      have dd := DD.newL (K := X.KK) lv1.al hp (DDs.ofStrs (Txt.split s y))
      refine q1 _ _ T1 (Stp.same (Same0.new hp)) (lv1.same (Same0.new hp)) ?_
      cases dd with
      | lst hq hd => exact wk_list hq hd
    · cases hf
theorem pps_forT {t : Tg} {it : M (List PyData)} {m : M Flow} {iter : Expr} (hp : PassesOwn (model X.prog X.w) X.A X.env X.xe) (hc : X.calm = true) (hi : PItO X W tg iter it) (hg : PG X tg (tTg X.KK X.mg t)) (hb : PPSsT X W body m) (hs : ∀ x, foldedSetIterable iter X.env x = pure x := by intro _; rfl) : PPS X W (.For tg iter body [] pos) (mFor t it m) := by
  refine PS.imp (ps_forT hp hc hi hg hb hs) fun D σ H q => ?_
  obtain ⟨w, T, me, ok, lv, q⟩ := q
  refine SRn.seq ok lv q fun T1 me1 J l H1 s1 lv1 wk q1 => ?_
  obtain ⟨G, Y, wa, hG, hY⟩ := wk.ex
  refine for_it wa (fun i σ' H' => ∃ (T' : Addr → Prop) (m' : Me), Fr T1 H1 T' H' ∧ Lv X.KK X.mg w T' σ' H' m' ∧ SRn X.KK X.mg W D w T' H' (forL t m (l.drop i) m')) ⟨T1, me1, Fr.refl _ _, lv1, by rw [List.drop_zero]; exact q1⟩ (fun i σ' H' _ p => ?_) (fun i x σ' H' H'' hi p y => ?_) (fun σ' H' p => ?_)
  · obtain ⟨T', m', fr, _⟩ := p
    exact hG T' H' fr
  · obtain ⟨T', m', fr, lv', q'⟩ := p
    obtain ⟨sm, d, ed, dx⟩ := hY T' H' i x H'' fr lv'.al hi y
    have hdrop : l.drop i = d :: l.drop (i + 1) := by
      rw [List.getElem?_eq_getElem hi] at ed
      rw [List.drop_eq_getElem_cons hi, Option.some.inj ed]
    rw [hdrop] at q'
    unfold forL at q'
    cases ht : mTgt t d m' with
    | none => rw [ht] at q'; exact q'.elim
    | some m0 =>
      rw [ht] at q'
      refine ⟨w, T', m', m0, d, lv'.same sm, dx, ht, fun vs lv0 => ⟨w, T', m0, ok, lv0, ?_⟩⟩
      simp only at q'
      have q2 := q'.after sm.fr
      cases hm : m m0 with
      | bad => rw [hm] at q2; exact q2
      | exc z m1 => rw [hm] at q2; exact q2
      | ok f m1 =>
        rw [hm] at q2
        simp only [Res.bind_ok] at q2
        cases f with
        | next => exact fun σ3 H3 T3 fr3 lv3 => ⟨T3, m1, (fr.trans sm.fr).trans fr3, lv3, q2.after fr3⟩
        | cont => exact fun σ3 H3 T3 fr3 lv3 => ⟨T3, m1, (fr.trans sm.fr).trans fr3, lv3, q2.after fr3⟩
        | brk => exact q2
        | ret s => exact q2
  · obtain ⟨T', m', fr, lv', q'⟩ := p
    rw [List.drop_length] at q'
    exact q'.nx lv'
theorem PSsT.imp {l : List Stmt} {t t' : TS} (h : PSsT X l t) (f : ∀ D σ H, t' D σ H → t D σ H) : PSsT X l t' := fun pins s σ H D h0 I q => h pins s σ H D h0 I (f D σ H q)
theorem PST.imp {l : Stmt} {t t' : TS} (h : PST X l t) (f : ∀ D σ H, t' D σ H → t D σ H) : PST X l t' := fun pins s σ H D h0 I q => h pins s σ H D h0 I (f D σ H q)
theorem ppsst_cons {m n : M Flow} (h : PPST X W st m) (hr : PPSsT X W rest n) : PPSsT X W (st :: rest) (mSeq m n) := by
  refine PSsT.imp (psst_cons h hr) fun D σ H q => ?_
  obtain ⟨w, T, me, ok, lv, q⟩ := q
  refine ⟨w, T, me, ok, lv, ?_⟩
  unfold mSeq at q
  cases hm : m me with
  | bad => rw [hm] at q; exact q
  | exc x me1 => rw [hm] at q; exact q
  | ok f me1 =>
    rw [hm] at q
    simp only [Res.bind_ok] at q
    cases f with
    | next => exact fun σ' H' T' fr lv' => ⟨w, T', me1, ok, lv', q.after fr⟩
    | brk => exact q
    | cont => exact q
    | ret s => exact q
theorem ppst_of {m : M Flow} (h : PPS X W st m) : PPST X W st m := PST.of h
theorem ppsst_of {m : M Flow} (h : PPSs X W rest m) : PPSsT X W rest m := PSsT.of h
def mRepM (y z : Str) (x k : M PyData) : M Sl := fun m => (mStr x m).bind fun d m1 => (k m1).bind fun n m2 => match d, n with
  | .str a, .int i => if 1 ≤ i ∧ i ≤ 1000 ∧ z.length ≤ 10 ∧ a.length ≤ 1000 then .ok (.dat (.str (Txt.replace a y (Txt.mul z i)))) m2 else .bad
  | _, _ => .bad
theorem ppst_setRep {i : Nat} {v : Str} {y z : Str} {j k : Nat} {c0 c1 p1 p2 p3 apos : Pos} {x n : M PyData} (hN : X.N.Nodup) (nb : PySem.W.nsIn X.K cStatics sharingNotToldKey = some none) (ho : PB X W o x) (he : PB X W e n) (hi : X.N[i]? = some v := by rfl) (hx : Loc X.env.scope v := by first | exact .inl rfl | exact .inr rfl)
    (hs : swapsWith (.Call (.Attribute o "replace" apos) [.Constant (.str y) j c0, .BinOp (.Constant (.str z) k c1) .Mult e p1] [] p2) (some (.Name v p3)) pos.line X.env = pure false := by rfl)
    (hf : X.fn v = true ∨ X.env.scope.names.lookup v = some .local := by first | exact .inl rfl | exact .inr rfl)
    (hst : starEach [.Constant (.str y) j c0, .BinOp (.Constant (.str z) k c1) .Mult e p1] X.env = [(false, eval (.Constant (.str y) j c0) X.env), (false, eval (.BinOp (.Constant (.str z) k c1) .Mult e p1) X.env)] := by rfl)
    (hbase : attributeBase o "replace" X.env (eval o X.env) = eval o X.env := by rfl) (hline : (apos.endLine == p2.line) = true := by rfl) :
    PPST X W (.Assign [.Name v p3] (.Call (.Attribute o "replace" apos) [.Constant (.str y) j c0, .BinOp (.Constant (.str z) k c1) .Mult e p1] [] p2) pos) (mSet i (mRepM y z x n)) := by
  refine PST.imp (pst_asg hN hi hx (pet_replM nb ho he hst hbase hline) hs hf) fun D σ H q => ?_
  obtain ⟨w, T, me, ok, lv, q⟩ := q
  have e : mSet i (mRepM y z x n) me = (mStr x me).bind fun d m1 => (n m1).bind fun u m2 => match d, u with
    | .str a, .int q => if 1 ≤ q ∧ q ≤ 1000 ∧ z.length ≤ 10 ∧ a.length ≤ 1000 then (match putE i (.dat (.str (Txt.replace a y (Txt.mul z q)))) m2 with | some m3 => Res.ok Flow.next m3 | none => .bad) else .bad
    | _, _ => .bad := by
    unfold mSet mRepM
    cases mStr x me with
    | ok d m1 =>
      simp only [Res.bind_ok]
      cases n m1 with
      | ok u m2 =>
        simp only [Res.bind_ok]
        split
        · split
          · simp only [Res.bind_ok]
            all_goals (split <;> (rename_i hh; simp only [hh]))
          · rfl
        · rfl
      | exc z m1 => rfl
      | bad => rfl
    | exc z m1 => rfl
    | bad => rfl
  rw [e] at q
  have es : (mStr x me).bind (fun d m1 => (n m1).bind fun u m2 => match d, u with
    | .str a, .int q => if 1 ≤ q ∧ q ≤ 1000 ∧ z.length ≤ 10 ∧ a.length ≤ 1000 then (match putE i (.dat (.str (Txt.replace a y (Txt.mul z q)))) m2 with | some m3 => Res.ok Flow.next m3 | none => .bad) else .bad
    | _, _ => .bad) = (mStr x me).bind (fun d m1 => (n m1).bind fun u m2 => match d, u with
    | .str a, .int q => if 1 ≤ q ∧ q ≤ 1000 ∧ z.length ≤ 10 ∧ a.length ≤ 1000 then (match putE i (.dat (.str (Txt.replace a y (Txt.mul z q)))) m2 with | some m3 => Res.ok Flow.next m3 | none => .bad) else .bad
    | _, _ => .bad) := rfl
  show tB X.KK X.mg W x σ H _
  refine SRn.seq (D := D) ok lv (m := x) (k := fun d0 m0 => (match d0 with | .str s => Res.ok (.str s) m0 | _ => .bad : Res PyData).bind (fun d m1 => (n m1).bind fun u m2 => match d, u with
    | .str a, .int q => if 1 ≤ q ∧ q ≤ 1000 ∧ z.length ≤ 10 ∧ a.length ≤ 1000 then (match putE i (.dat (.str (Txt.replace a y (Txt.mul z q)))) m2 with | some m3 => Res.ok Flow.next m3 | none => .bad) else .bad
    | _, _ => .bad)) ?_ fun T1 me1 v1 d1 H1 s1 lv1 p1 q1 => ?_
  · have e2 : mStr x me = (x me).bind fun d0 m0 => (match d0 with | .str s => Res.ok (.str s) m0 | _ => .bad : Res PyData) := rfl
    rw [e2] at q
    have e3 : ∀ (r : Res PyData) (f : PyData → Me → Res PyData) (g : PyData → Me → Res Flow), (r.bind f).bind g = r.bind fun d m => (f d m).bind g := fun r f g => by cases r <;> rfl
    rw [e3] at q
    exact q
  · cases d1 with
    | str s =>
      refine ⟨s, p1.str, ?_⟩
      refine SRn.seq ok lv1 q1 fun T2 me2 v2 d2 H2 s2 lv2 p2 q2 => ?_
      cases d2 with
      | int k =>
        simp only at q2
        split at q2
        · rename_i hk
          refine ⟨k, p2.int, hk.1, hk.2.1, hk.2.2.1, hk.2.2.2, ?_⟩
          cases hp : putE i (.dat (.str (Txt.replace s y (Txt.mul z k)))) me2 with
          | none => rw [hp] at q2; exact q2.elim
          | some m2 =>
            rw [hp] at q2
            exact q2.nx (putE_ok (s := .dat (.str (Txt.replace s y (Txt.mul z k)))) lv2 (show DD X.KK T2 H2 (.str (Txt.replace s y (Txt.mul z k))) (.str (Txt.replace s y (Txt.mul z k))) from DD.str _) hp)
        · exact q2.elim
      | none => exact q2.elim
      | bool b => exact q2.elim
      | str i => exact q2.elim
      | list i => exact q2.elim
      | tuple i => exact q2.elim
      | dict i => exact q2.elim
    | none => exact q1.elim
    | bool b => exact q1.elim
    | int i => exact q1.elim
    | list i => exact q1.elim
    | tuple i => exact q1.elim
    | dict i => exact q1.elim
theorem pp_gD {x : Str} {d : PyData} (hg : Gl X x) (h : ∃ (v : V) (u : Value), X.mg x = some u ∧ RelV v u ∧ ∀ (P : Program) (w : World) (T : Addr → Prop) (H : Hp), DD ⟨X.K, P, w⟩ T H v d) (hd : (x == ("__debug__" : Str)) = false := by decide) : PP X W (.Name x pos) (mC (.dat d)) := by
  obtain ⟨v, u, hm, r, h⟩ := h
  exact pp_glob hg hm r (fun T H => h X.prog X.w T H) hd
/-- x or y, where x is a text -/
def mOrS (x y : M Sl) : M Sl := fun m => (mDat x m).bind fun d m1 => match d with
  | .str s => if s.length ≤ sizeLine then (if s.length = 0 then y m1 else .ok (.dat (.str s)) m1) else .bad
  | _ => .bad
theorem pp_orS {m n : M Sl} (h : PP X W a m) (hb : PP X W (.BoolOp .Or (b :: es) pos) n) : PP X W (.BoolOp .Or (a :: b :: es) pos) (mOrS m n) := by
  refine PE.imp (pe_orT h hb) fun σ H Q q => ?_
  obtain ⟨w, T, me, ok, lv, q⟩ := q
  refine Rn.dat ok lv q fun T1 me1 v d H1 s1 lv1 p1 q1 => ?_
  cases d with
  | str s =>
    cases p1
    simp only at q1
    by_cases hz : s.length ≤ sizeLine
    · rw [if_pos hz] at q1
      by_cases h0 : s.length = 0
      · rw [if_pos h0] at q1
        refine ⟨false, ⟨hz, by rw [h0]; rfl⟩, ?_⟩
        rw [if_neg Bool.false_ne_true]
        exact ⟨w, T1, me1, ok, lv1, q1⟩
      · rw [if_neg h0] at q1
        refine ⟨true, ⟨hz, ?_⟩, ?_⟩
        · have : ((s.length : Int) != 0) = true := by simpa using h0
          rw [this]
        · rw [if_pos rfl]
          exact q1 _ H1 T1 (Stp.refl _ _ _ _ _) lv1 (DD.str s)
    · rw [if_neg hz] at q1; exact q1.elim
  | none => exact q1.elim
  | bool b => exact q1.elim
  | int i => exact q1.elim
  | list i => exact q1.elim
  | tuple i => exact q1.elim
  | dict i => exact q1.elim
end
end PL
namespace PL
open PySem PySem.Spec PyProof.Rows L2
/-! ### an object that is lent: a list of two lists -/
def bpOf (m : Me) (i k : Nat) : Option (List PyData) := match m.env[i]? with
  | some (some (.obj .bp)) => match m.st.b with
    | .pap l r => if k = 0 then some l else if k = 1 then some r else none
    | _ => none
  | _ => none
def bpSet (b : Bx) (k : Nat) (z : List PyData) : Bx := match b with
  | .pap l r => if k = 0 then .pap z r else .pap l z
  | b => b
section
variable {X : Cx} {W : WX} {pos : Pos} {tg a b c e : Expr} {es : List Expr} {rest : List Stmt}
/-- where the k-th list of the pair lies -/
theorem Lv.bp {K : Kx} {mg : Str → Option Value} {w : Wd} {T : Addr → Prop} {σ : L2.St} {H : Hp} {me : Me} {i k : Nat} {l : List PyData} (lv : Lv K mg w T σ H me) (h : bpOf me i k = some l) :
    ∃ (p a c q : Addr) (vs : List V), σ[i]? = some (some (.ref p)) ∧ SqL K H p [.ref a, .ref c] ∧ w.sc.b = some (a, c) ∧ ((k = 0 ∧ q = a) ∨ (k = 1 ∧ q = c)) ∧ H q = some (.lst vs) ∧ DDs K T H vs l := by
  unfold bpOf at h
  split at h
  · rename_i he
    obtain ⟨v, ev, a, c, p, e, rfl, q⟩ := lv.slot i _ he
    obtain ⟨_, _, _, hb⟩ := lv.src.b.at_ a c e
    split at h
    · rename_i l0 r0 hst
      rw [hst] at hb
      obtain ⟨⟨vs, h1, h2⟩, us, h3, h4⟩ := hb
      split at h
      · rename_i hk
        cases h
        exact ⟨p, a, c, a, vs, ev, q.sq, e, .inl ⟨hk, rfl⟩, h1, h2⟩
      · split at h
        · rename_i hk
          cases h
          exact ⟨p, a, c, c, us, ev, q.sq, e, .inr ⟨hk, rfl⟩, h3, h4⟩
        · cases h
    · cases h
  · cases h
def tBk (K : PySem.W.Frag) (i k : Nat) : TE := fun σ H Q => ∃ p a c, σ[i]? = some (some (.ref p)) ∧ SqL K H p [.ref a, .ref c] ∧ ((k = 0 ∧ Q (.ref a) H) ∨ (k = 1 ∧ Q (.ref c) H))
theorem pe_bk {i k j : Nat} {x : Str} {p1 c1 : Pos} (hN : X.N[i]? = some x := by rfl) (hv : Vis X.env.scope x := by first | exact Or.inl rfl | exact Or.inr (Or.inl rfl) | exact Or.inr (Or.inr rfl)) (hd : (x == ("__debug__" : Str)) = false := by decide)
    (hcd : (x == ("__classdict__" : Str)) = false := by decide) : PE X (.Subscript (.Name x p1) (.Constant (.int (k : Nat)) j c1) pos) (tBk X.K i k) := by
  refine PE.imp (pe_ix (ix_list (X := X)) (pe_var hN hv hd hcd) pe_int fun _ _ => rfl) fun σ H Q q => ?_
  obtain ⟨p, a, c, ev, sq, q⟩ := q
  refine ⟨.ref p, ev, p, [.ref a, .ref c], (k : Int), ?_⟩
  rcases q with ⟨hk, q⟩ | ⟨hk, q⟩
  · exact ⟨.ref a, rfl, rfl, sq, by rw [hk]; rfl, q⟩
  · exact ⟨.ref c, rfl, rfl, sq, by rw [hk]; rfl, q⟩
theorem Lv.tBk {K : Kx} {mg : Str → Option Value} {w : Wd} {T : Addr → Prop} {σ : L2.St} {H : Hp} {me : Me} {i k : Nat} {l : List PyData} {Q : VK} (lv : Lv K mg w T σ H me) (h : bpOf me i k = some l) (q : ∀ (q : Addr) (vs : List V), H q = some (.lst vs) → DDs K T H vs l → Q (.ref q) H) : PL.tBk K i k σ H Q := by
  obtain ⟨p, a, c, r, vs, ev, sq, _, hk, hr, dd⟩ := lv.bp h
  refine ⟨p, a, c, ev, sq, ?_⟩
  rcases hk with ⟨hk, rfl⟩ | ⟨hk, rfl⟩
  · exact .inl ⟨hk, q _ vs hr dd⟩
  · exact .inr ⟨hk, q _ vs hr dd⟩
theorem noIn (p : Addr) : ¬ InS Sc.no p := fun z => by
  rcases z with ⟨_, _, e, _⟩ | ⟨_, _, e, _⟩ <;> cases e
/-- l[k] == [] -/
def mBkEmp (i k : Nat) : M Sl := fun m => match bpOf m i k with
  | some l => (match pEq (.list l) (.list []) with | some z => .ok (.dat z) m | none => .bad)
  | none => .bad
theorem bkEmp_ok {i k : Nat} {σ : L2.St} {H : Hp} {Q : VK} (q : tP X.KK X.mg W (mBkEmp i k) σ H Q) : tOp (rEqP X.KK) (tBk X.K i k) (tLst tNil) σ H Q := by
  obtain ⟨w, T, me, ok, lv, q⟩ := q
  unfold mBkEmp at q
  cases hl : bpOf me i k with
  | none => rw [hl] at q; exact q.elim
  | some l =>
    rw [hl] at q
    simp only at q
    cases hz : pEq (.list l) (.list []) with
    | none => rw [hz] at q; exact q.elim
    | some z =>
      rw [hz] at q
      refine lv.tBk hl fun r vs hr dd => ⟨by simp, fun p hp => ?_⟩
      have sm := Same0.new (o := HO.lst []) hp
      have al' : ∀ b, T b → L2.upd H p (.lst []) b ≠ none := fun b hb => (lv.same sm).al b hb
      exact ok_eq Sc.no T (L2.upd H p (.lst [])) (.ref r) (.ref p) (.list l) (.list []) z Q al' (.inr ⟨r, _, rfl, sm _ _ hr, noIn _, _, rfl, dd.to sm.fr⟩) (.inr ⟨p, _, rfl, upd_same, noIn _, _, rfl, .nil⟩) hz fun v H' sm2 dv => q v H' T (Stp.same (fun b o h => sm2 b o (sm b o h))) (lv.same fun b o h => sm2 b o (sm b o h)) dv
theorem pp_bkEmp {i k j : Nat} {x : Str} {p1 p2 c1 p3 : Pos} (hu : X.A.units + 65 < cLine) (hN : X.N[i]? = some x := by rfl) (hv : Vis X.env.scope x := by first | exact Or.inl rfl | exact Or.inr (Or.inl rfl) | exact Or.inr (Or.inr rfl)) (hd : (x == ("__debug__" : Str)) = false := by decide)
    (hcd : (x == ("__classdict__" : Str)) = false := by decide) : PP X W (.Compare (.Subscript (.Name x p1) (.Constant (.int (k : Nat)) j c1) p2) [.Eq] [.List [] p3] pos) (mBkEmp i k) := by
  refine PE.imp (pe_cmpR (op_eqP (X := X) (by omega)) (pe_bk (i := i) hN hv hd hcd) (pe_lst pa_nil) (nomark _)) fun _ _ _ q => bkEmp_ok q
theorem ppt_bkEmp {i k j : Nat} {x : Str} {p1 p2 c1 p3 : Pos} (hu : X.A.units + 65 < cLine) (hN : X.N[i]? = some x := by rfl) (hv : Vis X.env.scope x := by first | exact Or.inl rfl | exact Or.inr (Or.inl rfl) | exact Or.inr (Or.inr rfl)) (hd : (x == ("__debug__" : Str)) = false := by decide)
    (hcd : (x == ("__classdict__" : Str)) = false := by decide) : PPt X W (.Compare (.Subscript (.Name x p1) (.Constant (.int (k : Nat)) j c1) p2) [.Eq] [.List [] p3] pos) (mTest (mBkEmp i k)) := by
  refine PT.imp (pt_cmpR (op_eqP (X := X) (by omega)) (pe_bk (i := i) hN hv hd hcd) (pe_lst pa_nil) (nomark _)) fun _ _ _ q => bkEmp_ok (test_of q)
/-- len(l[k]) -/
def mBkLen (i k : Nat) : M Sl := fun m => match bpOf m i k with
  | some l => .ok (.dat (.int l.length)) m
  | none => .bad
theorem pp_bkLen {i k j : Nat} {x : Str} {p0 p1 p2 c1 : Pos} (hg : Gl X "len") (hm : X.mg "len" = none) (hN : X.N[i]? = some x := by rfl) (hv : Vis X.env.scope x := by first | exact Or.inl rfl | exact Or.inr (Or.inl rfl) | exact Or.inr (Or.inr rfl)) (hd : (x == ("__debug__" : Str)) = false := by decide)
    (hcd : (x == ("__classdict__" : Str)) = false := by decide) (he : starEach [.Subscript (.Name x p1) (.Constant (.int (k : Nat)) j c1) p2] X.env = (false, eval (.Subscript (.Name x p1) (.Constant (.int (k : Nat)) j c1) p2) X.env) :: starEach [] X.env := by rfl) (hpl : (backTo pos (starEach [] X.env)).any (·.1) = false := by rfl) :
    PP X W (.Call (.Name "len" p0) [.Subscript (.Name x p1) (.Constant (.int (k : Nat)) j c1) p2] [] pos) (mBkLen i k) := by
  refine PE.imp (pe_callB call_len_seq hg hm PySem.boot_len (pa_cons (pe_bk (i := i) hN hv hd hcd) pa_nil he) (by decide) (by decide) he hpl) fun σ H Q q => ?_
  obtain ⟨w, T, me, ok, lv, q⟩ := q
  unfold mBkLen at q
  cases hl : bpOf me i k with
  | none => rw [hl] at q; exact q.elim
  | some l =>
    rw [hl] at q
    show tCons (PL.tBk X.K i k) tNil σ H _
    show PL.tBk X.K i k σ H _
    refine lv.tBk hl fun r vs hr dd => ?_
    show ∃ p ys, _
    refine ⟨r, vs, rfl, .inl (.inl (.inl hr)), ?_⟩
    rw [dd.length]
    exact q _ H T (Stp.refl _ _ _ _ _) lv (DD.int _)
/-- tuple(l[k]) -/
def mBkTup (i k : Nat) : M Sl := fun m => match bpOf m i k with
  | some l => if l.length ≤ sizeLine then .ok (.dat (.tuple l)) m else .bad
  | none => .bad
theorem pp_bkTup {i k j : Nat} {x : Str} {p0 p1 p2 c1 : Pos} (hg : Gl X "tuple") (hm : X.mg "tuple" = none) (hN : X.N[i]? = some x := by rfl) (hv : Vis X.env.scope x := by first | exact Or.inl rfl | exact Or.inr (Or.inl rfl) | exact Or.inr (Or.inr rfl)) (hd : (x == ("__debug__" : Str)) = false := by decide)
    (hcd : (x == ("__classdict__" : Str)) = false := by decide) (he : starEach [.Subscript (.Name x p1) (.Constant (.int (k : Nat)) j c1) p2] X.env = (false, eval (.Subscript (.Name x p1) (.Constant (.int (k : Nat)) j c1) p2) X.env) :: starEach [] X.env := by rfl) (hpl : (backTo pos (starEach [] X.env)).any (·.1) = false := by rfl) :
    PP X W (.Call (.Name "tuple" p0) [.Subscript (.Name x p1) (.Constant (.int (k : Nat)) j c1) p2] [] pos) (mBkTup i k) := by
  refine PE.imp (pe_callTy call_tuple_of hg hm boot_tuple (pa_cons (pe_bk (i := i) hN hv hd hcd) pa_nil he) (by decide) (by decide) he hpl) fun σ H Q q => ?_
  obtain ⟨w, T, me, ok, lv, q⟩ := q
  unfold mBkTup at q
  cases hl : bpOf me i k with
  | none => rw [hl] at q; exact q.elim
  | some l =>
    rw [hl] at q
    simp only at q
    split at q
    · show tCons (PL.tBk X.K i k) tNil σ H _
      show PL.tBk X.K i k σ H _
      refine lv.tBk hl fun r vs hr dd => ?_
      show ∃ p ys, _
      refine ⟨r, vs, rfl, .inl ⟨.inl (.inl hr), fun p hp => ?_⟩⟩
      exact q (.ref p) _ T (Stp.same (Same0.new hp)) (lv.same (Same0.new hp)) (DD.newT lv.al hp dd)
    · exact q.elim
/-- l[k][j] -/
def mBkIt (i k j : Nat) : M Sl := fun m => match bpOf m i k with
  | some l => (match l[j]? with | some d => .ok (.dat d) m | none => .bad)
  | none => .bad
theorem pp_bkIt {i k j n n2 : Nat} {x : Str} {p1 p2 c1 c2 : Pos} (hN : X.N[i]? = some x := by rfl) (hv : Vis X.env.scope x := by first | exact Or.inl rfl | exact Or.inr (Or.inl rfl) | exact Or.inr (Or.inr rfl)) (hd : (x == ("__debug__" : Str)) = false := by decide)
    (hcd : (x == ("__classdict__" : Str)) = false := by decide) : PP X W (.Subscript (.Subscript (.Name x p1) (.Constant (.int (k : Nat)) n c1) p2) (.Constant (.int (j : Nat)) n2 c2) pos) (mBkIt i k j) := by
  refine PE.imp (pe_ix (ix_list (X := X)) (pe_bk (i := i) hN hv hd hcd) pe_int fun _ _ => rfl) fun σ H Q q => ?_
  obtain ⟨w, T, me, ok, lv, q⟩ := q
  unfold mBkIt at q
  cases hl : bpOf me i k with
  | none => rw [hl] at q; exact q.elim
  | some l =>
    rw [hl] at q
    simp only at q
    cases hj : l[j]? with
    | none => rw [hj] at q; exact q.elim
    | some d =>
      rw [hj] at q
      refine lv.tBk hl fun r vs hr dd => ?_
      obtain ⟨v, hv', dv⟩ := dd.get hj
      exact ⟨r, vs, (j : Int), v, rfl, rfl, .inl (.inl hr), atI_nat hv', q v H T (Stp.refl _ _ _ _ _) lv dv⟩
/-! l[k].append(x) -/
def mBkApp (i k : Nat) (e : M Sl) : M Flow := fun m => match bpOf m i k with
  | some _ => (mDat e m).bind fun d m1 => match bpOf m1 i k with
    | some l => if l.length < sizeLine then .ok .next ⟨m1.env, { m1.st with b := bpSet m1.st.b k (l ++ [d]) }⟩ else .bad
    | none => .bad
  | none => .bad
theorem InP.uniq {o : Option (Addr × Addr)} {a c x : Addr} (e : o = some (a, c)) (h : InP o x) : x = a ∨ x = c := by
  obtain ⟨a', c', e', h⟩ := h
  rw [e] at e'; cases e'; exact h
/-- the k-th list of the pair has become another one -/
theorem Lv.bpMut {K : Kx} {mg : Str → Option Value} {w : Wd} {T : Addr → Prop} {σ : L2.St} {H : Hp} {me : Me} {i k : Nat} {l l' : List PyData} {q : Addr} {vs' : List V} {a c : Addr} (ok : w.Ok) (lv : Lv K mg w T σ H me) (h : bpOf me i k = some l) (e : w.sc.b = some (a, c)) (hk : (k = 0 ∧ q = a) ∨ (k = 1 ∧ q = c))
    (dd : DDs K T H vs' l') : Lv K mg w T σ (upd H q (.lst vs')) ⟨me.env, { me.st with b := bpSet me.st.b k l' }⟩ := by
  have inq : InS w.sc q := .inr ⟨a, c, e, by rcases hk with ⟨_, z⟩ | ⟨_, z⟩ <;> simp [z]⟩
  have tq : T q := lv.t0 q (ok.s0 q inq)
  have fr : Fr T H T (upd H q (.lst vs')) := frU tq
  obtain ⟨n, n1, n2, hb⟩ := lv.src.b.at_ a c e
  have hbx : ∃ l0 r0, me.st.b = .pap l0 r0 := by
    unfold bpOf at h
    split at h
    · split at h
      · rename_i l0 r0 hst; exact ⟨l0, r0, hst⟩
      · cases h
    · cases h
  obtain ⟨l0, r0, hst⟩ := hbx
  rw [hst] at hb
  obtain ⟨⟨va, ha, da⟩, vc, hc, dc⟩ := hb
  refine ⟨lv.t0, fun b hb => ?_, fun b u nb z => ?_, ⟨fun a' c' e' => ?_, (fun e' => by rw [e] at e'; cases e'), fun a' c' e' => ?_⟩, lv.len, fun j s hj => (lv.slot j s hj).fr fr fun p u l2 es ep hp tp => ⟨tp, ?_⟩, lv.sep⟩
  · by_cases hbq : b = q
    · subst hbq; rw [upd_same]; exact nofun
    · rw [upd_ne hbq]; exact lv.al b hb
  · rw [upd_ne (fun (z2 : b = q) => nb (z2 ▸ inq))]
    exact lv.ex b u nb z
  · obtain ⟨m, g1, g2⟩ := lv.src.d a' c' e'
    have nq : ¬ InP w.sc.s q := by rcases hk with ⟨_, z⟩ | ⟨_, z⟩ <;> rw [z] <;> assumption
    exact ⟨m, by rw [upd_ne (fun z => nq ⟨a', c', e', .inl z.symm⟩)]; exact g1, by rw [upd_ne (fun z => nq ⟨a', c', e', .inr z.symm⟩)]; exact g2⟩
  · rw [e] at e'; cases e'
    refine ⟨n, n1, n2, ?_⟩
    show BxIn K T _ a c (bpSet me.st.b k l')
    rw [hst]
    rcases hk with ⟨rfl, rfl⟩ | ⟨rfl, rfl⟩
    · exact ⟨⟨vs', upd_same, dd.to fr⟩, vc, by rw [upd_ne (Ne.symm n)]; exact hc, dc.to fr⟩
    · exact ⟨⟨va, by rw [upd_ne n]; exact ha, da.to fr⟩, vs', upd_same, dd.to fr⟩
  · subst es
    obtain ⟨p', _, e1, _, h0, _, _⟩ := lv.slot j _ hj
    rw [ep] at e1; cases e1
    rw [upd_ne (fun (z : p = q) => ok.al q (ok.s0 q inq) (z ▸ h0))]
    exact hp
theorem bpOf_k {m : Me} {i k : Nat} {l : List PyData} (h : bpOf m i k = some l) : k = 0 ∨ k = 1 := by
  unfold bpOf at h
  split at h
  · split at h
    · split at h
      · exact .inl ‹_›
      · split at h
        · exact .inr ‹_›
        · cases h
    · cases h
  · cases h
theorem pps_bkApp {i k j : Nat} {x : Str} {m : M Sl} {p0 p1 p2 p3 c1 : Pos} (he : PP X W e m) (hN : X.N[i]? = some x := by rfl) (hv : Vis X.env.scope x := by first | exact Or.inl rfl | exact Or.inr (Or.inl rfl) | exact Or.inr (Or.inr rfl)) (hd : (x == ("__debug__" : Str)) = false := by decide) (hcd : (x == ("__classdict__" : Str)) = false := by decide)
    (hbase : attributeBase (.Subscript (.Name x p0) (.Constant (.int (k : Nat)) j c1) p1) "append" X.env (eval (.Subscript (.Name x p0) (.Constant (.int (k : Nat)) j c1) p1) X.env) = eval (.Subscript (.Name x p0) (.Constant (.int (k : Nat)) j c1) p1) X.env := by rfl)
    (hfew : ((backTo p3 (starEach [e] X.env)).all (fun x => !x.1) && (backToKw p3 (keywordEach [] X.env)).all (fun x => x.1.isSome) && decide ([e].length + ([] : List Keyword).length + (if ([] : List Keyword).isEmpty then 0 else 1) < 30)) = true := by rfl)
    (hline : (p2.endLine == p3.line) = true := by rfl) (hs : starEach [e] X.env = (false, eval e X.env) :: starEach [] X.env := by rfl) (hpl : (backTo p3 (starEach [] X.env)).any (·.1) = false := by rfl)
    (hs2 : swapsWith (.Call (.Attribute (.Subscript (.Name x p0) (.Constant (.int (k : Nat)) j c1) p1) "append" p2) [e] [] p3) none pos.line X.env = pure false := by rfl) :
    PPS X W (.Expr (.Call (.Attribute (.Subscript (.Name x p0) (.Constant (.int (k : Nat)) j c1) p1) "append" p2) [e] [] p3) pos) (mBkApp i k m) := by
  refine PS.imp (ps_expr (pe_bm PySem.F.plainAttrs_list PySem.F.slot_list_append PySem.F.type_list_append mt_append (pe_bk (i := i) hN hv hd hcd) (pa_cons he pa_nil hs) hbase hfew hline hs hpl) hs2) fun D σ H q => ?_
  obtain ⟨w, T, me, ok, lv, q⟩ := q
  unfold mBkApp at q
  cases hl : bpOf me i k with
  | none => rw [hl] at q; exact q.elim
  | some l0 =>
    rw [hl] at q
    simp only at q
    obtain ⟨p, a, c, r, vs0, ev, sq, eb, hk, hr, _⟩ := lv.bp hl
    refine ⟨p, a, c, ev, sq, ?_⟩
    have key : ∀ r, ((k = 0 ∧ r = a) ∨ (k = 1 ∧ r = c)) → (∃ vs0, H r = some (.lst vs0)) → tyV X.K "list" (.ref r) H ∧ tCons (tP X.KK X.mg W m) tNil σ H fun xs H2 => rAppend (.ref r) xs H2 fun _ H3 => D.nx σ H3 := fun r hk hr0 => by
      obtain ⟨vs0, hr0⟩ := hr0
      refine ⟨.inl ⟨rfl, vs0, .inl (.inl hr0)⟩, ?_⟩
      show tP X.KK X.mg W m σ H _
      refine ⟨w, T, me, ok, lv, ?_⟩
      unfold mDat at q
      cases hm : m me with
      | bad => rw [hm] at q; exact q
      | exc z me1 =>
        rw [hm] at q
        exact fun cl dd H' T' fr lv' xr => q cl dd σ H' T' fr lv' xr
      | ok s me1 =>
        rw [hm] at q
        simp only [Res.bind_ok] at q
        intro v H1 T1 s1 lv1 p1
        cases s with
        | own l => exact q.elim
        | src => exact q.elim
        | exc x => exact q.elim
        | obj x => exact q.elim
        | dat d =>
          simp only [Res.bind_ok] at q
          cases hl1 : bpOf me1 i k with
          | none => rw [hl1] at q; exact q.elim
          | some l =>
            rw [hl1] at q
            simp only at q
            split at q
            · rename_i hlen
              obtain ⟨p', a', c', r', vs, ev', sq', eb', hk', hr', dd⟩ := lv1.bp hl1
              rw [eb] at eb'; cases eb'
              have er : r' = r := by rcases hk with ⟨k0, rfl⟩ | ⟨k0, rfl⟩ <;> rcases hk' with ⟨k1, rfl⟩ | ⟨k1, rfl⟩ <;> first | rfl | omega
              subst er
              refine ⟨r', vs, v, rfl, rfl, hr', by rw [dd.length]; exact hlen, ?_⟩
              have lv2 := lv1.bpMut ok hl1 eb hk (DDs.append (DDs.cons p1 .nil) dd)
              have inq : InS w.sc r' := .inr ⟨a, c, eb, by rcases hk with ⟨_, z⟩ | ⟨_, z⟩ <;> simp [z]⟩
              exact q σ _ T1 ((s1.fr ok lv.t0).trans (frU (lv1.t0 _ (ok.s0 _ inq)))) lv2
            · exact q.elim
    rcases hk with ⟨hk, rfl⟩ | ⟨hk, rfl⟩
    · exact .inl ⟨hk, key _ (.inl ⟨hk, rfl⟩) ⟨_, hr⟩⟩
    · exact .inr ⟨hk, key _ (.inr ⟨hk, rfl⟩) ⟨_, hr⟩⟩
end
end PL
namespace PL
open PySem PySem.Spec PyProof.Rows L2
/-! ### an object of one's own, lent to what is called: from a statement on to the suite's end -/
def wipeO : Option Sl → Option Sl
  | some (.obj .bx) => none
  | some (.obj .bp) => none
  | s => s
def unbox (m : Me) : Me := ⟨m.env.map wipeO, { m.st with b := .no }⟩
def noBx : Sl → Bool
  | .obj .bx => false
  | .obj .bp => false
  | _ => true
def boxR (r : Res Flow) : Res Flow := match r with
  | .ok .next m' => .ok .next (unbox m')
  | .ok .brk m' => .ok .brk (unbox m')
  | .ok .cont m' => .ok .cont (unbox m')
  | .ok (.ret s) m' => if noBx s = true then .ok (.ret s) (unbox m') else .bad
  | .exc x m' => .exc x (unbox m')
  | .bad => .bad
def isNo : Bx → Bool
  | .no => true
  | _ => false
theorem isNo_eq {b : Bx} (h : isNo b = true) : b = .no := by
  cases b with
  | no => rfl
  | pap l m => cases h
  | dsk l n => cases h
def mBox (b0 : Bx) (k : Ob) (i : Nat) (n : M Flow) : M Flow := fun m => if isNo m.st.b = true ∧ i < m.env.length then boxR (n ⟨m.env.set i (some (.obj k)), { m.st with b := b0 }⟩) else .bad
theorem wipeO_get {env : List (Option Sl)} {i : Nat} {s : Sl} (h : (env.map wipeO)[i]? = some (some s)) : env[i]? = some (some s) ∧ noBx s = true := by
  rw [List.getElem?_map] at h
  cases he : env[i]? with
  | none => rw [he] at h; cases h
  | some o =>
    rw [he] at h
    have h : wipeO o = some s := Option.some.inj h
    cases o with
    | none => cases h
    | some z =>
      cases z with
      | dat d => cases h; exact ⟨rfl, rfl⟩
      | own d => cases h; exact ⟨rfl, rfl⟩
      | src => cases h; exact ⟨rfl, rfl⟩
      | exc x => cases h; exact ⟨rfl, rfl⟩
      | obj k =>
        cases k with
        | xs l => cases h; exact ⟨rfl, rfl⟩
        | bx => cases h
        | bp => cases h
/-- the world with what is lent -/
def Wd.box (w : Wd) (a c : Addr) (oa oc : HO) : Wd := ⟨⟨w.sc.s, some (a, c)⟩, upd (upd w.H0 a oa) c oc, fun b => w.T0 b ∨ b = a ∨ b = c⟩
section
variable {K : Kx} {mg : Str → Option Value} {W : WX} {w : Wd} {T : Addr → Prop} {σ : L2.St} {H : Hp} {me : Me} {D : Ends} {a c : Addr} {oa oc : HO} {i : Nat} {b0 : Bx} {k : Ob} {n : M Flow} {v : V}
theorem box_h0 (ha : w.H0 a = none) (hc : w.H0 c = none) {b : Addr} {o : HO} (h : w.H0 b = some o) : (w.box a c oa oc).H0 b = some o := by
  show upd (upd w.H0 a oa) c oc b = some o
  rw [upd_ne (fun z => by subst z; rw [hc] at h; cases h), upd_ne (fun z => by subst z; rw [ha] at h; cases h)]
  exact h
theorem box_n0 (ha : w.H0 a = none) (hc : w.H0 c = none) {b : Addr} (h : (w.box a c oa oc).H0 b = none) : w.H0 b = none := by
  cases e : w.H0 b with
  | none => rfl
  | some o => rw [box_h0 ha hc e] at h; cases h
theorem box_sv (hs : w.sc.b = none) {H : Hp} {s : Sl} (hn : noBx s = true) (h : SV K mg (w.box a c oa oc).sc T H v s) : SV K mg w.sc T H v s := by
  cases s with
  | dat d => exact h
  | own d => exact h
  | src => exact h
  | exc x => exact h
  | obj k =>
    cases k with
    | xs l => exact h
    | bx => cases hn
    | bp => cases hn
theorem box_ex (ha : w.H0 a = none) (hc : w.H0 c = none) (hs : w.sc.b = none) {H : Hp} (h : Ex (w.box a c oa oc).sc (w.box a c oa oc).H0 H) : Ex w.sc w.H0 H := fun b o n e => h b o (fun z => by
  rcases z with z | z
  · exact n (.inl z)
  · rcases z.uniq rfl with z | z
    · subst z; rw [ha] at e; cases e
    · subst z; rw [hc] at e; cases e) (box_h0 ha hc e)
theorem box_src (hs : w.sc.b = none) {H : Hp} {st : SrcSt} (h : SrcAt K T (w.box a c oa oc).sc H st) : SrcAt K T w.sc H { st with b := .no } :=
  ⟨fun x y e => h.d x y e, fun _ => rfl, fun x y e => by rw [hs] at e; cases e⟩
theorem box_back (ha : w.H0 a = none) (hc : w.H0 c = none) (hs : w.sc.b = none) (lv : Lv K mg (w.box a c oa oc) T σ H me) : Lv K mg w T σ H (unbox me) := by
  refine ⟨fun b h => lv.t0 b (.inl h), lv.al, box_ex ha hc hs lv.ex, box_src hs lv.src, by show σ.length = (me.env.map wipeO).length; rw [List.length_map]; exact lv.len, fun j s hj => ?_, fun j l l1 l2 p h1 h2 e1 e2 => lv.sep j l l1 l2 p (wipeO_get h1).1 (wipeO_get h2).1 e1 e2⟩
  obtain ⟨h1, h2⟩ := wipeO_get hj
  have q := lv.slot j s h1
  cases s with
  | own d =>
    obtain ⟨p, u, e, tp, h0, hp, hd⟩ := q
    exact ⟨p, u, e, tp, box_n0 ha hc h0, hp, hd⟩
  | dat d => exact q
  | src => exact q
  | exc x => exact q
  | obj k =>
    obtain ⟨v, e, q⟩ := q
    exact ⟨v, e, box_sv hs h2 q⟩
theorem Lv.noB (lv : Lv K mg w T σ H me) (hb : me.st.b = .no) : w.sc.b = none := by
  cases e : w.sc.b with
  | none => rfl
  | some p =>
    obtain ⟨x, y⟩ := p
    obtain ⟨_, _, _, q⟩ := lv.src.b.at_ x y e
    rw [hb] at q
    exact q.elim
theorem box_enter (ok : w.Ok) (lv : Lv K mg w T σ H me) (nac : a ≠ c) (ha : H a = none) (hc : H c = none) {H3 : Hp} (sm : Same0 H H3) (hbx : BxIn K (fun b => T b ∨ b = a ∨ b = c) H3 a c b0) (hv : OV K mg ⟨w.sc.s, some (a, c)⟩ (fun b => T b ∨ b = a ∨ b = c) H3 v k) (q : SRn K mg W D w T H (mBox b0 k i n me)) : tS K mg W n D (σ.set i (some v)) H3 := by
  unfold mBox at q
  by_cases hg : isNo me.st.b = true ∧ i < me.env.length
  · rw [if_pos hg] at q
    obtain ⟨hb, hi⟩ := hg
    have hb := isNo_eq hb
    have hs := lv.noB hb
    obtain ⟨fa0, fa1, fa2⟩ := lv.fresh ok ha
    obtain ⟨fc0, fc1, fc2⟩ := lv.fresh ok hc
    have frT : Fr T H (fun b => T b ∨ b = a ∨ b = c) H3 := fun b o nb h => ⟨sm b o h, fun z => by
      rcases z with z | z | z
      · exact nb z
      · subst z; rw [ha] at h; cases h
      · subst z; rw [hc] at h; cases h⟩
    have hi' : i < σ.length := by rw [lv.len]; exact hi
    have lv0 : Lv K mg (w.box a c (.lst []) (.lst [])) (fun b => T b ∨ b = a ∨ b = c) (σ.set i (some v)) H3 ⟨me.env.set i (some (.obj k)), { me.st with b := b0 }⟩ := by
      refine ⟨fun b z => z.imp_left (lv.t0 b), fun b z => ?_, fun b o nb e => ?_, ⟨fun x y e => ?_, (fun e => nomatch e), fun x y e => ?_⟩, by rw [List.length_set, List.length_set]; exact lv.len, fun j s hj => ?_, fun j l l1 l2 p h1 h2 e1 e2 => ?_⟩
      · rcases z with z | z | z
        · cases e : H b with
          | none => exact absurd e (lv.al b z)
          | some o => rw [sm b o e]; exact nofun
        · subst z; exact hbx.al.1
        · subst z; exact hbx.al.2
      · have na : b ≠ a := fun z => nb (.inr ⟨a, c, rfl, .inl z⟩)
        have nc : b ≠ c := fun z => nb (.inr ⟨a, c, rfl, .inr z⟩)
        have e : upd (upd w.H0 a (.lst [])) c (.lst []) b = some o := e
        rw [upd_ne nc, upd_ne na] at e
        refine sm b o (lv.ex b o (fun z => ?_) e)
        rcases z with z | ⟨_, _, z, _⟩
        · exact nb (.inl z)
        · rw [hs] at z; cases z
      · obtain ⟨m, g1, g2⟩ := lv.src.d x y e
        exact ⟨m, sm _ _ g1, sm _ _ g2⟩
      · cases e
        exact ⟨nac, fun z => lv.src.al (.inl z) ha, fun z => lv.src.al (.inl z) hc, hbx⟩
      · by_cases hji : j = i
        · subst hji
          rw [List.getElem?_set_self hi] at hj
          cases hj
          rw [List.getElem?_set_self hi']
          exact ⟨v, rfl, hv⟩
        · rw [List.getElem?_set_ne (Ne.symm hji)] at hj ⊢
          have z := (lv.slot j s hj).fr frT fun p u l _ _ hp tp => ⟨.inl tp, sm _ _ hp⟩
          cases s with
          | own d =>
            obtain ⟨p, u, e, tp, h0, hp, hd⟩ := z
            obtain ⟨p', u', e', tp', h0', hp', hd'⟩ := lv.slot j _ hj
            rw [e] at e'; cases e'
            refine ⟨p, u, e, tp, ?_, hp, hd⟩
            show upd (upd w.H0 a (.lst [])) c (.lst []) p = none
            rw [upd_ne (fun z => by subst z; rw [hc] at hp'; cases hp'), upd_ne (fun z => by subst z; rw [ha] at hp'; cases hp')]
            exact h0
          | dat d => exact z
          | src => exact z
          | exc x => exact z
          | obj o =>
            obtain ⟨u, e, z⟩ := z
            refine ⟨u, e, ?_⟩
            cases o with
            | xs l => exact z
            | bx => obtain ⟨x, y, z, _⟩ := z; rw [hs] at z; cases z
            | bp => obtain ⟨x, y, _, z, _⟩ := z; rw [hs] at z; cases z
      · have g : ∀ (j : Nat) (l' : PyData), (me.env.set i (some (Sl.obj k)))[j]? = some (some (Sl.own l')) → j ≠ i ∧ me.env[j]? = some (some (Sl.own l')) := fun j l' hj => by
          by_cases hji : j = i
          · subst hji; rw [List.getElem?_set_self hi] at hj
            cases hj
          · rw [List.getElem?_set_ne (Ne.symm hji)] at hj
            exact ⟨hji, hj⟩
        obtain ⟨n1, g1⟩ := g j l1 h1
        obtain ⟨n2, g2⟩ := g l l2 h2
        rw [List.getElem?_set_ne (Ne.symm n1)] at e1
        rw [List.getElem?_set_ne (Ne.symm n2)] at e2
        exact lv.sep j l l1 l2 p g1 g2 e1 e2
    have ok' : (w.box a c (.lst []) (.lst [])).Ok := by
      refine ⟨fun b z => ?_, fun b z => ?_⟩
      · rcases z with z | z
        · exact .inl (ok.s0 b (.inl z))
        · exact .inr (z.uniq rfl)
      · show upd (upd w.H0 a (.lst [])) c (.lst []) b ≠ none
        by_cases hbc : b = c
        · subst hbc; rw [upd_same]; exact nofun
        · rw [upd_ne hbc]
          by_cases hba : b = a
          · subst hba; rw [upd_same]; exact nofun
          · rw [upd_ne hba]
            rcases z with z | z | z
            · exact ok.al b z
            · exact absurd z hba
            · exact absurd z hbc
    refine ⟨w.box a c (.lst []) (.lst []), fun b => T b ∨ b = a ∨ b = c, _, ok', lv0, ?_⟩
    cases hn : n ⟨me.env.set i (some (.obj k)), { me.st with b := b0 }⟩ with
    | bad => rw [hn] at q; exact q
    | exc x m' =>
      rw [hn] at q
      exact fun cl dd σ' H' T' fr lv' xr => q cl dd σ' H' T' (frT.trans fr) (box_back fa0 fc0 hs lv') xr
    | ok fl m' =>
      rw [hn] at q
      cases fl with
      | next => exact fun σ' H' T' fr lv' => q σ' H' T' (frT.trans fr) (box_back fa0 fc0 hs lv')
      | brk => exact fun σ' H' T' fr lv' => q σ' H' T' (frT.trans fr) (box_back fa0 fc0 hs lv')
      | cont => exact fun σ' H' T' fr lv' => q σ' H' T' (frT.trans fr) (box_back fa0 fc0 hs lv')
      | ret s =>
        have q : SRn K mg W D w T H (if noBx s = true then .ok (.ret s) (unbox m') else .bad) := q
        by_cases hx : noBx s = true
        · rw [if_pos hx] at q
          intro v H' ex sr rv
          refine q v H' (box_ex fa0 fc0 hs ex) (box_src hs (sr.weak fun b z => ?_)) ?_
          · exact retT_mono (fun b z => .inl z) z
          · cases s with
            | own d =>
              obtain ⟨p, o, e, hp, hp', hd⟩ := rv
              exact ⟨p, o, e, box_n0 fa0 fc0 hp, hp', hd.fr (Fr.weak fun b z => z.imp_left .inl)⟩
            | dat d => exact DD.to rv (Fr.weak fun b z => .inl z)
            | src => exact rv
            | exc x => exact XV.fr (Fr.weak fun b z => .inl z) rv
            | obj o => exact SV.fr (s := .obj o) (Fr.weak fun b z => .inl z) (box_sv hs hx rv)
        · rw [if_neg hx] at q
          exact q.elim
  · rw [if_neg hg] at q
    exact q.elim
end
section
variable {X : Cx} {W : WX} {pos : Pos} {rest : List Stmt}
/-- x = [[], []]; then the rest of the suite -/
theorem pss_newBp {i : Nat} {x : Str} {n : M Flow} {p1 p2 p3 p4 : Pos} (hN : X.N.Nodup) (hr : PPSs X W rest n) (hi : X.N[i]? = some x := by rfl) (hx : Loc X.env.scope x := by first | exact .inl rfl | exact .inr rfl)
    (hs : swapsWith (.List [.List [] p2, .List [] p3] p4) (some (.Name x p1)) pos.line X.env = pure false := by rfl) (hf : X.fn x = true ∨ X.env.scope.names.lookup x = some .local := by first | exact .inl rfl | exact .inr rfl)
    (h1 : starEach [.List [] p2, .List [] p3] X.env = (false, eval (.List [] p2) X.env) :: starEach [.List [] p3] X.env := by rfl) (h2 : starEach [.List [] p3] X.env = (false, eval (.List [] p3) X.env) :: starEach [] X.env := by rfl) :
    PPSs X W (.Assign [.Name x p1] (.List [.List [] p2, .List [] p3] p4) pos :: rest) (mBox (.pap [] []) .bp i n) := by
  refine PSs.imp (pss_cons (ps_set hN hi hx (pe_lst (pa_cons (pe_lst pa_nil) (pa_cons (pe_lst pa_nil) pa_nil h2) h1)) hs hf) hr) fun D σ H q => ?_
  obtain ⟨w, T, me, ok, lv, q⟩ := q
  have z0 : ([] : List V).length ≤ sizeLine := by simp
  show tAsg (tLst (tCons (tLst tNil) (tCons (tLst tNil) tNil))) (gName i) _ σ H
  show tLst (tCons (tLst tNil) (tCons (tLst tNil) tNil)) σ H _
  unfold tLst
  unfold tCons
  refine ⟨z0, fun a ha => ⟨z0, fun c hc => ?_⟩⟩
  refine ⟨show (2 : Nat) ≤ sizeLine by decide, fun p hp => ?_⟩
  have nca : c ≠ a := fun z => by subst z; rw [upd_same] at hc; cases hc
  have npc : p ≠ c := fun z => by subst z; rw [upd_same] at hp; cases hp
  rw [upd_ne npc] at hp
  have npa : p ≠ a := fun z => by subst z; rw [upd_same] at hp; cases hp
  rw [upd_ne npa] at hp
  rw [upd_ne nca] at hc
  show tS X.KK X.mg W n D (σ.set i (some (.ref p))) (L2.upd (L2.upd (L2.upd H a (.lst [])) c (.lst [])) p (.lst [.ref a, .ref c]))
  have sm : Same0 H (L2.upd (L2.upd (L2.upd H a (.lst [])) c (.lst [])) p (.lst [.ref a, .ref c])) := fun b o h => by
    rw [upd_ne (fun z => by subst z; rw [hp] at h; cases h), upd_ne (fun z => by subst z; rw [hc] at h; cases h), upd_ne (fun z => by subst z; rw [ha] at h; cases h)]
    exact h
  refine box_enter (b0 := .pap [] []) (k := .bp) ok lv (Ne.symm nca) ha hc sm ⟨⟨[], ?_, .nil⟩, [], ?_, .nil⟩ ⟨a, c, p, rfl, rfl, .inl upd_same, fun z => ?_⟩ q
  · rw [upd_ne (Ne.symm npa), upd_ne (Ne.symm nca), upd_same]
  · rw [upd_ne (Ne.symm npc), upd_same]
  · rcases z with z | z | z
    · exact lv.al p z hp
    · exact npa z
    · exact npc z
end
end PL
namespace PL
open PySem PySem.Spec PyProof.Rows L2
/-! ### more that is new: l + m, s.split(t) -/
section
variable {X : Cx} {W : WX} {pos : Pos} {a b e : Expr}
def mCat (x y : M PyData) : M PyData := fun m => (x m).bind fun d m1 => (y m1).bind fun u m2 => match d, u with
  | .list l, .list r => if l.length + r.length ≤ sizeLine then .ok (.list (l ++ r)) m2 else .bad
  | _, _ => .bad
theorem pn_cat {x y : M PyData} (ha : PB X W a x) (hb : PB X W b y) : PN X W (.BinOp a .Add b pos) (mCat x y) := by
  refine PE.imp (pe_op op_catR ha hb) fun σ H Q q => ?_
  obtain ⟨w, T, me, ok, lv, q⟩ := q
  refine Rn.new ok lv q fun T1 me1 v d H1 s1 lv1 p1 q1 => ?_
  refine Rn.new ok lv1 q1 fun T2 me2 u d2 H2 s2 lv2 p2 q2 => ?_
  cases d with
  | list l =>
    cases d2 with
    | list r =>
      by_cases hz : l.length + r.length ≤ sizeLine
      · simp only [if_pos hz] at q2
        have p1' := p1.fr (s2.fr ok lv1.t0) s2.ex
        obtain ⟨q1, v1, rfl, r1, d1⟩ := p1'.list
        obtain ⟨q3, v3, rfl, r3, d3⟩ := p2.list
        exact ⟨q1, q3, v1, v3, rfl, rfl, r1, r3, by rw [d1.length, d3.length]; exact hz, fun p hp => q2 p _ _ _ (lv2.newAt ok (Stp.refl _ _ _ _ _) lv2 hp ⟨_, rfl, (DDs.grow hp d3).append (DDs.grow hp d1)⟩)⟩
      · simp only [if_neg hz] at q2
    | none => exact q2.elim
    | bool b => exact q2.elim
    | int i => exact q2.elim
    | str i => exact q2.elim
    | tuple i => exact q2.elim
    | dict i => exact q2.elim
  | none => exact q2.elim
  | bool b => exact q2.elim
  | int i => exact q2.elim
  | str i => exact q2.elim
  | tuple i => exact q2.elim
  | dict i => exact q2.elim
def mSplN (x y : M PyData) : M PyData := fun m => (mStr x m).bind fun d m1 => (y m1).bind fun u m2 => match pSplit d u with
  | some z => .ok z m2
  | none => .bad
theorem Rn.newS {K : Kx} {mg : Str → Option Value} {W : WX} {x : M PyData} {k : PyData → Me → Res PyData} {σ : L2.St} {H : Hp} {Q : VK} {Q' : V → Hp → Prop} {w : Wd} {T : Addr → Prop} {me : Me} (ok : w.Ok) (lv : Lv K mg w T σ H me)
    (h : match (mStr x me).bind k with
      | .ok l me' => ∀ (p : Addr) (vs : HO) (T' : Addr → Prop) (H' : Hp), NewL K mg w σ T H me l me' p vs T' H' → Q (.ref p) H'
      | .exc x me' => ∀ (c : Value) (dd : Option Addr) (H' : Hp) (T' : Addr → Prop), Fr T H T' H' → Lv K mg w T' σ H' me' → XR K mg T' H' c dd x → W c dd σ H'
      | .bad => False)
    (f : ∀ (T1 : Addr → Prop) (me1 : Me) (s : Str) (H1 : Hp), Stp w σ T H me T1 H1 me1 → Lv K mg w T1 σ H1 me1 → (match k (.str s) me1 with
      | .ok l me' => ∀ (p : Addr) (vs : HO) (T' : Addr → Prop) (H' : Hp), NewL K mg w σ T1 H1 me1 l me' p vs T' H' → Q (.ref p) H'
      | .exc x me' => ∀ (c : Value) (dd : Option Addr) (H' : Hp) (T' : Addr → Prop), Fr T1 H1 T' H' → Lv K mg w T' σ H' me' → XR K mg T' H' c dd x → W c dd σ H'
      | .bad => False) → Q' (.str s) H1) : tB K mg W x σ H Q' := by
  have e : (mStr x me).bind k = (x me).bind fun d m' => (match d with | .str s => Res.ok (.str s) m' | _ => .bad : Res PyData).bind k := by
    unfold mStr
    cases x me <;> rfl
  rw [e] at h
  refine Rn.new ok lv h fun T1 me1 v d H1 s1 lv1 p1 q1 => ?_
  cases d with
  | str s => rw [p1.str]; exact f T1 me1 s H1 s1 lv1 q1
  | none => exact q1.elim
  | bool b => exact q1.elim
  | int i => exact q1.elim
  | list i => exact q1.elim
  | tuple i => exact q1.elim
  | dict i => exact q1.elim
theorem pn_split {x y : M PyData} {p2 p3 : Pos} (ha : PB X W a x) (hb : PB X W b y)
    (hbase : attributeBase a "split" X.env (eval a X.env) = eval a X.env := by rfl)
    (hfew : ((backTo p3 (starEach [b] X.env)).all (fun x => !x.1) && (backToKw p3 (keywordEach [] X.env)).all (fun x => x.1.isSome) && decide ([b].length + ([] : List Keyword).length + (if ([] : List Keyword).isEmpty then 0 else 1) < 30)) = true := by rfl)
    (hline : (p2.endLine == p3.line) = true := by rfl) (hs : starEach [b] X.env = (false, eval b X.env) :: starEach [] X.env := by rfl) (hpl : (backTo p3 (starEach [] X.env)).any (·.1) = false := by rfl) :
    PN X W (.Call (.Attribute a "split" p2) [b] [] p3) (mSplN x y) := by
  refine PE.imp (pe_bm PySem.F.plainAttrs_str PySem.F.slot_str_split PySem.F.type_str_split mt_split ha (pa_cons hb pa_nil hs) hbase hfew hline hs hpl) fun σ H Q q => ?_
  obtain ⟨w, T, me, ok, lv, q⟩ := q
  refine Rn.newS ok lv q fun T1 me1 s H1 s1 lv1 q1 => ⟨rfl, ?_⟩
  refine Rn.new ok lv1 q1 fun T2 me2 u d H2 s2 lv2 p2 q2 => ?_
  cases hf : pSplit (.str s) d with
  | none => rw [hf] at q2; exact q2.elim
  | some z =>
    rw [hf] at q2
    unfold pSplit at hf
    split at hf
    · rename_i e1
      split at hf
      · rename_i hz
        cases e1; cases hf
        refine ⟨_, _, rfl, by rw [p2.str], by simpa using hz.1, hz.2, fun p hp => ?_⟩
        exact q2 p _ _ _ (lv2.newAt ok (Stp.refl _ _ _ _ _) lv2 hp ⟨_, rfl, DDs.ofStrs _⟩)
      · cases hf
    · cases hf
end
/-- a draw has changed the source -/
theorem SrcAt.draw {K : Kx} {T : Addr → Prop} {sc : Sc} {H H' : Hp} {st : SrcSt} {a c : Addr} {cs : List Int} {t : Int} (sr : SrcAt K T sc H st) (es : sc.s = some (a, c)) (hs : ∀ b, InS sc b → T b) (k : ∀ b, b ≠ a → b ≠ c → H' b = H b) (n : a ≠ c) (ha : H' a = some (.lst [.ref c, .int t])) (hc : H' c = some (.lst (cs.map V.int))) : SrcAt K T sc H' ⟨cs, t, st.b⟩ := by
  have na : ∀ b, ¬ InP sc.s b → H' b = H b := fun b nb => k b (fun z => nb ⟨a, c, es, .inl z⟩) fun z => nb ⟨a, c, es, .inr z⟩
  refine ⟨fun a' c' e' => ?_, sr.b.no, fun a' c' e' => ?_⟩
  · have z := es.symm.trans e'
    cases z
    exact ⟨n, ha, hc⟩
  · obtain ⟨m, n1, n2, q⟩ := sr.b.at_ a' c' e'
    exact ⟨m, n1, n2, q.to (fun b o nb h => ⟨by rw [na b fun z => nb (hs b (.inl z))]; exact h, nb⟩) (fun o h => by rw [na _ n1]; exact h) fun o h => by rw [na _ n2]; exact h⟩
end PL
namespace PL
open PySem PySem.Spec PyProof.Rows L2
/-! ### del xs[a:]; len of an own object -/
def selF (a n : Int) (i : Nat) : Bool := decide (a ≤ (i : Int)) && decide ((i : Int) < n) && (((i : Int) - a) % 1 == 0)
theorem sel_take {α : Type} (a n : Nat) : ∀ (its : List α) (k : Nat), k + its.length = n → ((its.zipIdx k).filterMap fun p => if selF a n p.2 = true then none else some p.1) = its.take (a - k)
  | [], k, _ => by simp
  | x :: r, k, h => by
    rw [List.length_cons] at h
    have ih := sel_take a n r (k + 1) (by omega)
    have hs : selF a n k = decide (a ≤ k) := by
      unfold selF
      rw [Int.emod_one]
      by_cases hk : a ≤ k
      · rw [decide_eq_true hk, decide_eq_true (by omega), decide_eq_true (by omega)]; rfl
      · rw [decide_eq_false hk, decide_eq_false (by omega)]; rfl
    rw [List.zipIdx_cons, List.filterMap_cons]
    show (match (if selF a n k = true then none else some x) with | none => _ | some y => _) = _
    rw [hs]
    by_cases hk : a ≤ k
    · rw [decide_eq_true hk]
      simp only [if_true]
      rw [ih, show a - (k + 1) = 0 by omega, show a - k = 0 by omega, List.take_zero, List.take_zero]
    · rw [decide_eq_false hk]
      simp only [Bool.false_eq_true, if_false]
      rw [ih, show a - k = (a - (k + 1)) + 1 by omega, List.take_succ_cons]
theorem bounds_tail {a n : Nat} (h : a ≤ n) : sliceBounds (some (a : Int)) none none n = ((a : Int), (n : Int), 1) := by
  simp only [sliceBounds, Option.getD_none]
  have h1 : ¬ ((a : Int) < 0) := by omega
  simp only [h1, if_false, show (1 : Int) > 0 by decide, if_true]
  congr 1
  omega
section
variable {prog : Program} {w : World} {A : Around} {E : Value → Shared → Prop} {s : Shared}
theorem delItem_tail {l sl : Addr} {items : Array Value} {n : Nat} {vl vu : Value} {a : Nat} {Q : Unit → Shared → Prop} (e : s.heap.get? l = some { cls := .type "list", data := .seq items n })
    (hs : s.heap.IsSliceOf sl vl vu .none) (pl : IsPart vl (some (a : Int))) (pu : IsPart vu none) (ha : a ≤ items.size) (hsz : items.size ≤ sizeLine)
    (h : Q () { s with heap := s.heap.update l (Obj.mapSeq fun xs => (xs.toList.zipIdx.filterMap fun p => if selF a items.size p.2 = true then none else some p.1).toArray) }) : wpAny (model prog w) A (delItem (.ref l) (.ref sl)) Q E s := by
  have hl : s.heap.IsList l items := PySem.IsL.isList e
  obtain ⟨os, hos, hcs, hds⟩ := id hs
  have hTs : s.TypeIs (.ref sl) "slice" := ⟨os, hos, hcs⟩
  have hstep : ¬ ((rawPart none == rawInt 0) = true) := Bool.false_ne_true
  have hf : (items.toList.zipIdx.filterMap fun p => if selF a items.size p.2 = true then none else some p.1) = items.toList.take a := by
    have := sel_take a items.size items.toList 0 (by simp)
    rwa [Nat.sub_zero] at this
  unfold delItem
  refine wpAny_holding ?_
  refine wpAny_bind (wpAny_sequenceKey hl.typeIs (by decide) ?_)
  refine wpAny_bind (wpAny_callSpecial?_slot (name := Str.ofString "__delitem__") hl.typeIs PySem.F.slot_list_delitem
    (wpAny_call_entry PySem.F.slot_list_delitem hl.typeIs PySem.F.entry_list_delitem ?_ (PySem.F.args_list_delitem_2 _ _)))
  show wpAny _ _ (Builtin.List.listSubscript? (.ref sl) >>= _) _ _ s
  refine wpAny_bind ?_
  unfold Builtin.List.listSubscript?
  refine wpAny_bind (wpAny_specialOf hTs slice_no_index ?_)
  simp only [Option.isNone_none, if_true]
  refine wpAny_pure ?_
  show wpAny _ _ (typeOf (.ref sl) >>= _) _ _ s
  refine wpAny_bind (wpAny_typeOf hTs ?_)
  first
    | rw [if_neg (by decide)]
    | refine PySem.W.KFB.if_not (by decide) ?_
  rw [listSliceParts_eq]
  refine wpAny_bind (wpAny_bind (wpAny_field hos hds (x := .none) rfl (wpAny_bind (wpAny_listPart .none ?_))))
  rw [if_neg hstep]
  refine wpAny_bind (wpAny_field hos hds (x := vl) rfl (wpAny_bind (wpAny_listPart pl ?_)))
  refine wpAny_bind (wpAny_field hos hds (x := vu) rfl (wpAny_bind (wpAny_listPart pu (wpAny_pure ?_))))
  refine wpAny_bind (m := Builtin.List.listItems (.ref l)) ?_
  unfold Builtin.List.listItems
  refine wpAny_bind (wpAny_seqItems e rfl (wpAny_pure ?_))
  refine wpAny_bind (wpAny_of_eq ((sliceIndices_raw (some (a : Int)) none none items.size (by simp)).trans (congrArg (pure : Int × Int × Int → Sem (Int × Int × Int)) (bounds_tail ha))) ?_)
  refine wpAny_bind (wpAny_rule ?_)
  show wpAny _ _ (updateSeq l (fun xs => (xs.toList.zipIdx.filterMap fun p => if selF a items.size p.2 = true then none else some p.1).toArray) >>= _) _ _ s
  refine wpAny_bind (wpAny_updateSeq (hz := hsz) (_hz' := by
    show (items.toList.zipIdx.filterMap fun p => if selF a items.size p.2 = true then none else some p.1).toArray.size ≤ _
    rw [hf, List.size_toArray, List.length_take]
    have : items.toList.length = items.size := rfl
    omega) e rfl ?_)
  refine wpAny_bind (wpAny_letGo ?_)
  first
    | exact wpAny_bind (wpAny_pure (wpAny_pure ⟨.none, rfl, wpAny_pure h⟩))
    | exact wpAny_pure ⟨.none, rfl, wpAny_pure h⟩
end
section
variable {X : Cx} {pos : Pos}
theorem del_tail {pins : List (Addr × Obj)} {s : Shared} {σ : L2.St} {H : Hp} {l sl : Addr} {xs : List V} {a : Nat} {vl vu : Value} {Q : Unit → Shared → Prop} (I : Inv X pins σ H s) (hH : H l = some (.lst xs)) (hs : s.heap.IsSliceOf sl vl vu .none)
    (pl : IsPart vl (some (a : Int))) (pu : IsPart vu none) (ha : a ≤ xs.length) (h : ∀ s', Inv X pins σ (upd H l (.lst (xs.take a))) s' → Q () s') : wpAny (model X.prog X.w) X.A (delItem (.ref l) (.ref sl)) Q X.xe s := by
  obtain ⟨z, its, n, r, hl, e⟩ := I.lstM hH
  refine delItem_tail e hs pl pu (by rw [List.size_toArray]; omega) (by rw [List.size_toArray]; omega) (h _ ?_)
  refine I.lset (its' := its.take a) (t' := s.toks) hH e ?_ (r.take _) (by rw [List.length_take]; omega)
  show (its.toArray.toList.zipIdx.filterMap fun p => if selF a its.toArray.size p.2 = true then none else some p.1).toArray = (its.take a).toArray
  have := sel_take a its.length its 0 (by omega)
  rw [Nat.sub_zero] at this
  rw [show its.toArray.toList = its from rfl, List.size_toArray, this]
/-- del o[lo:] -/
def tDelT (to : TE) (tl : TO) : TS := fun D σ H => to σ H fun x H1 => tl σ H1 fun lo H2 => ∃ (l : Addr) (xs : List V) (a : Nat), x = .ref l ∧ lo = some (a : Int) ∧ a ≤ xs.length ∧ H2 l = some (.lst xs) ∧ D.nx σ (upd H2 l (.lst (xs.take a)))
theorem ps_delT {o : Expr} {lo : Option Expr} {to : TE} {tl : TO} {tpos p2 : Pos} (ho : PE X o to) (hl : PO X lo tl) : PS X (.Delete [.Subscript o (.Slice lo none none p2) tpos] pos) (tDelT to tl) := by
  refine ⟨fun pins s σ H D I h => ?_⟩
  refine wpAny_Delete (wpAny_deleteEach_cons (wpAny_delete_Subscript (thn (ho.run pins s σ H _ I h) fun u s1 ⟨x, H1, I1, rx, q1⟩ => ?_)))
  refine wpAny_Slice (thn (hl.run pins s1 σ H1 _ I1 q1) fun vl s2 ⟨l, H2, I2, pl, q2⟩ => ?_)
  rw [evalPart_none]
  refine wpAny_pure ?_
  refine wpAny_pure ?_
  have I4 : Inv X pins σ H2 { s2 with heap := s2.heap.push { cls := .type "slice", data := .fields #[vl, .none, .none] } } := I2.kept (t' := s2.toks) fun b ob q => Heap.get?_push_of_some _ q
  obtain ⟨p, xs, a, rfl, rfl, ha, hH, q⟩ := q2
  cases (show u = Value.ref p from rx)
  exact del_tail I4 hH (Heap.IsSliceOf.new ..) pl .none ha fun s3 I3 => wpAny_deleteEach_nil ⟨σ, _, I3, q⟩
/-- len(o), the class's own __len__ -/
def tLenO (C : Addr) (sp : Sp) (E : XK) (ta : TE) : TE := fun σ H Q => ta σ H fun x H1 => ∃ a dx fs, [x] = [.ref a] ∧ H1 a = some (.ins C dx fs) ∧ sp [.ref a] H1 (fun v H2 => ∃ n : Nat, v = .int n ∧ (n : Int) < 2 ^ 63 ∧ Q (.int n) H2) E
theorem pe_lenO {CX : CXT} {k : Nat} {C f : Addr} {fd : FuncData} {ps : List Str} {sp : Sp} {E : XK} {o : Expr} {ta : TE} {p : Pos} (hg : Gl X "len") (hm : X.mg "len" = none) (he : PE X o ta) (hl : PySem.W.findIn X.K (.ref C) "__len__" = some (some (.ref f))) (hf : PySem.W.isFn X.K (.ref f) = true)
    (F : FnOk X.prog X.w X.K X.mg X.base CX k f fd ps sp) (hr : Room (k + 1) X.A) (hb : Binds X.K fd ps []) (hx : Passes CX X.nox E) (hs : starEach [o] X.env = (false, eval o X.env) :: starEach [] X.env := by rfl) (hpl : (backTo pos (starEach [] X.env)).any (·.1) = false := by rfl) :
    PE X (.Call (.Name "len" p) [o] [] pos) (tLenO C sp E ta) := by
  have hc : CallR X (.builtin "len") (fun xs H Q => ∃ a dx fs, xs = [.ref a] ∧ H a = some (.ins C dx fs) ∧ sp [.ref a] H (fun v H2 => ∃ n : Nat, v = .int n ∧ (n : Int) < 2 ^ 63 ∧ Q (.int n) H2) E) := by
    intro pins s σ H xs us Q I r h
    obtain ⟨a, dx, fs, rfl, ea, q⟩ := h
    obtain ⟨u, rfl, ru⟩ := vals1 r
    obtain rfl : u = Value.ref a := ru
    obtain ⟨mA, O, _, _, _, _⟩ := ins_get I.hok ea
    obtain ⟨od, J, _⟩ := O.look
    refine Calls.call_function_entry kind_len plain_len entry_len (args_len1 _) ?_
    unfold Builtin.«len»
    refine wpAny_bind (m := oneArg "len" _) (wpAny_pure ?_)
    refine wpAny_bind (m := callSpecial? (.ref a) (PySem.Str.ofString "__len__")) (PySem.W.special_fn I.kIn J hl (beq_iff_eq.mp hf) (wpAny_call (codeAny_mono (F.run X.A.in1 X.stack s H ⟨[.ref a], []⟩ [.ref a] [.ref a] _ E hr.in1 I.env0.in1 (hb s [.ref a] I.kIn (F.len _ _ _ _ q)) (.cons rfl .nil) q) fun rr s' hq => ?_)))
    cases rr with
    | error er => exact False.elim (hx pins σ H s er s' (I.wish _) hq)
    | ok fl =>
    cases fl with
    | next => exact False.elim hq
    | brk => exact False.elim hq
    | cont => exact False.elim hq
    | ret u =>
    obtain ⟨v, H', I', rv, n, rfl, hn, q'⟩ := I.after hq
    obtain ⟨t, rfl⟩ := (show ∃ t, u = Value.int n t from rv)
    refine wpAny_bind (wpAny_holding (wpAny_pure ?_))
    refine wpAny_bind (wpAny_letGo ?_)
    show wpAny _ _ (if ((n : Nat) : Int) < 0 then _ else _) _ _ _
    rw [if_neg (by omega)]
    show wpAny _ _ (if ((n : Nat) : Int) ≥ 2 ^ 63 then _ else _) _ _ _
    rw [if_neg (by omega)]
    exact wpAny_bind (wpAny_mkInt (wpAny_pure ⟨_, rfl, ⟨.int n, H', I'.tok _, ⟨_, rfl⟩, q'⟩⟩))
  refine PE.imp (pe_callB hc hg hm PySem.boot_len (pa_cons he pa_nil hs) (by decide) (by decide) hs hpl) fun σ H Q q => ?_
  show tCons ta tNil σ H _
  show ta σ H _
  exact q
end
end PL
namespace PL
open PySem PySem.Spec PyProof.Rows L2
/-! ### an object that is lent: a desk -/
def dkOf (m : Me) (i : Nat) : Option (List PyData × Int) := match m.env[i]? with
  | some (some (.obj .bx)) => match m.st.b with
    | .dsk l n => some (l, n)
    | _ => none
  | _ => none
structure DkC (K : PySem.W.Frag) (C : Addr) : Prop where
  cls : Cls K C
  st : NoAttr K C "_stands"
  at_ : NoAttr K C "_at"
  ns : PySem.W.nsIn K mainGlobals "Desk" = some (some (.ref C))
theorem lkS (c : Addr) (n : Int) : List.lookup (Str.ofString "_stands") (deskF c n) = some (V.ref c) := by
  unfold deskF
  rw [List.lookup_cons, show (Str.ofString "_stands" == Str.ofString "_stands") = true by decide +kernel]
theorem lkA (c : Addr) (n : Int) : List.lookup (Str.ofString "_at") (deskF c n) = some (V.int n) := by
  unfold deskF
  rw [List.lookup_cons, show (Str.ofString "_at" == Str.ofString "_stands") = false by decide +kernel]
  show List.lookup (Str.ofString "_at") [(Str.ofString "_at", V.int n)] = _
  rw [List.lookup_cons, show (Str.ofString "_at" == Str.ofString "_at") = true by decide +kernel]
section
variable {K : Kx} {mg : Str → Option Value} {W : WX} {w : Wd} {T : Addr → Prop} {σ : L2.St} {H : Hp} {me : Me} {C : Addr} {i : Nat} {l : List PyData} {n : Int}
theorem Lv.dk (dc : DkC K.k C) (lv : Lv K mg w T σ H me) (h : dkOf me i = some (l, n)) :
    me.st.b = .dsk l n ∧ me.env[i]? = some (some (.obj .bx)) ∧ ∃ (a c dx : Addr) (vs : List V), σ[i]? = some (some (.ref a)) ∧ w.sc.b = some (a, c) ∧ a ≠ c ∧ ¬ InP w.sc.s a ∧ ¬ InP w.sc.s c ∧ H a = some (.ins C dx (deskF c n)) ∧ H c = some (.lst vs) ∧ DDs K T H vs l := by
  unfold dkOf at h
  split at h
  · rename_i he
    obtain ⟨v, ev, a, c, e, rfl⟩ := lv.slot i _ he
    obtain ⟨h1, h2, h3, hb⟩ := lv.src.b.at_ a c e
    split at h
    · rename_i l0 n0 hst
      cases h
      rw [hst] at hb
      obtain ⟨⟨C', dx, g1, g2⟩, vs, g3, g4⟩ := hb
      have := g1.symm.trans dc.ns
      cases this
      exact ⟨hst, he, a, c, dx, vs, ev, e, h1, h2, h3, g2, g3, g4⟩
    · cases h
  · cases h
/-- the desk has become another one -/
theorem Lv.bxMut {q a c : Addr} {o : HO} {b' : Bx} (ok : w.Ok) (lv : Lv K mg w T σ H me) (e : w.sc.b = some (a, c)) (hq : q = a ∨ q = c) (hb : a ≠ c → BxIn K T (upd H q o) a c b') : Lv K mg w T σ (upd H q o) ⟨me.env, { me.st with b := b' }⟩ := by
  have inq : InS w.sc q := .inr ⟨a, c, e, hq⟩
  have tq : T q := lv.t0 q (ok.s0 q inq)
  have fr : Fr T H T (upd H q o) := frU tq
  obtain ⟨n, n1, n2, hb0⟩ := lv.src.b.at_ a c e
  refine ⟨lv.t0, fun b hb => ?_, fun b u nb z => ?_, ⟨fun a' c' e' => ?_, (fun e' => by rw [e] at e'; cases e'), fun a' c' e' => ?_⟩, lv.len, fun j s hj => (lv.slot j s hj).fr fr fun p u l2 es ep hp tp => ⟨tp, ?_⟩, lv.sep⟩
  · by_cases hbq : b = q
    · subst hbq; rw [upd_same]; exact nofun
    · rw [upd_ne hbq]; exact lv.al b hb
  · rw [upd_ne (fun (z2 : b = q) => nb (z2 ▸ inq))]
    exact lv.ex b u nb z
  · obtain ⟨m, g1, g2⟩ := lv.src.d a' c' e'
    have nq : ¬ InP w.sc.s q := by rcases hq with z | z <;> rw [z] <;> assumption
    exact ⟨m, by rw [upd_ne (fun z => nq ⟨a', c', e', .inl z.symm⟩)]; exact g1, by rw [upd_ne (fun z => nq ⟨a', c', e', .inr z.symm⟩)]; exact g2⟩
  · rw [e] at e'; cases e'
    exact ⟨n, n1, n2, hb n⟩
  · subst es
    obtain ⟨p', _, e1, _, h0, _, _⟩ := lv.slot j _ hj
    rw [ep] at e1; cases e1
    rw [upd_ne (fun (z : p = q) => ok.al q (ok.s0 q inq) (z ▸ h0))]
    exact hp
theorem Lv.tFldS {X : Cx} {Q : VK} {mg' : Str → Option Value} (dc : DkC X.K C) (lv : Lv X.KK mg' w T σ H me) (h : dkOf me i = some (l, n)) (q : ∀ (a c dx : Addr) (vs : List V), w.sc.b = some (a, c) → a ≠ c → H a = some (.ins C dx (deskF c n)) → H c = some (.lst vs) → DDs X.KK T H vs l → Q (.ref c) H) : tFld X.K (tVar i) "_stands" σ H Q := by
  obtain ⟨_, _, a, c, dx, vs, ev, eb, nac, _, _, ha, hc, dd⟩ := lv.dk dc h
  exact ⟨.ref a, ev, a, C, dx, deskF c n, .ref c, rfl, ha, dc.cls, dc.st, lkS c n, q a c dx vs eb nac ha hc dd⟩
theorem Lv.tFldA {X : Cx} {Q : VK} {mg' : Str → Option Value} (dc : DkC X.K C) (lv : Lv X.KK mg' w T σ H me) (h : dkOf me i = some (l, n)) (q : Q (.int n) H) : tFld X.K (tVar i) "_at" σ H Q := by
  obtain ⟨_, _, a, c, dx, vs, ev, _, _, _, _, ha, hc, dd⟩ := lv.dk dc h
  exact ⟨.ref a, ev, a, C, dx, deskF c n, .int n, rfl, ha, dc.cls, dc.at_, lkA c n, q⟩
end
section
variable {X : Cx} {W : WX} {pos : Pos} {e : Expr} {es : List Expr} {rest : List Stmt} {C : Addr} {i : Nat} {x : Str} {p0 p1 p2 p3 : Pos}
/-- self._at -/
def mDkAt (i : Nat) : M Sl := fun m => match dkOf m i with
  | some (_, n) => .ok (.dat (.int n)) m
  | none => .bad
theorem pp_dkAt (dc : DkC X.K C) (hN : X.N[i]? = some x := by rfl) (hv : Vis X.env.scope x := by first | exact Or.inl rfl | exact Or.inr (Or.inl rfl) | exact Or.inr (Or.inr rfl)) (hd : (x == ("__debug__" : Str)) = false := by decide) (hcd : (x == ("__classdict__" : Str)) = false := by decide)
    (hb : attributeBase (.Name x p0) "_at" X.env (eval (.Name x p0) X.env) = eval (.Name x p0) X.env := by rfl) : PP X W (.Attribute (.Name x p0) "_at" pos) (mDkAt i) := by
  refine PE.imp (pe_fld (pe_var (i := i) hN hv hd hcd) hb) fun σ H Q q => ?_
  obtain ⟨w, T, me, ok, lv, q⟩ := q
  unfold mDkAt at q
  cases h : dkOf me i with
  | none => rw [h] at q; exact q.elim
  | some z =>
    obtain ⟨l, n⟩ := z
    rw [h] at q
    exact lv.tFldA dc h (q _ H T (Stp.refl _ _ _ _ _) lv (DD.int n))
/-- len(self._stands) -/
def mDkLen (i : Nat) : M Sl := fun m => match dkOf m i with
  | some (l, _) => .ok (.dat (.int l.length)) m
  | none => .bad
theorem pp_dkLen (dc : DkC X.K C) (hg : Gl X "len") (hm : X.mg "len" = none) (hN : X.N[i]? = some x := by rfl) (hv : Vis X.env.scope x := by first | exact Or.inl rfl | exact Or.inr (Or.inl rfl) | exact Or.inr (Or.inr rfl)) (hd : (x == ("__debug__" : Str)) = false := by decide) (hcd : (x == ("__classdict__" : Str)) = false := by decide)
    (hb : attributeBase (.Name x p0) "_stands" X.env (eval (.Name x p0) X.env) = eval (.Name x p0) X.env := by rfl) (he : starEach [.Attribute (.Name x p0) "_stands" p1] X.env = (false, eval (.Attribute (.Name x p0) "_stands" p1) X.env) :: starEach [] X.env := by rfl) (hpl : (backTo pos (starEach [] X.env)).any (·.1) = false := by rfl) :
    PP X W (.Call (.Name "len" p2) [.Attribute (.Name x p0) "_stands" p1] [] pos) (mDkLen i) := by
  refine PE.imp (pe_callB call_len_seq hg hm PySem.boot_len (pa_cons (pe_fld (pe_var (i := i) hN hv hd hcd) hb) pa_nil he) (by decide) (by decide) he hpl) fun σ H Q q => ?_
  obtain ⟨w, T, me, ok, lv, q⟩ := q
  unfold mDkLen at q
  cases h : dkOf me i with
  | none => rw [h] at q; exact q.elim
  | some z =>
    obtain ⟨l, n⟩ := z
    rw [h] at q
    show tCons (tFld X.K (tVar i) "_stands") tNil σ H _
    show tFld X.K (tVar i) "_stands" σ H _
    refine lv.tFldS dc h fun a c dx vs eb nac ha hc dd => ?_
    show ∃ p ys, _
    refine ⟨c, vs, rfl, .inl (.inl (.inl hc)), ?_⟩
    rw [dd.length]
    exact q _ H T (Stp.refl _ _ _ _ _) lv (DD.int _)
/-- self._stands[self._at] -/
def mDkNow (i : Nat) : M Sl := fun m => match dkOf m i with
  | some (l, n) => if 0 ≤ n then (match l[n.toNat]? with | some d => .ok (.dat d) m | none => .bad) else .bad
  | none => .bad
theorem pp_dkNow (dc : DkC X.K C) (hN : X.N[i]? = some x := by rfl) (hv : Vis X.env.scope x := by first | exact Or.inl rfl | exact Or.inr (Or.inl rfl) | exact Or.inr (Or.inr rfl)) (hd : (x == ("__debug__" : Str)) = false := by decide) (hcd : (x == ("__classdict__" : Str)) = false := by decide)
    (hb : attributeBase (.Name x p0) "_stands" X.env (eval (.Name x p0) X.env) = eval (.Name x p0) X.env := by rfl) (hb2 : attributeBase (.Name x p2) "_at" X.env (eval (.Name x p2) X.env) = eval (.Name x p2) X.env := by rfl)
    (ht : ∀ (a b : Value), subscriptTail (.Attribute (.Name x p0) "_stands" p1) (.Attribute (.Name x p2) "_at" p3) a b = subscriptTail (.Attribute (.Name x p0) "_stands" p1) (.Attribute (.Name x p2) "_at" p3) a b := by intros; rfl) :
    PP X W (.Subscript (.Attribute (.Name x p0) "_stands" p1) (.Attribute (.Name x p2) "_at" p3) pos) (mDkNow i) := by
  refine PE.imp (pe_ix (ix_list (X := X)) (pe_fld (pe_var (i := i) hN hv hd hcd) hb) (pe_fld (pe_var (i := i) hN hv hd hcd) hb2) fun _ _ => rfl) fun σ H Q q => ?_
  obtain ⟨w, T, me, ok, lv, q⟩ := q
  unfold mDkNow at q
  cases h : dkOf me i with
  | none => rw [h] at q; exact q.elim
  | some z =>
    obtain ⟨l, n⟩ := z
    rw [h] at q
    simp only at q
    split at q
    · rename_i h0
      cases hj : l[n.toNat]? with
      | none => rw [hj] at q; exact q.elim
      | some d =>
        rw [hj] at q
        refine lv.tFldS dc h fun a c dx vs eb nac ha hc dd => ?_
        refine lv.tFldA dc h ?_
        obtain ⟨v, hv', dv⟩ := dd.get hj
        refine ⟨c, vs, n, v, rfl, rfl, .inl (.inl hc), ?_, q v H T (Stp.refl _ _ _ _ _) lv dv⟩
        have := atI_nat hv'
        rwa [Int.toNat_of_nonneg h0] at this
    · exact q.elim
/-- del self._stands[self._at + 1:] -/
def mDkDel (i : Nat) : M Flow := fun m => match dkOf m i with
  | some (l, n) => if 0 ≤ n ∧ n.toNat + 1 ≤ l.length then .ok .next ⟨m.env, { m.st with b := .dsk (l.take (n.toNat + 1)) n }⟩ else .bad
  | none => .bad
theorem pps_dkDel {j : Nat} {p4 p5 p6 p7 : Pos} (dc : DkC X.K C) (hN : X.N[i]? = some x := by rfl) (hv : Vis X.env.scope x := by first | exact Or.inl rfl | exact Or.inr (Or.inl rfl) | exact Or.inr (Or.inr rfl)) (hd : (x == ("__debug__" : Str)) = false := by decide) (hcd : (x == ("__classdict__" : Str)) = false := by decide)
    (hb : attributeBase (.Name x p0) "_stands" X.env (eval (.Name x p0) X.env) = eval (.Name x p0) X.env := by rfl) (hb2 : attributeBase (.Name x p2) "_at" X.env (eval (.Name x p2) X.env) = eval (.Name x p2) X.env := by rfl) :
    PPS X W (.Delete [.Subscript (.Attribute (.Name x p0) "_stands" p1) (.Slice (some (.BinOp (.Attribute (.Name x p2) "_at" p3) .Add (.Constant (.int 1) j p4) p5)) none none p6) p7] pos) (mDkDel i) := by
  refine PS.imp (ps_delT (pe_fld (pe_var (i := i) hN hv hd hcd) hb) (po_some (pe_op op_add (pe_fld (pe_var (i := i) hN hv hd hcd) hb2) pe_int))) fun D σ H q => ?_
  obtain ⟨w, T, me, ok, lv, q⟩ := q
  unfold mDkDel at q
  cases h : dkOf me i with
  | none => rw [h] at q; exact q.elim
  | some z =>
    obtain ⟨l, n⟩ := z
    rw [h] at q
    simp only at q
    split at q
    · rename_i h0
      refine lv.tFldS dc h fun a c dx vs eb nac ha hc dd => ?_
      unfold tPart tOp
      refine lv.tFldA dc h ?_
      obtain ⟨n0, rfl⟩ := Int.eq_ofNat_of_zero_le h0.1
      refine ⟨n0, 1, rfl, rfl, (n0 : Int) + 1, rfl, c, vs, n0 + 1, rfl, rfl, ?_, hc, ?_⟩
      · rw [dd.length]; exact h0.2
      · have tc : T c := lv.t0 _ (ok.s0 _ (.inr ⟨a, c, eb, .inr rfl⟩))
        have lv2 := lv.bxMut ok eb (.inr rfl) (o := .lst (vs.take (n0 + 1))) (b' := .dsk (l.take (n0 + 1)) n0) fun nac => ⟨⟨C, dx, dc.ns, by rw [upd_ne nac]; exact ha⟩, vs.take (n0 + 1), upd_same, (DDs.take (n0 + 1) dd).to (frU tc)⟩
        exact q σ _ T (frU tc) lv2
    · exact q.elim
end
end PL
namespace PL
open PySem PySem.Spec PyProof.Rows L2
section
variable {X : Cx} {W : WX} {pos : Pos} {e o : Expr} {es : List Expr} {rest : List Stmt} {C : Addr} {i : Nat} {x : Str} {p0 p1 p2 p3 : Pos}
/-! self._stands.append(x) -/
def mDkApp (i : Nat) (e : M Sl) : M Flow := fun m => match dkOf m i with
  | some _ => (mDat e m).bind fun d m1 => match dkOf m1 i with
    | some (l, n) => if l.length < sizeLine then .ok .next ⟨m1.env, { m1.st with b := .dsk (l ++ [d]) n }⟩ else .bad
    | none => .bad
  | none => .bad
theorem pps_dkApp {m : M Sl} (dc : DkC X.K C) (he : PP X W e m) (hN : X.N[i]? = some x := by rfl) (hv : Vis X.env.scope x := by first | exact Or.inl rfl | exact Or.inr (Or.inl rfl) | exact Or.inr (Or.inr rfl)) (hd : (x == ("__debug__" : Str)) = false := by decide) (hcd : (x == ("__classdict__" : Str)) = false := by decide)
    (hb : attributeBase (.Name x p0) "_stands" X.env (eval (.Name x p0) X.env) = eval (.Name x p0) X.env := by rfl)
    (hbase : attributeBase (.Attribute (.Name x p0) "_stands" p1) "append" X.env (eval (.Attribute (.Name x p0) "_stands" p1) X.env) = eval (.Attribute (.Name x p0) "_stands" p1) X.env := by rfl)
    (hfew : ((backTo p3 (starEach [e] X.env)).all (fun x => !x.1) && (backToKw p3 (keywordEach [] X.env)).all (fun x => x.1.isSome) && decide ([e].length + ([] : List Keyword).length + (if ([] : List Keyword).isEmpty then 0 else 1) < 30)) = true := by rfl)
    (hline : (p2.endLine == p3.line) = true := by rfl) (hs : starEach [e] X.env = (false, eval e X.env) :: starEach [] X.env := by rfl) (hpl : (backTo p3 (starEach [] X.env)).any (·.1) = false := by rfl)
    (hs2 : swapsWith (.Call (.Attribute (.Attribute (.Name x p0) "_stands" p1) "append" p2) [e] [] p3) none pos.line X.env = pure false := by rfl) :
    PPS X W (.Expr (.Call (.Attribute (.Attribute (.Name x p0) "_stands" p1) "append" p2) [e] [] p3) pos) (mDkApp i m) := by
  refine PS.imp (ps_expr (pe_bm PySem.F.plainAttrs_list PySem.F.slot_list_append PySem.F.type_list_append mt_append (pe_fld (pe_var (i := i) hN hv hd hcd) hb) (pa_cons he pa_nil hs) hbase hfew hline hs hpl) hs2) fun D σ H q => ?_
  obtain ⟨w, T, me, ok, lv, q⟩ := q
  unfold mDkApp at q
  cases hl : dkOf me i with
  | none => rw [hl] at q; exact q.elim
  | some z0 =>
    obtain ⟨l0, n0⟩ := z0
    rw [hl] at q
    simp only at q
    unfold tDrop tBM
    refine lv.tFldS dc hl fun a c dx vs eb nac ha hc dd => ?_
    refine ⟨.inl ⟨rfl, vs, .inl (.inl hc)⟩, ?_⟩
    show tP X.KK X.mg W m σ H _
    refine ⟨w, T, me, ok, lv, ?_⟩
    unfold mDat at q
    cases hm : m me with
    | bad => rw [hm] at q; exact q
    | exc z me1 =>
      rw [hm] at q
      exact fun cl dd H' T' fr lv' xr => q cl dd σ H' T' fr lv' xr
    | ok s me1 =>
      rw [hm] at q
      simp only [Res.bind_ok] at q
      intro v H1 T1 s1 lv1 p1
      cases s with
      | own l => exact q.elim
      | src => exact q.elim
      | exc x => exact q.elim
      | obj x => exact q.elim
      | dat d =>
        simp only [Res.bind_ok] at q
        cases hl1 : dkOf me1 i with
        | none => rw [hl1] at q; exact q.elim
        | some z =>
          obtain ⟨l, n⟩ := z
          rw [hl1] at q
          simp only at q
          split at q
          · rename_i hlen
            obtain ⟨_, _, a', c', dx', vs', ev', eb', nac', _, _, ha', hc', dd'⟩ := lv1.dk dc hl1
            rw [eb] at eb'; cases eb'
            refine ⟨c, vs', v, rfl, rfl, hc', by rw [dd'.length]; exact hlen, ?_⟩
            have tc : T1 c := lv1.t0 _ (ok.s0 _ (.inr ⟨a, c, eb, .inr rfl⟩))
            have lv2 := lv1.bxMut ok eb (.inr rfl) (o := .lst (vs' ++ [v])) (b' := .dsk (l ++ [d]) n) fun nac => ⟨⟨C, dx', dc.ns, by rw [upd_ne nac]; exact ha'⟩, vs' ++ [v], upd_same, (DDs.append (DDs.cons p1 .nil) dd').to (frU tc)⟩
            exact q σ _ T1 ((s1.fr ok lv.t0).trans (frU tc)) lv2
          · exact q.elim
/-! self._at += 1, self._at -= 1 -/
def mDkMv (i : Nat) (k : Int) : M Flow := fun m => match dkOf m i with
  | some (l, n) => .ok .next ⟨m.env, { m.st with b := .dsk l (n + k) }⟩
  | none => .bad
theorem putA (c : Addr) (n k : Int) : putF (Str.ofString "_at") (.int k) (deskF c n) = deskF c k := by
  unfold deskF
  simp only [putF]
  rw [if_neg (by decide +kernel), if_pos (by decide +kernel)]
theorem dkMv_ok (dc : DkC X.K C) {D : Ends} {σ : L2.St} {H : Hp} {k : Int} {rd : V → V → Hp → VK → Prop} (hr : ∀ (n : Int) (H : Hp) (Q : VK), Q (.int (n + k)) H → rd (.int n) (.int 1) H Q) (q : tS X.KK X.mg W (mDkMv i k) D σ H) : sFldAug X.K (tVar i) (tC (.int 1)) rd "_at" D σ H := by
  obtain ⟨w, T, me, ok, lv, q⟩ := q
  unfold mDkMv at q
  cases h : dkOf me i with
  | none => rw [h] at q; exact q.elim
  | some z =>
    obtain ⟨l, n⟩ := z
    rw [h] at q
    obtain ⟨_, _, a, c, dx, vs, ev, eb, nac, _, _, ha, hc, dd⟩ := lv.dk dc h
    refine ⟨.ref a, ev, a, C, dx, deskF c n, .int n, rfl, ha, dc.cls, dc.at_, lkA c n, ?_⟩
    refine hr n H _ ⟨dx, deskF c n, ha, by show 2 < 1000; decide, ?_⟩
    rw [putA]
    have ta : T a := lv.t0 _ (ok.s0 _ (.inr ⟨a, c, eb, .inl rfl⟩))
    have lv2 := lv.bxMut ok eb (.inl rfl) (o := .ins C dx (deskF c (n + k))) (b' := .dsk l (n + k)) fun nac => ⟨⟨C, dx, dc.ns, upd_same⟩, vs, by rw [upd_ne (Ne.symm nac)]; exact hc, dd.to (frU ta)⟩
    exact q σ _ T (frU ta) lv2
theorem pps_dkAdd {j : Nat} {p4 : Pos} (dc : DkC X.K C) (hN : X.N[i]? = some x := by rfl) (hv : Vis X.env.scope x := by first | exact Or.inl rfl | exact Or.inr (Or.inl rfl) | exact Or.inr (Or.inr rfl)) (hd : (x == ("__debug__" : Str)) = false := by decide) (hcd : (x == ("__classdict__" : Str)) = false := by decide) :
    PPS X W (.AugAssign (.Attribute (.Name x p0) "_at" p1) .Add (.Constant (.int 1) j p4) pos) (mDkMv i 1) := by
  refine PS.imp (ps_fldaug (pe_var (i := i) hN hv hd hcd) pe_int in_add) fun D σ H q => dkMv_ok dc (fun n H Q q => ⟨n, 1, rfl, rfl, q⟩) q
theorem pps_dkSub {j : Nat} {p4 : Pos} (dc : DkC X.K C) (hN : X.N[i]? = some x := by rfl) (hv : Vis X.env.scope x := by first | exact Or.inl rfl | exact Or.inr (Or.inl rfl) | exact Or.inr (Or.inr rfl)) (hd : (x == ("__debug__" : Str)) = false := by decide) (hcd : (x == ("__classdict__" : Str)) = false := by decide) :
    PPS X W (.AugAssign (.Attribute (.Name x p0) "_at" p1) .Sub (.Constant (.int 1) j p4) pos) (mDkMv i (-1)) := by
  refine PS.imp (ps_fldaug (pe_var (i := i) hN hv hd hcd) pe_int in_sub) fun D σ H q => dkMv_ok dc (fun n H Q q => ⟨n, 1, rfl, rfl, q⟩) q
/-! self.m(..) -/
def mMeth (F : List Sl → SrcSt → CRes) (i : Nat) (ms : List (M Sl)) : M Sl := fun m => match dkOf m i with
  | some _ => (mArgs ms m).bind fun ss m1 => resV m1 (F (.obj .bx :: ss) m1.st)
  | none => .bad
theorem lk_no {m : Str} (h1 : (m == (Str.ofString "_stands")) = false) (h2 : (m == (Str.ofString "_at")) = false) (c : Addr) (n : Int) : List.lookup m (deskF c n) = none := by
  unfold deskF
  rw [List.lookup_cons, h1]
  show List.lookup m [(Str.ofString "_at", V.int n)] = _
  rw [List.lookup_cons, h2]
  rfl
theorem pp_meth {F : List Sl → SrcSt → CRes} {ms : List (M Sl)} {k n : Nat} {f : Addr} {fd : FuncData} {ps : List Str} {m : Str} {apos : Pos} {pl : Sem Bool} (dc : DkC X.K C) (hm : Meth X.K C m f) (G : FnOk X.prog X.w X.KK X.mg X.base (L2.CX X.prog X.w) k f fd ps (spP X.KK X.mg n F)) (hr : Room k X.A) (hb : Binds X.KK fd ps []) (hx : PassX X W)
    (ha : PPs X W (e :: es) (mArgs ms)) (hn : ms.length + 1 = n := by rfl) (h1 : (m == (Str.ofString "_stands")) = false := by decide +kernel) (h2 : (m == (Str.ofString "_at")) = false := by decide +kernel) (hN : X.N[i]? = some x := by rfl) (hv : Vis X.env.scope x := by first | exact Or.inl rfl | exact Or.inr (Or.inl rfl) | exact Or.inr (Or.inr rfl)) (hd : (x == ("__debug__" : Str)) = false := by decide) (hcd : (x == ("__classdict__" : Str)) = false := by decide)
    (hst : starEach (e :: es) X.env = (false, eval e X.env) :: starEach es X.env := by rfl) (hpl : (backTo pos (starEach es X.env)).any (·.1) = false := by rfl)
    (ht : eval (.Call (.Attribute (.Name x p0) m apos) (e :: es) [] pos) X.env = (do
      let ov ← eval (.Name x p0) X.env
      standAt apos.atName
      let (f, first) ← holding [ov] (getMethod ov m pl)
      callWith pos f first (backTo pos (starEach (e :: es) X.env)) (backToKw pos (keywordEach [] X.env))) := by rfl) :
    PP X W (.Call (.Attribute (.Name x p0) m apos) (e :: es) [] pos) (mMeth F i ms) := by
  refine ⟨fun pins s σ H Q I q => ?_⟩
  obtain ⟨w, T, me, ok, lv, q⟩ := q
  unfold mMeth at q
  cases h : dkOf me i with
  | none => rw [h] at q; exact q.elim
  | some z =>
    obtain ⟨l, n0⟩ := z
    rw [h] at q
    simp only at q
    obtain ⟨_, _, a, c, dx, vs0, ev, eb, nac, _, _, ea, hc, dd⟩ := lv.dk dc h
    refine PySem.W.methodCall_KW (pl := pl) (thn ((pe_var (i := i) hN hv hd hcd).run pins s σ H (fun v H1 => v = .ref a ∧ H1 = H) I ⟨.ref a, ev, rfl, rfl⟩) fun u s1 ⟨v, H1, I1, rx, hv1, hh1⟩ => ?_) ht
    subst hv1
    subst hh1
    obtain rfl : u = Value.ref a := rx
    refine getmeth_ok I1 ea dc.cls hm (lk_no h1 h2 c n0) ?_
    refine PySem.W.callWith_K (first := [.ref a]) (h₀ := X.base) I1.ok.mod.kin hm.kp (thn (ha.run pos pins s1 σ H1 (fun vs H2 => spP X.KK X.mg n F (.ref a :: vs) H2 Q (WE W σ)) I1 ?_) fun us s2 ⟨vs, H2, I2, r, q2⟩ => ⟨I2.kIn, ?_⟩) hst hpl
    · refine ⟨w, T, me, ok, lv, ?_⟩
      cases hm : mArgs ms me with
      | bad => rw [hm] at q; exact q
      | exc x me1 => rw [hm] at q; exact q
      | ok ss me1 =>
        rw [hm] at q
        intro vs H2 T1 s2 lv1 p1
        refine spP_val ok lv s2 lv1 (ss := .obj .bx :: ss) (.cons ⟨a, c, eb, rfl⟩ p1) (by rw [List.length_cons, mArgs_len hm]; exact hn) q
    · exact run_fnS (us := .ref a :: us) (vs := .ref a :: vs) G hr hb (hx σ) I2 (.cons rfl r) q2
theorem pp_meth0 {F : List Sl → SrcSt → CRes} {k n : Nat} {f : Addr} {fd : FuncData} {ps : List Str} {m : Str} {apos : Pos} {pl : Sem Bool} (dc : DkC X.K C) (hm : Meth X.K C m f) (G : FnOk X.prog X.w X.KK X.mg X.base (L2.CX X.prog X.w) k f fd ps (spP X.KK X.mg n F)) (hr : Room k X.A) (hb : Binds X.KK fd ps []) (hx : PassX X W)
    (hn : 1 = n := by rfl) (h1 : (m == (Str.ofString "_stands")) = false := by decide +kernel) (h2 : (m == (Str.ofString "_at")) = false := by decide +kernel) (hN : X.N[i]? = some x := by rfl) (hv : Vis X.env.scope x := by first | exact Or.inl rfl | exact Or.inr (Or.inl rfl) | exact Or.inr (Or.inr rfl)) (hd : (x == ("__debug__" : Str)) = false := by decide) (hcd : (x == ("__classdict__" : Str)) = false := by decide)
    (ht : eval (.Call (.Attribute (.Name x p0) m apos) [] [] pos) X.env = (do
      let ov ← eval (.Name x p0) X.env
      standAt apos.atName
      let (f, first) ← holding [ov] (getMethod ov m pl)
      callWith pos f first (backTo pos (starEach [] X.env)) (backToKw pos (keywordEach [] X.env))) := by rfl) :
    PP X W (.Call (.Attribute (.Name x p0) m apos) [] [] pos) (mMeth F i []) := by
  refine ⟨fun pins s σ H Q I q => ?_⟩
  obtain ⟨w, T, me, ok, lv, q⟩ := q
  unfold mMeth at q
  cases h : dkOf me i with
  | none => rw [h] at q; exact q.elim
  | some z =>
    obtain ⟨l, n0⟩ := z
    rw [h] at q
    simp only at q
    obtain ⟨_, _, a, c, dx, vs0, ev, eb, nac, _, _, ea, hc, dd⟩ := lv.dk dc h
    refine PySem.W.methodCall_KW (pl := pl) (thn ((pe_var (i := i) hN hv hd hcd).run pins s σ H (fun v H1 => v = .ref a ∧ H1 = H) I ⟨.ref a, ev, rfl, rfl⟩) fun u s1 ⟨v, H1, I1, rx, hv1, hh1⟩ => ?_) ht
    subst hv1
    subst hh1
    obtain rfl : u = Value.ref a := rx
    refine getmeth_ok I1 ea dc.cls hm (lk_no h1 h2 c n0) ?_
    refine PySem.W.callWith_K0 (first := [.ref a]) I1.kIn hm.kp (run_fnS (us := [.ref a]) (vs := [.ref a]) (E := WE W) G hr hb (hx σ) I1 (.cons rfl .nil) ?_)
    exact spP_val ok lv (Stp.refl _ _ _ _ _) lv (ss := [.obj .bx]) (.cons ⟨a, c, eb, rfl⟩ .nil) hn q
/-! self.p, a property -/
def mProp (F : List Sl → SrcSt → CRes) (i : Nat) : M Sl := fun m => match dkOf m i with
  | some _ => (match F [.obj .bx] m.st with | .ok s st' => resV m (.ok s st') | _ => .bad)
  | none => .bad
theorem passN {X : Cx} {σ : L2.St} : Passes (L2.CX X.prog X.w) X.nox (WE W0 σ) := fun pins σ' H s e s' I c => by
  obtain ⟨_, _, _, _, _, _, _, _, _, _, _, _, z⟩ := c
  exact z.elim
theorem pp_prop {F : List Sl → SrcSt → CRes} {k : Nat} {f g : Addr} {fd : FuncData} {ps : List Str} {m : Str} (dc : DkC X.K C) (hp : PropOf X.K C m f g) (G : FnOk X.prog X.w X.KK X.mg X.base (L2.CX X.prog X.w) k g fd ps (spP X.KK X.mg 1 F)) (hr : Room (k + 1) X.A) (hb : Binds X.KK fd ps [])
    (hN : X.N[i]? = some x := by rfl) (hv : Vis X.env.scope x := by first | exact Or.inl rfl | exact Or.inr (Or.inl rfl) | exact Or.inr (Or.inr rfl)) (hd : (x == ("__debug__" : Str)) = false := by decide) (hcd : (x == ("__classdict__" : Str)) = false := by decide)
    (hab : attributeBase (.Name x p0) m X.env (eval (.Name x p0) X.env) = eval (.Name x p0) X.env := by rfl) : PP X W (.Attribute (.Name x p0) m pos) (mProp F i) := by
  refine PE.imp (pe_prop (E := WE W0 []) (pe_var (i := i) hN hv hd hcd) dc.cls hp G hr hb .nil passN hab) fun σ H Q q => ?_
  obtain ⟨w, T, me, ok, lv, q⟩ := q
  unfold mProp at q
  cases h : dkOf me i with
  | none => rw [h] at q; exact q.elim
  | some z =>
    obtain ⟨l, n0⟩ := z
    rw [h] at q
    simp only at q
    obtain ⟨_, _, a, c, dx, vs0, ev, eb, nac, _, _, ea, hc, dd⟩ := lv.dk dc h
    refine ⟨.ref a, ev, a, dx, deskF c n0, rfl, ea, ?_⟩
    cases hf : F [.obj .bx] me.st with
    | bad => rw [hf] at q; exact q.elim
    | exc y st' => rw [hf] at q; exact q.elim
    | ok s st' =>
      rw [hf] at q
      have key : spP X.KK X.mg 1 F [.ref a] H Q (WE W0 σ) := by
        refine spP_val (W := W0) (σ := σ) ok lv (Stp.refl _ _ _ _ _) lv (ss := [.obj .bx]) (.cons ⟨a, c, eb, rfl⟩ .nil) rfl ?_
        rw [hf]
        exact q
      exact key
/-! len(self) -/
def mLenO (F : List Sl → SrcSt → CRes) (i : Nat) : M Sl := fun m => match dkOf m i with
  | some _ => (match F [.obj .bx] m.st with | .ok (.dat (.int k)) st' => if 0 ≤ k ∧ k ≤ 1000000 then .ok (.dat (.int k)) ⟨m.env, st'⟩ else .bad | _ => .bad)
  | none => .bad
theorem pp_lenO {F : List Sl → SrcSt → CRes} {k : Nat} {f : Addr} {fd : FuncData} {ps : List Str} (dc : DkC X.K C) (hg : Gl X "len") (hm : X.mg "len" = none) (hl : PySem.W.findIn X.K (.ref C) "__len__" = some (some (.ref f))) (hf : PySem.W.isFn X.K (.ref f) = true) (G : FnOk X.prog X.w X.KK X.mg X.base (L2.CX X.prog X.w) k f fd ps (spP X.KK X.mg 1 F)) (hr : Room (k + 1) X.A) (hb : Binds X.KK fd ps [])
    (hN : X.N[i]? = some x := by rfl) (hv : Vis X.env.scope x := by first | exact Or.inl rfl | exact Or.inr (Or.inl rfl) | exact Or.inr (Or.inr rfl)) (hd : (x == ("__debug__" : Str)) = false := by decide) (hcd : (x == ("__classdict__" : Str)) = false := by decide)
    (hs : starEach [.Name x p0] X.env = (false, eval (.Name x p0) X.env) :: starEach [] X.env := by rfl) (hpl : (backTo pos (starEach [] X.env)).any (·.1) = false := by rfl) : PP X W (.Call (.Name "len" p1) [.Name x p0] [] pos) (mLenO F i) := by
  refine PE.imp (pe_lenO (C := C) (E := WE W0 []) hg hm (pe_var (i := i) hN hv hd hcd) hl hf G hr hb passN hs hpl) fun σ H Q q => ?_
  obtain ⟨w, T, me, ok, lv, q⟩ := q
  unfold mLenO at q
  cases h : dkOf me i with
  | none => rw [h] at q; exact q.elim
  | some z =>
    obtain ⟨l, n0⟩ := z
    rw [h] at q
    simp only at q
    obtain ⟨_, _, a, c, dx, vs0, ev, eb, nac, _, _, ea, hc, dd⟩ := lv.dk dc h
    refine ⟨.ref a, ev, a, dx, deskF c n0, rfl, ea, ?_⟩
    cases hf : F [.obj .bx] me.st with
    | bad => rw [hf] at q; exact q.elim
    | exc y st' => rw [hf] at q; exact q.elim
    | ok s st' =>
      rw [hf] at q
      have key : spP X.KK X.mg 1 F [.ref a] H (fun v H2 => ∃ n : Nat, v = .int n ∧ (n : Int) < 2 ^ 63 ∧ Q (.int n) H2) (WE W0 σ) := by
        refine spP_val (W := W0) (σ := σ) ok lv (Stp.refl _ _ _ _ _) lv (ss := [.obj .bx]) (.cons ⟨a, c, eb, rfl⟩ .nil) rfl ?_
        rw [hf]
        split at q
        · rename_i k st2 heq
          cases heq
          split at q
          · rename_i hk
            intro v H1 T1 s1 lv1 p1
            obtain ⟨n, rfl⟩ := Int.eq_ofNat_of_zero_le hk.1
            have p1 : DD X.KK T1 H1 v (.int (n : Int)) := p1
            cases p1
            have hq := q (.int (n : Int)) H1 T1 s1 lv1 (DD.int _)
            exact ⟨n, rfl, Int.lt_of_le_of_lt hk.2 (by decide), hq⟩
          · exact q.elim
        · exact q.elim
      exact key
end
end PL
namespace PL
open PySem PySem.Spec PyProof.Rows L2
/-! ### a desk is made; then the rest of the suite -/
def st0 : SrcSt := ⟨[], 0, .no⟩
/-- the promise of a desk's __init__ -/
def spMk (K : Kx) (mg : Str → Option Value) (C : Addr) (F : List Sl → SrcSt → CRes) : Sp := fun vs H Q E =>
  ∃ (x dx : Addr) (vb vt : V) (d e : PyData) (T : Addr → Prop), vs = [.ref x, vb, vt] ∧ H x = some (.ins C dx []) ∧ (∀ b, T b → H b ≠ none) ∧ DD K T H vb d ∧ DD K T H vt e ∧ match F [.dat d, .dat e] st0 with
    | .ok _ _ => ∀ (c p : Addr) (H' : Hp), H c = none → H p = none → c ≠ p → (∀ b o, b ≠ x → H b = some o → H' b = some o) → H' x = some (.ins C dx (deskF c 0)) → H' p = some (.tup [vb, vt]) → H' c = some (.lst [.ref p]) → Q .non H'
    | .exc y _ => ∀ cl dd H', Same0 H H' → XR K mg T H' cl dd y → E cl dd H'
    | .bad => False
section
variable {X : Cx} {CX : CXT} {k : Nat} {f C : Addr} {fd : FuncData} {ps : List Str} {sp : Sp} {E : L2.St → XK} {x : Str} {p pos : Pos} {e : Expr} {es : List Expr} {t : TA}
theorem run_makeS {pins : List (Addr × Obj)} {σ : L2.St} {H : Hp} {s : Shared} {Q : VK} {us : List Value} {vs : List V} (M : Mk X.K C f) (F : FnOk X.prog X.w X.K X.mg X.base CX k f fd ps sp) (hr : Room (k + 1) X.A) (hb : Binds X.K fd ps [])
    (hx : PassesAt CX X σ (E σ)) (I : Inv X pins σ H s) (r : Vals vs us)
    (h : ∀ x dx, H x = none → H dx = none → dx ≠ x → sp (.ref x :: vs) (L2.upd (L2.upd H dx (.own x)) x (.ins C dx [])) (fun v H2 => v = .non ∧ Q (.ref x) H2) (E σ)) :
    wpAny (model X.prog X.w) X.A (call (.ref C) us) (EP X pins σ Q) X.xe s := by
  have hq := h (s.heap.objs.size + 1) s.heap.objs.size (I.hok.fresh (Nat.le_succ _)) (I.hok.fresh (Nat.le_refl _)) (Nat.ne_of_lt (Nat.lt_succ_self _))
  have I2 := Inv.made (C := C) I
  have r2 : Vals (V.ref (s.heap.objs.size + 1) :: vs) (Value.ref (s.heap.objs.size + 1) :: us) := .cons rfl r
  have hl : (Value.ref (s.heap.objs.size + 1) :: us).length = ps.length := by
    have e := r2.length
    rw [F.len _ _ _ _ hq] at e
    exact e.symm
  have b := hb { s with heap := _ } (Value.ref (s.heap.objs.size + 1) :: us) I2.kIn (by rw [List.append_nil]; exact hl)
  rw [List.append_nil] at b
  refine wpAny_call (make_map (f := f) I.kIn M.makes M.init (beq_iff_eq.mp M.fn) (codeAny_mono (F.run _ X.stack _ _ ⟨Value.ref (s.heap.objs.size + 1) :: us, []⟩ (Value.ref (s.heap.objs.size + 1) :: us) _ _ (E σ) (hr.make C us [])
    (I2.env0.make C us []) b r2 hq) fun r s' hq' => ?_))
  cases r with
  | error e => exact hx pins _ _ e s' I2 hq'
  | ok fl =>
    cases fl with
    | ret u =>
      obtain ⟨v, H', I3, rv, ev, q3⟩ := I2.after hq'
      subst ev
      exact ⟨rv, ⟨V.ref (s.heap.objs.size + 1), H', I3, rfl, q3⟩⟩
    | next => exact False.elim hq'
    | brk => exact False.elim hq'
    | cont => exact False.elim hq'
def tMakeS (C : Addr) (sp : Sp) (E : L2.St → XK) (t : TA) : TE := fun σ H Q => t σ H fun vs H1 => ∀ x dx, H1 x = none → H1 dx = none → dx ≠ x →
  sp (.ref x :: vs) (L2.upd (L2.upd H1 dx (.own x)) x (.ins C dx [])) (fun v H2 => v = .non ∧ Q (.ref x) H2) (E σ)
theorem pe_makeS (M : Mk X.K C f) (F : FnOk X.prog X.w X.K X.mg X.base CX k f fd ps sp) (hr : Room (k + 1) X.A) (hg : Gl X x) (hm : X.mg x = some (.ref C)) (hb : Binds X.K fd ps []) (hx : ∀ σ, PassesAt CX X σ (E σ))
    (ha : PA X (e :: es) t) (hdb : (x == ("__debug__" : Str)) = false := by decide) (he : starEach (e :: es) X.env = (false, eval e X.env) :: starEach es X.env := by rfl) (hpl : (backTo pos (starEach es X.env)).any (·.1) = false := by rfl) :
    PE X (.Call (.Name x p) (e :: es) [] pos) (tMakeS C sp E t) := by
  refine ⟨fun pins s σ H Q I h => ?_⟩
  refine wpAny_Call_Name_kw (ld_glob I hg hm ?_ hdb)
  refine PySem.W.callWith_K (h₀ := X.base) I.ok.mod.kin M.kp (thn (ha.run pos pins s σ H _ I h) fun us s1 ⟨vs, H1, I1, r, q⟩ => ⟨I1.kIn, ?_⟩) he hpl
  exact run_makeS M F hr hb (hx σ) I1 r q
end
/-- x = Desk(..), then the rest -/
def mMk (F : List Sl → SrcSt → CRes) (ms : List (M Sl)) (i : Nat) (n : M Flow) : M Flow := fun m => (mArgs ms m).bind fun ss m1 => match ss with
  | [.dat d, .dat e] => (match F [.dat d, .dat e] st0 with
    | .ok _ _ => mBox (.dsk [.tuple [d, e]] 0) .bx i n m1
    | .exc y _ => .exc y m1
    | .bad => .bad)
  | _ => .bad
section
variable {X : Cx} {W : WX} {pos : Pos} {rest : List Stmt} {C : Addr}
theorem pss_newDk {i : Nat} {x : Str} {n : M Flow} {F : List Sl → SrcSt → CRes} {ms : List (M Sl)} {k : Nat} {f : Addr} {fd : FuncData} {ps : List Str} {e : Expr} {es : List Expr} {p1 p2 p3 : Pos} (dc : DkC X.K C) (M : Mk X.K C f) (G : FnOk X.prog X.w X.KK X.mg X.base (L2.CX X.prog X.w) k f fd ps (spMk X.KK X.mg C F)) (hr : Room (k + 1) X.A) (hg : Gl X "Desk") (hm : X.mg "Desk" = some (.ref C)) (hb : Binds X.K fd ps []) (hxp : PassX X W)
    (ha : PPs X W (e :: es) (mArgs ms)) (hN : X.N.Nodup) (hrest : PPSs X W rest n) (hi : X.N[i]? = some x := by rfl) (hx : Loc X.env.scope x := by first | exact .inl rfl | exact .inr rfl)
    (hs : swapsWith (.Call (.Name "Desk" p2) (e :: es) [] p3) (some (.Name x p1)) pos.line X.env = pure false := by rfl) (hf : X.fn x = true ∨ X.env.scope.names.lookup x = some .local := by first | exact .inl rfl | exact .inr rfl)
    (he : starEach (e :: es) X.env = (false, eval e X.env) :: starEach es X.env := by rfl) (hpl : (backTo p3 (starEach es X.env)).any (·.1) = false := by rfl) :
    PPSs X W (.Assign [.Name x p1] (.Call (.Name "Desk" p2) (e :: es) [] p3) pos :: rest) (mMk F ms i n) := by
  refine PSs.imp (pss_cons (ps_set hN hi hx (pe_makeS (E := WE W) M G hr hg hm hb hxp ha (by decide) he hpl) hs hf) hrest) fun D σ H q => ?_
  obtain ⟨w, T, me, ok, lv, q⟩ := q
  unfold mMk at q
  unfold tSeq tAsg tMakeS
  refine ⟨w, T, me, ok, lv, ?_⟩
  cases hms : mArgs ms me with
  | bad => rw [hms] at q; exact q
  | exc y me1 =>
    rw [hms] at q
    exact fun cl dd H' T' fr lv' xr => q cl dd σ H' T' fr lv' xr
  | ok ss me1 =>
    rw [hms] at q
    simp only [Res.bind_ok] at q
    intro vs H1 T1 s1 lv1 p1 a dx na ndx nda
    split at q
    · rename_i d e'
      obtain ⟨vb, vt, rfl, hvb, hvt⟩ := p1.two
      have hvb : DD X.KK T1 H1 vb d := hvb
      have hvt : DD X.KK T1 H1 vt e' := hvt
      have smI : Same0 H1 (L2.upd (L2.upd H1 dx (.own a)) a (.ins C dx [])) := fun b o h => by
        rw [upd_ne (fun z => by subst z; rw [na] at h; cases h), upd_ne (fun z => by subst z; rw [ndx] at h; cases h)]
        exact h
      have lvI := lv1.same smI
      refine ⟨a, dx, vb, vt, d, e', T1, rfl, upd_same, lvI.al, hvb.to smI.fr, hvt.to smI.fr, ?_⟩
      cases hF : F [.dat d, .dat e'] st0 with
      | bad => rw [hF] at q; exact q.elim
      | exc y st' =>
        rw [hF] at q
        intro cl dd H' sm xr
        have sm1 : Same0 H1 H' := fun b o h => sm b o (smI b o h)
        exact q cl dd σ H' T1 ((s1.fr ok lv.t0).trans sm1.fr) (lv1.same sm1) xr
      | ok s st' =>
        rw [hF] at q
        intro c p H' nc np ncp keep hx' hp' hc'
        refine ⟨rfl, ?_⟩
        have ca : c ≠ a := fun z => by subst z; rw [upd_same] at nc; cases nc
        have pa : p ≠ a := fun z => by subst z; rw [upd_same] at np; cases np
        rw [upd_ne ca] at nc
        rw [upd_ne pa] at np
        have cdx : c ≠ dx := fun z => by subst z; rw [upd_same] at nc; cases nc
        have pdx : p ≠ dx := fun z => by subst z; rw [upd_same] at np; cases np
        rw [upd_ne cdx] at nc
        rw [upd_ne pdx] at np
        have sm1 : Same0 H1 H' := fun b o h => keep b o (fun z => by subst z; rw [na] at h; cases h) (smI b o h)
        have nTp : ¬ T1 p := fun z => lv1.al p z np
        have frT : Fr T1 H1 (fun b => T1 b ∨ b = a ∨ b = c) H' := fun b o nb h => ⟨sm1 b o h, fun z => by
          rcases z with z | z | z
          · exact nb z
          · subst z; rw [na] at h; cases h
          · subst z; rw [nc] at h; cases h⟩
        have key : tS X.KK X.mg W n D (σ.set i (some (.ref a))) H' := by
          refine box_enter (b0 := .dsk [.tuple [d, e']] 0) (k := .bx) ok lv1 (Ne.symm ca) na nc sm1 ⟨⟨C, dx, dc.ns, hx'⟩, [.ref p], hc', .cons (.tup (.inl ⟨.inl hp', fun z => ?_⟩) (.cons (hvb.to frT) (.cons (hvt.to frT) .nil))) .nil⟩ ⟨a, c, rfl, rfl⟩ ?_
          · rcases z with z | z | z
            · exact nTp z
            · exact pa z
            · exact ncp z.symm
          · exact SRn.after (s1.fr ok lv.t0) q
        exact key
    · exact q.elim
end
end PL
namespace PL
open PySem PySem.Spec PyProof.Rows L2
/-! ### a desk's __init__ -/
theorem putS (c : Addr) : putF (Str.ofString "_stands") (.ref c) [] = [(Str.ofString "_stands", V.ref c)] := rfl
theorem putA0 (c : Addr) (n : Int) : putF (Str.ofString "_at") (.int n) [(Str.ofString "_stands", V.ref c)] = deskF c n := by
  unfold deskF
  simp only [putF]
  rw [if_neg (by decide +kernel)]
theorem ok_initDk {P : Program} {w : World} {K : PySem.W.Frag} {mg : Str → Option Value} {base : Heap} {k : Nat} {st : Stmt} {fI C fa : Addr} {fd fda : FuncData} {Fc : List Sl → SrcSt → CRes} {q0 q1 q2 q3 q4 p1 p2 p3 p4 p5 p6 p7 r1 r2 r3 r4 : Pos} {kk : Nat} {j : Nat} (F : Fun K "__init__" "Desk.__init__" st fI fd) (S : FnScope ["self", "book", "text"] ["self", "book", "text"] (defScope st)) (dc : DkC K C)
    (hb : defBody st = [.Expr (.Call (.Name "check_book_and_text" q0) [.Name "book" q1, .Name "text" q2] [] q3) q4, .Assign [.Attribute (.Name "self" p1) "_stands" p2] (.List [.Tuple [.Name "book" p3, .Name "text" p4] kk p5] p6) p7, .Assign [.Attribute (.Name "self" r1) "_at" r2] (.Constant (.int 0) j r3) r4])
    (h0 : (defScope st).names.lookup ("self" : Str) = some NameKind.local) (h1 : (defScope st).names.lookup ("book" : Str) = some NameKind.local) (h2 : (defScope st).names.lookup ("text" : Str) = some NameKind.local) (hgl : ∀ (env : Env), env.scope = defScope st → env.kindOf "check_book_and_text" = some .globalImplicit)
    (hs0 : ∀ (env : Env), env.scope = defScope st → swapsWith (.Call (.Name "check_book_and_text" q0) [.Name "book" q1, .Name "text" q2] [] q3) none q4.line env = pure false)
    (hs1 : ∀ (env : Env), env.scope = defScope st → swapsWith (.List [.Tuple [.Name "book" p3, .Name "text" p4] kk p5] p6) (some (.Attribute (.Name "self" p1) "_stands" p2)) p7.line env = pure false) (hs2 : ∀ (env : Env), env.scope = defScope st → swapsWith (.Constant (.int 0) j r3) (some (.Attribute (.Name "self" r1) "_at" r2)) r4.line env = pure false)
    (G : FnOk P w K mg base (L2.CX P w) k fa fda ["book", "text"] (spP ⟨K, P, w⟩ mg 2 Fc)) (gm : mg "check_book_and_text" = some (.ref fa)) (gk : PySem.W.keepIn K (.ref fa) = true) (gb : Binds K fda ["book", "text"] []) :
    FnOk P w K mg base (L2.CX P w) (k + 1) fI fd ["self", "book", "text"] (spMk ⟨K, P, w⟩ mg C Fc) := by
  refine F.okX S (fun vs H Q E h => ?_) (fun cdv A' outer s H vs Q E hr h => ?_)
  · obtain ⟨_, _, _, _, _, _, _, rfl, _⟩ := h
    rfl
  · obtain ⟨a, dx, vb, vt, d, e, T, rfl, ha, al, db, dt, h⟩ := h
    rw [hb]
    have tk := takes_of (X := cxOf (L2.CX P w) P w K mg base ["self", "book", "text"] "Desk.__init__" (defScope st) fI cdv A' outer s H E) (E := E) rfl rfl rfl rfl
    refine ⟨_, pss_cons (ps_expr (pe_callS G (hr.mono (Nat.le_refl _)) (hgl _ rfl) gm gk gb (passW tk) (pa_cons (pe_var (i := 1) rfl (.inl h1)) (pa_cons (pe_var (i := 2) rfl (.inl h2)) pa_nil))) (hs0 _ rfl))
      (pss_cons (ps_fld (pe_var (i := 0) rfl (.inl h0)) (pe_lst (pa_cons (pe_tup (pa_cons (pe_var (i := 1) rfl (.inl h1)) (pa_cons (pe_var (i := 2) rfl (.inl h2)) pa_nil))) pa_nil)) (hs1 _ rfl))
      (pss_one (ps_fld (pe_var (i := 0) rfl (.inl h0)) pe_int (hs2 _ rfl)))), ?_⟩
    unfold tSeq tDrop
    refine ⟨vb, rfl, vt, rfl, ?_⟩
    refine ⟨Sc.no, T, [.dat d, .dat e], st0, rfl, (fun b z => by rcases z with ⟨_, _, z, _⟩ | ⟨_, _, z, _⟩ <;> cases z), al, ⟨(fun _ _ z => nomatch z), ⟨fun _ => rfl, (fun _ _ z => nomatch z)⟩⟩, .cons db (.cons dt .nil), ?_⟩
    have exS : ∀ {H' : Hp}, Ex Sc.no H H' → Same0 H H' := fun ex b o h => ex b o (fun z => by rcases z with ⟨_, _, z, _⟩ | ⟨_, _, z, _⟩ <;> cases z) h
    cases hF : Fc [.dat d, .dat e] st0 with
    | bad => rw [hF] at h; exact h
    | exc y st' =>
      rw [hF] at h
      exact fun cl dd H' ex _ xr => h cl dd H' (exS ex) xr
    | ok s st' =>
      rw [hF] at h
      intro v H1 ex _ _
      have sm := exS ex
      refine ⟨vb, rfl, vt, rfl, by show 2 ≤ sizeLine; decide, fun p hp => ⟨by show 1 ≤ sizeLine; decide, fun c hc => ?_⟩⟩
      have pc : p ≠ c := fun z => by subst z; rw [upd_same] at hc; cases hc
      rw [upd_ne (Ne.symm pc)] at hc
      have ha1 := sm _ _ ha
      have ap : a ≠ p := fun z => by subst z; rw [hp] at ha1; cases ha1
      have ac : a ≠ c := fun z => by subst z; rw [hc] at ha1; cases ha1
      refine ⟨.ref a, rfl, a, C, dx, [], rfl, by rw [upd_ne ac, upd_ne ap]; exact ha1, dc.cls, dc.st, by decide, ?_⟩
      rw [putS]
      refine ⟨.ref a, rfl, a, C, dx, [(Str.ofString "_stands", .ref c)], rfl, upd_same, dc.cls, dc.at_, (show (1 : Nat) < 1000 by decide), ?_⟩
      rw [putA0]
      have nH : ∀ {b : Addr}, H1 b = none → H b = none := fun {b} hb => by
        cases e : H b with
        | none => rfl
        | some o => rw [sm b o e] at hb; cases hb
      refine h c p _ (nH hc) (nH hp) (Ne.symm pc) (fun b o nb hbo => ?_) upd_same ?_ ?_
      · have h1 := sm b o hbo
        rw [upd_ne nb, upd_ne nb, upd_ne (fun z => by subst z; rw [hc] at h1; cases h1), upd_ne (fun z => by subst z; rw [hp] at h1; cases h1)]
        exact h1
      · rw [upd_ne (Ne.symm ap), upd_ne (Ne.symm ap), upd_ne pc, upd_same]
      · rw [upd_ne (Ne.symm ac), upd_ne (Ne.symm ac), upd_same]
end PL
namespace PL
open PySem PySem.Spec PyProof.Rows L2
/-! ### text.count(text) -/
section
variable {X : Cx} {W : WX} {pos : Pos} {a b c e : Expr}
def pSCnt (x y : PyData) : Option PyData := match x, y with
  | .str a, .str b => some (.int (Txt.count a b))
  | _, _ => none
theorem pp_scount {x y : M PyData} {p2 p3 : Pos} (ha : PB X W a x) (hb : PB X W b y)
    (hbase : attributeBase a "count" X.env (eval a X.env) = eval a X.env := by rfl)
    (hfew : ((backTo p3 (starEach [b] X.env)).all (fun x => !x.1) && (backToKw p3 (keywordEach [] X.env)).all (fun x => x.1.isSome) && decide ([b].length + ([] : List Keyword).length + (if ([] : List Keyword).isEmpty then 0 else 1) < 30)) = true := by rfl)
    (hline : (p2.endLine == p3.line) = true := by rfl) (hs : starEach [b] X.env = (false, eval b X.env) :: starEach [] X.env := by rfl) (hpl : (backTo p3 (starEach [] X.env)).any (·.1) = false := by rfl) :
    PP X W (.Call (.Attribute a "count" p2) [b] [] p3) (mOp pSCnt (mStr x) y) := by
  refine PE.imp (pe_bm PySem.F.plainAttrs_str PySem.F.slot_str_count PySem.F.type_str_count mt_count ha (pa_cons hb pa_nil hs) hbase hfew hline hs hpl) fun σ H Q q => ?_
  obtain ⟨w, T, me, ok, lv, q⟩ := q
  refine Rn.str ok lv q fun T1 me1 s H1 s1 lv1 q1 => ⟨rfl, ?_⟩
  refine Rn.seq ok lv1 q1 fun T2 me2 u d H2 s2 lv2 p2 q2 => ?_
  cases hf : pSCnt (.str s) d with
  | none => rw [hf] at q2; exact q2.elim
  | some z =>
    rw [hf] at q2
    unfold pSCnt at hf
    split at hf
    · rename_i e1
      cases e1; cases hf
      exact ⟨_, _, rfl, by rw [p2.str], q2 _ H2 T2 (Stp.refl _ _ _ _ _) lv2 (DD.int _)⟩
    · cases hf

end
end PL
namespace PL
open PySem PySem.Spec PyProof.Rows L2
/-! ### readings, evaluated: lemmas for simp -/
section
variable {α β : Type} {m m1 : Me} {env : List (Option Sl)} {st st' : SrcSt} {d e : PyData} {s : Sl} {b : Bool}
def opR (o : Option PyData) (m : Me) : Res Sl := match o with
  | some z => .ok (.dat z) m
  | none => .bad
@[simp] theorem opR_some : opR (some d) m = .ok (.dat d) m := rfl
@[simp] theorem opR_none : opR none m = .bad := rfl
@[simp] theorem mOp_x {f : PyData → PyData → Option PyData} {x y : M PyData} : mOp f x y m = (x m).bind fun d m1 => (y m1).bind fun e m2 => opR (f d e) m2 := rfl
@[simp] theorem mOp1_x {f : PyData → Option PyData} {x : M PyData} : mOp1 f x m = (x m).bind fun d m1 => opR (f d) m1 := rfl
@[simp] theorem mCal_x {f : List PyData → Option PyData} {x : M (List PyData)} : mCal f x m = (x m).bind fun d m1 => opR (f d) m1 := rfl
@[simp] theorem mBs_nil : mBs [] m = .ok [] m := rfl
@[simp] theorem mBs_cons {x : M PyData} {r : List (M PyData)} : mBs (x :: r) m = (x m).bind fun d m1 => (mBs r m1).bind fun ds m2 => .ok (d :: ds) m2 := rfl
@[simp] theorem mArgs_nil : mArgs [] m = .ok [] m := rfl
@[simp] theorem mArgs_cons {x : M Sl} {r : List (M Sl)} : mArgs (x :: r) m = (x m).bind fun d m1 => (mArgs r m1).bind fun ds m2 => .ok (d :: ds) m2 := rfl
@[simp] theorem mC_x {a : α} : mC a m = .ok a m := rfl
def datR (s : Sl) (m : Me) : Res PyData := match s with
  | .dat d => .ok d m
  | _ => .bad
@[simp] theorem datR_dat : datR (.dat d) m = .ok d m := rfl
@[simp] theorem mDat_x {x : M Sl} : mDat x m = (x m).bind datR := rfl
def testR (s : Sl) (m : Me) : Res Bool := match s with
  | .dat (.bool b) => .ok b m
  | _ => .bad
@[simp] theorem testR_b : testR (.dat (.bool b)) m = .ok b m := rfl
@[simp] theorem mTest_x {x : M Sl} : mTest x m = (x m).bind testR := rfl
@[simp] theorem mNot_x {x : M Bool} : mNot x m = (x m).bind fun b m' => .ok (!b) m' := rfl
@[simp] theorem mAnd_x {x y : M Bool} : mAnd x y m = (x m).bind fun k m' => if k = true then y m' else .ok false m' := rfl
@[simp] theorem mOr_x {x y : M Bool} : mOr x y m = (x m).bind fun k m' => if k = true then .ok true m' else y m' := rfl
@[simp] theorem mBl_x {x : M Bool} : mBl x m = (x m).bind fun b m' => .ok (.dat (.bool b)) m' := rfl
@[simp] theorem mIf_x {c : M Bool} {x y : M α} : mIf c x y m = (c m).bind fun k m' => if k = true then x m' else y m' := rfl
@[simp] theorem mAndV_x {x y : M Sl} : mAndV x y m = (mTest x m).bind fun k m1 => if k = true then y m1 else .ok (.dat (.bool false)) m1 := rfl
@[simp] theorem mOrV_x {x y : M Sl} : mOrV x y m = (mTest x m).bind fun k m1 => if k = true then .ok (.dat (.bool true)) m1 else y m1 := rfl
@[simp] theorem mNotV_x {x : M Sl} : mNotV x m = (mTest x m).bind fun k m1 => .ok (.dat (.bool (!k))) m1 := rfl
def isiR (t : String) (d : PyData) (m : Me) : Res Sl := if noTupK d = true then (match kitB (tyName d) t with
  | some b => .ok (.dat (.bool b)) m
  | none => .bad) else .bad
@[simp] theorem mIsi_x {t : String} {x : M PyData} : mIsi t x m = (x m).bind (isiR t) := rfl
theorem isiR_of {t : String} (h1 : noTupK d = true) (h2 : kitB (tyName d) t = some b) : isiR t d m = .ok (.dat (.bool b)) m := by unfold isiR; rw [if_pos h1, h2]
def chR (f g : PyData → PyData → Option PyData) (d e : PyData) (z : M PyData) (o : Option PyData) (m : Me) : Res Sl := match o with
  | some (.bool true) => (z m).bind fun dz m3 => opB (g e dz) m3
  | some (.bool false) => .ok (.dat (.bool false)) m
  | _ => .bad
where opB (o : Option PyData) (m : Me) : Res Sl := match o with
  | some (.bool k) => .ok (.dat (.bool k)) m
  | _ => .bad
@[simp] theorem opB_x : chR.opB (some (.bool b)) m = .ok (.dat (.bool b)) m := rfl
@[simp] theorem chR_b {f g : PyData → PyData → Option PyData} {z : M PyData} : chR f g d e z (some (.bool b)) m = if b = true then (z m).bind fun dz m3 => chR.opB (g e dz) m3 else .ok (.dat (.bool false)) m := by cases b <;> rfl
@[simp] theorem mChain_x {f g : PyData → PyData → Option PyData} {x y z : M PyData} : mChain f g x y z m = (x m).bind fun d m1 => (y m1).bind fun e m2 => chR f g d e z (f d e) m2 := by
  unfold mChain
  congr
def tupR (ss : List Sl) (m : Me) : Res Sl := match datsOf ss with
  | some ds => if ds.length ≤ sizeLine then .ok (.dat (.tuple ds)) m else .bad
  | none => .bad
@[simp] theorem mTup_x {x : M (List Sl)} : mTup x m = (x m).bind tupR := rfl
theorem big_line {n : Nat} (h : n ≤ 1000000) : n ≤ sizeLine := by rw [sizeLine_eq]; omega
@[simp] theorem tupR_0 : tupR [] m = .ok (.dat (.tuple [])) m := by unfold tupR; simp only [datsOf, Option.map_some]; rw [if_pos (big_line (by simp only [List.length_cons, List.length_nil]; omega))]
@[simp] theorem tupR_1 {a : PyData} : tupR [.dat a] m = .ok (.dat (.tuple [a])) m := by unfold tupR; simp only [datsOf, Option.map_some]; rw [if_pos (big_line (by simp only [List.length_cons, List.length_nil]; omega))]
@[simp] theorem tupR_2 {a b : PyData} : tupR [.dat a, .dat b] m = .ok (.dat (.tuple [a, b])) m := by unfold tupR; simp only [datsOf, Option.map_some]; rw [if_pos (big_line (by simp only [List.length_cons, List.length_nil]; omega))]
@[simp] theorem tupR_3 {a b c : PyData} : tupR [.dat a, .dat b, .dat c] m = .ok (.dat (.tuple [a, b, c])) m := by unfold tupR; simp only [datsOf, Option.map_some]; rw [if_pos (big_line (by simp only [List.length_cons, List.length_nil]; omega))]
@[simp] theorem tupR_4 {a b c d : PyData} : tupR [.dat a, .dat b, .dat c, .dat d] m = .ok (.dat (.tuple [a, b, c, d])) m := by unfold tupR; simp only [datsOf, Option.map_some]; rw [if_pos (big_line (by simp only [List.length_cons, List.length_nil]; omega))]
def lstR (ss : List Sl) (m : Me) : Res PyData := match datsOf ss with
  | some ds => if ds.length ≤ sizeLine then .ok (.list ds) m else .bad
  | none => .bad
@[simp] theorem mLst_x {x : M (List Sl)} : mLst x m = (x m).bind lstR := rfl
theorem lstR_of {ss : List Sl} {ds : List PyData} (h : datsOf ss = some ds) (hl : ds.length ≤ 1000000) : lstR ss m = .ok (.list ds) m := by unfold lstR; rw [h]; simp only; rw [if_pos (big_line hl)]
@[simp] theorem lstR_0 : lstR [] m = .ok (.list []) m := lstR_of rfl (by simp)
@[simp] theorem mL_x {x : M PyData} : mL x m = (x m).bind fun l m' => .ok (.dat l) m' := rfl
/-! statements -/
def seqR (f : Flow) (b : M Flow) (m : Me) : Res Flow := match f with
  | .next => b m
  | f => .ok f m
@[simp] theorem seqR_n {b : M Flow} : seqR .next b m = b m := rfl
@[simp] theorem seqR_r {b : M Flow} : seqR (.ret s) b m = .ok (.ret s) m := rfl
@[simp] theorem seqR_b {b : M Flow} : seqR .brk b m = .ok .brk m := rfl
@[simp] theorem seqR_c {b : M Flow} : seqR .cont b m = .ok .cont m := rfl
@[simp] theorem mSeq_x {a b : M Flow} : mSeq a b m = (a m).bind fun f m1 => seqR f b m1 := by
  unfold mSeq; congr
@[simp] theorem mIfS_x {c : M Bool} {a b : M Flow} : mIfS c a b m = (c m).bind fun x m1 => if x = true then a m1 else b m1 := rfl
@[simp] theorem mNext_x : mNext m = .ok .next m := rfl
@[simp] theorem mBrk_x : mBrk m = .ok .brk m := rfl
@[simp] theorem mCont_x : mCont m = .ok .cont m := rfl
@[simp] theorem mDrop_x {x : M Sl} : mDrop x m = (x m).bind fun _ m1 => .ok .next m1 := rfl
@[simp] theorem mRet_x {x : M Sl} : mRet x m = (x m).bind fun s m1 => .ok (.ret s) m1 := rfl
@[simp] theorem mRetN_x : mRetN m = .ok (.ret (.dat .none)) m := rfl
@[simp] theorem mRetO_x {x : M PyData} : mRetO x m = (x m).bind fun d m1 => .ok (.ret (.own d)) m1 := rfl
@[simp] theorem mRetC_x {F : List Sl → SrcSt → CRes} {x : M (List Sl)} : mRetC F x m = (x m).bind fun xs m1 => resR m1 (F xs m1.st) := rfl
@[simp] theorem mRaise_x {x : Xn} : mRaise x m = .exc x m := rfl
def setR (i : Nat) (s : Sl) (m : Me) : Res Flow := match putE i s m with
  | some m2 => .ok .next m2
  | none => .bad
@[simp] theorem mSet_x {i : Nat} {x : M Sl} : mSet i x m = (x m).bind fun s m1 => setR i s m1 := rfl
theorem setR_dat {i : Nat} (h : i < env.length) : setR i (.dat d) ⟨env, st⟩ = .ok .next ⟨env.set i (some (.dat d)), st⟩ := by
  unfold setR putE; simp only; rw [if_pos h]
theorem setR_src {i : Nat} (h : i < env.length) : setR i .src ⟨env, st⟩ = .ok .next ⟨env.set i (some .src), st⟩ := by
  unfold setR putE; simp only; rw [if_pos h]
theorem setR_obj {i : Nat} {x : Ob} (h : i < env.length) : setR i (.obj x) ⟨env, st⟩ = .ok .next ⟨env.set i (some (.obj x)), st⟩ := by
  unfold setR putE; simp only; rw [if_pos h]
theorem setR_exc {i : Nat} {x : Xn} (h : i < env.length) : setR i (.exc x) ⟨env, st⟩ = .ok .next ⟨env.set i (some (.exc x)), st⟩ := by
  unfold setR putE; simp only; rw [if_pos h]
def setNR (i : Nat) (d : PyData) (m : Me) : Res Flow := if i < m.env.length then .ok .next { m with env := m.env.set i (some (.own d)) } else .bad
@[simp] theorem mSetN_x {i : Nat} {x : M PyData} : mSetN i x m = (x m).bind fun s m1 => setNR i s m1 := rfl
def asgR (t : Tg) (d : PyData) (m : Me) : Res Flow := match mTgt t d m with
  | some m2 => .ok .next m2
  | none => .bad
@[simp] theorem mAsg_x {t : Tg} {x : M Sl} : mAsg t x m = (mDat x m).bind fun d m1 => asgR t d m1 := rfl
@[simp] theorem resV_d : resV ⟨env, st⟩ (.ok (.dat d) st') = .ok (.dat d) ⟨env, st'⟩ := rfl
@[simp] theorem resV_o : resV ⟨env, st⟩ (.ok (.own d) st') = .ok (.dat d) ⟨env, st'⟩ := rfl
@[simp] theorem resV_s : resV ⟨env, st⟩ (.ok .src st') = .ok .src ⟨env, st'⟩ := rfl
@[simp] theorem resV_e {x : Xn} : resV ⟨env, st⟩ (.exc x st') = .exc x ⟨env, st'⟩ := rfl
@[simp] theorem resN_o : resN ⟨env, st⟩ (.ok (.own d) st') = .ok d ⟨env, st'⟩ := rfl
@[simp] theorem resN_e {x : Xn} : resN ⟨env, st⟩ (.exc x st') = .exc x ⟨env, st'⟩ := rfl
@[simp] theorem resR_k : resR ⟨env, st⟩ (.ok s st') = .ok (.ret s) ⟨env, st'⟩ := rfl
@[simp] theorem resR_e {x : Xn} : resR ⟨env, st⟩ (.exc x st') = .exc x ⟨env, st'⟩ := rfl
@[simp] theorem mCall_x {F : List Sl → SrcSt → CRes} {x : M (List Sl)} : mCall F x m = (x m).bind fun xs m1 => resV m1 (F xs m1.st) := rfl
@[simp] theorem mCallN_x {F : List Sl → SrcSt → CRes} {x : M (List Sl)} : mCallN F x m = (x m).bind fun xs m1 => resN m1 (F xs m1.st) := rfl
def callR (r : Res Flow) : CRes := match r with
  | .ok .next m => .ok (.dat .none) m.st
  | .ok (.ret s) m => .ok s m.st
  | .ok _ _ => .bad
  | .exc x m => .exc x m.st
  | .bad => .bad
@[simp] theorem callR_n : callR (.ok .next m) = .ok (.dat .none) m.st := rfl
@[simp] theorem callR_r : callR (.ok (.ret s) m) = .ok s m.st := rfl
@[simp] theorem callR_e {x : Xn} : callR (.exc x m) = .exc x m.st := rfl
theorem callOf_x {n : Nat} {body : M Flow} {args : List Sl} : callOf n body args st = callR (body ⟨args.map some ++ List.replicate (n - args.length) none, st⟩) := by
  unfold callOf callR; rfl
theorem call_of {n : Nat} {body : M Flow} {args : List Sl} {r : CRes} (he : args.map some ++ List.replicate (n - args.length) none = env) (h : callR (body ⟨env, st⟩) = r) : callOf n body args st = r := by rw [callOf_x, he, h]
def strR (d : PyData) (m : Me) : Res PyData := match d with
  | .str s => .ok (.str s) m
  | _ => .bad
@[simp] theorem strR_s {x : Str} : strR (.str x) m = .ok (.str x) m := rfl
@[simp] theorem mStr_x {x : M PyData} : mStr x m = (x m).bind strR := rfl
@[simp] theorem mSw3_x {x y z : M PyData} : mSw3 x y z m = (mStr x m).bind fun s m1 => (y m1).bind fun t m2 => (z m2).bind fun i m3 => opR (fSw3 [s, t, i]) m3 := rfl
@[simp] theorem mPart_n : mPart none m = .ok none m := rfl
def partR (d : PyData) (m : Me) : Res (Option Int) := match d with
  | .int i => .ok (some i) m
  | _ => .bad
@[simp] theorem partR_i {i : Int} : partR (.int i) m = .ok (some i) m := rfl
@[simp] theorem mPart_s {x : M PyData} : mPart (some x) m = (x m).bind partR := rfl
@[simp] theorem mCut_x {x : M PyData} {lo hi : Option (M PyData)} : mCut x lo hi m = (x m).bind fun d m1 => (mPart lo m1).bind fun l m2 => (mPart hi m2).bind fun u m3 => opR (pCut d l u) m3 := rfl
def revR (d : PyData) (m : Me) : Res PyData := match d with
  | .list l => .ok (.list l.reverse) m
  | _ => .bad
@[simp] theorem revR_l {l : List PyData} : revR (.list l) m = .ok (.list l.reverse) m := rfl
@[simp] theorem mRev_x {x : M PyData} : mRev x m = (x m).bind revR := rfl
def itR (d : PyData) (m : Me) : Res (List PyData) := match itemsOf d with
  | some l => .ok l m
  | none => .bad
@[simp] theorem itR_l {l : List PyData} : itR (.list l) m = .ok l m := rfl
@[simp] theorem itR_t {l : List PyData} : itR (.tuple l) m = .ok l m := rfl
@[simp] theorem mIt_x {x : M Sl} : mIt x m = (mDat x m).bind itR := rfl
def enumR (d : PyData) (m : Me) : Res (List PyData) := match itemsOf d with
  | some l => .ok (enumD 0 l) m
  | none => .bad
@[simp] theorem enumR_l {l : List PyData} : enumR (.list l) m = .ok (enumD 0 l) m := rfl
@[simp] theorem enumR_t {l : List PyData} : enumR (.tuple l) m = .ok (enumD 0 l) m := rfl
@[simp] theorem mEnum_x {x : M Sl} : mEnum x m = (mDat x m).bind enumR := rfl
noncomputable def rngR (ds : List PyData) (m : Me) : Res (List PyData) := match ds with
  | [.int n] => if inB n then .ok (rngD 0 n.toNat) m else .bad
  | _ => .bad
@[simp] theorem mRng1_x {x : M (List PyData)} : mRng1 x m = (x m).bind rngR := rfl
theorem rngR_i {i : Int} (h1 : -(2 ^ 62) ≤ i ∧ i < 2 ^ 62) : rngR [.int i] m = .ok (rngD 0 i.toNat) m := by
  unfold rngR
  exact if_pos h1
theorem rngR_n {n : Nat} (h : n ≤ 1000000) : rngR [.int (n : Nat)] m = .ok (rngD 0 n) m := by
  have := rngR_i (m := m) (i := (n : Int)) ⟨Int.le_trans (b := 0) (by decide) (Int.natCast_nonneg n), Int.lt_of_le_of_lt (b := 1000000) (by omega) (by decide)⟩
  rw [Int.toNat_natCast] at this
  exact this
@[simp] theorem mFor_x {t : Tg} {it : M (List PyData)} {b : M Flow} : mFor t it b m = (it m).bind fun l m1 => forL t b l m1 := rfl

@[simp] theorem mBd_0 {r : List (Option Sl)} : mBor 0 ⟨some (.dat d) :: r, st⟩ = .ok d ⟨some (.dat d) :: r, st⟩ := rfl
@[simp] theorem mBo_0 {r : List (Option Sl)} : mBor 0 ⟨some (.own d) :: r, st⟩ = .ok d ⟨some (.own d) :: r, st⟩ := rfl
@[simp] theorem mVd_0 {r : List (Option Sl)} : mVar 0 ⟨some (.dat d) :: r, st⟩ = .ok (.dat d) ⟨some (.dat d) :: r, st⟩ := rfl
@[simp] theorem mVo_0 {r : List (Option Sl)} : mVar 0 ⟨some (.own d) :: r, st⟩ = .ok (.dat d) ⟨some (.dat d) :: r, st⟩ := rfl
@[simp] theorem mVs_0 {r : List (Option Sl)} : mVar 0 ⟨some .src :: r, st⟩ = .ok .src ⟨some .src :: r, st⟩ := rfl
@[simp] theorem mVe_0 {x : Xn} {r : List (Option Sl)} : mVar 0 ⟨some (.exc x) :: r, st⟩ = .ok (.exc x) ⟨some (.exc x) :: r, st⟩ := rfl
@[simp] theorem mVb_0 {x : Ob} {r : List (Option Sl)} : mVar 0 ⟨some (.obj x) :: r, st⟩ = .ok (.obj x) ⟨some (.obj x) :: r, st⟩ := rfl
@[simp] theorem mRv_0 {r : List (Option Sl)} : mRetV 0 ⟨some s :: r, st⟩ = .ok (.ret s) ⟨some s :: r, st⟩ := rfl
@[simp] theorem sRd_0 {x : Option Sl} {r : List (Option Sl)} : setR 0 (.dat d) ⟨x :: r, st⟩ = .ok .next ⟨some (.dat d) :: r, st⟩ := setR_dat (by simp only [List.length_cons]; omega)
@[simp] theorem sRs_0 {x : Option Sl} {r : List (Option Sl)} : setR 0 .src ⟨x :: r, st⟩ = .ok .next ⟨some .src :: r, st⟩ := setR_src (by simp only [List.length_cons]; omega)
@[simp] theorem sRe_0 {x : Option Sl} {y : Xn} {r : List (Option Sl)} : setR 0 (.exc y) ⟨x :: r, st⟩ = .ok .next ⟨some (.exc y) :: r, st⟩ := setR_exc (by simp only [List.length_cons]; omega)
@[simp] theorem sRb_0 {x : Option Sl} {y : Ob} {r : List (Option Sl)} : setR 0 (.obj y) ⟨x :: r, st⟩ = .ok .next ⟨some (.obj y) :: r, st⟩ := setR_obj (by simp only [List.length_cons]; omega)
@[simp] theorem sNo_0 {x : Option Sl} {r : List (Option Sl)} : setNR 0 d ⟨x :: r, st⟩ = .ok .next ⟨some (.own d) :: r, st⟩ := by unfold setNR; rw [if_pos (by simp only [List.length_cons]; omega)]; rfl
@[simp] theorem mTn_0 {x : Option Sl} {r : List (Option Sl)} : mTgt (.nm 0) d ⟨x :: r, st⟩ = some ⟨some (.dat d) :: r, st⟩ := by unfold mTgt; simp only; rw [if_pos (by simp only [List.length_cons]; omega)]; rfl
@[simp] theorem mBd_1 {x0 : Option Sl} {r : List (Option Sl)} : mBor 1 ⟨x0 :: some (.dat d) :: r, st⟩ = .ok d ⟨x0 :: some (.dat d) :: r, st⟩ := rfl
@[simp] theorem mBo_1 {x0 : Option Sl} {r : List (Option Sl)} : mBor 1 ⟨x0 :: some (.own d) :: r, st⟩ = .ok d ⟨x0 :: some (.own d) :: r, st⟩ := rfl
@[simp] theorem mVd_1 {x0 : Option Sl} {r : List (Option Sl)} : mVar 1 ⟨x0 :: some (.dat d) :: r, st⟩ = .ok (.dat d) ⟨x0 :: some (.dat d) :: r, st⟩ := rfl
@[simp] theorem mVo_1 {x0 : Option Sl} {r : List (Option Sl)} : mVar 1 ⟨x0 :: some (.own d) :: r, st⟩ = .ok (.dat d) ⟨x0 :: some (.dat d) :: r, st⟩ := rfl
@[simp] theorem mVs_1 {x0 : Option Sl} {r : List (Option Sl)} : mVar 1 ⟨x0 :: some .src :: r, st⟩ = .ok .src ⟨x0 :: some .src :: r, st⟩ := rfl
@[simp] theorem mVe_1 {x0 : Option Sl} {x : Xn} {r : List (Option Sl)} : mVar 1 ⟨x0 :: some (.exc x) :: r, st⟩ = .ok (.exc x) ⟨x0 :: some (.exc x) :: r, st⟩ := rfl
@[simp] theorem mVb_1 {x0 : Option Sl} {x : Ob} {r : List (Option Sl)} : mVar 1 ⟨x0 :: some (.obj x) :: r, st⟩ = .ok (.obj x) ⟨x0 :: some (.obj x) :: r, st⟩ := rfl
@[simp] theorem mRv_1 {x0 : Option Sl} {r : List (Option Sl)} : mRetV 1 ⟨x0 :: some s :: r, st⟩ = .ok (.ret s) ⟨x0 :: some s :: r, st⟩ := rfl
@[simp] theorem sRd_1 {x0 : Option Sl} {x : Option Sl} {r : List (Option Sl)} : setR 1 (.dat d) ⟨x0 :: x :: r, st⟩ = .ok .next ⟨x0 :: some (.dat d) :: r, st⟩ := setR_dat (by simp only [List.length_cons]; omega)
@[simp] theorem sRs_1 {x0 : Option Sl} {x : Option Sl} {r : List (Option Sl)} : setR 1 .src ⟨x0 :: x :: r, st⟩ = .ok .next ⟨x0 :: some .src :: r, st⟩ := setR_src (by simp only [List.length_cons]; omega)
@[simp] theorem sRe_1 {x0 : Option Sl} {x : Option Sl} {y : Xn} {r : List (Option Sl)} : setR 1 (.exc y) ⟨x0 :: x :: r, st⟩ = .ok .next ⟨x0 :: some (.exc y) :: r, st⟩ := setR_exc (by simp only [List.length_cons]; omega)
@[simp] theorem sRb_1 {x0 : Option Sl} {x : Option Sl} {y : Ob} {r : List (Option Sl)} : setR 1 (.obj y) ⟨x0 :: x :: r, st⟩ = .ok .next ⟨x0 :: some (.obj y) :: r, st⟩ := setR_obj (by simp only [List.length_cons]; omega)
@[simp] theorem sNo_1 {x0 : Option Sl} {x : Option Sl} {r : List (Option Sl)} : setNR 1 d ⟨x0 :: x :: r, st⟩ = .ok .next ⟨x0 :: some (.own d) :: r, st⟩ := by unfold setNR; rw [if_pos (by simp only [List.length_cons]; omega)]; rfl
@[simp] theorem mTn_1 {x0 : Option Sl} {x : Option Sl} {r : List (Option Sl)} : mTgt (.nm 1) d ⟨x0 :: x :: r, st⟩ = some ⟨x0 :: some (.dat d) :: r, st⟩ := by unfold mTgt; simp only; rw [if_pos (by simp only [List.length_cons]; omega)]; rfl
@[simp] theorem mBd_2 {x0 x1 : Option Sl} {r : List (Option Sl)} : mBor 2 ⟨x0 :: x1 :: some (.dat d) :: r, st⟩ = .ok d ⟨x0 :: x1 :: some (.dat d) :: r, st⟩ := rfl
@[simp] theorem mBo_2 {x0 x1 : Option Sl} {r : List (Option Sl)} : mBor 2 ⟨x0 :: x1 :: some (.own d) :: r, st⟩ = .ok d ⟨x0 :: x1 :: some (.own d) :: r, st⟩ := rfl
@[simp] theorem mVd_2 {x0 x1 : Option Sl} {r : List (Option Sl)} : mVar 2 ⟨x0 :: x1 :: some (.dat d) :: r, st⟩ = .ok (.dat d) ⟨x0 :: x1 :: some (.dat d) :: r, st⟩ := rfl
@[simp] theorem mVo_2 {x0 x1 : Option Sl} {r : List (Option Sl)} : mVar 2 ⟨x0 :: x1 :: some (.own d) :: r, st⟩ = .ok (.dat d) ⟨x0 :: x1 :: some (.dat d) :: r, st⟩ := rfl
@[simp] theorem mVs_2 {x0 x1 : Option Sl} {r : List (Option Sl)} : mVar 2 ⟨x0 :: x1 :: some .src :: r, st⟩ = .ok .src ⟨x0 :: x1 :: some .src :: r, st⟩ := rfl
@[simp] theorem mVe_2 {x0 x1 : Option Sl} {x : Xn} {r : List (Option Sl)} : mVar 2 ⟨x0 :: x1 :: some (.exc x) :: r, st⟩ = .ok (.exc x) ⟨x0 :: x1 :: some (.exc x) :: r, st⟩ := rfl
@[simp] theorem mVb_2 {x0 x1 : Option Sl} {x : Ob} {r : List (Option Sl)} : mVar 2 ⟨x0 :: x1 :: some (.obj x) :: r, st⟩ = .ok (.obj x) ⟨x0 :: x1 :: some (.obj x) :: r, st⟩ := rfl
@[simp] theorem mRv_2 {x0 x1 : Option Sl} {r : List (Option Sl)} : mRetV 2 ⟨x0 :: x1 :: some s :: r, st⟩ = .ok (.ret s) ⟨x0 :: x1 :: some s :: r, st⟩ := rfl
@[simp] theorem sRd_2 {x0 x1 : Option Sl} {x : Option Sl} {r : List (Option Sl)} : setR 2 (.dat d) ⟨x0 :: x1 :: x :: r, st⟩ = .ok .next ⟨x0 :: x1 :: some (.dat d) :: r, st⟩ := setR_dat (by simp only [List.length_cons]; omega)
@[simp] theorem sRs_2 {x0 x1 : Option Sl} {x : Option Sl} {r : List (Option Sl)} : setR 2 .src ⟨x0 :: x1 :: x :: r, st⟩ = .ok .next ⟨x0 :: x1 :: some .src :: r, st⟩ := setR_src (by simp only [List.length_cons]; omega)
@[simp] theorem sRe_2 {x0 x1 : Option Sl} {x : Option Sl} {y : Xn} {r : List (Option Sl)} : setR 2 (.exc y) ⟨x0 :: x1 :: x :: r, st⟩ = .ok .next ⟨x0 :: x1 :: some (.exc y) :: r, st⟩ := setR_exc (by simp only [List.length_cons]; omega)
@[simp] theorem sRb_2 {x0 x1 : Option Sl} {x : Option Sl} {y : Ob} {r : List (Option Sl)} : setR 2 (.obj y) ⟨x0 :: x1 :: x :: r, st⟩ = .ok .next ⟨x0 :: x1 :: some (.obj y) :: r, st⟩ := setR_obj (by simp only [List.length_cons]; omega)
@[simp] theorem sNo_2 {x0 x1 : Option Sl} {x : Option Sl} {r : List (Option Sl)} : setNR 2 d ⟨x0 :: x1 :: x :: r, st⟩ = .ok .next ⟨x0 :: x1 :: some (.own d) :: r, st⟩ := by unfold setNR; rw [if_pos (by simp only [List.length_cons]; omega)]; rfl
@[simp] theorem mTn_2 {x0 x1 : Option Sl} {x : Option Sl} {r : List (Option Sl)} : mTgt (.nm 2) d ⟨x0 :: x1 :: x :: r, st⟩ = some ⟨x0 :: x1 :: some (.dat d) :: r, st⟩ := by unfold mTgt; simp only; rw [if_pos (by simp only [List.length_cons]; omega)]; rfl
@[simp] theorem mBd_3 {x0 x1 x2 : Option Sl} {r : List (Option Sl)} : mBor 3 ⟨x0 :: x1 :: x2 :: some (.dat d) :: r, st⟩ = .ok d ⟨x0 :: x1 :: x2 :: some (.dat d) :: r, st⟩ := rfl
@[simp] theorem mBo_3 {x0 x1 x2 : Option Sl} {r : List (Option Sl)} : mBor 3 ⟨x0 :: x1 :: x2 :: some (.own d) :: r, st⟩ = .ok d ⟨x0 :: x1 :: x2 :: some (.own d) :: r, st⟩ := rfl
@[simp] theorem mVd_3 {x0 x1 x2 : Option Sl} {r : List (Option Sl)} : mVar 3 ⟨x0 :: x1 :: x2 :: some (.dat d) :: r, st⟩ = .ok (.dat d) ⟨x0 :: x1 :: x2 :: some (.dat d) :: r, st⟩ := rfl
@[simp] theorem mVo_3 {x0 x1 x2 : Option Sl} {r : List (Option Sl)} : mVar 3 ⟨x0 :: x1 :: x2 :: some (.own d) :: r, st⟩ = .ok (.dat d) ⟨x0 :: x1 :: x2 :: some (.dat d) :: r, st⟩ := rfl
@[simp] theorem mVs_3 {x0 x1 x2 : Option Sl} {r : List (Option Sl)} : mVar 3 ⟨x0 :: x1 :: x2 :: some .src :: r, st⟩ = .ok .src ⟨x0 :: x1 :: x2 :: some .src :: r, st⟩ := rfl
@[simp] theorem mVe_3 {x0 x1 x2 : Option Sl} {x : Xn} {r : List (Option Sl)} : mVar 3 ⟨x0 :: x1 :: x2 :: some (.exc x) :: r, st⟩ = .ok (.exc x) ⟨x0 :: x1 :: x2 :: some (.exc x) :: r, st⟩ := rfl
@[simp] theorem mVb_3 {x0 x1 x2 : Option Sl} {x : Ob} {r : List (Option Sl)} : mVar 3 ⟨x0 :: x1 :: x2 :: some (.obj x) :: r, st⟩ = .ok (.obj x) ⟨x0 :: x1 :: x2 :: some (.obj x) :: r, st⟩ := rfl
@[simp] theorem mRv_3 {x0 x1 x2 : Option Sl} {r : List (Option Sl)} : mRetV 3 ⟨x0 :: x1 :: x2 :: some s :: r, st⟩ = .ok (.ret s) ⟨x0 :: x1 :: x2 :: some s :: r, st⟩ := rfl
@[simp] theorem sRd_3 {x0 x1 x2 : Option Sl} {x : Option Sl} {r : List (Option Sl)} : setR 3 (.dat d) ⟨x0 :: x1 :: x2 :: x :: r, st⟩ = .ok .next ⟨x0 :: x1 :: x2 :: some (.dat d) :: r, st⟩ := setR_dat (by simp only [List.length_cons]; omega)
@[simp] theorem sRs_3 {x0 x1 x2 : Option Sl} {x : Option Sl} {r : List (Option Sl)} : setR 3 .src ⟨x0 :: x1 :: x2 :: x :: r, st⟩ = .ok .next ⟨x0 :: x1 :: x2 :: some .src :: r, st⟩ := setR_src (by simp only [List.length_cons]; omega)
@[simp] theorem sRe_3 {x0 x1 x2 : Option Sl} {x : Option Sl} {y : Xn} {r : List (Option Sl)} : setR 3 (.exc y) ⟨x0 :: x1 :: x2 :: x :: r, st⟩ = .ok .next ⟨x0 :: x1 :: x2 :: some (.exc y) :: r, st⟩ := setR_exc (by simp only [List.length_cons]; omega)
@[simp] theorem sRb_3 {x0 x1 x2 : Option Sl} {x : Option Sl} {y : Ob} {r : List (Option Sl)} : setR 3 (.obj y) ⟨x0 :: x1 :: x2 :: x :: r, st⟩ = .ok .next ⟨x0 :: x1 :: x2 :: some (.obj y) :: r, st⟩ := setR_obj (by simp only [List.length_cons]; omega)
@[simp] theorem sNo_3 {x0 x1 x2 : Option Sl} {x : Option Sl} {r : List (Option Sl)} : setNR 3 d ⟨x0 :: x1 :: x2 :: x :: r, st⟩ = .ok .next ⟨x0 :: x1 :: x2 :: some (.own d) :: r, st⟩ := by unfold setNR; rw [if_pos (by simp only [List.length_cons]; omega)]; rfl
@[simp] theorem mTn_3 {x0 x1 x2 : Option Sl} {x : Option Sl} {r : List (Option Sl)} : mTgt (.nm 3) d ⟨x0 :: x1 :: x2 :: x :: r, st⟩ = some ⟨x0 :: x1 :: x2 :: some (.dat d) :: r, st⟩ := by unfold mTgt; simp only; rw [if_pos (by simp only [List.length_cons]; omega)]; rfl
@[simp] theorem mBd_4 {x0 x1 x2 x3 : Option Sl} {r : List (Option Sl)} : mBor 4 ⟨x0 :: x1 :: x2 :: x3 :: some (.dat d) :: r, st⟩ = .ok d ⟨x0 :: x1 :: x2 :: x3 :: some (.dat d) :: r, st⟩ := rfl
@[simp] theorem mBo_4 {x0 x1 x2 x3 : Option Sl} {r : List (Option Sl)} : mBor 4 ⟨x0 :: x1 :: x2 :: x3 :: some (.own d) :: r, st⟩ = .ok d ⟨x0 :: x1 :: x2 :: x3 :: some (.own d) :: r, st⟩ := rfl
@[simp] theorem mVd_4 {x0 x1 x2 x3 : Option Sl} {r : List (Option Sl)} : mVar 4 ⟨x0 :: x1 :: x2 :: x3 :: some (.dat d) :: r, st⟩ = .ok (.dat d) ⟨x0 :: x1 :: x2 :: x3 :: some (.dat d) :: r, st⟩ := rfl
@[simp] theorem mVo_4 {x0 x1 x2 x3 : Option Sl} {r : List (Option Sl)} : mVar 4 ⟨x0 :: x1 :: x2 :: x3 :: some (.own d) :: r, st⟩ = .ok (.dat d) ⟨x0 :: x1 :: x2 :: x3 :: some (.dat d) :: r, st⟩ := rfl
@[simp] theorem mVs_4 {x0 x1 x2 x3 : Option Sl} {r : List (Option Sl)} : mVar 4 ⟨x0 :: x1 :: x2 :: x3 :: some .src :: r, st⟩ = .ok .src ⟨x0 :: x1 :: x2 :: x3 :: some .src :: r, st⟩ := rfl
@[simp] theorem mVe_4 {x0 x1 x2 x3 : Option Sl} {x : Xn} {r : List (Option Sl)} : mVar 4 ⟨x0 :: x1 :: x2 :: x3 :: some (.exc x) :: r, st⟩ = .ok (.exc x) ⟨x0 :: x1 :: x2 :: x3 :: some (.exc x) :: r, st⟩ := rfl
@[simp] theorem mVb_4 {x0 x1 x2 x3 : Option Sl} {x : Ob} {r : List (Option Sl)} : mVar 4 ⟨x0 :: x1 :: x2 :: x3 :: some (.obj x) :: r, st⟩ = .ok (.obj x) ⟨x0 :: x1 :: x2 :: x3 :: some (.obj x) :: r, st⟩ := rfl
@[simp] theorem mRv_4 {x0 x1 x2 x3 : Option Sl} {r : List (Option Sl)} : mRetV 4 ⟨x0 :: x1 :: x2 :: x3 :: some s :: r, st⟩ = .ok (.ret s) ⟨x0 :: x1 :: x2 :: x3 :: some s :: r, st⟩ := rfl
@[simp] theorem sRd_4 {x0 x1 x2 x3 : Option Sl} {x : Option Sl} {r : List (Option Sl)} : setR 4 (.dat d) ⟨x0 :: x1 :: x2 :: x3 :: x :: r, st⟩ = .ok .next ⟨x0 :: x1 :: x2 :: x3 :: some (.dat d) :: r, st⟩ := setR_dat (by simp only [List.length_cons]; omega)
@[simp] theorem sRs_4 {x0 x1 x2 x3 : Option Sl} {x : Option Sl} {r : List (Option Sl)} : setR 4 .src ⟨x0 :: x1 :: x2 :: x3 :: x :: r, st⟩ = .ok .next ⟨x0 :: x1 :: x2 :: x3 :: some .src :: r, st⟩ := setR_src (by simp only [List.length_cons]; omega)
@[simp] theorem sRe_4 {x0 x1 x2 x3 : Option Sl} {x : Option Sl} {y : Xn} {r : List (Option Sl)} : setR 4 (.exc y) ⟨x0 :: x1 :: x2 :: x3 :: x :: r, st⟩ = .ok .next ⟨x0 :: x1 :: x2 :: x3 :: some (.exc y) :: r, st⟩ := setR_exc (by simp only [List.length_cons]; omega)
@[simp] theorem sRb_4 {x0 x1 x2 x3 : Option Sl} {x : Option Sl} {y : Ob} {r : List (Option Sl)} : setR 4 (.obj y) ⟨x0 :: x1 :: x2 :: x3 :: x :: r, st⟩ = .ok .next ⟨x0 :: x1 :: x2 :: x3 :: some (.obj y) :: r, st⟩ := setR_obj (by simp only [List.length_cons]; omega)
@[simp] theorem sNo_4 {x0 x1 x2 x3 : Option Sl} {x : Option Sl} {r : List (Option Sl)} : setNR 4 d ⟨x0 :: x1 :: x2 :: x3 :: x :: r, st⟩ = .ok .next ⟨x0 :: x1 :: x2 :: x3 :: some (.own d) :: r, st⟩ := by unfold setNR; rw [if_pos (by simp only [List.length_cons]; omega)]; rfl
@[simp] theorem mTn_4 {x0 x1 x2 x3 : Option Sl} {x : Option Sl} {r : List (Option Sl)} : mTgt (.nm 4) d ⟨x0 :: x1 :: x2 :: x3 :: x :: r, st⟩ = some ⟨x0 :: x1 :: x2 :: x3 :: some (.dat d) :: r, st⟩ := by unfold mTgt; simp only; rw [if_pos (by simp only [List.length_cons]; omega)]; rfl
@[simp] theorem mBd_5 {x0 x1 x2 x3 x4 : Option Sl} {r : List (Option Sl)} : mBor 5 ⟨x0 :: x1 :: x2 :: x3 :: x4 :: some (.dat d) :: r, st⟩ = .ok d ⟨x0 :: x1 :: x2 :: x3 :: x4 :: some (.dat d) :: r, st⟩ := rfl
@[simp] theorem mBo_5 {x0 x1 x2 x3 x4 : Option Sl} {r : List (Option Sl)} : mBor 5 ⟨x0 :: x1 :: x2 :: x3 :: x4 :: some (.own d) :: r, st⟩ = .ok d ⟨x0 :: x1 :: x2 :: x3 :: x4 :: some (.own d) :: r, st⟩ := rfl
@[simp] theorem mVd_5 {x0 x1 x2 x3 x4 : Option Sl} {r : List (Option Sl)} : mVar 5 ⟨x0 :: x1 :: x2 :: x3 :: x4 :: some (.dat d) :: r, st⟩ = .ok (.dat d) ⟨x0 :: x1 :: x2 :: x3 :: x4 :: some (.dat d) :: r, st⟩ := rfl
@[simp] theorem mVo_5 {x0 x1 x2 x3 x4 : Option Sl} {r : List (Option Sl)} : mVar 5 ⟨x0 :: x1 :: x2 :: x3 :: x4 :: some (.own d) :: r, st⟩ = .ok (.dat d) ⟨x0 :: x1 :: x2 :: x3 :: x4 :: some (.dat d) :: r, st⟩ := rfl
@[simp] theorem mVs_5 {x0 x1 x2 x3 x4 : Option Sl} {r : List (Option Sl)} : mVar 5 ⟨x0 :: x1 :: x2 :: x3 :: x4 :: some .src :: r, st⟩ = .ok .src ⟨x0 :: x1 :: x2 :: x3 :: x4 :: some .src :: r, st⟩ := rfl
@[simp] theorem mVe_5 {x0 x1 x2 x3 x4 : Option Sl} {x : Xn} {r : List (Option Sl)} : mVar 5 ⟨x0 :: x1 :: x2 :: x3 :: x4 :: some (.exc x) :: r, st⟩ = .ok (.exc x) ⟨x0 :: x1 :: x2 :: x3 :: x4 :: some (.exc x) :: r, st⟩ := rfl
@[simp] theorem mVb_5 {x0 x1 x2 x3 x4 : Option Sl} {x : Ob} {r : List (Option Sl)} : mVar 5 ⟨x0 :: x1 :: x2 :: x3 :: x4 :: some (.obj x) :: r, st⟩ = .ok (.obj x) ⟨x0 :: x1 :: x2 :: x3 :: x4 :: some (.obj x) :: r, st⟩ := rfl
@[simp] theorem mRv_5 {x0 x1 x2 x3 x4 : Option Sl} {r : List (Option Sl)} : mRetV 5 ⟨x0 :: x1 :: x2 :: x3 :: x4 :: some s :: r, st⟩ = .ok (.ret s) ⟨x0 :: x1 :: x2 :: x3 :: x4 :: some s :: r, st⟩ := rfl
@[simp] theorem sRd_5 {x0 x1 x2 x3 x4 : Option Sl} {x : Option Sl} {r : List (Option Sl)} : setR 5 (.dat d) ⟨x0 :: x1 :: x2 :: x3 :: x4 :: x :: r, st⟩ = .ok .next ⟨x0 :: x1 :: x2 :: x3 :: x4 :: some (.dat d) :: r, st⟩ := setR_dat (by simp only [List.length_cons]; omega)
@[simp] theorem sRs_5 {x0 x1 x2 x3 x4 : Option Sl} {x : Option Sl} {r : List (Option Sl)} : setR 5 .src ⟨x0 :: x1 :: x2 :: x3 :: x4 :: x :: r, st⟩ = .ok .next ⟨x0 :: x1 :: x2 :: x3 :: x4 :: some .src :: r, st⟩ := setR_src (by simp only [List.length_cons]; omega)
@[simp] theorem sRe_5 {x0 x1 x2 x3 x4 : Option Sl} {x : Option Sl} {y : Xn} {r : List (Option Sl)} : setR 5 (.exc y) ⟨x0 :: x1 :: x2 :: x3 :: x4 :: x :: r, st⟩ = .ok .next ⟨x0 :: x1 :: x2 :: x3 :: x4 :: some (.exc y) :: r, st⟩ := setR_exc (by simp only [List.length_cons]; omega)
@[simp] theorem sRb_5 {x0 x1 x2 x3 x4 : Option Sl} {x : Option Sl} {y : Ob} {r : List (Option Sl)} : setR 5 (.obj y) ⟨x0 :: x1 :: x2 :: x3 :: x4 :: x :: r, st⟩ = .ok .next ⟨x0 :: x1 :: x2 :: x3 :: x4 :: some (.obj y) :: r, st⟩ := setR_obj (by simp only [List.length_cons]; omega)
@[simp] theorem sNo_5 {x0 x1 x2 x3 x4 : Option Sl} {x : Option Sl} {r : List (Option Sl)} : setNR 5 d ⟨x0 :: x1 :: x2 :: x3 :: x4 :: x :: r, st⟩ = .ok .next ⟨x0 :: x1 :: x2 :: x3 :: x4 :: some (.own d) :: r, st⟩ := by unfold setNR; rw [if_pos (by simp only [List.length_cons]; omega)]; rfl
@[simp] theorem mTn_5 {x0 x1 x2 x3 x4 : Option Sl} {x : Option Sl} {r : List (Option Sl)} : mTgt (.nm 5) d ⟨x0 :: x1 :: x2 :: x3 :: x4 :: x :: r, st⟩ = some ⟨x0 :: x1 :: x2 :: x3 :: x4 :: some (.dat d) :: r, st⟩ := by unfold mTgt; simp only; rw [if_pos (by simp only [List.length_cons]; omega)]; rfl
@[simp] theorem mBd_6 {x0 x1 x2 x3 x4 x5 : Option Sl} {r : List (Option Sl)} : mBor 6 ⟨x0 :: x1 :: x2 :: x3 :: x4 :: x5 :: some (.dat d) :: r, st⟩ = .ok d ⟨x0 :: x1 :: x2 :: x3 :: x4 :: x5 :: some (.dat d) :: r, st⟩ := rfl
@[simp] theorem mBo_6 {x0 x1 x2 x3 x4 x5 : Option Sl} {r : List (Option Sl)} : mBor 6 ⟨x0 :: x1 :: x2 :: x3 :: x4 :: x5 :: some (.own d) :: r, st⟩ = .ok d ⟨x0 :: x1 :: x2 :: x3 :: x4 :: x5 :: some (.own d) :: r, st⟩ := rfl
@[simp] theorem mVd_6 {x0 x1 x2 x3 x4 x5 : Option Sl} {r : List (Option Sl)} : mVar 6 ⟨x0 :: x1 :: x2 :: x3 :: x4 :: x5 :: some (.dat d) :: r, st⟩ = .ok (.dat d) ⟨x0 :: x1 :: x2 :: x3 :: x4 :: x5 :: some (.dat d) :: r, st⟩ := rfl
@[simp] theorem mVo_6 {x0 x1 x2 x3 x4 x5 : Option Sl} {r : List (Option Sl)} : mVar 6 ⟨x0 :: x1 :: x2 :: x3 :: x4 :: x5 :: some (.own d) :: r, st⟩ = .ok (.dat d) ⟨x0 :: x1 :: x2 :: x3 :: x4 :: x5 :: some (.dat d) :: r, st⟩ := rfl
@[simp] theorem mVs_6 {x0 x1 x2 x3 x4 x5 : Option Sl} {r : List (Option Sl)} : mVar 6 ⟨x0 :: x1 :: x2 :: x3 :: x4 :: x5 :: some .src :: r, st⟩ = .ok .src ⟨x0 :: x1 :: x2 :: x3 :: x4 :: x5 :: some .src :: r, st⟩ := rfl
@[simp] theorem mVe_6 {x0 x1 x2 x3 x4 x5 : Option Sl} {x : Xn} {r : List (Option Sl)} : mVar 6 ⟨x0 :: x1 :: x2 :: x3 :: x4 :: x5 :: some (.exc x) :: r, st⟩ = .ok (.exc x) ⟨x0 :: x1 :: x2 :: x3 :: x4 :: x5 :: some (.exc x) :: r, st⟩ := rfl
@[simp] theorem mVb_6 {x0 x1 x2 x3 x4 x5 : Option Sl} {x : Ob} {r : List (Option Sl)} : mVar 6 ⟨x0 :: x1 :: x2 :: x3 :: x4 :: x5 :: some (.obj x) :: r, st⟩ = .ok (.obj x) ⟨x0 :: x1 :: x2 :: x3 :: x4 :: x5 :: some (.obj x) :: r, st⟩ := rfl
@[simp] theorem mRv_6 {x0 x1 x2 x3 x4 x5 : Option Sl} {r : List (Option Sl)} : mRetV 6 ⟨x0 :: x1 :: x2 :: x3 :: x4 :: x5 :: some s :: r, st⟩ = .ok (.ret s) ⟨x0 :: x1 :: x2 :: x3 :: x4 :: x5 :: some s :: r, st⟩ := rfl
@[simp] theorem sRd_6 {x0 x1 x2 x3 x4 x5 : Option Sl} {x : Option Sl} {r : List (Option Sl)} : setR 6 (.dat d) ⟨x0 :: x1 :: x2 :: x3 :: x4 :: x5 :: x :: r, st⟩ = .ok .next ⟨x0 :: x1 :: x2 :: x3 :: x4 :: x5 :: some (.dat d) :: r, st⟩ := setR_dat (by simp only [List.length_cons]; omega)
@[simp] theorem sRs_6 {x0 x1 x2 x3 x4 x5 : Option Sl} {x : Option Sl} {r : List (Option Sl)} : setR 6 .src ⟨x0 :: x1 :: x2 :: x3 :: x4 :: x5 :: x :: r, st⟩ = .ok .next ⟨x0 :: x1 :: x2 :: x3 :: x4 :: x5 :: some .src :: r, st⟩ := setR_src (by simp only [List.length_cons]; omega)
@[simp] theorem sRe_6 {x0 x1 x2 x3 x4 x5 : Option Sl} {x : Option Sl} {y : Xn} {r : List (Option Sl)} : setR 6 (.exc y) ⟨x0 :: x1 :: x2 :: x3 :: x4 :: x5 :: x :: r, st⟩ = .ok .next ⟨x0 :: x1 :: x2 :: x3 :: x4 :: x5 :: some (.exc y) :: r, st⟩ := setR_exc (by simp only [List.length_cons]; omega)
@[simp] theorem sRb_6 {x0 x1 x2 x3 x4 x5 : Option Sl} {x : Option Sl} {y : Ob} {r : List (Option Sl)} : setR 6 (.obj y) ⟨x0 :: x1 :: x2 :: x3 :: x4 :: x5 :: x :: r, st⟩ = .ok .next ⟨x0 :: x1 :: x2 :: x3 :: x4 :: x5 :: some (.obj y) :: r, st⟩ := setR_obj (by simp only [List.length_cons]; omega)
@[simp] theorem sNo_6 {x0 x1 x2 x3 x4 x5 : Option Sl} {x : Option Sl} {r : List (Option Sl)} : setNR 6 d ⟨x0 :: x1 :: x2 :: x3 :: x4 :: x5 :: x :: r, st⟩ = .ok .next ⟨x0 :: x1 :: x2 :: x3 :: x4 :: x5 :: some (.own d) :: r, st⟩ := by unfold setNR; rw [if_pos (by simp only [List.length_cons]; omega)]; rfl
@[simp] theorem mTn_6 {x0 x1 x2 x3 x4 x5 : Option Sl} {x : Option Sl} {r : List (Option Sl)} : mTgt (.nm 6) d ⟨x0 :: x1 :: x2 :: x3 :: x4 :: x5 :: x :: r, st⟩ = some ⟨x0 :: x1 :: x2 :: x3 :: x4 :: x5 :: some (.dat d) :: r, st⟩ := by unfold mTgt; simp only; rw [if_pos (by simp only [List.length_cons]; omega)]; rfl
@[simp] theorem mBd_7 {x0 x1 x2 x3 x4 x5 x6 : Option Sl} {r : List (Option Sl)} : mBor 7 ⟨x0 :: x1 :: x2 :: x3 :: x4 :: x5 :: x6 :: some (.dat d) :: r, st⟩ = .ok d ⟨x0 :: x1 :: x2 :: x3 :: x4 :: x5 :: x6 :: some (.dat d) :: r, st⟩ := rfl
@[simp] theorem mBo_7 {x0 x1 x2 x3 x4 x5 x6 : Option Sl} {r : List (Option Sl)} : mBor 7 ⟨x0 :: x1 :: x2 :: x3 :: x4 :: x5 :: x6 :: some (.own d) :: r, st⟩ = .ok d ⟨x0 :: x1 :: x2 :: x3 :: x4 :: x5 :: x6 :: some (.own d) :: r, st⟩ := rfl
@[simp] theorem mVd_7 {x0 x1 x2 x3 x4 x5 x6 : Option Sl} {r : List (Option Sl)} : mVar 7 ⟨x0 :: x1 :: x2 :: x3 :: x4 :: x5 :: x6 :: some (.dat d) :: r, st⟩ = .ok (.dat d) ⟨x0 :: x1 :: x2 :: x3 :: x4 :: x5 :: x6 :: some (.dat d) :: r, st⟩ := rfl
@[simp] theorem mVo_7 {x0 x1 x2 x3 x4 x5 x6 : Option Sl} {r : List (Option Sl)} : mVar 7 ⟨x0 :: x1 :: x2 :: x3 :: x4 :: x5 :: x6 :: some (.own d) :: r, st⟩ = .ok (.dat d) ⟨x0 :: x1 :: x2 :: x3 :: x4 :: x5 :: x6 :: some (.dat d) :: r, st⟩ := rfl
@[simp] theorem mVs_7 {x0 x1 x2 x3 x4 x5 x6 : Option Sl} {r : List (Option Sl)} : mVar 7 ⟨x0 :: x1 :: x2 :: x3 :: x4 :: x5 :: x6 :: some .src :: r, st⟩ = .ok .src ⟨x0 :: x1 :: x2 :: x3 :: x4 :: x5 :: x6 :: some .src :: r, st⟩ := rfl
@[simp] theorem mVe_7 {x0 x1 x2 x3 x4 x5 x6 : Option Sl} {x : Xn} {r : List (Option Sl)} : mVar 7 ⟨x0 :: x1 :: x2 :: x3 :: x4 :: x5 :: x6 :: some (.exc x) :: r, st⟩ = .ok (.exc x) ⟨x0 :: x1 :: x2 :: x3 :: x4 :: x5 :: x6 :: some (.exc x) :: r, st⟩ := rfl
@[simp] theorem mVb_7 {x0 x1 x2 x3 x4 x5 x6 : Option Sl} {x : Ob} {r : List (Option Sl)} : mVar 7 ⟨x0 :: x1 :: x2 :: x3 :: x4 :: x5 :: x6 :: some (.obj x) :: r, st⟩ = .ok (.obj x) ⟨x0 :: x1 :: x2 :: x3 :: x4 :: x5 :: x6 :: some (.obj x) :: r, st⟩ := rfl
@[simp] theorem mRv_7 {x0 x1 x2 x3 x4 x5 x6 : Option Sl} {r : List (Option Sl)} : mRetV 7 ⟨x0 :: x1 :: x2 :: x3 :: x4 :: x5 :: x6 :: some s :: r, st⟩ = .ok (.ret s) ⟨x0 :: x1 :: x2 :: x3 :: x4 :: x5 :: x6 :: some s :: r, st⟩ := rfl
@[simp] theorem sRd_7 {x0 x1 x2 x3 x4 x5 x6 : Option Sl} {x : Option Sl} {r : List (Option Sl)} : setR 7 (.dat d) ⟨x0 :: x1 :: x2 :: x3 :: x4 :: x5 :: x6 :: x :: r, st⟩ = .ok .next ⟨x0 :: x1 :: x2 :: x3 :: x4 :: x5 :: x6 :: some (.dat d) :: r, st⟩ := setR_dat (by simp only [List.length_cons]; omega)
@[simp] theorem sRs_7 {x0 x1 x2 x3 x4 x5 x6 : Option Sl} {x : Option Sl} {r : List (Option Sl)} : setR 7 .src ⟨x0 :: x1 :: x2 :: x3 :: x4 :: x5 :: x6 :: x :: r, st⟩ = .ok .next ⟨x0 :: x1 :: x2 :: x3 :: x4 :: x5 :: x6 :: some .src :: r, st⟩ := setR_src (by simp only [List.length_cons]; omega)
@[simp] theorem sRe_7 {x0 x1 x2 x3 x4 x5 x6 : Option Sl} {x : Option Sl} {y : Xn} {r : List (Option Sl)} : setR 7 (.exc y) ⟨x0 :: x1 :: x2 :: x3 :: x4 :: x5 :: x6 :: x :: r, st⟩ = .ok .next ⟨x0 :: x1 :: x2 :: x3 :: x4 :: x5 :: x6 :: some (.exc y) :: r, st⟩ := setR_exc (by simp only [List.length_cons]; omega)
@[simp] theorem sRb_7 {x0 x1 x2 x3 x4 x5 x6 : Option Sl} {x : Option Sl} {y : Ob} {r : List (Option Sl)} : setR 7 (.obj y) ⟨x0 :: x1 :: x2 :: x3 :: x4 :: x5 :: x6 :: x :: r, st⟩ = .ok .next ⟨x0 :: x1 :: x2 :: x3 :: x4 :: x5 :: x6 :: some (.obj y) :: r, st⟩ := setR_obj (by simp only [List.length_cons]; omega)
@[simp] theorem sNo_7 {x0 x1 x2 x3 x4 x5 x6 : Option Sl} {x : Option Sl} {r : List (Option Sl)} : setNR 7 d ⟨x0 :: x1 :: x2 :: x3 :: x4 :: x5 :: x6 :: x :: r, st⟩ = .ok .next ⟨x0 :: x1 :: x2 :: x3 :: x4 :: x5 :: x6 :: some (.own d) :: r, st⟩ := by unfold setNR; rw [if_pos (by simp only [List.length_cons]; omega)]; rfl
@[simp] theorem mTn_7 {x0 x1 x2 x3 x4 x5 x6 : Option Sl} {x : Option Sl} {r : List (Option Sl)} : mTgt (.nm 7) d ⟨x0 :: x1 :: x2 :: x3 :: x4 :: x5 :: x6 :: x :: r, st⟩ = some ⟨x0 :: x1 :: x2 :: x3 :: x4 :: x5 :: x6 :: some (.dat d) :: r, st⟩ := by unfold mTgt; simp only; rw [if_pos (by simp only [List.length_cons]; omega)]; rfl
@[simp] theorem mBd_8 {x0 x1 x2 x3 x4 x5 x6 x7 : Option Sl} {r : List (Option Sl)} : mBor 8 ⟨x0 :: x1 :: x2 :: x3 :: x4 :: x5 :: x6 :: x7 :: some (.dat d) :: r, st⟩ = .ok d ⟨x0 :: x1 :: x2 :: x3 :: x4 :: x5 :: x6 :: x7 :: some (.dat d) :: r, st⟩ := rfl
@[simp] theorem mBo_8 {x0 x1 x2 x3 x4 x5 x6 x7 : Option Sl} {r : List (Option Sl)} : mBor 8 ⟨x0 :: x1 :: x2 :: x3 :: x4 :: x5 :: x6 :: x7 :: some (.own d) :: r, st⟩ = .ok d ⟨x0 :: x1 :: x2 :: x3 :: x4 :: x5 :: x6 :: x7 :: some (.own d) :: r, st⟩ := rfl
@[simp] theorem mVd_8 {x0 x1 x2 x3 x4 x5 x6 x7 : Option Sl} {r : List (Option Sl)} : mVar 8 ⟨x0 :: x1 :: x2 :: x3 :: x4 :: x5 :: x6 :: x7 :: some (.dat d) :: r, st⟩ = .ok (.dat d) ⟨x0 :: x1 :: x2 :: x3 :: x4 :: x5 :: x6 :: x7 :: some (.dat d) :: r, st⟩ := rfl
@[simp] theorem mVo_8 {x0 x1 x2 x3 x4 x5 x6 x7 : Option Sl} {r : List (Option Sl)} : mVar 8 ⟨x0 :: x1 :: x2 :: x3 :: x4 :: x5 :: x6 :: x7 :: some (.own d) :: r, st⟩ = .ok (.dat d) ⟨x0 :: x1 :: x2 :: x3 :: x4 :: x5 :: x6 :: x7 :: some (.dat d) :: r, st⟩ := rfl
@[simp] theorem mVs_8 {x0 x1 x2 x3 x4 x5 x6 x7 : Option Sl} {r : List (Option Sl)} : mVar 8 ⟨x0 :: x1 :: x2 :: x3 :: x4 :: x5 :: x6 :: x7 :: some .src :: r, st⟩ = .ok .src ⟨x0 :: x1 :: x2 :: x3 :: x4 :: x5 :: x6 :: x7 :: some .src :: r, st⟩ := rfl
@[simp] theorem mVe_8 {x0 x1 x2 x3 x4 x5 x6 x7 : Option Sl} {x : Xn} {r : List (Option Sl)} : mVar 8 ⟨x0 :: x1 :: x2 :: x3 :: x4 :: x5 :: x6 :: x7 :: some (.exc x) :: r, st⟩ = .ok (.exc x) ⟨x0 :: x1 :: x2 :: x3 :: x4 :: x5 :: x6 :: x7 :: some (.exc x) :: r, st⟩ := rfl
@[simp] theorem mVb_8 {x0 x1 x2 x3 x4 x5 x6 x7 : Option Sl} {x : Ob} {r : List (Option Sl)} : mVar 8 ⟨x0 :: x1 :: x2 :: x3 :: x4 :: x5 :: x6 :: x7 :: some (.obj x) :: r, st⟩ = .ok (.obj x) ⟨x0 :: x1 :: x2 :: x3 :: x4 :: x5 :: x6 :: x7 :: some (.obj x) :: r, st⟩ := rfl
@[simp] theorem mRv_8 {x0 x1 x2 x3 x4 x5 x6 x7 : Option Sl} {r : List (Option Sl)} : mRetV 8 ⟨x0 :: x1 :: x2 :: x3 :: x4 :: x5 :: x6 :: x7 :: some s :: r, st⟩ = .ok (.ret s) ⟨x0 :: x1 :: x2 :: x3 :: x4 :: x5 :: x6 :: x7 :: some s :: r, st⟩ := rfl
@[simp] theorem sRd_8 {x0 x1 x2 x3 x4 x5 x6 x7 : Option Sl} {x : Option Sl} {r : List (Option Sl)} : setR 8 (.dat d) ⟨x0 :: x1 :: x2 :: x3 :: x4 :: x5 :: x6 :: x7 :: x :: r, st⟩ = .ok .next ⟨x0 :: x1 :: x2 :: x3 :: x4 :: x5 :: x6 :: x7 :: some (.dat d) :: r, st⟩ := setR_dat (by simp only [List.length_cons]; omega)
@[simp] theorem sRs_8 {x0 x1 x2 x3 x4 x5 x6 x7 : Option Sl} {x : Option Sl} {r : List (Option Sl)} : setR 8 .src ⟨x0 :: x1 :: x2 :: x3 :: x4 :: x5 :: x6 :: x7 :: x :: r, st⟩ = .ok .next ⟨x0 :: x1 :: x2 :: x3 :: x4 :: x5 :: x6 :: x7 :: some .src :: r, st⟩ := setR_src (by simp only [List.length_cons]; omega)
@[simp] theorem sRe_8 {x0 x1 x2 x3 x4 x5 x6 x7 : Option Sl} {x : Option Sl} {y : Xn} {r : List (Option Sl)} : setR 8 (.exc y) ⟨x0 :: x1 :: x2 :: x3 :: x4 :: x5 :: x6 :: x7 :: x :: r, st⟩ = .ok .next ⟨x0 :: x1 :: x2 :: x3 :: x4 :: x5 :: x6 :: x7 :: some (.exc y) :: r, st⟩ := setR_exc (by simp only [List.length_cons]; omega)
@[simp] theorem sRb_8 {x0 x1 x2 x3 x4 x5 x6 x7 : Option Sl} {x : Option Sl} {y : Ob} {r : List (Option Sl)} : setR 8 (.obj y) ⟨x0 :: x1 :: x2 :: x3 :: x4 :: x5 :: x6 :: x7 :: x :: r, st⟩ = .ok .next ⟨x0 :: x1 :: x2 :: x3 :: x4 :: x5 :: x6 :: x7 :: some (.obj y) :: r, st⟩ := setR_obj (by simp only [List.length_cons]; omega)
@[simp] theorem sNo_8 {x0 x1 x2 x3 x4 x5 x6 x7 : Option Sl} {x : Option Sl} {r : List (Option Sl)} : setNR 8 d ⟨x0 :: x1 :: x2 :: x3 :: x4 :: x5 :: x6 :: x7 :: x :: r, st⟩ = .ok .next ⟨x0 :: x1 :: x2 :: x3 :: x4 :: x5 :: x6 :: x7 :: some (.own d) :: r, st⟩ := by unfold setNR; rw [if_pos (by simp only [List.length_cons]; omega)]; rfl
@[simp] theorem mTn_8 {x0 x1 x2 x3 x4 x5 x6 x7 : Option Sl} {x : Option Sl} {r : List (Option Sl)} : mTgt (.nm 8) d ⟨x0 :: x1 :: x2 :: x3 :: x4 :: x5 :: x6 :: x7 :: x :: r, st⟩ = some ⟨x0 :: x1 :: x2 :: x3 :: x4 :: x5 :: x6 :: x7 :: some (.dat d) :: r, st⟩ := by unfold mTgt; simp only; rw [if_pos (by simp only [List.length_cons]; omega)]; rfl
@[simp] theorem mBd_9 {x0 x1 x2 x3 x4 x5 x6 x7 x8 : Option Sl} {r : List (Option Sl)} : mBor 9 ⟨x0 :: x1 :: x2 :: x3 :: x4 :: x5 :: x6 :: x7 :: x8 :: some (.dat d) :: r, st⟩ = .ok d ⟨x0 :: x1 :: x2 :: x3 :: x4 :: x5 :: x6 :: x7 :: x8 :: some (.dat d) :: r, st⟩ := rfl
@[simp] theorem mBo_9 {x0 x1 x2 x3 x4 x5 x6 x7 x8 : Option Sl} {r : List (Option Sl)} : mBor 9 ⟨x0 :: x1 :: x2 :: x3 :: x4 :: x5 :: x6 :: x7 :: x8 :: some (.own d) :: r, st⟩ = .ok d ⟨x0 :: x1 :: x2 :: x3 :: x4 :: x5 :: x6 :: x7 :: x8 :: some (.own d) :: r, st⟩ := rfl
@[simp] theorem mVd_9 {x0 x1 x2 x3 x4 x5 x6 x7 x8 : Option Sl} {r : List (Option Sl)} : mVar 9 ⟨x0 :: x1 :: x2 :: x3 :: x4 :: x5 :: x6 :: x7 :: x8 :: some (.dat d) :: r, st⟩ = .ok (.dat d) ⟨x0 :: x1 :: x2 :: x3 :: x4 :: x5 :: x6 :: x7 :: x8 :: some (.dat d) :: r, st⟩ := rfl
@[simp] theorem mVo_9 {x0 x1 x2 x3 x4 x5 x6 x7 x8 : Option Sl} {r : List (Option Sl)} : mVar 9 ⟨x0 :: x1 :: x2 :: x3 :: x4 :: x5 :: x6 :: x7 :: x8 :: some (.own d) :: r, st⟩ = .ok (.dat d) ⟨x0 :: x1 :: x2 :: x3 :: x4 :: x5 :: x6 :: x7 :: x8 :: some (.dat d) :: r, st⟩ := rfl
@[simp] theorem mVs_9 {x0 x1 x2 x3 x4 x5 x6 x7 x8 : Option Sl} {r : List (Option Sl)} : mVar 9 ⟨x0 :: x1 :: x2 :: x3 :: x4 :: x5 :: x6 :: x7 :: x8 :: some .src :: r, st⟩ = .ok .src ⟨x0 :: x1 :: x2 :: x3 :: x4 :: x5 :: x6 :: x7 :: x8 :: some .src :: r, st⟩ := rfl
@[simp] theorem mVe_9 {x0 x1 x2 x3 x4 x5 x6 x7 x8 : Option Sl} {x : Xn} {r : List (Option Sl)} : mVar 9 ⟨x0 :: x1 :: x2 :: x3 :: x4 :: x5 :: x6 :: x7 :: x8 :: some (.exc x) :: r, st⟩ = .ok (.exc x) ⟨x0 :: x1 :: x2 :: x3 :: x4 :: x5 :: x6 :: x7 :: x8 :: some (.exc x) :: r, st⟩ := rfl
@[simp] theorem mVb_9 {x0 x1 x2 x3 x4 x5 x6 x7 x8 : Option Sl} {x : Ob} {r : List (Option Sl)} : mVar 9 ⟨x0 :: x1 :: x2 :: x3 :: x4 :: x5 :: x6 :: x7 :: x8 :: some (.obj x) :: r, st⟩ = .ok (.obj x) ⟨x0 :: x1 :: x2 :: x3 :: x4 :: x5 :: x6 :: x7 :: x8 :: some (.obj x) :: r, st⟩ := rfl
@[simp] theorem mRv_9 {x0 x1 x2 x3 x4 x5 x6 x7 x8 : Option Sl} {r : List (Option Sl)} : mRetV 9 ⟨x0 :: x1 :: x2 :: x3 :: x4 :: x5 :: x6 :: x7 :: x8 :: some s :: r, st⟩ = .ok (.ret s) ⟨x0 :: x1 :: x2 :: x3 :: x4 :: x5 :: x6 :: x7 :: x8 :: some s :: r, st⟩ := rfl
@[simp] theorem sRd_9 {x0 x1 x2 x3 x4 x5 x6 x7 x8 : Option Sl} {x : Option Sl} {r : List (Option Sl)} : setR 9 (.dat d) ⟨x0 :: x1 :: x2 :: x3 :: x4 :: x5 :: x6 :: x7 :: x8 :: x :: r, st⟩ = .ok .next ⟨x0 :: x1 :: x2 :: x3 :: x4 :: x5 :: x6 :: x7 :: x8 :: some (.dat d) :: r, st⟩ := setR_dat (by simp only [List.length_cons]; omega)
@[simp] theorem sRs_9 {x0 x1 x2 x3 x4 x5 x6 x7 x8 : Option Sl} {x : Option Sl} {r : List (Option Sl)} : setR 9 .src ⟨x0 :: x1 :: x2 :: x3 :: x4 :: x5 :: x6 :: x7 :: x8 :: x :: r, st⟩ = .ok .next ⟨x0 :: x1 :: x2 :: x3 :: x4 :: x5 :: x6 :: x7 :: x8 :: some .src :: r, st⟩ := setR_src (by simp only [List.length_cons]; omega)
@[simp] theorem sRe_9 {x0 x1 x2 x3 x4 x5 x6 x7 x8 : Option Sl} {x : Option Sl} {y : Xn} {r : List (Option Sl)} : setR 9 (.exc y) ⟨x0 :: x1 :: x2 :: x3 :: x4 :: x5 :: x6 :: x7 :: x8 :: x :: r, st⟩ = .ok .next ⟨x0 :: x1 :: x2 :: x3 :: x4 :: x5 :: x6 :: x7 :: x8 :: some (.exc y) :: r, st⟩ := setR_exc (by simp only [List.length_cons]; omega)
@[simp] theorem sRb_9 {x0 x1 x2 x3 x4 x5 x6 x7 x8 : Option Sl} {x : Option Sl} {y : Ob} {r : List (Option Sl)} : setR 9 (.obj y) ⟨x0 :: x1 :: x2 :: x3 :: x4 :: x5 :: x6 :: x7 :: x8 :: x :: r, st⟩ = .ok .next ⟨x0 :: x1 :: x2 :: x3 :: x4 :: x5 :: x6 :: x7 :: x8 :: some (.obj y) :: r, st⟩ := setR_obj (by simp only [List.length_cons]; omega)
@[simp] theorem sNo_9 {x0 x1 x2 x3 x4 x5 x6 x7 x8 : Option Sl} {x : Option Sl} {r : List (Option Sl)} : setNR 9 d ⟨x0 :: x1 :: x2 :: x3 :: x4 :: x5 :: x6 :: x7 :: x8 :: x :: r, st⟩ = .ok .next ⟨x0 :: x1 :: x2 :: x3 :: x4 :: x5 :: x6 :: x7 :: x8 :: some (.own d) :: r, st⟩ := by unfold setNR; rw [if_pos (by simp only [List.length_cons]; omega)]; rfl
@[simp] theorem mTn_9 {x0 x1 x2 x3 x4 x5 x6 x7 x8 : Option Sl} {x : Option Sl} {r : List (Option Sl)} : mTgt (.nm 9) d ⟨x0 :: x1 :: x2 :: x3 :: x4 :: x5 :: x6 :: x7 :: x8 :: x :: r, st⟩ = some ⟨x0 :: x1 :: x2 :: x3 :: x4 :: x5 :: x6 :: x7 :: x8 :: some (.dat d) :: r, st⟩ := by unfold mTgt; simp only; rw [if_pos (by simp only [List.length_cons]; omega)]; rfl
@[simp] theorem mBd_10 {x0 x1 x2 x3 x4 x5 x6 x7 x8 x9 : Option Sl} {r : List (Option Sl)} : mBor 10 ⟨x0 :: x1 :: x2 :: x3 :: x4 :: x5 :: x6 :: x7 :: x8 :: x9 :: some (.dat d) :: r, st⟩ = .ok d ⟨x0 :: x1 :: x2 :: x3 :: x4 :: x5 :: x6 :: x7 :: x8 :: x9 :: some (.dat d) :: r, st⟩ := rfl
@[simp] theorem mBo_10 {x0 x1 x2 x3 x4 x5 x6 x7 x8 x9 : Option Sl} {r : List (Option Sl)} : mBor 10 ⟨x0 :: x1 :: x2 :: x3 :: x4 :: x5 :: x6 :: x7 :: x8 :: x9 :: some (.own d) :: r, st⟩ = .ok d ⟨x0 :: x1 :: x2 :: x3 :: x4 :: x5 :: x6 :: x7 :: x8 :: x9 :: some (.own d) :: r, st⟩ := rfl
@[simp] theorem mVd_10 {x0 x1 x2 x3 x4 x5 x6 x7 x8 x9 : Option Sl} {r : List (Option Sl)} : mVar 10 ⟨x0 :: x1 :: x2 :: x3 :: x4 :: x5 :: x6 :: x7 :: x8 :: x9 :: some (.dat d) :: r, st⟩ = .ok (.dat d) ⟨x0 :: x1 :: x2 :: x3 :: x4 :: x5 :: x6 :: x7 :: x8 :: x9 :: some (.dat d) :: r, st⟩ := rfl
@[simp] theorem mVo_10 {x0 x1 x2 x3 x4 x5 x6 x7 x8 x9 : Option Sl} {r : List (Option Sl)} : mVar 10 ⟨x0 :: x1 :: x2 :: x3 :: x4 :: x5 :: x6 :: x7 :: x8 :: x9 :: some (.own d) :: r, st⟩ = .ok (.dat d) ⟨x0 :: x1 :: x2 :: x3 :: x4 :: x5 :: x6 :: x7 :: x8 :: x9 :: some (.dat d) :: r, st⟩ := rfl
@[simp] theorem mVs_10 {x0 x1 x2 x3 x4 x5 x6 x7 x8 x9 : Option Sl} {r : List (Option Sl)} : mVar 10 ⟨x0 :: x1 :: x2 :: x3 :: x4 :: x5 :: x6 :: x7 :: x8 :: x9 :: some .src :: r, st⟩ = .ok .src ⟨x0 :: x1 :: x2 :: x3 :: x4 :: x5 :: x6 :: x7 :: x8 :: x9 :: some .src :: r, st⟩ := rfl
@[simp] theorem mVe_10 {x0 x1 x2 x3 x4 x5 x6 x7 x8 x9 : Option Sl} {x : Xn} {r : List (Option Sl)} : mVar 10 ⟨x0 :: x1 :: x2 :: x3 :: x4 :: x5 :: x6 :: x7 :: x8 :: x9 :: some (.exc x) :: r, st⟩ = .ok (.exc x) ⟨x0 :: x1 :: x2 :: x3 :: x4 :: x5 :: x6 :: x7 :: x8 :: x9 :: some (.exc x) :: r, st⟩ := rfl
@[simp] theorem mVb_10 {x0 x1 x2 x3 x4 x5 x6 x7 x8 x9 : Option Sl} {x : Ob} {r : List (Option Sl)} : mVar 10 ⟨x0 :: x1 :: x2 :: x3 :: x4 :: x5 :: x6 :: x7 :: x8 :: x9 :: some (.obj x) :: r, st⟩ = .ok (.obj x) ⟨x0 :: x1 :: x2 :: x3 :: x4 :: x5 :: x6 :: x7 :: x8 :: x9 :: some (.obj x) :: r, st⟩ := rfl
@[simp] theorem mRv_10 {x0 x1 x2 x3 x4 x5 x6 x7 x8 x9 : Option Sl} {r : List (Option Sl)} : mRetV 10 ⟨x0 :: x1 :: x2 :: x3 :: x4 :: x5 :: x6 :: x7 :: x8 :: x9 :: some s :: r, st⟩ = .ok (.ret s) ⟨x0 :: x1 :: x2 :: x3 :: x4 :: x5 :: x6 :: x7 :: x8 :: x9 :: some s :: r, st⟩ := rfl
@[simp] theorem sRd_10 {x0 x1 x2 x3 x4 x5 x6 x7 x8 x9 : Option Sl} {x : Option Sl} {r : List (Option Sl)} : setR 10 (.dat d) ⟨x0 :: x1 :: x2 :: x3 :: x4 :: x5 :: x6 :: x7 :: x8 :: x9 :: x :: r, st⟩ = .ok .next ⟨x0 :: x1 :: x2 :: x3 :: x4 :: x5 :: x6 :: x7 :: x8 :: x9 :: some (.dat d) :: r, st⟩ := setR_dat (by simp only [List.length_cons]; omega)
@[simp] theorem sRs_10 {x0 x1 x2 x3 x4 x5 x6 x7 x8 x9 : Option Sl} {x : Option Sl} {r : List (Option Sl)} : setR 10 .src ⟨x0 :: x1 :: x2 :: x3 :: x4 :: x5 :: x6 :: x7 :: x8 :: x9 :: x :: r, st⟩ = .ok .next ⟨x0 :: x1 :: x2 :: x3 :: x4 :: x5 :: x6 :: x7 :: x8 :: x9 :: some .src :: r, st⟩ := setR_src (by simp only [List.length_cons]; omega)
@[simp] theorem sRe_10 {x0 x1 x2 x3 x4 x5 x6 x7 x8 x9 : Option Sl} {x : Option Sl} {y : Xn} {r : List (Option Sl)} : setR 10 (.exc y) ⟨x0 :: x1 :: x2 :: x3 :: x4 :: x5 :: x6 :: x7 :: x8 :: x9 :: x :: r, st⟩ = .ok .next ⟨x0 :: x1 :: x2 :: x3 :: x4 :: x5 :: x6 :: x7 :: x8 :: x9 :: some (.exc y) :: r, st⟩ := setR_exc (by simp only [List.length_cons]; omega)
@[simp] theorem sRb_10 {x0 x1 x2 x3 x4 x5 x6 x7 x8 x9 : Option Sl} {x : Option Sl} {y : Ob} {r : List (Option Sl)} : setR 10 (.obj y) ⟨x0 :: x1 :: x2 :: x3 :: x4 :: x5 :: x6 :: x7 :: x8 :: x9 :: x :: r, st⟩ = .ok .next ⟨x0 :: x1 :: x2 :: x3 :: x4 :: x5 :: x6 :: x7 :: x8 :: x9 :: some (.obj y) :: r, st⟩ := setR_obj (by simp only [List.length_cons]; omega)
@[simp] theorem sNo_10 {x0 x1 x2 x3 x4 x5 x6 x7 x8 x9 : Option Sl} {x : Option Sl} {r : List (Option Sl)} : setNR 10 d ⟨x0 :: x1 :: x2 :: x3 :: x4 :: x5 :: x6 :: x7 :: x8 :: x9 :: x :: r, st⟩ = .ok .next ⟨x0 :: x1 :: x2 :: x3 :: x4 :: x5 :: x6 :: x7 :: x8 :: x9 :: some (.own d) :: r, st⟩ := by unfold setNR; rw [if_pos (by simp only [List.length_cons]; omega)]; rfl
@[simp] theorem mTn_10 {x0 x1 x2 x3 x4 x5 x6 x7 x8 x9 : Option Sl} {x : Option Sl} {r : List (Option Sl)} : mTgt (.nm 10) d ⟨x0 :: x1 :: x2 :: x3 :: x4 :: x5 :: x6 :: x7 :: x8 :: x9 :: x :: r, st⟩ = some ⟨x0 :: x1 :: x2 :: x3 :: x4 :: x5 :: x6 :: x7 :: x8 :: x9 :: some (.dat d) :: r, st⟩ := by unfold mTgt; simp only; rw [if_pos (by simp only [List.length_cons]; omega)]; rfl
@[simp] theorem mBd_11 {x0 x1 x2 x3 x4 x5 x6 x7 x8 x9 x10 : Option Sl} {r : List (Option Sl)} : mBor 11 ⟨x0 :: x1 :: x2 :: x3 :: x4 :: x5 :: x6 :: x7 :: x8 :: x9 :: x10 :: some (.dat d) :: r, st⟩ = .ok d ⟨x0 :: x1 :: x2 :: x3 :: x4 :: x5 :: x6 :: x7 :: x8 :: x9 :: x10 :: some (.dat d) :: r, st⟩ := rfl
@[simp] theorem mBo_11 {x0 x1 x2 x3 x4 x5 x6 x7 x8 x9 x10 : Option Sl} {r : List (Option Sl)} : mBor 11 ⟨x0 :: x1 :: x2 :: x3 :: x4 :: x5 :: x6 :: x7 :: x8 :: x9 :: x10 :: some (.own d) :: r, st⟩ = .ok d ⟨x0 :: x1 :: x2 :: x3 :: x4 :: x5 :: x6 :: x7 :: x8 :: x9 :: x10 :: some (.own d) :: r, st⟩ := rfl
@[simp] theorem mVd_11 {x0 x1 x2 x3 x4 x5 x6 x7 x8 x9 x10 : Option Sl} {r : List (Option Sl)} : mVar 11 ⟨x0 :: x1 :: x2 :: x3 :: x4 :: x5 :: x6 :: x7 :: x8 :: x9 :: x10 :: some (.dat d) :: r, st⟩ = .ok (.dat d) ⟨x0 :: x1 :: x2 :: x3 :: x4 :: x5 :: x6 :: x7 :: x8 :: x9 :: x10 :: some (.dat d) :: r, st⟩ := rfl
@[simp] theorem mVo_11 {x0 x1 x2 x3 x4 x5 x6 x7 x8 x9 x10 : Option Sl} {r : List (Option Sl)} : mVar 11 ⟨x0 :: x1 :: x2 :: x3 :: x4 :: x5 :: x6 :: x7 :: x8 :: x9 :: x10 :: some (.own d) :: r, st⟩ = .ok (.dat d) ⟨x0 :: x1 :: x2 :: x3 :: x4 :: x5 :: x6 :: x7 :: x8 :: x9 :: x10 :: some (.dat d) :: r, st⟩ := rfl
@[simp] theorem mVs_11 {x0 x1 x2 x3 x4 x5 x6 x7 x8 x9 x10 : Option Sl} {r : List (Option Sl)} : mVar 11 ⟨x0 :: x1 :: x2 :: x3 :: x4 :: x5 :: x6 :: x7 :: x8 :: x9 :: x10 :: some .src :: r, st⟩ = .ok .src ⟨x0 :: x1 :: x2 :: x3 :: x4 :: x5 :: x6 :: x7 :: x8 :: x9 :: x10 :: some .src :: r, st⟩ := rfl
@[simp] theorem mVe_11 {x0 x1 x2 x3 x4 x5 x6 x7 x8 x9 x10 : Option Sl} {x : Xn} {r : List (Option Sl)} : mVar 11 ⟨x0 :: x1 :: x2 :: x3 :: x4 :: x5 :: x6 :: x7 :: x8 :: x9 :: x10 :: some (.exc x) :: r, st⟩ = .ok (.exc x) ⟨x0 :: x1 :: x2 :: x3 :: x4 :: x5 :: x6 :: x7 :: x8 :: x9 :: x10 :: some (.exc x) :: r, st⟩ := rfl
@[simp] theorem mVb_11 {x0 x1 x2 x3 x4 x5 x6 x7 x8 x9 x10 : Option Sl} {x : Ob} {r : List (Option Sl)} : mVar 11 ⟨x0 :: x1 :: x2 :: x3 :: x4 :: x5 :: x6 :: x7 :: x8 :: x9 :: x10 :: some (.obj x) :: r, st⟩ = .ok (.obj x) ⟨x0 :: x1 :: x2 :: x3 :: x4 :: x5 :: x6 :: x7 :: x8 :: x9 :: x10 :: some (.obj x) :: r, st⟩ := rfl
@[simp] theorem mRv_11 {x0 x1 x2 x3 x4 x5 x6 x7 x8 x9 x10 : Option Sl} {r : List (Option Sl)} : mRetV 11 ⟨x0 :: x1 :: x2 :: x3 :: x4 :: x5 :: x6 :: x7 :: x8 :: x9 :: x10 :: some s :: r, st⟩ = .ok (.ret s) ⟨x0 :: x1 :: x2 :: x3 :: x4 :: x5 :: x6 :: x7 :: x8 :: x9 :: x10 :: some s :: r, st⟩ := rfl
@[simp] theorem sRd_11 {x0 x1 x2 x3 x4 x5 x6 x7 x8 x9 x10 : Option Sl} {x : Option Sl} {r : List (Option Sl)} : setR 11 (.dat d) ⟨x0 :: x1 :: x2 :: x3 :: x4 :: x5 :: x6 :: x7 :: x8 :: x9 :: x10 :: x :: r, st⟩ = .ok .next ⟨x0 :: x1 :: x2 :: x3 :: x4 :: x5 :: x6 :: x7 :: x8 :: x9 :: x10 :: some (.dat d) :: r, st⟩ := setR_dat (by simp only [List.length_cons]; omega)
@[simp] theorem sRs_11 {x0 x1 x2 x3 x4 x5 x6 x7 x8 x9 x10 : Option Sl} {x : Option Sl} {r : List (Option Sl)} : setR 11 .src ⟨x0 :: x1 :: x2 :: x3 :: x4 :: x5 :: x6 :: x7 :: x8 :: x9 :: x10 :: x :: r, st⟩ = .ok .next ⟨x0 :: x1 :: x2 :: x3 :: x4 :: x5 :: x6 :: x7 :: x8 :: x9 :: x10 :: some .src :: r, st⟩ := setR_src (by simp only [List.length_cons]; omega)
@[simp] theorem sRe_11 {x0 x1 x2 x3 x4 x5 x6 x7 x8 x9 x10 : Option Sl} {x : Option Sl} {y : Xn} {r : List (Option Sl)} : setR 11 (.exc y) ⟨x0 :: x1 :: x2 :: x3 :: x4 :: x5 :: x6 :: x7 :: x8 :: x9 :: x10 :: x :: r, st⟩ = .ok .next ⟨x0 :: x1 :: x2 :: x3 :: x4 :: x5 :: x6 :: x7 :: x8 :: x9 :: x10 :: some (.exc y) :: r, st⟩ := setR_exc (by simp only [List.length_cons]; omega)
@[simp] theorem sRb_11 {x0 x1 x2 x3 x4 x5 x6 x7 x8 x9 x10 : Option Sl} {x : Option Sl} {y : Ob} {r : List (Option Sl)} : setR 11 (.obj y) ⟨x0 :: x1 :: x2 :: x3 :: x4 :: x5 :: x6 :: x7 :: x8 :: x9 :: x10 :: x :: r, st⟩ = .ok .next ⟨x0 :: x1 :: x2 :: x3 :: x4 :: x5 :: x6 :: x7 :: x8 :: x9 :: x10 :: some (.obj y) :: r, st⟩ := setR_obj (by simp only [List.length_cons]; omega)
@[simp] theorem sNo_11 {x0 x1 x2 x3 x4 x5 x6 x7 x8 x9 x10 : Option Sl} {x : Option Sl} {r : List (Option Sl)} : setNR 11 d ⟨x0 :: x1 :: x2 :: x3 :: x4 :: x5 :: x6 :: x7 :: x8 :: x9 :: x10 :: x :: r, st⟩ = .ok .next ⟨x0 :: x1 :: x2 :: x3 :: x4 :: x5 :: x6 :: x7 :: x8 :: x9 :: x10 :: some (.own d) :: r, st⟩ := by unfold setNR; rw [if_pos (by simp only [List.length_cons]; omega)]; rfl
@[simp] theorem mTn_11 {x0 x1 x2 x3 x4 x5 x6 x7 x8 x9 x10 : Option Sl} {x : Option Sl} {r : List (Option Sl)} : mTgt (.nm 11) d ⟨x0 :: x1 :: x2 :: x3 :: x4 :: x5 :: x6 :: x7 :: x8 :: x9 :: x10 :: x :: r, st⟩ = some ⟨x0 :: x1 :: x2 :: x3 :: x4 :: x5 :: x6 :: x7 :: x8 :: x9 :: x10 :: some (.dat d) :: r, st⟩ := by unfold mTgt; simp only; rw [if_pos (by simp only [List.length_cons]; omega)]; rfl
@[simp] theorem mBd_12 {x0 x1 x2 x3 x4 x5 x6 x7 x8 x9 x10 x11 : Option Sl} {r : List (Option Sl)} : mBor 12 ⟨x0 :: x1 :: x2 :: x3 :: x4 :: x5 :: x6 :: x7 :: x8 :: x9 :: x10 :: x11 :: some (.dat d) :: r, st⟩ = .ok d ⟨x0 :: x1 :: x2 :: x3 :: x4 :: x5 :: x6 :: x7 :: x8 :: x9 :: x10 :: x11 :: some (.dat d) :: r, st⟩ := rfl
@[simp] theorem mBo_12 {x0 x1 x2 x3 x4 x5 x6 x7 x8 x9 x10 x11 : Option Sl} {r : List (Option Sl)} : mBor 12 ⟨x0 :: x1 :: x2 :: x3 :: x4 :: x5 :: x6 :: x7 :: x8 :: x9 :: x10 :: x11 :: some (.own d) :: r, st⟩ = .ok d ⟨x0 :: x1 :: x2 :: x3 :: x4 :: x5 :: x6 :: x7 :: x8 :: x9 :: x10 :: x11 :: some (.own d) :: r, st⟩ := rfl
@[simp] theorem mVd_12 {x0 x1 x2 x3 x4 x5 x6 x7 x8 x9 x10 x11 : Option Sl} {r : List (Option Sl)} : mVar 12 ⟨x0 :: x1 :: x2 :: x3 :: x4 :: x5 :: x6 :: x7 :: x8 :: x9 :: x10 :: x11 :: some (.dat d) :: r, st⟩ = .ok (.dat d) ⟨x0 :: x1 :: x2 :: x3 :: x4 :: x5 :: x6 :: x7 :: x8 :: x9 :: x10 :: x11 :: some (.dat d) :: r, st⟩ := rfl
@[simp] theorem mVo_12 {x0 x1 x2 x3 x4 x5 x6 x7 x8 x9 x10 x11 : Option Sl} {r : List (Option Sl)} : mVar 12 ⟨x0 :: x1 :: x2 :: x3 :: x4 :: x5 :: x6 :: x7 :: x8 :: x9 :: x10 :: x11 :: some (.own d) :: r, st⟩ = .ok (.dat d) ⟨x0 :: x1 :: x2 :: x3 :: x4 :: x5 :: x6 :: x7 :: x8 :: x9 :: x10 :: x11 :: some (.dat d) :: r, st⟩ := rfl
@[simp] theorem mVs_12 {x0 x1 x2 x3 x4 x5 x6 x7 x8 x9 x10 x11 : Option Sl} {r : List (Option Sl)} : mVar 12 ⟨x0 :: x1 :: x2 :: x3 :: x4 :: x5 :: x6 :: x7 :: x8 :: x9 :: x10 :: x11 :: some .src :: r, st⟩ = .ok .src ⟨x0 :: x1 :: x2 :: x3 :: x4 :: x5 :: x6 :: x7 :: x8 :: x9 :: x10 :: x11 :: some .src :: r, st⟩ := rfl
@[simp] theorem mVe_12 {x0 x1 x2 x3 x4 x5 x6 x7 x8 x9 x10 x11 : Option Sl} {x : Xn} {r : List (Option Sl)} : mVar 12 ⟨x0 :: x1 :: x2 :: x3 :: x4 :: x5 :: x6 :: x7 :: x8 :: x9 :: x10 :: x11 :: some (.exc x) :: r, st⟩ = .ok (.exc x) ⟨x0 :: x1 :: x2 :: x3 :: x4 :: x5 :: x6 :: x7 :: x8 :: x9 :: x10 :: x11 :: some (.exc x) :: r, st⟩ := rfl
@[simp] theorem mVb_12 {x0 x1 x2 x3 x4 x5 x6 x7 x8 x9 x10 x11 : Option Sl} {x : Ob} {r : List (Option Sl)} : mVar 12 ⟨x0 :: x1 :: x2 :: x3 :: x4 :: x5 :: x6 :: x7 :: x8 :: x9 :: x10 :: x11 :: some (.obj x) :: r, st⟩ = .ok (.obj x) ⟨x0 :: x1 :: x2 :: x3 :: x4 :: x5 :: x6 :: x7 :: x8 :: x9 :: x10 :: x11 :: some (.obj x) :: r, st⟩ := rfl
@[simp] theorem mRv_12 {x0 x1 x2 x3 x4 x5 x6 x7 x8 x9 x10 x11 : Option Sl} {r : List (Option Sl)} : mRetV 12 ⟨x0 :: x1 :: x2 :: x3 :: x4 :: x5 :: x6 :: x7 :: x8 :: x9 :: x10 :: x11 :: some s :: r, st⟩ = .ok (.ret s) ⟨x0 :: x1 :: x2 :: x3 :: x4 :: x5 :: x6 :: x7 :: x8 :: x9 :: x10 :: x11 :: some s :: r, st⟩ := rfl
@[simp] theorem sRd_12 {x0 x1 x2 x3 x4 x5 x6 x7 x8 x9 x10 x11 : Option Sl} {x : Option Sl} {r : List (Option Sl)} : setR 12 (.dat d) ⟨x0 :: x1 :: x2 :: x3 :: x4 :: x5 :: x6 :: x7 :: x8 :: x9 :: x10 :: x11 :: x :: r, st⟩ = .ok .next ⟨x0 :: x1 :: x2 :: x3 :: x4 :: x5 :: x6 :: x7 :: x8 :: x9 :: x10 :: x11 :: some (.dat d) :: r, st⟩ := setR_dat (by simp only [List.length_cons]; omega)
@[simp] theorem sRs_12 {x0 x1 x2 x3 x4 x5 x6 x7 x8 x9 x10 x11 : Option Sl} {x : Option Sl} {r : List (Option Sl)} : setR 12 .src ⟨x0 :: x1 :: x2 :: x3 :: x4 :: x5 :: x6 :: x7 :: x8 :: x9 :: x10 :: x11 :: x :: r, st⟩ = .ok .next ⟨x0 :: x1 :: x2 :: x3 :: x4 :: x5 :: x6 :: x7 :: x8 :: x9 :: x10 :: x11 :: some .src :: r, st⟩ := setR_src (by simp only [List.length_cons]; omega)
@[simp] theorem sRe_12 {x0 x1 x2 x3 x4 x5 x6 x7 x8 x9 x10 x11 : Option Sl} {x : Option Sl} {y : Xn} {r : List (Option Sl)} : setR 12 (.exc y) ⟨x0 :: x1 :: x2 :: x3 :: x4 :: x5 :: x6 :: x7 :: x8 :: x9 :: x10 :: x11 :: x :: r, st⟩ = .ok .next ⟨x0 :: x1 :: x2 :: x3 :: x4 :: x5 :: x6 :: x7 :: x8 :: x9 :: x10 :: x11 :: some (.exc y) :: r, st⟩ := setR_exc (by simp only [List.length_cons]; omega)
@[simp] theorem sRb_12 {x0 x1 x2 x3 x4 x5 x6 x7 x8 x9 x10 x11 : Option Sl} {x : Option Sl} {y : Ob} {r : List (Option Sl)} : setR 12 (.obj y) ⟨x0 :: x1 :: x2 :: x3 :: x4 :: x5 :: x6 :: x7 :: x8 :: x9 :: x10 :: x11 :: x :: r, st⟩ = .ok .next ⟨x0 :: x1 :: x2 :: x3 :: x4 :: x5 :: x6 :: x7 :: x8 :: x9 :: x10 :: x11 :: some (.obj y) :: r, st⟩ := setR_obj (by simp only [List.length_cons]; omega)
@[simp] theorem sNo_12 {x0 x1 x2 x3 x4 x5 x6 x7 x8 x9 x10 x11 : Option Sl} {x : Option Sl} {r : List (Option Sl)} : setNR 12 d ⟨x0 :: x1 :: x2 :: x3 :: x4 :: x5 :: x6 :: x7 :: x8 :: x9 :: x10 :: x11 :: x :: r, st⟩ = .ok .next ⟨x0 :: x1 :: x2 :: x3 :: x4 :: x5 :: x6 :: x7 :: x8 :: x9 :: x10 :: x11 :: some (.own d) :: r, st⟩ := by unfold setNR; rw [if_pos (by simp only [List.length_cons]; omega)]; rfl
@[simp] theorem mTn_12 {x0 x1 x2 x3 x4 x5 x6 x7 x8 x9 x10 x11 : Option Sl} {x : Option Sl} {r : List (Option Sl)} : mTgt (.nm 12) d ⟨x0 :: x1 :: x2 :: x3 :: x4 :: x5 :: x6 :: x7 :: x8 :: x9 :: x10 :: x11 :: x :: r, st⟩ = some ⟨x0 :: x1 :: x2 :: x3 :: x4 :: x5 :: x6 :: x7 :: x8 :: x9 :: x10 :: x11 :: some (.dat d) :: r, st⟩ := by unfold mTgt; simp only; rw [if_pos (by simp only [List.length_cons]; omega)]; rfl
@[simp] theorem mBd_13 {x0 x1 x2 x3 x4 x5 x6 x7 x8 x9 x10 x11 x12 : Option Sl} {r : List (Option Sl)} : mBor 13 ⟨x0 :: x1 :: x2 :: x3 :: x4 :: x5 :: x6 :: x7 :: x8 :: x9 :: x10 :: x11 :: x12 :: some (.dat d) :: r, st⟩ = .ok d ⟨x0 :: x1 :: x2 :: x3 :: x4 :: x5 :: x6 :: x7 :: x8 :: x9 :: x10 :: x11 :: x12 :: some (.dat d) :: r, st⟩ := rfl
@[simp] theorem mBo_13 {x0 x1 x2 x3 x4 x5 x6 x7 x8 x9 x10 x11 x12 : Option Sl} {r : List (Option Sl)} : mBor 13 ⟨x0 :: x1 :: x2 :: x3 :: x4 :: x5 :: x6 :: x7 :: x8 :: x9 :: x10 :: x11 :: x12 :: some (.own d) :: r, st⟩ = .ok d ⟨x0 :: x1 :: x2 :: x3 :: x4 :: x5 :: x6 :: x7 :: x8 :: x9 :: x10 :: x11 :: x12 :: some (.own d) :: r, st⟩ := rfl
@[simp] theorem mVd_13 {x0 x1 x2 x3 x4 x5 x6 x7 x8 x9 x10 x11 x12 : Option Sl} {r : List (Option Sl)} : mVar 13 ⟨x0 :: x1 :: x2 :: x3 :: x4 :: x5 :: x6 :: x7 :: x8 :: x9 :: x10 :: x11 :: x12 :: some (.dat d) :: r, st⟩ = .ok (.dat d) ⟨x0 :: x1 :: x2 :: x3 :: x4 :: x5 :: x6 :: x7 :: x8 :: x9 :: x10 :: x11 :: x12 :: some (.dat d) :: r, st⟩ := rfl
@[simp] theorem mVo_13 {x0 x1 x2 x3 x4 x5 x6 x7 x8 x9 x10 x11 x12 : Option Sl} {r : List (Option Sl)} : mVar 13 ⟨x0 :: x1 :: x2 :: x3 :: x4 :: x5 :: x6 :: x7 :: x8 :: x9 :: x10 :: x11 :: x12 :: some (.own d) :: r, st⟩ = .ok (.dat d) ⟨x0 :: x1 :: x2 :: x3 :: x4 :: x5 :: x6 :: x7 :: x8 :: x9 :: x10 :: x11 :: x12 :: some (.dat d) :: r, st⟩ := rfl
@[simp] theorem mVs_13 {x0 x1 x2 x3 x4 x5 x6 x7 x8 x9 x10 x11 x12 : Option Sl} {r : List (Option Sl)} : mVar 13 ⟨x0 :: x1 :: x2 :: x3 :: x4 :: x5 :: x6 :: x7 :: x8 :: x9 :: x10 :: x11 :: x12 :: some .src :: r, st⟩ = .ok .src ⟨x0 :: x1 :: x2 :: x3 :: x4 :: x5 :: x6 :: x7 :: x8 :: x9 :: x10 :: x11 :: x12 :: some .src :: r, st⟩ := rfl
@[simp] theorem mVe_13 {x0 x1 x2 x3 x4 x5 x6 x7 x8 x9 x10 x11 x12 : Option Sl} {x : Xn} {r : List (Option Sl)} : mVar 13 ⟨x0 :: x1 :: x2 :: x3 :: x4 :: x5 :: x6 :: x7 :: x8 :: x9 :: x10 :: x11 :: x12 :: some (.exc x) :: r, st⟩ = .ok (.exc x) ⟨x0 :: x1 :: x2 :: x3 :: x4 :: x5 :: x6 :: x7 :: x8 :: x9 :: x10 :: x11 :: x12 :: some (.exc x) :: r, st⟩ := rfl
@[simp] theorem mVb_13 {x0 x1 x2 x3 x4 x5 x6 x7 x8 x9 x10 x11 x12 : Option Sl} {x : Ob} {r : List (Option Sl)} : mVar 13 ⟨x0 :: x1 :: x2 :: x3 :: x4 :: x5 :: x6 :: x7 :: x8 :: x9 :: x10 :: x11 :: x12 :: some (.obj x) :: r, st⟩ = .ok (.obj x) ⟨x0 :: x1 :: x2 :: x3 :: x4 :: x5 :: x6 :: x7 :: x8 :: x9 :: x10 :: x11 :: x12 :: some (.obj x) :: r, st⟩ := rfl
@[simp] theorem mRv_13 {x0 x1 x2 x3 x4 x5 x6 x7 x8 x9 x10 x11 x12 : Option Sl} {r : List (Option Sl)} : mRetV 13 ⟨x0 :: x1 :: x2 :: x3 :: x4 :: x5 :: x6 :: x7 :: x8 :: x9 :: x10 :: x11 :: x12 :: some s :: r, st⟩ = .ok (.ret s) ⟨x0 :: x1 :: x2 :: x3 :: x4 :: x5 :: x6 :: x7 :: x8 :: x9 :: x10 :: x11 :: x12 :: some s :: r, st⟩ := rfl
@[simp] theorem sRd_13 {x0 x1 x2 x3 x4 x5 x6 x7 x8 x9 x10 x11 x12 : Option Sl} {x : Option Sl} {r : List (Option Sl)} : setR 13 (.dat d) ⟨x0 :: x1 :: x2 :: x3 :: x4 :: x5 :: x6 :: x7 :: x8 :: x9 :: x10 :: x11 :: x12 :: x :: r, st⟩ = .ok .next ⟨x0 :: x1 :: x2 :: x3 :: x4 :: x5 :: x6 :: x7 :: x8 :: x9 :: x10 :: x11 :: x12 :: some (.dat d) :: r, st⟩ := setR_dat (by simp only [List.length_cons]; omega)
@[simp] theorem sRs_13 {x0 x1 x2 x3 x4 x5 x6 x7 x8 x9 x10 x11 x12 : Option Sl} {x : Option Sl} {r : List (Option Sl)} : setR 13 .src ⟨x0 :: x1 :: x2 :: x3 :: x4 :: x5 :: x6 :: x7 :: x8 :: x9 :: x10 :: x11 :: x12 :: x :: r, st⟩ = .ok .next ⟨x0 :: x1 :: x2 :: x3 :: x4 :: x5 :: x6 :: x7 :: x8 :: x9 :: x10 :: x11 :: x12 :: some .src :: r, st⟩ := setR_src (by simp only [List.length_cons]; omega)
@[simp] theorem sRe_13 {x0 x1 x2 x3 x4 x5 x6 x7 x8 x9 x10 x11 x12 : Option Sl} {x : Option Sl} {y : Xn} {r : List (Option Sl)} : setR 13 (.exc y) ⟨x0 :: x1 :: x2 :: x3 :: x4 :: x5 :: x6 :: x7 :: x8 :: x9 :: x10 :: x11 :: x12 :: x :: r, st⟩ = .ok .next ⟨x0 :: x1 :: x2 :: x3 :: x4 :: x5 :: x6 :: x7 :: x8 :: x9 :: x10 :: x11 :: x12 :: some (.exc y) :: r, st⟩ := setR_exc (by simp only [List.length_cons]; omega)
@[simp] theorem sRb_13 {x0 x1 x2 x3 x4 x5 x6 x7 x8 x9 x10 x11 x12 : Option Sl} {x : Option Sl} {y : Ob} {r : List (Option Sl)} : setR 13 (.obj y) ⟨x0 :: x1 :: x2 :: x3 :: x4 :: x5 :: x6 :: x7 :: x8 :: x9 :: x10 :: x11 :: x12 :: x :: r, st⟩ = .ok .next ⟨x0 :: x1 :: x2 :: x3 :: x4 :: x5 :: x6 :: x7 :: x8 :: x9 :: x10 :: x11 :: x12 :: some (.obj y) :: r, st⟩ := setR_obj (by simp only [List.length_cons]; omega)
@[simp] theorem sNo_13 {x0 x1 x2 x3 x4 x5 x6 x7 x8 x9 x10 x11 x12 : Option Sl} {x : Option Sl} {r : List (Option Sl)} : setNR 13 d ⟨x0 :: x1 :: x2 :: x3 :: x4 :: x5 :: x6 :: x7 :: x8 :: x9 :: x10 :: x11 :: x12 :: x :: r, st⟩ = .ok .next ⟨x0 :: x1 :: x2 :: x3 :: x4 :: x5 :: x6 :: x7 :: x8 :: x9 :: x10 :: x11 :: x12 :: some (.own d) :: r, st⟩ := by unfold setNR; rw [if_pos (by simp only [List.length_cons]; omega)]; rfl
@[simp] theorem mTn_13 {x0 x1 x2 x3 x4 x5 x6 x7 x8 x9 x10 x11 x12 : Option Sl} {x : Option Sl} {r : List (Option Sl)} : mTgt (.nm 13) d ⟨x0 :: x1 :: x2 :: x3 :: x4 :: x5 :: x6 :: x7 :: x8 :: x9 :: x10 :: x11 :: x12 :: x :: r, st⟩ = some ⟨x0 :: x1 :: x2 :: x3 :: x4 :: x5 :: x6 :: x7 :: x8 :: x9 :: x10 :: x11 :: x12 :: some (.dat d) :: r, st⟩ := by unfold mTgt; simp only; rw [if_pos (by simp only [List.length_cons]; omega)]; rfl
@[simp] theorem mBd_14 {x0 x1 x2 x3 x4 x5 x6 x7 x8 x9 x10 x11 x12 x13 : Option Sl} {r : List (Option Sl)} : mBor 14 ⟨x0 :: x1 :: x2 :: x3 :: x4 :: x5 :: x6 :: x7 :: x8 :: x9 :: x10 :: x11 :: x12 :: x13 :: some (.dat d) :: r, st⟩ = .ok d ⟨x0 :: x1 :: x2 :: x3 :: x4 :: x5 :: x6 :: x7 :: x8 :: x9 :: x10 :: x11 :: x12 :: x13 :: some (.dat d) :: r, st⟩ := rfl
@[simp] theorem mBo_14 {x0 x1 x2 x3 x4 x5 x6 x7 x8 x9 x10 x11 x12 x13 : Option Sl} {r : List (Option Sl)} : mBor 14 ⟨x0 :: x1 :: x2 :: x3 :: x4 :: x5 :: x6 :: x7 :: x8 :: x9 :: x10 :: x11 :: x12 :: x13 :: some (.own d) :: r, st⟩ = .ok d ⟨x0 :: x1 :: x2 :: x3 :: x4 :: x5 :: x6 :: x7 :: x8 :: x9 :: x10 :: x11 :: x12 :: x13 :: some (.own d) :: r, st⟩ := rfl
@[simp] theorem mVd_14 {x0 x1 x2 x3 x4 x5 x6 x7 x8 x9 x10 x11 x12 x13 : Option Sl} {r : List (Option Sl)} : mVar 14 ⟨x0 :: x1 :: x2 :: x3 :: x4 :: x5 :: x6 :: x7 :: x8 :: x9 :: x10 :: x11 :: x12 :: x13 :: some (.dat d) :: r, st⟩ = .ok (.dat d) ⟨x0 :: x1 :: x2 :: x3 :: x4 :: x5 :: x6 :: x7 :: x8 :: x9 :: x10 :: x11 :: x12 :: x13 :: some (.dat d) :: r, st⟩ := rfl
@[simp] theorem mVo_14 {x0 x1 x2 x3 x4 x5 x6 x7 x8 x9 x10 x11 x12 x13 : Option Sl} {r : List (Option Sl)} : mVar 14 ⟨x0 :: x1 :: x2 :: x3 :: x4 :: x5 :: x6 :: x7 :: x8 :: x9 :: x10 :: x11 :: x12 :: x13 :: some (.own d) :: r, st⟩ = .ok (.dat d) ⟨x0 :: x1 :: x2 :: x3 :: x4 :: x5 :: x6 :: x7 :: x8 :: x9 :: x10 :: x11 :: x12 :: x13 :: some (.dat d) :: r, st⟩ := rfl
@[simp] theorem mVs_14 {x0 x1 x2 x3 x4 x5 x6 x7 x8 x9 x10 x11 x12 x13 : Option Sl} {r : List (Option Sl)} : mVar 14 ⟨x0 :: x1 :: x2 :: x3 :: x4 :: x5 :: x6 :: x7 :: x8 :: x9 :: x10 :: x11 :: x12 :: x13 :: some .src :: r, st⟩ = .ok .src ⟨x0 :: x1 :: x2 :: x3 :: x4 :: x5 :: x6 :: x7 :: x8 :: x9 :: x10 :: x11 :: x12 :: x13 :: some .src :: r, st⟩ := rfl
@[simp] theorem mVe_14 {x0 x1 x2 x3 x4 x5 x6 x7 x8 x9 x10 x11 x12 x13 : Option Sl} {x : Xn} {r : List (Option Sl)} : mVar 14 ⟨x0 :: x1 :: x2 :: x3 :: x4 :: x5 :: x6 :: x7 :: x8 :: x9 :: x10 :: x11 :: x12 :: x13 :: some (.exc x) :: r, st⟩ = .ok (.exc x) ⟨x0 :: x1 :: x2 :: x3 :: x4 :: x5 :: x6 :: x7 :: x8 :: x9 :: x10 :: x11 :: x12 :: x13 :: some (.exc x) :: r, st⟩ := rfl
@[simp] theorem mVb_14 {x0 x1 x2 x3 x4 x5 x6 x7 x8 x9 x10 x11 x12 x13 : Option Sl} {x : Ob} {r : List (Option Sl)} : mVar 14 ⟨x0 :: x1 :: x2 :: x3 :: x4 :: x5 :: x6 :: x7 :: x8 :: x9 :: x10 :: x11 :: x12 :: x13 :: some (.obj x) :: r, st⟩ = .ok (.obj x) ⟨x0 :: x1 :: x2 :: x3 :: x4 :: x5 :: x6 :: x7 :: x8 :: x9 :: x10 :: x11 :: x12 :: x13 :: some (.obj x) :: r, st⟩ := rfl
@[simp] theorem mRv_14 {x0 x1 x2 x3 x4 x5 x6 x7 x8 x9 x10 x11 x12 x13 : Option Sl} {r : List (Option Sl)} : mRetV 14 ⟨x0 :: x1 :: x2 :: x3 :: x4 :: x5 :: x6 :: x7 :: x8 :: x9 :: x10 :: x11 :: x12 :: x13 :: some s :: r, st⟩ = .ok (.ret s) ⟨x0 :: x1 :: x2 :: x3 :: x4 :: x5 :: x6 :: x7 :: x8 :: x9 :: x10 :: x11 :: x12 :: x13 :: some s :: r, st⟩ := rfl
@[simp] theorem sRd_14 {x0 x1 x2 x3 x4 x5 x6 x7 x8 x9 x10 x11 x12 x13 : Option Sl} {x : Option Sl} {r : List (Option Sl)} : setR 14 (.dat d) ⟨x0 :: x1 :: x2 :: x3 :: x4 :: x5 :: x6 :: x7 :: x8 :: x9 :: x10 :: x11 :: x12 :: x13 :: x :: r, st⟩ = .ok .next ⟨x0 :: x1 :: x2 :: x3 :: x4 :: x5 :: x6 :: x7 :: x8 :: x9 :: x10 :: x11 :: x12 :: x13 :: some (.dat d) :: r, st⟩ := setR_dat (by simp only [List.length_cons]; omega)
@[simp] theorem sRs_14 {x0 x1 x2 x3 x4 x5 x6 x7 x8 x9 x10 x11 x12 x13 : Option Sl} {x : Option Sl} {r : List (Option Sl)} : setR 14 .src ⟨x0 :: x1 :: x2 :: x3 :: x4 :: x5 :: x6 :: x7 :: x8 :: x9 :: x10 :: x11 :: x12 :: x13 :: x :: r, st⟩ = .ok .next ⟨x0 :: x1 :: x2 :: x3 :: x4 :: x5 :: x6 :: x7 :: x8 :: x9 :: x10 :: x11 :: x12 :: x13 :: some .src :: r, st⟩ := setR_src (by simp only [List.length_cons]; omega)
@[simp] theorem sRe_14 {x0 x1 x2 x3 x4 x5 x6 x7 x8 x9 x10 x11 x12 x13 : Option Sl} {x : Option Sl} {y : Xn} {r : List (Option Sl)} : setR 14 (.exc y) ⟨x0 :: x1 :: x2 :: x3 :: x4 :: x5 :: x6 :: x7 :: x8 :: x9 :: x10 :: x11 :: x12 :: x13 :: x :: r, st⟩ = .ok .next ⟨x0 :: x1 :: x2 :: x3 :: x4 :: x5 :: x6 :: x7 :: x8 :: x9 :: x10 :: x11 :: x12 :: x13 :: some (.exc y) :: r, st⟩ := setR_exc (by simp only [List.length_cons]; omega)
@[simp] theorem sRb_14 {x0 x1 x2 x3 x4 x5 x6 x7 x8 x9 x10 x11 x12 x13 : Option Sl} {x : Option Sl} {y : Ob} {r : List (Option Sl)} : setR 14 (.obj y) ⟨x0 :: x1 :: x2 :: x3 :: x4 :: x5 :: x6 :: x7 :: x8 :: x9 :: x10 :: x11 :: x12 :: x13 :: x :: r, st⟩ = .ok .next ⟨x0 :: x1 :: x2 :: x3 :: x4 :: x5 :: x6 :: x7 :: x8 :: x9 :: x10 :: x11 :: x12 :: x13 :: some (.obj y) :: r, st⟩ := setR_obj (by simp only [List.length_cons]; omega)
@[simp] theorem sNo_14 {x0 x1 x2 x3 x4 x5 x6 x7 x8 x9 x10 x11 x12 x13 : Option Sl} {x : Option Sl} {r : List (Option Sl)} : setNR 14 d ⟨x0 :: x1 :: x2 :: x3 :: x4 :: x5 :: x6 :: x7 :: x8 :: x9 :: x10 :: x11 :: x12 :: x13 :: x :: r, st⟩ = .ok .next ⟨x0 :: x1 :: x2 :: x3 :: x4 :: x5 :: x6 :: x7 :: x8 :: x9 :: x10 :: x11 :: x12 :: x13 :: some (.own d) :: r, st⟩ := by unfold setNR; rw [if_pos (by simp only [List.length_cons]; omega)]; rfl
@[simp] theorem mTn_14 {x0 x1 x2 x3 x4 x5 x6 x7 x8 x9 x10 x11 x12 x13 : Option Sl} {x : Option Sl} {r : List (Option Sl)} : mTgt (.nm 14) d ⟨x0 :: x1 :: x2 :: x3 :: x4 :: x5 :: x6 :: x7 :: x8 :: x9 :: x10 :: x11 :: x12 :: x13 :: x :: r, st⟩ = some ⟨x0 :: x1 :: x2 :: x3 :: x4 :: x5 :: x6 :: x7 :: x8 :: x9 :: x10 :: x11 :: x12 :: x13 :: some (.dat d) :: r, st⟩ := by unfold mTgt; simp only; rw [if_pos (by simp only [List.length_cons]; omega)]; rfl
@[simp] theorem mBd_15 {x0 x1 x2 x3 x4 x5 x6 x7 x8 x9 x10 x11 x12 x13 x14 : Option Sl} {r : List (Option Sl)} : mBor 15 ⟨x0 :: x1 :: x2 :: x3 :: x4 :: x5 :: x6 :: x7 :: x8 :: x9 :: x10 :: x11 :: x12 :: x13 :: x14 :: some (.dat d) :: r, st⟩ = .ok d ⟨x0 :: x1 :: x2 :: x3 :: x4 :: x5 :: x6 :: x7 :: x8 :: x9 :: x10 :: x11 :: x12 :: x13 :: x14 :: some (.dat d) :: r, st⟩ := rfl
@[simp] theorem mBo_15 {x0 x1 x2 x3 x4 x5 x6 x7 x8 x9 x10 x11 x12 x13 x14 : Option Sl} {r : List (Option Sl)} : mBor 15 ⟨x0 :: x1 :: x2 :: x3 :: x4 :: x5 :: x6 :: x7 :: x8 :: x9 :: x10 :: x11 :: x12 :: x13 :: x14 :: some (.own d) :: r, st⟩ = .ok d ⟨x0 :: x1 :: x2 :: x3 :: x4 :: x5 :: x6 :: x7 :: x8 :: x9 :: x10 :: x11 :: x12 :: x13 :: x14 :: some (.own d) :: r, st⟩ := rfl
@[simp] theorem mVd_15 {x0 x1 x2 x3 x4 x5 x6 x7 x8 x9 x10 x11 x12 x13 x14 : Option Sl} {r : List (Option Sl)} : mVar 15 ⟨x0 :: x1 :: x2 :: x3 :: x4 :: x5 :: x6 :: x7 :: x8 :: x9 :: x10 :: x11 :: x12 :: x13 :: x14 :: some (.dat d) :: r, st⟩ = .ok (.dat d) ⟨x0 :: x1 :: x2 :: x3 :: x4 :: x5 :: x6 :: x7 :: x8 :: x9 :: x10 :: x11 :: x12 :: x13 :: x14 :: some (.dat d) :: r, st⟩ := rfl
@[simp] theorem mVo_15 {x0 x1 x2 x3 x4 x5 x6 x7 x8 x9 x10 x11 x12 x13 x14 : Option Sl} {r : List (Option Sl)} : mVar 15 ⟨x0 :: x1 :: x2 :: x3 :: x4 :: x5 :: x6 :: x7 :: x8 :: x9 :: x10 :: x11 :: x12 :: x13 :: x14 :: some (.own d) :: r, st⟩ = .ok (.dat d) ⟨x0 :: x1 :: x2 :: x3 :: x4 :: x5 :: x6 :: x7 :: x8 :: x9 :: x10 :: x11 :: x12 :: x13 :: x14 :: some (.dat d) :: r, st⟩ := rfl
@[simp] theorem mVs_15 {x0 x1 x2 x3 x4 x5 x6 x7 x8 x9 x10 x11 x12 x13 x14 : Option Sl} {r : List (Option Sl)} : mVar 15 ⟨x0 :: x1 :: x2 :: x3 :: x4 :: x5 :: x6 :: x7 :: x8 :: x9 :: x10 :: x11 :: x12 :: x13 :: x14 :: some .src :: r, st⟩ = .ok .src ⟨x0 :: x1 :: x2 :: x3 :: x4 :: x5 :: x6 :: x7 :: x8 :: x9 :: x10 :: x11 :: x12 :: x13 :: x14 :: some .src :: r, st⟩ := rfl
@[simp] theorem mVe_15 {x0 x1 x2 x3 x4 x5 x6 x7 x8 x9 x10 x11 x12 x13 x14 : Option Sl} {x : Xn} {r : List (Option Sl)} : mVar 15 ⟨x0 :: x1 :: x2 :: x3 :: x4 :: x5 :: x6 :: x7 :: x8 :: x9 :: x10 :: x11 :: x12 :: x13 :: x14 :: some (.exc x) :: r, st⟩ = .ok (.exc x) ⟨x0 :: x1 :: x2 :: x3 :: x4 :: x5 :: x6 :: x7 :: x8 :: x9 :: x10 :: x11 :: x12 :: x13 :: x14 :: some (.exc x) :: r, st⟩ := rfl
@[simp] theorem mVb_15 {x0 x1 x2 x3 x4 x5 x6 x7 x8 x9 x10 x11 x12 x13 x14 : Option Sl} {x : Ob} {r : List (Option Sl)} : mVar 15 ⟨x0 :: x1 :: x2 :: x3 :: x4 :: x5 :: x6 :: x7 :: x8 :: x9 :: x10 :: x11 :: x12 :: x13 :: x14 :: some (.obj x) :: r, st⟩ = .ok (.obj x) ⟨x0 :: x1 :: x2 :: x3 :: x4 :: x5 :: x6 :: x7 :: x8 :: x9 :: x10 :: x11 :: x12 :: x13 :: x14 :: some (.obj x) :: r, st⟩ := rfl
@[simp] theorem mRv_15 {x0 x1 x2 x3 x4 x5 x6 x7 x8 x9 x10 x11 x12 x13 x14 : Option Sl} {r : List (Option Sl)} : mRetV 15 ⟨x0 :: x1 :: x2 :: x3 :: x4 :: x5 :: x6 :: x7 :: x8 :: x9 :: x10 :: x11 :: x12 :: x13 :: x14 :: some s :: r, st⟩ = .ok (.ret s) ⟨x0 :: x1 :: x2 :: x3 :: x4 :: x5 :: x6 :: x7 :: x8 :: x9 :: x10 :: x11 :: x12 :: x13 :: x14 :: some s :: r, st⟩ := rfl
@[simp] theorem sRd_15 {x0 x1 x2 x3 x4 x5 x6 x7 x8 x9 x10 x11 x12 x13 x14 : Option Sl} {x : Option Sl} {r : List (Option Sl)} : setR 15 (.dat d) ⟨x0 :: x1 :: x2 :: x3 :: x4 :: x5 :: x6 :: x7 :: x8 :: x9 :: x10 :: x11 :: x12 :: x13 :: x14 :: x :: r, st⟩ = .ok .next ⟨x0 :: x1 :: x2 :: x3 :: x4 :: x5 :: x6 :: x7 :: x8 :: x9 :: x10 :: x11 :: x12 :: x13 :: x14 :: some (.dat d) :: r, st⟩ := setR_dat (by simp only [List.length_cons]; omega)
@[simp] theorem sRs_15 {x0 x1 x2 x3 x4 x5 x6 x7 x8 x9 x10 x11 x12 x13 x14 : Option Sl} {x : Option Sl} {r : List (Option Sl)} : setR 15 .src ⟨x0 :: x1 :: x2 :: x3 :: x4 :: x5 :: x6 :: x7 :: x8 :: x9 :: x10 :: x11 :: x12 :: x13 :: x14 :: x :: r, st⟩ = .ok .next ⟨x0 :: x1 :: x2 :: x3 :: x4 :: x5 :: x6 :: x7 :: x8 :: x9 :: x10 :: x11 :: x12 :: x13 :: x14 :: some .src :: r, st⟩ := setR_src (by simp only [List.length_cons]; omega)
@[simp] theorem sRe_15 {x0 x1 x2 x3 x4 x5 x6 x7 x8 x9 x10 x11 x12 x13 x14 : Option Sl} {x : Option Sl} {y : Xn} {r : List (Option Sl)} : setR 15 (.exc y) ⟨x0 :: x1 :: x2 :: x3 :: x4 :: x5 :: x6 :: x7 :: x8 :: x9 :: x10 :: x11 :: x12 :: x13 :: x14 :: x :: r, st⟩ = .ok .next ⟨x0 :: x1 :: x2 :: x3 :: x4 :: x5 :: x6 :: x7 :: x8 :: x9 :: x10 :: x11 :: x12 :: x13 :: x14 :: some (.exc y) :: r, st⟩ := setR_exc (by simp only [List.length_cons]; omega)
@[simp] theorem sRb_15 {x0 x1 x2 x3 x4 x5 x6 x7 x8 x9 x10 x11 x12 x13 x14 : Option Sl} {x : Option Sl} {y : Ob} {r : List (Option Sl)} : setR 15 (.obj y) ⟨x0 :: x1 :: x2 :: x3 :: x4 :: x5 :: x6 :: x7 :: x8 :: x9 :: x10 :: x11 :: x12 :: x13 :: x14 :: x :: r, st⟩ = .ok .next ⟨x0 :: x1 :: x2 :: x3 :: x4 :: x5 :: x6 :: x7 :: x8 :: x9 :: x10 :: x11 :: x12 :: x13 :: x14 :: some (.obj y) :: r, st⟩ := setR_obj (by simp only [List.length_cons]; omega)
@[simp] theorem sNo_15 {x0 x1 x2 x3 x4 x5 x6 x7 x8 x9 x10 x11 x12 x13 x14 : Option Sl} {x : Option Sl} {r : List (Option Sl)} : setNR 15 d ⟨x0 :: x1 :: x2 :: x3 :: x4 :: x5 :: x6 :: x7 :: x8 :: x9 :: x10 :: x11 :: x12 :: x13 :: x14 :: x :: r, st⟩ = .ok .next ⟨x0 :: x1 :: x2 :: x3 :: x4 :: x5 :: x6 :: x7 :: x8 :: x9 :: x10 :: x11 :: x12 :: x13 :: x14 :: some (.own d) :: r, st⟩ := by unfold setNR; rw [if_pos (by simp only [List.length_cons]; omega)]; rfl
@[simp] theorem mTn_15 {x0 x1 x2 x3 x4 x5 x6 x7 x8 x9 x10 x11 x12 x13 x14 : Option Sl} {x : Option Sl} {r : List (Option Sl)} : mTgt (.nm 15) d ⟨x0 :: x1 :: x2 :: x3 :: x4 :: x5 :: x6 :: x7 :: x8 :: x9 :: x10 :: x11 :: x12 :: x13 :: x14 :: x :: r, st⟩ = some ⟨x0 :: x1 :: x2 :: x3 :: x4 :: x5 :: x6 :: x7 :: x8 :: x9 :: x10 :: x11 :: x12 :: x13 :: x14 :: some (.dat d) :: r, st⟩ := by unfold mTgt; simp only; rw [if_pos (by simp only [List.length_cons]; omega)]; rfl
def augR (f : Int → Int → Int) (i : Nat) (a : Int) (d : PyData) (m : Me) : Res Flow := match d with
  | .int b => .ok .next { m with env := m.env.set i (some (.dat (.int (f a b)))) }
  | _ => .bad
@[simp] theorem augR_i {f : Int → Int → Int} {i : Nat} {a k : Int} : augR f i a (.int k) ⟨env, st⟩ = .ok .next ⟨env.set i (some (.dat (.int (f a k)))), st⟩ := rfl
theorem mAug_x {f : Int → Int → Int} {i : Nat} {a : Int} {x : M PyData} (h : env[i]? = some (some (.dat (.int a)))) : mAug f i x ⟨env, st⟩ = (x ⟨env, st⟩).bind fun d m1 => augR f i a d m1 := by
  unfold mAug; simp only [h]; congr
@[simp] theorem mAu_0 {f : Int → Int → Int} {a : Int} {x : M PyData} {r : List (Option Sl)} : mAug f 0 x ⟨some (.dat (.int a)) :: r, st⟩ = (x ⟨some (.dat (.int a)) :: r, st⟩).bind fun d m1 => augR f 0 a d m1 := mAug_x rfl
@[simp] theorem mAu_1 {x0 : Option Sl} {f : Int → Int → Int} {a : Int} {x : M PyData} {r : List (Option Sl)} : mAug f 1 x ⟨x0 :: some (.dat (.int a)) :: r, st⟩ = (x ⟨x0 :: some (.dat (.int a)) :: r, st⟩).bind fun d m1 => augR f 1 a d m1 := mAug_x rfl
@[simp] theorem mAu_2 {x0 x1 : Option Sl} {f : Int → Int → Int} {a : Int} {x : M PyData} {r : List (Option Sl)} : mAug f 2 x ⟨x0 :: x1 :: some (.dat (.int a)) :: r, st⟩ = (x ⟨x0 :: x1 :: some (.dat (.int a)) :: r, st⟩).bind fun d m1 => augR f 2 a d m1 := mAug_x rfl
@[simp] theorem mAu_3 {x0 x1 x2 : Option Sl} {f : Int → Int → Int} {a : Int} {x : M PyData} {r : List (Option Sl)} : mAug f 3 x ⟨x0 :: x1 :: x2 :: some (.dat (.int a)) :: r, st⟩ = (x ⟨x0 :: x1 :: x2 :: some (.dat (.int a)) :: r, st⟩).bind fun d m1 => augR f 3 a d m1 := mAug_x rfl
@[simp] theorem mAu_4 {x0 x1 x2 x3 : Option Sl} {f : Int → Int → Int} {a : Int} {x : M PyData} {r : List (Option Sl)} : mAug f 4 x ⟨x0 :: x1 :: x2 :: x3 :: some (.dat (.int a)) :: r, st⟩ = (x ⟨x0 :: x1 :: x2 :: x3 :: some (.dat (.int a)) :: r, st⟩).bind fun d m1 => augR f 4 a d m1 := mAug_x rfl
@[simp] theorem mAu_5 {x0 x1 x2 x3 x4 : Option Sl} {f : Int → Int → Int} {a : Int} {x : M PyData} {r : List (Option Sl)} : mAug f 5 x ⟨x0 :: x1 :: x2 :: x3 :: x4 :: some (.dat (.int a)) :: r, st⟩ = (x ⟨x0 :: x1 :: x2 :: x3 :: x4 :: some (.dat (.int a)) :: r, st⟩).bind fun d m1 => augR f 5 a d m1 := mAug_x rfl
@[simp] theorem mAu_6 {x0 x1 x2 x3 x4 x5 : Option Sl} {f : Int → Int → Int} {a : Int} {x : M PyData} {r : List (Option Sl)} : mAug f 6 x ⟨x0 :: x1 :: x2 :: x3 :: x4 :: x5 :: some (.dat (.int a)) :: r, st⟩ = (x ⟨x0 :: x1 :: x2 :: x3 :: x4 :: x5 :: some (.dat (.int a)) :: r, st⟩).bind fun d m1 => augR f 6 a d m1 := mAug_x rfl
@[simp] theorem mAu_7 {x0 x1 x2 x3 x4 x5 x6 : Option Sl} {f : Int → Int → Int} {a : Int} {x : M PyData} {r : List (Option Sl)} : mAug f 7 x ⟨x0 :: x1 :: x2 :: x3 :: x4 :: x5 :: x6 :: some (.dat (.int a)) :: r, st⟩ = (x ⟨x0 :: x1 :: x2 :: x3 :: x4 :: x5 :: x6 :: some (.dat (.int a)) :: r, st⟩).bind fun d m1 => augR f 7 a d m1 := mAug_x rfl
@[simp] theorem mAu_8 {x0 x1 x2 x3 x4 x5 x6 x7 : Option Sl} {f : Int → Int → Int} {a : Int} {x : M PyData} {r : List (Option Sl)} : mAug f 8 x ⟨x0 :: x1 :: x2 :: x3 :: x4 :: x5 :: x6 :: x7 :: some (.dat (.int a)) :: r, st⟩ = (x ⟨x0 :: x1 :: x2 :: x3 :: x4 :: x5 :: x6 :: x7 :: some (.dat (.int a)) :: r, st⟩).bind fun d m1 => augR f 8 a d m1 := mAug_x rfl
@[simp] theorem mAu_9 {x0 x1 x2 x3 x4 x5 x6 x7 x8 : Option Sl} {f : Int → Int → Int} {a : Int} {x : M PyData} {r : List (Option Sl)} : mAug f 9 x ⟨x0 :: x1 :: x2 :: x3 :: x4 :: x5 :: x6 :: x7 :: x8 :: some (.dat (.int a)) :: r, st⟩ = (x ⟨x0 :: x1 :: x2 :: x3 :: x4 :: x5 :: x6 :: x7 :: x8 :: some (.dat (.int a)) :: r, st⟩).bind fun d m1 => augR f 9 a d m1 := mAug_x rfl
@[simp] theorem mAu_10 {x0 x1 x2 x3 x4 x5 x6 x7 x8 x9 : Option Sl} {f : Int → Int → Int} {a : Int} {x : M PyData} {r : List (Option Sl)} : mAug f 10 x ⟨x0 :: x1 :: x2 :: x3 :: x4 :: x5 :: x6 :: x7 :: x8 :: x9 :: some (.dat (.int a)) :: r, st⟩ = (x ⟨x0 :: x1 :: x2 :: x3 :: x4 :: x5 :: x6 :: x7 :: x8 :: x9 :: some (.dat (.int a)) :: r, st⟩).bind fun d m1 => augR f 10 a d m1 := mAug_x rfl
@[simp] theorem mAu_11 {x0 x1 x2 x3 x4 x5 x6 x7 x8 x9 x10 : Option Sl} {f : Int → Int → Int} {a : Int} {x : M PyData} {r : List (Option Sl)} : mAug f 11 x ⟨x0 :: x1 :: x2 :: x3 :: x4 :: x5 :: x6 :: x7 :: x8 :: x9 :: x10 :: some (.dat (.int a)) :: r, st⟩ = (x ⟨x0 :: x1 :: x2 :: x3 :: x4 :: x5 :: x6 :: x7 :: x8 :: x9 :: x10 :: some (.dat (.int a)) :: r, st⟩).bind fun d m1 => augR f 11 a d m1 := mAug_x rfl
@[simp] theorem mAu_12 {x0 x1 x2 x3 x4 x5 x6 x7 x8 x9 x10 x11 : Option Sl} {f : Int → Int → Int} {a : Int} {x : M PyData} {r : List (Option Sl)} : mAug f 12 x ⟨x0 :: x1 :: x2 :: x3 :: x4 :: x5 :: x6 :: x7 :: x8 :: x9 :: x10 :: x11 :: some (.dat (.int a)) :: r, st⟩ = (x ⟨x0 :: x1 :: x2 :: x3 :: x4 :: x5 :: x6 :: x7 :: x8 :: x9 :: x10 :: x11 :: some (.dat (.int a)) :: r, st⟩).bind fun d m1 => augR f 12 a d m1 := mAug_x rfl
@[simp] theorem mAu_13 {x0 x1 x2 x3 x4 x5 x6 x7 x8 x9 x10 x11 x12 : Option Sl} {f : Int → Int → Int} {a : Int} {x : M PyData} {r : List (Option Sl)} : mAug f 13 x ⟨x0 :: x1 :: x2 :: x3 :: x4 :: x5 :: x6 :: x7 :: x8 :: x9 :: x10 :: x11 :: x12 :: some (.dat (.int a)) :: r, st⟩ = (x ⟨x0 :: x1 :: x2 :: x3 :: x4 :: x5 :: x6 :: x7 :: x8 :: x9 :: x10 :: x11 :: x12 :: some (.dat (.int a)) :: r, st⟩).bind fun d m1 => augR f 13 a d m1 := mAug_x rfl
@[simp] theorem mAu_14 {x0 x1 x2 x3 x4 x5 x6 x7 x8 x9 x10 x11 x12 x13 : Option Sl} {f : Int → Int → Int} {a : Int} {x : M PyData} {r : List (Option Sl)} : mAug f 14 x ⟨x0 :: x1 :: x2 :: x3 :: x4 :: x5 :: x6 :: x7 :: x8 :: x9 :: x10 :: x11 :: x12 :: x13 :: some (.dat (.int a)) :: r, st⟩ = (x ⟨x0 :: x1 :: x2 :: x3 :: x4 :: x5 :: x6 :: x7 :: x8 :: x9 :: x10 :: x11 :: x12 :: x13 :: some (.dat (.int a)) :: r, st⟩).bind fun d m1 => augR f 14 a d m1 := mAug_x rfl
@[simp] theorem mAu_15 {x0 x1 x2 x3 x4 x5 x6 x7 x8 x9 x10 x11 x12 x13 x14 : Option Sl} {f : Int → Int → Int} {a : Int} {x : M PyData} {r : List (Option Sl)} : mAug f 15 x ⟨x0 :: x1 :: x2 :: x3 :: x4 :: x5 :: x6 :: x7 :: x8 :: x9 :: x10 :: x11 :: x12 :: x13 :: x14 :: some (.dat (.int a)) :: r, st⟩ = (x ⟨x0 :: x1 :: x2 :: x3 :: x4 :: x5 :: x6 :: x7 :: x8 :: x9 :: x10 :: x11 :: x12 :: x13 :: x14 :: some (.dat (.int a)) :: r, st⟩).bind fun d m1 => augR f 15 a d m1 := mAug_x rfl
end
end PL
namespace PL.RF
open PySem PySem.Spec PyProof.Rows L2
noncomputable section
abbrev F__law_draw : List Sl → SrcSt → CRes := drawF
abbrev fuel : Nat := 1000000
abbrev c_ALPHABET : Str := "abcdefghijklmnopqrstuvwxyz"
def m_is_word : M Flow := (mSeq (mIfS (mOr (mNot (mTest (mIsi "str" (mBor 0)))) (mNot (mTest (mChain pLe pLe (mBor 1) (mDat (mCal fLen (mBs [(mBor 0)]))) (mBor 2))))) (mRet (mC (.dat (.bool false)))) mNext)
  (mRet (mCal fAll (mBs [(mDat (mL (mComp [3] (.nm 3) (mIt (mVar 0)) mYes (mOp pInA (mBor 3) (mDat (mC (.dat (.str c_ALPHABET))))))))]))))
def F_is_word : List Sl → SrcSt → CRes := callOf 4 m_is_word
def m_is_fix : M Flow := (mSeq (mIfS (mOr (mNot (mTest (mIsi "tuple" (mBor 0)))) (mTest (mOp (pNot pEq) (mDat (mCal fLen (mBs [(mBor 0)]))) (mDat (mC (.dat (.int 4))))))) (mRet (mC (.dat (.bool false)))) mNext)
  (mSeq (mAsg (.tp [1, 2, 3, 4]) (mVar 0))
  (mSeq (mSet 5 (mAndV (mCall F_is_word (mArgs [(mVar 1), (mC (.dat (.int 0))), (mC (.dat (.int 1)))])) (mCall F_is_word (mArgs [(mVar 4), (mC (.dat (.int 0))), (mC (.dat (.int 1)))]))))
  (mRet (mAndV (mVar 5) (mAndV (mCall F_is_word (mArgs [(mVar 2), (mC (.dat (.int 1))), (mC (.dat (.int 3)))])) (mCall F_is_word (mArgs [(mVar 3), (mC (.dat (.int 0))), (mC (.dat (.int 3)))]))))))))
def F_is_fix : List Sl → SrcSt → CRes := callOf 6 m_is_fix
def m_is_book : M Flow := (mSeq (mIfS (mOr (mNot (mTest (mIsi "tuple" (mBor 0)))) (mTest (mOp pGt (mDat (mCal fLen (mBs [(mBor 0)]))) (mDat (mC (.dat (.int 5))))))) (mRet (mC (.dat (.bool false)))) mNext)
  (mRet (mCal fAll (mBs [(mDat (mL (mComp [1] (.nm 1) (mIt (mVar 0)) mYes (mCall F_is_fix (mArgs [(mVar 1)])))))]))))
def F_is_book : List Sl → SrcSt → CRes := callOf 2 m_is_book
def m_check_book : M Flow := (mIfS (mNot (mTest (mCall F_is_book (mArgs [(mVar 0)])))) (mRaise ⟨"InvalidBook", []⟩) mNext)
def F_check_book : List Sl → SrcSt → CRes := callOf 1 m_check_book
def m_check_text : M Flow := (mIfS (mNot (mTest (mCall F_is_word (mArgs [(mVar 0), (mC (.dat (.int 0))), (mC (.dat (.int 200)))])))) (mRaise ⟨"InvalidWord", []⟩) mNext)
def F_check_text : List Sl → SrcSt → CRes := callOf 1 m_check_text
def m_is_number : M Flow := (mRet (mAndV (mIsi "int" (mBor 0)) (mAndV (mNotV (mIsi "bool" (mBor 0))) (mChain pLe pLe (mBor 1) (mBor 0) (mBor 2)))))
def F_is_number : List Sl → SrcSt → CRes := callOf 3 m_is_number
def m_check_number : M Flow := (mIfS (mNot (mTest (mCall F_is_number (mArgs [(mVar 0), (mVar 1), (mVar 2)])))) (mRaise ⟨"InvalidNumber", []⟩) mNext)
def F_check_number : List Sl → SrcSt → CRes := callOf 3 m_check_number
def m_looked_for : M Flow := (mSeq (mAsg (.tp [1, 2, 3, 4]) (mVar 0))
  (mRet (mOp pAdd (mDat (mOp pAdd (mBor 1) (mBor 2))) (mBor 4))))
def F_looked_for : List Sl → SrcSt → CRes := callOf 5 m_looked_for
def m_check_book_and_text : M Flow := (mSeq (mDrop (mCall F_check_book (mArgs [(mVar 0)])))
  (mDrop (mCall F_check_text (mArgs [(mVar 1)]))))
def F_check_book_and_text : List Sl → SrcSt → CRes := callOf 2 m_check_book_and_text
def m_stands_at : M Flow := (mSeq (mSet 3 (mOp pSub (mBor 2) (mDat (mCal fLen (mBs [(mDat (mOp pIxA (mBor 0) (mDat (mC (.dat (.int 0))))))])))))
  (mRet (mAndV (mOp pGe (mBor 3) (mDat (mC (.dat (.int 0))))) (mSw3 (mBor 1) (mDat (mCall F_looked_for (mArgs [(mVar 0)]))) (mBor 3)))))
def F_stands_at : List Sl → SrcSt → CRes := callOf 4 m_stands_at
def m_all_findings : M Flow := (mSeq (mSetN 2 (mLst (mArgs [])))
  (mSeq (mFor (.nm 3) (mRng1 (mBs [(mDat (mCal fLen (mBs [(mBor 1)])))])) (mExt 2 (mComp [4] (.nm 4) (mRng1 (mBs [(mDat (mCal fLen (mBs [(mBor 0)])))])) (mTest (mCall F_stands_at (mArgs [(mOp pIxA (mBor 0) (mBor 4)), (mVar 1), (mVar 3)]))) (mTup (mArgs [(mVar 3), (mVar 4)])))))
  (mRetV 2)))
def F_all_findings : List Sl → SrcSt → CRes := callOf 5 m_all_findings
def m_findings : M Flow := (mSeq (mDrop (mCall F_check_book_and_text (mArgs [(mVar 0), (mVar 1)])))
  (mRetC F_all_findings (mArgs [(mVar 0), (mVar 1)])))
def F_findings : List Sl → SrcSt → CRes := callOf 2 m_findings
def m_first_at : M Flow := (mSeq (mFor (.tp [3, 4, 5]) (mIt (mVar 0)) (mIfS (mAnd (mTest (mOp pLe (mBor 5) (mBor 2))) (mTest (mSw3 (mBor 1) (mBor 4) (mDat (mOp pSub (mBor 2) (mBor 5)))))) (mRetV 3) mNext))
  (mRet (mC (.dat .none))))
def F_first_at : List Sl → SrcSt → CRes := callOf 6 m_first_at
def m_round_findings : M Flow := (mSeq (mSetN 2 (mComp [5, 6] (.tp [5, 6]) (mEnum (mVar 0)) mYes (mTup (mArgs [(mVar 5), (mCall F_looked_for (mArgs [(mVar 6)])), (mCal fLen (mBs [(mDat (mOp pIxA (mBor 6) (mDat (mC (.dat (.int 0))))))]))]))))
  (mSeq (mSetN 3 (mLst (mArgs [])))
  (mSeq (mSet 4 (mC (.dat (.int 0))))
  (mSeq (whileN (mTest (mOp pLt (mBor 4) (mDat (mCal fLen (mBs [(mBor 1)]))))) (mSeq (mSet 5 (mCall F_first_at (mArgs [(mVar 2), (mVar 1), (mVar 4)])))
  (mIfS (mTest (mOp pIs (mBor 5) (mDat (mC (.dat .none))))) (mAug (fun i j => i + j) 4 (mDat (mC (.dat (.int 1))))) (mSeq (mApp 3 (mTup (mArgs [(mVar 4), (mVar 5)])))
  (mAug (fun i j => i + j) 4 (mDat (mCal fLen (mBs [(mDat (mOp pIxA (mDat (mOp pIxA (mBor 0) (mBor 5))) (mDat (mC (.dat (.int 1))))))]))))))) fuel)
  (mRetV 3)))))
def F_round_findings : List Sl → SrcSt → CRes := callOf 7 m_round_findings
def m_taken : M Flow := (mSeq (mDrop (mCall F_check_book_and_text (mArgs [(mVar 0), (mVar 1)])))
  (mRetC F_round_findings (mArgs [(mVar 0), (mVar 1)])))
def F_taken : List Sl → SrcSt → CRes := callOf 2 m_taken
def m_put_in : M Flow := (mSeq (mSetN 3 (mLst (mArgs [])))
  (mSeq (mSet 4 (mC (.dat (.int 0))))
  (mSeq (mFor (.tp [5, 6]) (mIt (mVar 2)) (mSeq (mApp 3 (mOp pAdd (mDat (mCut (mBor 1) (some (mBor 4)) (some (mBor 5)))) (mDat (mOp pIxA (mDat (mOp pIxA (mBor 0) (mBor 6))) (mDat (mC (.dat (.int 2))))))))
  (mSet 4 (mOp pAdd (mBor 5) (mDat (mCal fLen (mBs [(mDat (mOp pIxA (mDat (mOp pIxA (mBor 0) (mBor 6))) (mDat (mC (.dat (.int 1))))))])))))))
  (mRet (mOp pAdd (mDat (mOp pJoin (mStr (mDat (mC (.dat (.str ""))))) (mBor 3))) (mDat (mCut (mBor 1) (some (mBor 4)) none)))))))
def F_put_in : List Sl → SrcSt → CRes := callOf 7 m_put_in
def m_mended : M Flow := (mRetC F_put_in (mArgs [(mVar 0), (mVar 1), (mCall F_round_findings (mArgs [(mVar 0), (mVar 1)]))]))
def F_mended : List Sl → SrcSt → CRes := callOf 2 m_mended
def m_one_round : M Flow := (mSeq (mDrop (mCall F_check_book_and_text (mArgs [(mVar 0), (mVar 1)])))
  (mRetC F_mended (mArgs [(mVar 0), (mVar 1)])))
def F_one_round : List Sl → SrcSt → CRes := callOf 2 m_one_round
def m_mended_within_bounds : M Flow := (mSeq (mSet 2 (mCall F_mended (mArgs [(mVar 0), (mVar 1)])))
  (mSeq (mIfS (mTest (mOp pGt (mDat (mCal fLen (mBs [(mBor 2)]))) (mDat (mC (.dat (.int 10000)))))) (mRaise ⟨"TooMany", []⟩) mNext)
  (mRetV 2)))
def F_mended_within_bounds : List Sl → SrcSt → CRes := callOf 3 m_mended_within_bounds
def m_rounds : M Flow := (mSeq (mDrop (mCall F_check_book_and_text (mArgs [(mVar 0), (mVar 1)])))
  (mSeq (mDrop (mCall F_check_number (mArgs [(mVar 2), (mC (.dat (.int 0))), (mC (.dat (.int 100)))])))
  (mSeq (mSetN 3 (mLst (mArgs [(mVar 1)])))
  (mSeq (mFor (.nm 4) (mRng1 (mBs [(mBor 2)])) (mApp 3 (mCall F_mended_within_bounds (mArgs [(mVar 0), (mOp pIxA (mBor 3) (mDat (mOp1 pNeg (mDat (mC (.dat (.int 1)))))))]))))
  (mRetV 3)))))
def F_rounds : List Sl → SrcSt → CRes := callOf 5 m_rounds
end
end PL.RF
namespace PL.RF
open PySem PySem.Spec PyProof.Rows L2
/-! ### texts as lists of code points -/
def tx (l : List Nat) : Str := ⟨l.toArray⟩
abbrev dt (l : List Nat) : PyData := .str (tx l)
abbrev sd (l : List Nat) : Sl := .dat (.str (tx l))
abbrev nd (n : Nat) : PyData := .int (n : Int)
abbrev sn (n : Nat) : Sl := .dat (.int (n : Int))
theorem tx_len (l : List Nat) : (tx l).length = l.length := rfl
theorem tx_cps (l : List Nat) : (tx l).cps.toList = l := rfl
theorem tx_one (c : Nat) : (⟨#[c]⟩ : Str) = tx [c] := rfl
theorem tx_inj {a b : List Nat} : tx a = tx b ↔ a = b := by
  constructor
  · intro h
    have := congrArg (fun s : Str => s.cps.toList) h
    exact this
  · rintro rfl; rfl
theorem tx_app (a b : List Nat) : tx a ++ tx b = tx (a ++ b) := by
  show (⟨a.toArray ++ b.toArray⟩ : Str) = ⟨(a ++ b).toArray⟩
  simp
theorem tx_empty : Str.empty = tx [] := rfl
theorem tx_cut (l : List Nat) (i j : Nat) (hi : i ≤ l.length) (hj : j ≤ l.length) : cutS (tx l) (some (i : Int)) (some (j : Int)) = tx ((l.drop i).take (j - i)) := by
  unfold cutS
  rw [HT.sIx_nat, HT.sIx_nat, tx_cps, tx_len, Nat.min_eq_left hi, Nat.min_eq_left hj]
  rfl
theorem tx_fold (ls : List (List Nat)) : ∀ acc : List Nat, ((ls.map tx).foldl (fun (ac : Array Nat) (p : Str) => ac ++ (tx []).cps ++ p.cps) acc.toArray) = (acc ++ ls.flatten).toArray := by
  induction ls with
  | nil => intro acc; simp
  | cons x r ih =>
    intro acc
    have e : acc.toArray ++ (tx []).cps ++ (tx x).cps = (acc ++ x).toArray := by simp [tx]
    rw [List.map_cons, List.foldl_cons, e, ih]
    simp
theorem tx_join0 (ls : List (List Nat)) : Txt.join (tx []) (ls.map tx) = tx ls.flatten := by
  show Builtin.Str.glued _ _ = _
  rw [StrLaws.glued_eq_join]
  induction ls with
  | nil => rfl
  | cons x r ih =>
    cases r with
    | nil => simp [Str.join]
    | cons y r =>
      show tx x ++ tx [] ++ Str.join (tx []) (List.map tx (y :: r)) = _
      rw [ih, tx_app, tx_app]
      simp
def joinL (sep : List Nat) : List (List Nat) → List Nat
  | [] => []
  | [x] => x
  | x :: r => x ++ sep ++ joinL sep r
theorem tx_join (sep : List Nat) (ls : List (List Nat)) : Txt.join (tx sep) (ls.map tx) = tx (joinL sep ls) := by
  show Builtin.Str.glued _ _ = _
  rw [StrLaws.glued_eq_join]
  induction ls with
  | nil => rfl
  | cons x r ih =>
    cases r with
    | nil => rfl
    | cons y r =>
      show tx x ++ tx sep ++ Str.join (tx sep) (List.map tx (y :: r)) = _
      rw [ih, tx_app, tx_app]
      rfl
def bl (n : Nat) : List Nat := List.replicate n 32
theorem bl_len (n : Nat) : (bl n).length = n := List.length_replicate
theorem tx_mul (n : Nat) : Txt.mul (tx [32]) (n : Int) = tx (bl n) := by
  have g : ∀ (k : Nat) (acc : List Nat), (List.replicate k (tx [32]).cps).foldl (· ++ ·) acc.toArray = (acc ++ bl k).toArray := by
    intro k
    induction k with
    | zero => intro acc; simp [bl]
    | succ k ih =>
      intro acc
      have e : acc.toArray ++ (tx [32]).cps = (acc ++ [32]).toArray := by simp [tx]
      rw [List.replicate_succ, List.foldl_cons, e, ih]
      simp [bl, List.replicate_succ]
  unfold Txt.mul
  split
  · rename_i h
    have : n = 0 := by omega
    subst this; rfl
  · split
    · rename_i h h2
      have : n = 1 := by
        simp only [Bool.or_eq_true, beq_iff_eq] at h2
        rcases h2 with h2 | h2
        · omega
        · cases h2
      subst this; rfl
    · have := g n []
      simp only [Int.toNat_natCast]
      show (⟨_⟩ : Str) = _
      rw [this]; rfl
def isL (c : Nat) : Bool := decide (97 ≤ c ∧ c ≤ 122)
theorem alpha_list : c_ALPHABET.cps.toList = (List.range 26).map (· + 97) := by decide +kernel
theorem alpha_mem (c : Nat) : (c ∈ c_ALPHABET.cps.toList) ↔ (97 ≤ c ∧ c ≤ 122) := by
  rw [alpha_list, List.mem_map]
  constructor
  · rintro ⟨a, h, rfl⟩
    have := List.mem_range.1 h
    omega
  · intro h
    exact ⟨c - 97, List.mem_range.2 (by omega), by omega⟩
theorem lit_blank : (Str.ofString " ") = tx [32] := by decide +kernel
theorem lit_comma : (Str.ofString ",") = tx [44] := by decide +kernel
theorem lit_cb : (Str.ofString ", ") = tx [44, 32] := by decide +kernel
theorem lit_slash : (Str.ofString "/") = tx [47] := by decide +kernel
theorem lit_gt : (Str.ofString ">") = tx [62] := by decide +kernel
theorem lit_nil : (Str.ofString "") = tx [] := by decide +kernel
/-! ### operations at numbers and texts -/
theorem sl_eq : sizeLine = 16777216 := sizeLine_eq
theorem atI_nat' {α : Type} {l : List α} {n : Nat} {x : α} (h : l[n]? = some x) : atI l (n : Int) = some x := atI_nat h
theorem pIx_tx {l : List Nat} {n c : Nat} (h : l[n]? = some c) (hl : l.length ≤ 100000) : pIx (dt l) (nd n) = some (dt [c]) := by
  show (if (tx l).length ≤ sizeLine then (atI (tx l).cps.toList (n : Int)).map fun c => PyData.str ⟨#[c]⟩ else none) = _
  rw [if_pos (by rw [tx_len, sl_eq]; omega), tx_cps, atI_nat' h]
  rfl
theorem fLen_tx {l : List Nat} (hl : l.length ≤ 100000) : fLen [dt l] = some (nd l.length) := by
  show (if (tx l).length ≤ sizeLine then some (PyData.int (tx l).length) else none) = _
  rw [if_pos (by rw [tx_len, sl_eq]; omega), tx_len]
theorem pEq_tx (a b : List Nat) : pEq (dt a) (dt b) = some (.bool (decide (a = b))) := by
  show some (PyData.bool (decide (tx a = tx b))) = _
  rw [decide_eq_decide.2 tx_inj]
theorem pEq_nd (a b : Nat) : pEq (nd a) (nd b) = some (.bool (decide (a = b))) := by
  show some (PyData.bool (decide ((a : Int) = (b : Int)))) = _
  rw [decide_eq_decide.2 Int.natCast_inj]
theorem pLt_nd (a b : Nat) : pLt (nd a) (nd b) = some (.bool (decide (a < b))) := by
  show some (PyData.bool (decide ((a : Int) < (b : Int)))) = _
  rw [decide_eq_decide.2 Int.ofNat_lt]
theorem pInA_tx (c : Nat) : pInA (dt [c]) (.str c_ALPHABET) = some (.bool (isL c)) := by
  show (if (tx [c]).cps.size = 1 then some (PyData.bool (decide ((tx [c]).cps.getD 0 0 ∈ c_ALPHABET.cps.toList))) else some (.bool (!(Builtin.Str.occurrences c_ALPHABET (tx [c]) 0 c_ALPHABET.length 1).isEmpty))) = _
  rw [if_pos (show (tx [c]).cps.size = 1 from rfl)]
  unfold isL
  rw [decide_eq_decide.2 (alpha_mem _)]
  rfl
/-! ### kinds, operations: for simp -/
theorem kit_ib : kitB "int" "bool" = some false := by decide +kernel
theorem kit_ii : kitB "int" "int" = some true := by decide +kernel
theorem kit_ss : kitB "str" "str" = some true := by decide +kernel
theorem kit_tt : kitB "tuple" "tuple" = some true := by decide +kernel
@[simp] theorem isi_ib {i : Int} {m : Me} : isiR "bool" (.int i) m = .ok (.dat (.bool false)) m := isiR_of rfl kit_ib
@[simp] theorem isi_ii {i : Int} {m : Me} : isiR "int" (.int i) m = .ok (.dat (.bool true)) m := isiR_of rfl kit_ii
@[simp] theorem isi_ss {i : Str} {m : Me} : isiR "str" (.str i) m = .ok (.dat (.bool true)) m := isiR_of rfl kit_ss
@[simp] theorem isi_tt {l : List PyData} {m : Me} : isiR "tuple" (.tuple l) m = .ok (.dat (.bool true)) m := isiR_of rfl kit_tt
@[simp] theorem pLe_i (i j : Int) : pLe (.int i) (.int j) = some (.bool (decide (i ≤ j))) := rfl
@[simp] theorem pLt_i (i j : Int) : pLt (.int i) (.int j) = some (.bool (decide (i < j))) := rfl
@[simp] theorem pGe_i (i j : Int) : pGe (.int i) (.int j) = some (.bool (decide (j ≤ i))) := rfl
@[simp] theorem pGt_i (i j : Int) : pGt (.int i) (.int j) = some (.bool (decide (j < i))) := rfl
@[simp] theorem pSub_i (i j : Int) : pSub (.int i) (.int j) = some (.int (i - j)) := rfl
@[simp] theorem pAdd_i (i j : Int) : pAdd (.int i) (.int j) = some (.int (i + j)) := rfl
@[simp] theorem pEq_i (i j : Int) : pEq (.int i) (.int j) = some (.bool (decide (i = j))) := rfl
@[simp] theorem pEq_b (i j : Bool) : pEq (.bool i) (.bool j) = some (.bool (decide (i = j))) := rfl
@[simp] theorem pNot_b {f : PyData → PyData → Option PyData} {d e : PyData} {b : Bool} (h : f d e = some (.bool b)) : pNot f d e = some (.bool (!b)) := by unfold pNot; rw [h]
@[simp] theorem pEq_t (a b : List Nat) : pEq (.str (tx a)) (.str (tx b)) = some (.bool (decide (a = b))) := pEq_tx a b
@[simp] theorem pIs_n : pIs .none .none = some (.bool true) := rfl
@[simp] theorem pIs_i (i : Int) : pIs (.int i) .none = some (.bool false) := rfl
@[simp] theorem fLen_l (l : List PyData) : fLen [.list l] = some (.int l.length) := rfl
@[simp] theorem fLen_t (l : List PyData) : fLen [.tuple l] = some (.int l.length) := rfl
@[simp] theorem fInt_i (i : Int) : fInt [.int i] = some (.int i) := rfl
@[simp] theorem fTuple_l (l : List PyData) : fTuple [.list l] = some (.tuple l) := rfl
@[simp] theorem fSw3_x {a b : Str} {i : Int} : fSw3 [.str a, .str b, .int i] = some (.bool (Txt.startswith3 a b i)) := rfl
@[simp] theorem itR_s {w : List Nat} {m : Me} : itR (.str (tx w)) m = .ok (w.map fun c => dt [c]) m := rfl
@[simp] theorem enumR_s {w : List Nat} {m : Me} : enumR (.str (tx w)) m = .ok (enumD 0 (w.map fun c => dt [c])) m := rfl
theorem pAdd_tx {a b : List Nat} (h : a.length + b.length ≤ 1000000) : pAdd (dt a) (dt b) = some (dt (a ++ b)) := by
  show (if (tx a).length + (tx b).length ≤ sizeLine then some (PyData.str (tx a ++ tx b)) else none) = _
  rw [if_pos (by rw [tx_len, tx_len, sl_eq]; omega), tx_app]
theorem pAdd_ls {a b : List PyData} (h : a.length + b.length ≤ 1000000) : pAdd (.list a) (.list b) = some (.list (a ++ b)) := by
  show (if a.length + b.length ≤ sizeLine then some (PyData.list (a ++ b)) else none) = _
  rw [if_pos (by rw [sl_eq]; omega)]
theorem fLen_txt {l : List Nat} (hl : l.length ≤ 1000000) : fLen [dt l] = some (nd l.length) := by
  show (if (tx l).length ≤ sizeLine then some (PyData.int (tx l).length) else none) = _
  rw [if_pos (by rw [tx_len, sl_eq]; omega), tx_len]
theorem pIxA_t {l : List PyData} {n : Nat} {x : PyData} (h : l[n]? = some x) : pIxA (.tuple l) (nd n) = some x := atI_nat h
theorem pIxA_l {l : List PyData} {n : Nat} {x : PyData} (h : l[n]? = some x) : pIxA (.list l) (nd n) = some x := atI_nat h
theorem pIxA_s {l : List Nat} {n c : Nat} (h : l[n]? = some c) (hl : l.length ≤ 1000000) : pIxA (dt l) (nd n) = some (dt [c]) := by
  show (if (tx l).length ≤ sizeLine then (atI (tx l).cps.toList (n : Int)).map fun c => PyData.str ⟨#[c]⟩ else none) = _
  rw [if_pos (by rw [tx_len, sl_eq]; omega), tx_cps, atI_nat' h]
  rfl
theorem rng_map (n : Nat) : rngD 0 n = (List.range n).map nd := by
  unfold rngD
  apply List.map_congr_left
  intro i _
  simp
theorem rng_len (n : Nat) : (rngD 0 n).length = n := by simp [rngD]
/-! ### comprehensions, loops -/
theorem mComp_x {vs : List Nat} {t : Tg} {it : M (List PyData)} {c : M Bool} {e : M Sl} {m : Me} : mComp vs t it c e m = (it m).bind fun l m1 => if l.length ≤ 1000000 then (noX (compL vs t c e l (wipeM vs m1))).bind fun zs m2 => .ok (.list zs) m2 else .bad := rfl
theorem comp_gen {α : Type} {vs : List Nat} {t : Tg} {cn : M Bool} {el : M Sl} {E : Me} (g : α → PyData) (p : α → Bool) (f : α → PyData) : ∀ xs : List α, (∀ x ∈ xs, ∃ m0 m1 : Me, mTgt t (g x) E = some m0 ∧ cn m0 = .ok (p x) m1 ∧ (p x = true → ∃ m2, el m1 = .ok (.dat (f x)) m2 ∧ wipeM vs m2 = E) ∧ (p x = false → wipeM vs m1 = E)) →
    compL vs t cn el (xs.map g) E = .ok ((xs.filter p).map f) E
  | [], _ => rfl
  | x :: xs, h => by
    obtain ⟨m0, m1, h1, h2, h3, h4⟩ := h x List.mem_cons_self
    have ih := comp_gen g p f xs fun y hy => h y (List.mem_cons_of_mem _ hy)
    rw [List.map_cons]
    unfold compL
    rw [h1]
    simp only [h2, noX, Res.bind_ok]
    cases hp : p x with
    | true =>
      obtain ⟨m2, h5, h6⟩ := h3 hp
      have hd : mDat el m1 = .ok (f x) m2 := by simp [h5]
      rw [if_pos rfl, hd]
      simp only [Res.bind_ok]
      rw [h6, ih, List.filter_cons_of_pos (by simpa using hp)]
      rfl
    | false =>
      rw [if_neg (by simp), h4 hp, ih, List.filter_cons_of_neg (by simp [hp])]
theorem comp_all {α : Type} {vs : List Nat} {t : Tg} {el : M Sl} {E : Me} (g : α → PyData) (f : α → PyData) (xs : List α) (h : ∀ x ∈ xs, ∃ m0 m2 : Me, mTgt t (g x) E = some m0 ∧ el m0 = .ok (.dat (f x)) m2 ∧ wipeM vs m2 = E) :
    compL vs t mYes el (xs.map g) E = .ok (xs.map f) E := by
  have := comp_gen (vs := vs) (t := t) (cn := mYes) (el := el) (E := E) g (fun _ => true) f xs fun x hx => by
    obtain ⟨m0, m2, h1, h2, h3⟩ := h x hx
    exact ⟨m0, m0, h1, rfl, fun _ => ⟨m2, h2, h3⟩, fun z => nomatch z⟩
  rwa [List.filter_eq_self.2 (fun _ _ => rfl)] at this
theorem r_comp {vs : List Nat} {t : Tg} {it : M (List PyData)} {c : M Bool} {e : M Sl} {m m1 m2 : Me} {l zs : List PyData} (h : it m = .ok l m1) (hl : l.length ≤ 1000000) (hc : compL vs t c e l (wipeM vs m1) = .ok zs m2) : mComp vs t it c e m = .ok (.list zs) m2 := by
  rw [mComp_x, h]
  simp only [Res.bind_ok]
  rw [if_pos hl, hc]
  rfl
theorem r_comp1 {vs : List Nat} {t : Tg} {it : M (List PyData)} {c : M Bool} {e : M Sl} {m m2 : Me} {l zs : List PyData} (h : it m = .ok l m) (hl : l.length ≤ 1000000) (hc : compL vs t c e l (wipeM vs m) = .ok zs m2) : mComp vs t it c e m = .ok (.list zs) m2 := r_comp h hl hc
@[simp] theorem mYes_x {m : Me} : mYes m = .ok true m := rfl
theorem for_rel {α σ : Type} {t : Tg} {b : M Flow} (g : α → PyData) (step : σ → α → σ) (I : σ → Me → Prop) : ∀ (xs : List α), (∀ x ∈ xs, ∀ s m, I s m → ∃ m0 m1, mTgt t (g x) m = some m0 ∧ b m0 = .ok .next m1 ∧ I (step s x) m1) → ∀ s m, I s m → ∃ m', forL t b (xs.map g) m = .ok .next m' ∧ I (xs.foldl step s) m'
  | [], _, s, m, h => ⟨m, rfl, h⟩
  | x :: xs, h, s, m, hi => by
    obtain ⟨m0, m1, h1, h2, h3⟩ := h x List.mem_cons_self s m hi
    obtain ⟨m', h4, h5⟩ := for_rel g step I xs (fun y hy => h y (List.mem_cons_of_mem _ hy)) _ _ h3
    refine ⟨m', ?_, h5⟩
    rw [List.map_cons]
    unfold forL
    rw [h1]
    simp only [h2, Res.bind_ok]
    exact h4
theorem wh_t {c : M Bool} {b : M Flow} {n : Nat} {m m1 m2 : Me} (h : c m = .ok true m1) (hb : b m1 = .ok .next m2) : whileN c b (n + 1) m = whileN c b n m2 := by
  show (c m).bind _ = _
  rw [h]
  simp only [Res.bind_ok, if_true, hb]
theorem wh_f {c : M Bool} {b : M Flow} {n : Nat} {m m1 : Me} (h : c m = .ok false m1) : whileN c b (n + 1) m = .ok .next m1 := by
  show (c m).bind _ = _
  rw [h]
  rfl
theorem bools_all {α : Type} (p : α → Bool) (g : α → PyData) : ∀ l : List α, (∀ x ∈ l, g x = .bool (p x)) → boolsOf (l.map g) = some (l.map p)
  | [], _ => rfl
  | x :: l, h => by
    rw [List.map_cons, h x List.mem_cons_self, List.map_cons]
    show (boolsOf (l.map g)).map _ = _
    rw [bools_all p g l fun y hy => h y (List.mem_cons_of_mem _ hy)]
    rfl
theorem fAll_map {α : Type} (p : α → Bool) (l : List α) : fAll [.list (l.map fun x => .bool (p x))] = some (.bool (l.all p)) := by
  show (boolsOf _).map _ = _
  rw [bools_all p _ l fun _ _ => rfl]
  simp
theorem fAny_map {α : Type} (p : α → Bool) (l : List α) : fAny [.list (l.map fun x => .bool (p x))] = some (.bool (l.any p)) := by
  show (boolsOf _).map _ = _
  rw [bools_all p _ l fun _ _ => rfl]
  simp
end PL.RF
namespace PL.RF
open PySem PySem.Spec PyProof.Rows L2
/-! ### words, fixes, books -/
def isW (w : List Nat) : Prop := ∀ c ∈ w, isL c = true
def wordB (w : List Nat) (lo hi : Nat) : Bool := decide (lo ≤ w.length ∧ w.length ≤ hi) && w.all isL
theorem is_word_at (w : List Nat) (lo hi : Nat) (st : SrcSt) (hl : w.length ≤ 1000000) : F_is_word [sd w, sn lo, sn hi] st = .ok (.dat (.bool (wordB w lo hi))) st := by
  refine call_of (env := [some (sd w), some (sn lo), some (sn hi), none]) rfl ?_
  have hc : mComp [3] (.nm 3) (mIt (mVar 0)) mYes (mOp pInA (mBor 3) (mDat (mC (.dat (.str c_ALPHABET))))) ⟨[some (sd w), some (sn lo), some (sn hi), none], st⟩ = .ok (.list (w.map fun c => .bool (isL c))) ⟨[some (sd w), some (sn lo), some (sn hi), none], st⟩ := by
    refine r_comp (l := w.map fun c => dt [c]) (by simp; rfl) (by simpa using hl) ?_
    refine comp_all (fun c => dt [c]) (fun c => .bool (isL c)) w fun c _ => ⟨⟨[some (sd w), some (sn lo), some (sn hi), some (sd [c])], st⟩, ⟨[some (sd w), some (sn lo), some (sn hi), some (sd [c])], st⟩, rfl, by simp [pInA_tx], rfl⟩
  unfold wordB
  by_cases h : lo ≤ w.length ∧ w.length ≤ hi
  · simp (disch := first | omega | (simp; omega)) [m_is_word, fLen_txt hl, hc, fAll_map, h]
  · by_cases h1 : lo ≤ w.length
    · have h2 : ¬ w.length ≤ hi := fun z => h ⟨h1, z⟩
      simp (disch := first | omega | (simp; omega)) [m_is_word, fLen_txt hl, h1, h2]
    · simp (disch := first | omega | (simp; omega)) [m_is_word, fLen_txt hl, h1]
structure Fx where
  a : List Nat
  o : List Nat
  n : List Nat
  b : List Nat
  deriving DecidableEq
def Fx.dat (f : Fx) : PyData := .tuple [dt f.a, dt f.o, dt f.n, dt f.b]
structure Fx.Ok (f : Fx) : Prop where
  a : isW f.a
  o : isW f.o
  n : isW f.n
  b : isW f.b
  la : f.a.length ≤ 1
  lo : 1 ≤ f.o.length
  lo3 : f.o.length ≤ 3
  ln : f.n.length ≤ 3
  lb : f.b.length ≤ 1
def bookD (fs : List Fx) : PyData := .tuple (fs.map Fx.dat)
def BOk (fs : List Fx) : Prop := (∀ f ∈ fs, f.Ok) ∧ fs.length ≤ 5
theorem wordB_of {w : List Nat} {lo hi : Nat} (h : isW w) (h1 : lo ≤ w.length) (h2 : w.length ≤ hi) : wordB w lo hi = true := by
  simp only [wordB, Bool.and_eq_true, decide_eq_true_eq, List.all_eq_true]
  exact ⟨⟨h1, h2⟩, h⟩
@[simp] theorem asg_fix (f : Fx) {x0 a b c d : Option Sl} {r : List (Option Sl)} {st : SrcSt} : asgR (.tp [1,2,3,4]) f.dat ⟨x0 :: a :: b :: c :: d :: r, st⟩ = .ok .next ⟨x0 :: some (sd f.a) :: some (sd f.o) :: some (sd f.n) :: some (sd f.b) :: r, st⟩ := by
  unfold asgR mTgt Fx.dat
  simp [setE]
@[simp] theorem ix_fix0 (f : Fx) : pIxA f.dat (.int 0) = some (dt f.a) := rfl
@[simp] theorem ix_fix1 (f : Fx) : pIxA f.dat (.int 1) = some (dt f.o) := rfl
@[simp] theorem ix_fix2 (f : Fx) : pIxA f.dat (.int 2) = some (dt f.n) := rfl
@[simp] theorem ix_fix3 (f : Fx) : pIxA f.dat (.int 3) = some (dt f.b) := rfl
@[simp] theorem isi_fix (f : Fx) {m : Me} : isiR "tuple" f.dat m = .ok (.dat (.bool true)) m := isiR_of rfl kit_tt
@[simp] theorem fLen_fix (f : Fx) : fLen [f.dat] = some (.int 4) := rfl
@[simp] theorem isi_book (f : List Fx) {m : Me} : isiR "tuple" (bookD f) m = .ok (.dat (.bool true)) m := isiR_of rfl kit_tt
@[simp] theorem fLen_book (f : List Fx) : fLen [bookD f] = some (.int f.length) := by show some (PyData.int ((f.map Fx.dat).length : Nat)) = _; rw [List.length_map]
@[simp] theorem itR_book (f : List Fx) {m : Me} : itR (bookD f) m = .ok (f.map Fx.dat) m := rfl
@[simp] theorem enumR_book (f : List Fx) {m : Me} : enumR (bookD f) m = .ok (enumD 0 (f.map Fx.dat)) m := rfl
theorem ix_book {fs : List Fx} {n : Nat} {f : Fx} (h : fs[n]? = some f) : pIxA (bookD fs) (nd n) = some f.dat := pIxA_t (by rw [List.getElem?_map, h]; rfl)
theorem is_fix_at {f : Fx} (h : f.Ok) (st : SrcSt) : F_is_fix [.dat f.dat] st = .ok (.dat (.bool true)) st := by
  have ha : F_is_word [sd f.a, .dat (.int 0), .dat (.int 1)] st = .ok (.dat (.bool true)) st := by
    rw [← wordB_of h.a (lo := 0) (by omega) h.la]; exact is_word_at f.a 0 1 st (by have := h.la; omega)
  have hb : F_is_word [sd f.b, .dat (.int 0), .dat (.int 1)] st = .ok (.dat (.bool true)) st := by
    rw [← wordB_of h.b (lo := 0) (by omega) h.lb]; exact is_word_at f.b 0 1 st (by have := h.lb; omega)
  have ho : F_is_word [sd f.o, .dat (.int 1), .dat (.int 3)] st = .ok (.dat (.bool true)) st := by
    rw [← wordB_of h.o h.lo h.lo3]; exact is_word_at f.o 1 3 st (by have := h.lo3; omega)
  have hn : F_is_word [sd f.n, .dat (.int 0), .dat (.int 3)] st = .ok (.dat (.bool true)) st := by
    rw [← wordB_of h.n (lo := 0) (by omega) h.ln]; exact is_word_at f.n 0 3 st (by have := h.ln; omega)
  refine call_of (env := [some (.dat f.dat), none, none, none, none, none]) rfl ?_
  simp [m_is_fix, ha, hb, ho, hn]
theorem is_book_at {fs : List Fx} (h : BOk fs) (st : SrcSt) : F_is_book [.dat (bookD fs)] st = .ok (.dat (.bool true)) st := by
  refine call_of (env := [some (.dat (bookD fs)), none]) rfl ?_
  have hc : mComp [1] (.nm 1) (mIt (mVar 0)) mYes (mCall F_is_fix (mArgs [(mVar 1)])) ⟨[some (.dat (bookD fs)), none], st⟩ = .ok (.list (fs.map fun _ => .bool true)) ⟨[some (.dat (bookD fs)), none], st⟩ := by
    refine r_comp (l := fs.map Fx.dat) (by simp; rfl) (by have := h.2; simp; omega) ?_
    refine comp_all Fx.dat (fun _ => .bool true) fs fun f hf => ⟨⟨[some (.dat (bookD fs)), some (.dat f.dat)], st⟩, ⟨[some (.dat (bookD fs)), some (.dat f.dat)], st⟩, rfl, by simp [is_fix_at (h.1 f hf)], rfl⟩
  have h2 := h.2
  have := fAll_map (fun _ : Fx => true) fs
  simp [m_is_book, hc, this, show ¬ (5 : Int) < fs.length by omega]
theorem check_book_at {fs : List Fx} (h : BOk fs) (st : SrcSt) : F_check_book [.dat (bookD fs)] st = .ok (.dat .none) st := by
  refine call_of (env := [some (.dat (bookD fs))]) rfl ?_
  simp [m_check_book, is_book_at h]
def TOk (t : List Nat) : Prop := isW t ∧ t.length ≤ 200
theorem check_text_at {t : List Nat} (h : TOk t) (st : SrcSt) : F_check_text [sd t] st = .ok (.dat .none) st := by
  have ht : F_is_word [sd t, .dat (.int 0), .dat (.int 200)] st = .ok (.dat (.bool true)) st := by
    rw [← wordB_of h.1 (lo := 0) (by omega) h.2]; exact is_word_at t 0 200 st (by have := h.2; omega)
  refine call_of (env := [some (sd t)]) rfl ?_
  simp [m_check_text, ht]
theorem check_bt_at {fs : List Fx} {t : List Nat} (h : BOk fs) (ht : TOk t) (st : SrcSt) : F_check_book_and_text [.dat (bookD fs), sd t] st = .ok (.dat .none) st := by
  refine call_of (env := [some (.dat (bookD fs)), some (sd t)]) rfl ?_
  simp [m_check_book_and_text, check_book_at h, check_text_at ht]
theorem is_number_at {x lo hi : Nat} (st : SrcSt) (h : lo ≤ x) (h2 : x ≤ hi) : F_is_number [sn x, sn lo, sn hi] st = .ok (.dat (.bool true)) st := by
  refine call_of (env := [some (sn x), some (sn lo), some (sn hi)]) rfl ?_
  simp [m_is_number, h, h2]
theorem check_number_at {x lo hi : Nat} (st : SrcSt) (h : lo ≤ x) (h2 : x ≤ hi) : F_check_number [sn x, sn lo, sn hi] st = .ok (.dat .none) st := by
  refine call_of (env := [some (sn x), some (sn lo), some (sn hi)]) rfl ?_
  simp [m_check_number, is_number_at st h h2]
/-! ### what a fix looks at -/
def Fx.lk (f : Fx) : List Nat := f.a ++ (f.o ++ f.b)
theorem Fx.Ok.lkl {f : Fx} (h : f.Ok) : f.lk.length ≤ 5 := by
  have h1 := h.la; have h2 := h.lo3; have h3 := h.lb
  simp only [Fx.lk, List.length_append]; omega
theorem looked_for_at {f : Fx} (h : f.Ok) (st : SrcSt) : F_looked_for [.dat f.dat] st = .ok (sd f.lk) st := by
  have h1 := h.la; have h2 := h.lo3; have h3 := h.lb
  refine call_of (env := [some (.dat f.dat), none, none, none, none]) rfl ?_
  simp (disch := first | omega | (simp; omega)) [m_looked_for, pAdd_tx, Fx.lk]
/-- the word w stands in t from place k on -/
def standsW (w t : List Nat) (k : Nat) : Bool := w.isPrefixOf (t.drop k)
theorem sub_at (t w : List Nat) (k : Nat) (h : k + w.length ≤ t.length) : Builtin.Str.subAt (tx t) (tx w) k = standsW w t k := by
  unfold Builtin.Str.subAt standsW
  have e : (tx t).cps.extract k (k + (tx w).length) = ((t.drop k).take w.length).toArray := by
    show t.toArray.extract k (k + w.length) = _
    rw [List.extract_toArray, List.extract, Nat.add_sub_cancel_left]
  rw [e]
  show (((t.drop k).take w.length).toArray == w.toArray) = _
  rw [Bool.eq_iff_iff, beq_iff_eq, List.isPrefixOf_iff_prefix, List.prefix_iff_eq_take]
  constructor
  · intro z
    have := congrArg Array.toList z
    simpa using this.symm
  · intro z; rw [← z]
theorem standsW_len {w t : List Nat} {k : Nat} (h : standsW w t k = true) (hw : w ≠ []) : k + w.length ≤ t.length := by
  unfold standsW at h
  rw [List.isPrefixOf_iff_prefix] at h
  have := h.length_le
  rw [List.length_drop] at this
  have : 0 < w.length := List.length_pos_iff.2 hw
  omega
theorem sw3_at (t w : List Nat) (k : Nat) (hw : w ≠ []) : Txt.startswith3 (tx t) (tx w) (k : Int) = standsW w t k := by
  unfold Txt.startswith3
  have e : PySem.fromIndex (tx t).length (k : Int) = k := by
    unfold PySem.fromIndex
    rw [if_neg (by omega)]
    omega
  rw [e]
  by_cases h : k + w.length ≤ t.length
  · rw [show decide (k + (tx w).length ≤ (tx t).length) = true from decide_eq_true h, Bool.true_and, sub_at t w k h]
  · rw [show decide (k + (tx w).length ≤ (tx t).length) = false from decide_eq_false h, Bool.false_and]
    cases hs : standsW w t k with
    | false => rfl
    | true => exact absurd (standsW_len hs hw) h
/-- a finding of f at place i -/
def stF (f : Fx) (t : List Nat) (i : Nat) : Bool := decide (f.a.length ≤ i) && standsW f.lk t (i - f.a.length)
theorem Fx.Ok.lk0 {f : Fx} (h : f.Ok) : f.lk ≠ [] := by
  intro z
  have := congrArg List.length z
  have h1 := h.lo
  simp only [Fx.lk, List.length_append, List.length_nil] at this
  omega
theorem stands_at_at {f : Fx} (h : f.Ok) (t : List Nat) (i : Nat) (st : SrcSt) : F_stands_at [.dat f.dat, sd t, sn i] st = .ok (.dat (.bool (stF f t i))) st := by
  have h5 := looked_for_at h st
  have h1 := h.la
  refine call_of (env := [some (.dat f.dat), some (sd t), some (sn i), none]) rfl ?_
  unfold stF
  by_cases hi : f.a.length ≤ i
  · have e : (i : Int) - (f.a.length : Int) = ((i - f.a.length : Nat) : Int) := by omega
    have h6 := sw3_at t f.lk (i - f.a.length) h.lk0
    simp (disch := first | omega | (simp; omega)) [m_stands_at, h5, fLen_txt, hi, e, h6]
  · simp (disch := first | omega | (simp; omega)) [m_stands_at, h5, fLen_txt, hi]
end PL.RF
namespace PL.RF
open PySem PySem.Spec PyProof.Rows L2
/-! ### draws -/
def Gd (b : Nat) (st : SrcSt) : Prop := st.1 ≠ [] ∧ st.1.length ≤ 63 ∧ 0 ≤ st.2 ∧ st.2 ≤ (b : Int) ∧ st.3 = .no
theorem Gd.le {a b : Nat} {st : SrcSt} (h : Gd a st) (hab : a ≤ b) : Gd b st := ⟨h.1, h.2.1, h.2.2.1, by have := h.2.2.2.1; omega, h.2.2.2.2⟩
theorem draw_at {b : Nat} {st : SrcSt} {lim : Int} (h : Gd b st) (hb : b ≤ 1000000) (h0 : 0 < lim) (h1 : lim < 2 ^ 30) : ∃ (r : Nat) (st' : SrcSt), drawF [.src, .dat (.int lim)] st = .ok (sn r) st' ∧ (r : Int) < lim ∧ Gd (b + 1) st' := by
  obtain ⟨a1, a2, a3, a4, a5⟩ := h
  have hs : SrcIn st := ⟨a1, by omega, a3, by omega⟩
  show ∃ (r : Nat) (st' : SrcSt), (if drawOk st lim then _ else CRes.bad) = _ ∧ _
  rw [if_pos ⟨hs, h0, h1⟩]
  have hn : ∀ x : Int, 0 ≤ x % lim := fun x => Int.emod_nonneg _ (by omega)
  have hk : ∀ (x : Int) (s' : SrcSt), CRes.ok (.dat (.int (x % lim))) s' = .ok (sn (x % lim).toNat) s' := fun x s' => by
    show _ = CRes.ok (.dat (.int (((x % lim).toNat : Nat) : Int))) s'
    rw [Int.toNat_of_nonneg (hn x)]
  have hlt : ∀ x : Int, (((x % lim).toNat : Nat) : Int) < lim := fun x => by
    rw [Int.toNat_of_nonneg (hn x)]
    exact Int.emod_lt_of_pos _ h0
  split
  · refine ⟨_, _, hk _ _, hlt _, fun z => a1 ?_, by rw [List.length_set]; exact a2, by show 0 ≤ st.2 + 1; omega, by show st.2 + 1 ≤ _; push_cast; omega, a5⟩
    have := congrArg List.length z
    rw [List.length_set] at this
    exact List.eq_nil_of_length_eq_zero this
  · exact ⟨_, _, hk _ _, hlt _, a1, a2, by show 0 ≤ st.2 + 1; omega, by show st.2 + 1 ≤ _; push_cast; omega, a5⟩
theorem draw_nat {b n : Nat} {st : SrcSt} (h : Gd b st) (hb : b ≤ 1000000) (h0 : 0 < n) (h1 : n ≤ 1000000) : ∃ (r : Nat) (st' : SrcSt), drawF [.src, .dat (.int (n : Int))] st = .ok (sn r) st' ∧ r < n ∧ Gd (b + 1) st' := by
  obtain ⟨r, st', e, hr, g⟩ := draw_at (lim := (n : Int)) h hb (by omega) (by omega)
  exact ⟨r, st', e, by omega, g⟩
theorem comp_draw (L : Nat) {i : Nat} {e : M Sl} {E : List (Option Sl)} {P : PyData → Prop} {B : Nat} (hi : i < E.length) (hE : ∀ d, (E.set i (some (.dat d))).set i none = E)
    (hs : ∀ (d : PyData) (st : SrcSt) (b : Nat), Gd b st → b ≤ L → ∃ (z : PyData) (st' : SrcSt), e ⟨E.set i (some (.dat d)), st⟩ = .ok (.dat z) ⟨E.set i (some (.dat d)), st'⟩ ∧ P z ∧ Gd (b + B) st') :
    ∀ (items : List PyData) (st : SrcSt) (b : Nat), Gd b st → b + B * items.length ≤ L → ∃ (zs : List PyData) (st' : SrcSt), compL [i] (.nm i) mYes e items ⟨E, st⟩ = .ok zs ⟨E, st'⟩ ∧ zs.length = items.length ∧ (∀ z ∈ zs, P z) ∧ Gd (b + B * items.length) st'
  | [], st, b, g, _ => ⟨[], st, rfl, rfl, (fun _ h => nomatch h), g⟩
  | d :: r, st, b, g, hb => by
    simp only [List.length_cons, Nat.mul_add, Nat.mul_one] at hb ⊢
    obtain ⟨z, st1, he, hp, g1⟩ := hs d st b g (by omega)
    obtain ⟨zs, st2, hc, hl, hz, g2⟩ := comp_draw L hi hE hs r st1 (b + B) g1 (by omega)
    refine ⟨z :: zs, st2, ?_, by simp [hl], ?_, g2.le (by omega)⟩
    · show (match (if i < E.length then some (⟨E.set i (some (.dat d)), st⟩ : Me) else none) with | none => Res.bad | some m0 => (noX (mYes m0)).bind fun b m1 => if b = true then (noX (mDat e m1)).bind fun z m2 => (compL [i] (.nm i) mYes e r (wipeM [i] m2)).bind fun zs m3 => .ok (z :: zs) m3 else compL [i] (.nm i) mYes e r (wipeM [i] m1)) = _
      rw [if_pos hi]
      show (noX (mDat e ⟨E.set i (some (.dat d)), st⟩)).bind (fun z m2 => (compL [i] (.nm i) mYes e r (wipeM [i] m2)).bind fun zs m3 => Res.ok (z :: zs) m3) = _
      have hd : mDat e ⟨E.set i (some (.dat d)), st⟩ = .ok z ⟨E.set i (some (.dat d)), st1⟩ := by simp [he]
      rw [hd]
      show (compL [i] (.nm i) mYes e r ⟨(E.set i (some (.dat d))).set i none, st1⟩).bind _ = _
      rw [hE, hc]
      rfl
    · intro y hy
      rcases List.mem_cons.1 hy with rfl | hy
      · exact hp
      · exact hz y hy
theorem unmap {α : Type} (P : α → Prop) (g : α → PyData) : ∀ {zs : List PyData}, (∀ z ∈ zs, ∃ x, P x ∧ z = g x) → ∃ xs : List α, zs = xs.map g ∧ ∀ x ∈ xs, P x
  | [], _ => ⟨[], rfl, (fun _ h => nomatch h)⟩
  | z :: zs, h => by
    obtain ⟨x, hx, rfl⟩ := h z List.mem_cons_self
    obtain ⟨xs, rfl, hp⟩ := unmap P g (fun y hy => h y (List.mem_cons_of_mem _ hy))
    refine ⟨x :: xs, rfl, fun y hy => ?_⟩
    rcases List.mem_cons.1 hy with rfl | hy
    · exact hx
    · exact hp y hy
theorem tot_map {α : Type} (f : α → List Nat) (n : Nat) : ∀ {l : List α}, (∀ x ∈ l, (f x).length ≤ n) → (l.map f).flatten.length ≤ n * l.length
  | [], _ => by simp
  | x :: l, h => by
    have h1 := h x List.mem_cons_self
    have h2 := tot_map f n (l := l) fun y hy => h y (List.mem_cons_of_mem _ hy)
    rw [List.map_cons, List.flatten_cons, List.length_append, List.length_cons, Nat.mul_add]
    omega
theorem flat_ones : ∀ cs : List Nat, (cs.map fun c => [c]).flatten = cs
  | [] => rfl
  | c :: cs => by rw [List.map_cons, List.flatten_cons, flat_ones cs]; rfl
theorem txs_map (ls : List (List Nat)) : strsOf (ls.map dt) = some (ls.map tx) := by
  induction ls with
  | nil => rfl
  | cons x r ih => simp only [List.map_cons, strsOf, ih]; rfl
theorem join0 {ls : List (List Nat)} (h : ls.flatten.length + ls.length ≤ 1000000) : pJoin (dt []) (.list (ls.map dt)) = some (dt ls.flatten) := by
  show (match strsOf (ls.map dt) with
    | some ys => if (ys.map fun s : Str => s.length).sum + ys.length * (tx []).length ≤ 16777216 then some (PyData.str (Txt.join (tx []) ys)) else none
    | none => none) = _
  rw [txs_map]
  have e : ((ls.map tx).map fun s : Str => s.length).sum = ls.flatten.length := by
    rw [List.map_map, List.length_flatten]
    rfl
  simp only [e, tx_len, List.length_nil, Nat.mul_zero, tx_join0]
  rw [if_pos (by omega)]
theorem isW_sub {w al : List Nat} (h : ∀ c ∈ w, c ∈ al) (hw : isW al) : isW w := fun c hc => hw c (h c hc)
end PL.RF
namespace PL.RF
open PySem PySem.Spec PyProof.Rows L2
/-! ### data that can be held against one another -/
def Sh (k : Nat) (d : PyData) : Prop := PyData.canLay0 d = true ∧ d.depth ≤ k
theorem strOk_w {w : List Nat} (h : isW w) : PyData.strOk (tx w) = true := by
  show (w.toArray).all (fun c => decide (c < 0x110000)) = true
  rw [List.all_toArray, List.all_eq_true]
  intro c hc
  have := h c hc
  unfold isL at this
  simp at this ⊢
  omega
theorem sh_int (i : Int) : Sh 0 (.int i) := ⟨rfl, Nat.le_refl _⟩
theorem sh_w {w : List Nat} (h : isW w) : Sh 0 (dt w) := ⟨strOk_w h, Nat.le_refl _⟩
theorem sh_all {k : Nat} : ∀ {l : List PyData}, (∀ x ∈ l, Sh k x) → PyData.canLayAll0 l = true ∧ PyData.depthAll l ≤ k
  | [], _ => ⟨rfl, Nat.zero_le _⟩
  | x :: l, h => by
    have h1 := h x List.mem_cons_self
    have h2 := sh_all (l := l) fun y hy => h y (List.mem_cons_of_mem _ hy)
    refine ⟨?_, ?_⟩
    · show (PyData.canLay0 x && PyData.canLayAll0 l) = true
      rw [h1.1, h2.1]; rfl
    · show max (PyData.depth x) (PyData.depthAll l) ≤ k
      have := h1.2; have := h2.2; omega
theorem sh_list {k : Nat} {l : List PyData} (h : ∀ x ∈ l, Sh k x) : Sh (k + 1) (.list l) := by
  have := sh_all h
  exact ⟨this.1, by show PyData.depthAll l + 1 ≤ k + 1; have := this.2; omega⟩
theorem sh_tuple {k : Nat} {l : List PyData} (h : ∀ x ∈ l, Sh k x) : Sh (k + 1) (.tuple l) := by
  have := sh_all h
  exact ⟨this.1, by show PyData.depthAll l + 1 ≤ k + 1; have := this.2; omega⟩
theorem Sh.le {a b : Nat} {d : PyData} (h : Sh a d) (hab : a ≤ b) : Sh b d := ⟨h.1, Nat.le_trans h.2 hab⟩
theorem Sh.shaped {k : Nat} {d : PyData} (h : Sh k d) (hk : k ≤ 64) : SeqAt.shaped d = true := by
  unfold SeqAt.shaped
  rw [Bool.and_eq_true]
  exact ⟨h.1, decide_eq_true (Nat.le_trans h.2 hk)⟩
theorem pEq_list {k : Nat} {a b : List PyData} (h : Sh k (.list a)) (h2 : Sh k (.list b)) (hk : k ≤ 64) : pEq (.list a) (.list b) = some (.bool (PyData.eqvAll a b)) := by
  show (if SeqAt.shaped (.list a) = true ∧ SeqAt.shaped (.list b) = true then some (PyData.bool (PyData.eqv (.list a) (.list b))) else none) = _
  rw [if_pos ⟨h.shaped hk, h2.shaped hk⟩]
  simp only [PyData.eqv]
theorem pEq_tuple {k : Nat} {a b : List PyData} (h : Sh k (.tuple a)) (h2 : Sh k (.tuple b)) (hk : k ≤ 64) : pEq (.tuple a) (.tuple b) = some (.bool (PyData.eqvAll a b)) := by
  show (if SeqAt.shaped (.tuple a) = true ∧ SeqAt.shaped (.tuple b) = true then some (PyData.bool (PyData.eqv (.tuple a) (.tuple b))) else none) = _
  rw [if_pos ⟨h.shaped hk, h2.shaped hk⟩]
  simp only [PyData.eqv]
theorem pEq_same {k : Nat} {a : List PyData} (h : Sh k (.list a)) (hk : k ≤ 64) : pEq (.list a) (.list a) = some (.bool true) := by
  rw [pEq_list h h hk]
  have e : PyData.eqv (.list a) (.list a) = true := SeqAt.eqv_refl _ h.1
  simp only [PyData.eqv] at e
  rw [e]
theorem pEq_emp {k : Nat} {a : List PyData} (h : Sh k (.list a)) (hk : k ≤ 64) : pEq (.list a) (.list []) = some (.bool a.isEmpty) := by
  have h2 : Sh k (.list []) := by
    have : PyData.depth (.list []) = 1 := rfl
    have h3 : 1 ≤ PyData.depth (.list a) := by show 1 ≤ PyData.depthAll a + 1; omega
    exact ⟨rfl, by rw [this]; exact Nat.le_trans h3 h.2⟩
  rw [pEq_list h h2 hk]
  cases a <;> simp [PyData.eqvAll]
/-! ### slices of texts -/
theorem cut_tx (l : List Nat) (i j : Nat) : cutS (tx l) (some (i : Int)) (some (j : Int)) = tx ((l.drop i).take (j - i)) := by
  unfold cutS
  rw [HT.sIx_nat, HT.sIx_nat, tx_cps, tx_len]
  show (⟨_⟩ : Str) = tx _
  congr 1
  congr 1
  by_cases hi : i ≤ l.length
  · rw [Nat.min_eq_left hi]
    by_cases hj : j ≤ l.length
    · rw [Nat.min_eq_left hj]
    · rw [Nat.min_eq_right (by omega), List.take_of_length_le (by rw [List.length_drop]; omega), List.take_of_length_le (by rw [List.length_drop]; omega)]
  · rw [Nat.min_eq_right (a := i) (by omega), List.drop_eq_nil_of_le (i := l.length) (by omega), List.drop_eq_nil_of_le (i := i) (by omega)]
    simp
theorem cut_to (l : List Nat) (j : Nat) : cutS (tx l) none (some (j : Int)) = tx (l.take j) := by
  have := cut_tx l 0 j
  rw [List.drop_zero, Nat.sub_zero] at this
  rw [← this]
  unfold cutS
  rw [HT.sIx_nat]
  simp [HT.sIx, HT.sIx_nat]
theorem cut_from (l : List Nat) (i : Nat) : cutS (tx l) (some (i : Int)) none = tx (l.drop i) := by
  unfold cutS
  rw [HT.sIx_nat, tx_cps, tx_len]
  show (⟨_⟩ : Str) = tx _
  congr 1
  congr 1
  have : HT.sIx l.length l.length none = l.length := rfl
  rw [this]
  by_cases hi : i ≤ l.length
  · rw [Nat.min_eq_left hi, List.take_of_length_le (by rw [List.length_drop]; omega)]
  · rw [Nat.min_eq_right (by omega), List.drop_eq_nil_of_le (by omega), List.drop_eq_nil_of_le (by omega)]
    simp
theorem pCut_tx {l : List Nat} (h : l.length ≤ 1000000) (lo hi : Option Int) : pCut (dt l) lo hi = some (.str (cutS (tx l) lo hi)) := by
  show (if (tx l).length ≤ sizeLine then some (PyData.str (cutS (tx l) lo hi)) else none) = _
  rw [if_pos (by rw [tx_len, sl_eq]; omega)]
/-! ### own lists grow -/
theorem app_x {i : Nat} {e : M Sl} {env env' : List (Option Sl)} {st st' : SrcSt} {l : List PyData} {d : PyData} (hx : env[i]? = some (some (.own (.list l)))) (he : mDat e ⟨env, st⟩ = .ok d ⟨env', st'⟩) (hi : env'[i]? = some (some (.own (.list l)))) (hl : l.length < 1000000) : mApp i e ⟨env, st⟩ = .ok .next ⟨env'.set i (some (.own (.list (l ++ [d])))), st'⟩ := by
  unfold mApp
  simp only [hx, he, Res.bind_ok, hi]
  rw [if_pos (by rw [sl_eq]; omega)]
theorem ext_x {i : Nat} {e : M PyData} {env env' : List (Option Sl)} {st st' : SrcSt} {l l' : List PyData} (hx : env[i]? = some (some (.own (.list l)))) (he : e ⟨env, st⟩ = .ok (.list l') ⟨env', st'⟩) (hi : env'[i]? = some (some (.own (.list l)))) (hl : l.length + l'.length ≤ 1000000) : mExt i e ⟨env, st⟩ = .ok .next ⟨env'.set i (some (.own (.list (l ++ l')))), st'⟩ := by
  unfold mExt
  simp only [hx, he, Res.bind_ok, hi]
  rw [if_pos (by rw [sl_eq]; omega)]
/-! ### where words stand -/
theorem pre_iff {w l : List Nat} : w <+: l ↔ ∀ j, (h : j < w.length) → l[j]? = some w[j] := by
  constructor
  · rintro ⟨r, rfl⟩ j h
    rw [List.getElem?_append_left h, List.getElem?_eq_getElem h]
  · intro h
    rw [List.prefix_iff_eq_take]
    apply List.ext_getElem?
    intro j
    rw [List.getElem?_take]
    by_cases hj : j < w.length
    · rw [if_pos hj, h j hj, List.getElem?_eq_getElem hj]
    · rw [if_neg hj, List.getElem?_eq_none (by omega)]
theorem stands_iff {w t : List Nat} {k : Nat} : standsW w t k = true ↔ ∀ j, (h : j < w.length) → t[k + j]? = some w[j] := by
  unfold standsW
  rw [List.isPrefixOf_iff_prefix, pre_iff]
  constructor
  · intro h j hj; have := h j hj; rwa [List.getElem?_drop] at this
  · intro h j hj; rw [List.getElem?_drop]; exact h j hj
theorem stands_app {v w t : List Nat} {k : Nat} : standsW (v ++ w) t k = (standsW v t k && standsW w t (k + v.length)) := by
  rw [Bool.eq_iff_iff, Bool.and_eq_true, stands_iff, stands_iff, stands_iff]
  constructor
  · intro h
    refine ⟨fun j hj => ?_, fun j hj => ?_⟩
    · rw [h j (by rw [List.length_append]; omega), List.getElem_append_left hj]
    · have := h (v.length + j) (by rw [List.length_append]; omega)
      rw [List.getElem_append_right (by omega)] at this
      simp only [Nat.add_sub_cancel_left] at this
      rw [← this, Nat.add_assoc]
  · rintro ⟨h1, h2⟩ j hj
    by_cases hv : j < v.length
    · rw [h1 j hv, List.getElem_append_left hv]
    · rw [List.length_append] at hj
      have := h2 (j - v.length) (by omega)
      rw [List.getElem_append_right (by omega), ← this]
      congr 1; omega
theorem stands_one {c : Nat} {t : List Nat} {k : Nat} : standsW [c] t k = decide (t[k]? = some c) := by
  rw [Bool.eq_iff_iff, stands_iff, decide_eq_true_iff]
  constructor
  · intro h; exact h 0 (by simp)
  · intro h j hj
    have : j = 0 := by simp at hj; omega
    subst this; exact h
theorem stands_nil {t : List Nat} {k : Nat} : standsW [] t k = true := by rw [stands_iff]; intro j h; exact absurd h (by simp)
theorem cut_one (t : List Nat) (k : Nat) : (t.drop k).take 1 = t[k]?.toList := by
  cases h : t.drop k with
  | nil =>
    have : t[k]? = none := by rw [List.getElem?_eq_none]; have := congrArg List.length h; rw [List.length_drop] at this; simp at this; omega
    rw [this]; rfl
  | cons c r =>
    have : t[k]? = some c := by have := congrArg (fun l : List Nat => l[0]?) h; simpa using this
    rw [this]; rfl
end PL.RF
namespace PL.RF
open PySem PySem.Spec PyProof.Rows L2
theorem stF_eq {f : Fx} {t : List Nat} {i : Nat} : stF f t i = (decide (f.a.length ≤ i) && (standsW f.a t (i - f.a.length) && (standsW f.o t i && standsW f.b t (i + f.o.length)))) := by
  unfold stF Fx.lk
  rw [stands_app, stands_app]
  by_cases h : f.a.length ≤ i
  · rw [show i - f.a.length + f.a.length = i by omega]
  · rw [decide_eq_false h]; rfl
theorem one_or {w : List Nat} (h : w.length ≤ 1) : w = [] ∨ ∃ c, w = [c] := by
  match w, h with
  | [], _ => exact .inl rfl
  | [c], _ => exact .inr ⟨c, rfl⟩
theorem mis_empty {o t : List Nat} {i : Nat} : ((List.range o.length).filter fun k => !decide ((t.drop (i + k)).take 1 = [o.getD k 0])).isEmpty = standsW o t i := by
  rw [Bool.eq_iff_iff, stands_iff, List.isEmpty_iff, List.filter_eq_nil_iff]
  constructor
  · intro h j hj
    have := h j (List.mem_range.2 hj)
    simp only [Bool.not_eq_true, Bool.not_eq_false', decide_eq_true_eq] at this
    rw [cut_one] at this
    cases e : t[i + j]? with
    | none => rw [e] at this; simp at this
    | some c =>
      rw [e] at this
      simp at this
      rw [this, List.getElem?_eq_getElem hj]; rfl
  · intro h k hk
    have hk' := List.mem_range.1 hk
    simp only [Bool.not_eq_true, Bool.not_eq_false', decide_eq_true_eq]
    rw [cut_one, h k hk']
    simp [List.getElem?_eq_getElem hk']
theorem sh_nums (l : List Nat) : Sh 1 (.list (l.map nd)) := sh_list fun x hx => by
  obtain ⟨n, _, rfl⟩ := List.mem_map.1 hx
  exact sh_int _
end PL.RF
namespace PL.RF
open PySem PySem.Spec PyProof.Rows L2
theorem forL_s {t : Tg} {b : M Flow} {d : PyData} {r : List PyData} {m m0 : Me} (h : mTgt t d m = some m0) : forL t b (d :: r) m = (b m0).bind fun f m1 => match f with
      | .next => forL t b r m1
      | .cont => forL t b r m1
      | .brk => .ok .next m1
      | .ret s => .ok (.ret s) m1 := by
  show (match mTgt t d m with | none => Res.bad | some m0 => _) = _
  rw [h]
  all_goals rfl
@[simp] theorem forL_n {t : Tg} {b : M Flow} {m : Me} : forL t b [] m = .ok .next m := rfl
theorem for_ix {t : Tg} {b : M Flow} (I : Nat → Me → Prop) : ∀ (ds : List PyData) (k0 : Nat), (∀ (k : Nat) (d : PyData), ds[k]? = some d → ∀ m, I (k0 + k) m → ∃ m0 m1, mTgt t d m = some m0 ∧ b m0 = .ok .next m1 ∧ I (k0 + k + 1) m1) → ∀ m, I k0 m → ∃ m', forL t b ds m = .ok .next m' ∧ I (k0 + ds.length) m'
  | [], k0, _, m, hi => ⟨m, rfl, hi⟩
  | d :: r, k0, h, m, hi => by
    obtain ⟨m0, m1, h1, h2, h3⟩ := h 0 d rfl m hi
    obtain ⟨m', h4, h5⟩ := for_ix I r (k0 + 1) (fun k e hk m hm => by
      have := h (k + 1) e hk m (by rw [show k0 + (k + 1) = k0 + 1 + k by omega]; exact hm)
      rwa [show k0 + (k + 1) = k0 + 1 + k by omega] at this) m1 h3
    refine ⟨m', ?_, by rw [List.length_cons, show k0 + (r.length + 1) = k0 + 1 + r.length by omega]; exact h5⟩
    unfold forL
    rw [h1]
    simp only [h2, Res.bind_ok]
    exact h4
theorem for_n {t : Tg} {b : M Flow} (I : Nat → Me → Prop) (n : Nat) (h : ∀ k, k < n → ∀ m, I k m → ∃ m0 m1, mTgt t (nd k) m = some m0 ∧ b m0 = .ok .next m1 ∧ I (k + 1) m1) (m : Me) (hi : I 0 m) : ∃ m', forL t b (rngD 0 n) m = .ok .next m' ∧ I n m' := by
  have := for_ix (t := t) (b := b) I (rngD 0 n) 0 (fun k d hk m hm => by
    rw [Nat.zero_add] at hm ⊢
    rw [rng_map, List.getElem?_map] at hk
    by_cases hkn : k < n
    · rw [List.getElem?_range hkn] at hk
      cases hk
      exact h k hkn m hm
    · rw [List.getElem?_eq_none (by rw [List.length_range]; omega)] at hk
      cases hk) m hi
  rwa [rng_len, Nat.zero_add] at this
/-! ### all findings -/
def stK (fs : List Fx) (t : List Nat) (i k : Nat) : Bool := match fs[k]? with | some f => stF f t i | none => false
def findsAt (fs : List Fx) (t : List Nat) (i : Nat) : List (Nat × Nat) := ((List.range fs.length).filter (stK fs t i)).map fun k => (i, k)
def findsS (fs : List Fx) (t : List Nat) : List (Nat × Nat) := (List.range t.length).flatMap (findsAt fs t)
def pr (p : Nat × Nat) : PyData := .tuple [nd p.1, nd p.2]
def Gives (r : CRes) (d : PyData) (st : SrcSt) : Prop := r = .ok (.dat d) st ∨ r = .ok (.own d) st
theorem Gives.resV {r : CRes} {d : PyData} {st st0 : SrcSt} {env : List (Option Sl)} (h : Gives r d st) : resV ⟨env, st0⟩ r = .ok (.dat d) ⟨env, st⟩ := by
  rcases h with rfl | rfl <;> rfl
theorem findsAt_len (fs : List Fx) (t : List Nat) (i : Nat) : (findsAt fs t i).length ≤ fs.length := by
  unfold findsAt
  rw [List.length_map]
  have := List.length_filter_le (stK fs t i) (List.range fs.length)
  rwa [List.length_range] at this
theorem flat_len {α β : Type} (f : α → List β) (n : Nat) : ∀ {l : List α}, (∀ x ∈ l, (f x).length ≤ n) → (l.flatMap f).length ≤ n * l.length
  | [], _ => by simp
  | x :: l, h => by
    have h1 := h x List.mem_cons_self
    have h2 := flat_len f n (l := l) fun y hy => h y (List.mem_cons_of_mem _ hy)
    rw [List.flatMap_cons, List.length_append, List.length_cons, Nat.mul_add]
    omega
theorem findsS_len (fs : List Fx) (t : List Nat) : (findsS fs t).length ≤ fs.length * t.length := by
  have := flat_len (findsAt fs t) fs.length (l := List.range t.length) fun x _ => findsAt_len fs t x
  rwa [List.length_range] at this
theorem comp_at {F : List Sl → SrcSt → CRes} {fs : List Fx} {t : List Nat} {s2 : Option Sl} {i : Nat} {st : SrcSt} (hl : fs.length ≤ 5) (hF : ∀ (k : Nat) (f : Fx), fs[k]? = some f → F [.dat f.dat, sd t, sn i] st = .ok (.dat (.bool (stF f t i))) st) :
    mComp [4] (.nm 4) (mRng1 (mBs [(mDat (mCal fLen (mBs [(mBor 0)])))])) (mTest (mCall F (mArgs [(mOp pIxA (mBor 0) (mBor 4)), (mVar 1), (mVar 3)]))) (mTup (mArgs [(mVar 3), (mVar 4)])) ⟨[some (.dat (bookD fs)), some (sd t), s2, some (sn i), none], st⟩ = .ok (.list ((findsAt fs t i).map pr)) ⟨[some (.dat (bookD fs)), some (sd t), s2, some (sn i), none], st⟩ := by
  refine r_comp1 (l := (List.range fs.length).map nd) ?_ (by simp; omega) ?_
  · rw [← rng_map]
    simp
    exact rngR_n (by omega)
  · unfold findsAt
    rw [List.map_map]
    refine comp_gen nd _ _ _ fun k hk => ?_
    have hk' := List.mem_range.1 hk
    have hx := ix_book (List.getElem?_eq_getElem hk')
    have hs : stK fs t i k = stF fs[k] t i := by unfold stK; rw [List.getElem?_eq_getElem hk']
    refine ⟨⟨[some (.dat (bookD fs)), some (sd t), s2, some (sn i), some (sn k)], st⟩, ⟨[some (.dat (bookD fs)), some (sd t), s2, some (sn i), some (sn k)], st⟩, rfl, ?_, fun _ => ⟨⟨[some (.dat (bookD fs)), some (sd t), s2, some (sn i), some (sn k)], st⟩, by simp [pr], rfl⟩, fun _ => rfl⟩
    rw [hs]
    simp [hx, hF k _ (List.getElem?_eq_getElem hk')]
theorem foldl_flat {α β : Type} (f : α → List β) : ∀ (l : List α) (acc : List β), l.foldl (fun a x => a ++ f x) acc = acc ++ l.flatMap f
  | [], acc => by simp
  | x :: l, acc => by rw [List.foldl_cons, foldl_flat f l, List.flatMap_cons, List.append_assoc]
theorem all_findings_at {fs : List Fx} {t : List Nat} (h : BOk fs) (ht : t.length ≤ 100000) (st : SrcSt) : F_all_findings [.dat (bookD fs), sd t] st = .ok (.own (.list ((findsS fs t).map pr))) st := by
  refine call_of (env := [some (.dat (bookD fs)), some (sd t), none, none, none]) rfl ?_
  have hl := h.2
  have hb : ∀ i, ((List.range i).flatMap (findsAt fs t)).length ≤ fs.length * i := fun i => by
    have := flat_len (findsAt fs t) fs.length (l := List.range i) fun x _ => findsAt_len fs t x
    rwa [List.length_range] at this
  have hlen : fLen [dt t] = some (nd t.length) := fLen_txt (by omega)
  obtain ⟨m', e, x, rfl⟩ := for_n (t := .nm 3) (b := mExt 2 (mComp [4] (.nm 4) (mRng1 (mBs [(mDat (mCal fLen (mBs [(mBor 0)])))])) (mTest (mCall F_stands_at (mArgs [(mOp pIxA (mBor 0) (mBor 4)), (mVar 1), (mVar 3)]))) (mTup (mArgs [(mVar 3), (mVar 4)]))))
    (fun n m => ∃ x, m = ⟨[some (.dat (bookD fs)), some (sd t), some (.own (.list (((List.range n).flatMap (findsAt fs t)).map pr))), x, none], st⟩) t.length (fun k hk m hm => by
      obtain ⟨x, rfl⟩ := hm
      refine ⟨⟨[some (.dat (bookD fs)), some (sd t), some (.own (.list (((List.range k).flatMap (findsAt fs t)).map pr))), some (sn k), none], st⟩, _, rfl, ext_x rfl (comp_at hl fun k f hf => stands_at_at (h.1 f (List.mem_of_getElem? hf)) t _ st) rfl ?_, some (sn k), ?_⟩
      · have h1 := hb k
        have h2 := findsAt_len fs t k
        have h3 : fs.length * k ≤ 5 * k := Nat.mul_le_mul_right _ hl
        simp only [List.length_map]; omega
      · rw [List.range_succ, List.flatMap_append, List.map_append]
        simp) ⟨[some (.dat (bookD fs)), some (sd t), some (.own (.list [])), none, none], st⟩ ⟨none, rfl⟩
  have hr : rngR [nd t.length] ⟨[some (.dat (bookD fs)), some (sd t), some (.own (.list [])), none, none], st⟩ = .ok (rngD 0 t.length) _ := rngR_n (by omega)
  simp [m_all_findings, hlen, hr, e, findsS]
end PL.RF
namespace PL.RF
open PySem PySem.Spec PyProof.Rows L2
/-! ### what a round takes, what comes of it: as the law tells it -/
def fxO (fs : List Fx) (k : Nat) : List Nat := match fs[k]? with | some f => f.o | none => []
def fxN (fs : List Fx) (k : Nat) : List Nat := match fs[k]? with | some f => f.n | none => []
def takeG (fs : List Fx) : Nat → List (Nat × Nat) → List (Nat × Nat)
  | _, [] => []
  | free, p :: r => if free ≤ p.1 then p :: takeG fs (p.1 + (fxO fs p.2).length) r else takeG fs free r
def takenS (fs : List Fx) (t : List Nat) : List (Nat × Nat) := takeG fs 0 (findsS fs t)
def putR (fs : List Fx) (t : List Nat) (lot : List (Nat × Nat)) : List Nat := lot.foldr (fun p s => s.take p.1 ++ fxN fs p.2 ++ s.drop (p.1 + (fxO fs p.2).length)) t
def roundS (fs : List Fx) (t : List Nat) : List Nat := putR fs t (takenS fs t)
theorem takeG_mem {fs : List Fx} {p : Nat × Nat} : ∀ {free : Nat} {l : List (Nat × Nat)}, p ∈ takeG fs free l → p ∈ l
  | _, [], h => h
  | free, q :: r, h => by
    unfold takeG at h
    split at h
    · rcases List.mem_cons.1 h with rfl | h
      · exact List.mem_cons_self
      · exact List.mem_cons_of_mem _ (takeG_mem h)
    · exact List.mem_cons_of_mem _ (takeG_mem h)
theorem takeG_len (fs : List Fx) : ∀ (free : Nat) (l : List (Nat × Nat)), (takeG fs free l).length ≤ l.length
  | _, [] => Nat.le_refl _
  | free, q :: r => by
    unfold takeG
    split
    · have := takeG_len fs (q.1 + (fxO fs q.2).length) r
      simp only [List.length_cons]; omega
    · have := takeG_len fs free r
      simp only [List.length_cons]; omega
theorem finds_mem {fs : List Fx} {t : List Nat} {p : Nat × Nat} (h : p ∈ findsS fs t) : ∃ f, fs[p.2]? = some f ∧ stF f t p.1 = true ∧ p.1 < t.length := by
  unfold findsS at h
  obtain ⟨i, hi, h⟩ := List.mem_flatMap.1 h
  unfold findsAt at h
  obtain ⟨k, hk, rfl⟩ := List.mem_map.1 h
  rw [List.mem_filter] at hk
  have hk2 := hk.2
  have hk1 := List.mem_range.1 hk.1
  unfold stK at hk2
  rw [List.getElem?_eq_getElem hk1] at hk2
  exact ⟨fs[k], List.getElem?_eq_getElem hk1, hk2, List.mem_range.1 hi⟩
@[simp] theorem tgt_pr {p : Nat × Nat} {x0 x1 x2 x3 a b : Option Sl} {r : List (Option Sl)} {st : SrcSt} : mTgt (.tp [4, 5]) (pr p) ⟨x0 :: x1 :: x2 :: x3 :: a :: b :: r, st⟩ = some ⟨x0 :: x1 :: x2 :: x3 :: some (sn p.1) :: some (sn p.2) :: r, st⟩ := by
  unfold mTgt pr
  simp [setE]
theorem parNP_x {i j : Nat} {d : PyData} {s : PyData} {st : SrcSt} {env : List (Option Sl)} (hi : i < env.length) (hj : j < env.length) : mParNP i j (mC d) (mC (.dat s)) ⟨env, st⟩ = .ok .next ⟨(env.set i (some (.own d))).set j (some (.dat s)), st⟩ := by
  unfold mParNP
  simp only [mC_x, Res.bind_ok]
  rw [if_pos hi]
  unfold putE
  simp only [List.length_set]
  rw [if_pos hj]
def putOne (fs : List Fx) (s : List Nat) (p : Nat × Nat) : List Nat := s.take p.1 ++ fxN fs p.2 ++ s.drop (p.1 + (fxO fs p.2).length)
theorem putR_eq (fs : List Fx) (t : List Nat) (lot : List (Nat × Nat)) : putR fs t lot = lot.reverse.foldl (putOne fs) t := by
  unfold putR putOne
  rw [List.foldl_reverse]
@[simp] theorem tgt_pr3 {p : Nat × Nat} {x0 x1 x2 a b : Option Sl} {r : List (Option Sl)} {st : SrcSt} : mTgt (.tp [3, 4]) (pr p) ⟨x0 :: x1 :: x2 :: a :: b :: r, st⟩ = some ⟨x0 :: x1 :: x2 :: some (sn p.1) :: some (sn p.2) :: r, st⟩ := by
  unfold mTgt pr
  simp [setE]
@[simp] theorem asg_fix5 (f : Fx) {x0 x1 x2 x3 x4 a b c d : Option Sl} {r : List (Option Sl)} {st : SrcSt} : asgR (.tp [5,6,7,8]) f.dat ⟨x0 :: x1 :: x2 :: x3 :: x4 :: a :: b :: c :: d :: r, st⟩ = .ok .next ⟨x0 :: x1 :: x2 :: x3 :: x4 :: some (sd f.a) :: some (sd f.o) :: some (sd f.n) :: some (sd f.b) :: r, st⟩ := by
  unfold asgR mTgt Fx.dat
  simp [setE]
end PL.RF
namespace PL.RF
open PySem PySem.Spec PyProof.Rows L2
/-! ### lots whose findings fit together -/
def Lot (fs : List Fx) (t : List Nat) : Nat → List (Nat × Nat) → Prop
  | _, [] => True
  | free, p :: r => free ≤ p.1 ∧ (∃ f, fs[p.2]? = some f) ∧ standsW (fxO fs p.2) t p.1 = true ∧ p.1 + (fxO fs p.2).length ≤ t.length ∧ Lot fs t (p.1 + (fxO fs p.2).length) r
def putL (fs : List Fx) (t : List Nat) : Nat → List (Nat × Nat) → List Nat
  | at', [] => t.drop at'
  | at', p :: r => (t.drop at').take (p.1 - at') ++ fxN fs p.2 ++ putL fs t (p.1 + (fxO fs p.2).length) r
theorem putL_c {fs : List Fx} {t : List Nat} {a : Nat} {p : Nat × Nat} {r : List (Nat × Nat)} : putL fs t a (p :: r) = (t.drop a).take (p.1 - a) ++ fxN fs p.2 ++ putL fs t (p.1 + (fxO fs p.2).length) r := rfl
theorem Lot.mem {fs : List Fx} {t : List Nat} : ∀ {free : Nat} {l : List (Nat × Nat)}, Lot fs t free l → ∀ p ∈ l, ∃ f, fs[p.2]? = some f
  | _, [], _, _, hp => nomatch hp
  | free, q :: r, h, p, hp => by
    obtain ⟨_, h2, _, _, h5⟩ := h
    rcases List.mem_cons.1 hp with rfl | hp
    · exact h2
    · exact h5.mem p hp
theorem takeG_lot {fs : List Fx} (h : BOk fs) {t : List Nat} : ∀ (free : Nat) (l : List (Nat × Nat)), (∀ p ∈ l, ∃ f, fs[p.2]? = some f ∧ stF f t p.1 = true ∧ p.1 < t.length) → Lot fs t free (takeG fs free l)
  | _, [], _ => trivial
  | free, p :: r, hp => by
    have hr : ∀ p ∈ r, ∃ f, fs[p.2]? = some f ∧ stF f t p.1 = true ∧ p.1 < t.length := fun q hq => hp q (List.mem_cons_of_mem _ hq)
    obtain ⟨f, hf, hs, _⟩ := hp p List.mem_cons_self
    unfold takeG
    split
    · rename_i hc
      have ho : fxO fs p.2 = f.o := by unfold fxO; rw [hf]
      have hst : standsW f.o t p.1 = true := by
        rw [stF_eq] at hs
        simp only [Bool.and_eq_true] at hs
        exact hs.2.2.1
      have hne : f.o ≠ [] := by
        intro e
        have := (h.1 f (List.mem_of_getElem? hf)).lo
        rw [e] at this; simp at this
      refine ⟨hc, ⟨f, hf⟩, by rw [ho]; exact hst, by rw [ho]; exact standsW_len hst hne, takeG_lot h _ r hr⟩
    · exact takeG_lot h _ r hr
theorem takenS_lot {fs : List Fx} (h : BOk fs) (t : List Nat) : Lot fs t 0 (takenS fs t) := takeG_lot h 0 _ fun p hp => finds_mem hp
theorem putR_putL {fs : List Fx} {t : List Nat} : ∀ (l : List (Nat × Nat)) (free : Nat), free ≤ t.length → Lot fs t free l → putR fs t l = t.take free ++ putL fs t free l
  | [], free, _, _ => by simp [putR, putL]
  | p :: r, free, hf, h => by
    obtain ⟨h1, _, _, h4, h5⟩ := h
    have ih := putR_putL r _ h4 h5
    show (putR fs t r).take p.1 ++ fxN fs p.2 ++ (putR fs t r).drop (p.1 + (fxO fs p.2).length) = _
    rw [ih, putL_c]
    have e1 : (t.take (p.1 + (fxO fs p.2).length) ++ putL fs t (p.1 + (fxO fs p.2).length) r).take p.1 = t.take p.1 := by
      rw [List.take_append_of_le_length (by rw [List.length_take]; omega), List.take_take, Nat.min_eq_left (by omega)]
    have e2 : (t.take (p.1 + (fxO fs p.2).length) ++ putL fs t (p.1 + (fxO fs p.2).length) r).drop (p.1 + (fxO fs p.2).length) = putL fs t (p.1 + (fxO fs p.2).length) r := by
      rw [List.drop_append_of_le_length (by rw [List.length_take]; omega), List.drop_eq_nil_of_le (by rw [List.length_take]; omega), List.nil_append]
    have e3 : t.take p.1 = t.take free ++ (t.drop free).take (p.1 - free) := by
      rw [← List.take_append_drop free t]
      rw [List.take_append, List.take_take, List.length_take, Nat.min_eq_right h1, Nat.min_eq_left hf]
      simp [List.take_append_drop]
    rw [e1, e2, e3]
    simp only [List.append_assoc]
theorem roundS_eq {fs : List Fx} (h : BOk fs) (t : List Nat) : roundS fs t = putL fs t 0 (takenS fs t) := by
  have := putR_putL (takenS fs t) 0 (Nat.zero_le _) (takenS_lot h t)
  rw [List.take_zero, List.nil_append] at this
  exact this
theorem fx_lens {fs : List Fx} (h : BOk fs) {k : Nat} (hk : ∃ f, fs[k]? = some f) : 1 ≤ (fxO fs k).length ∧ (fxN fs k).length ≤ 3 := by
  obtain ⟨f, hf⟩ := hk
  have := h.1 f (List.mem_of_getElem? hf)
  unfold fxO fxN
  rw [hf]
  exact ⟨this.lo, this.ln⟩
theorem putL_len {fs : List Fx} (h : BOk fs) {t : List Nat} : ∀ (l : List (Nat × Nat)) (free : Nat), free ≤ t.length → Lot fs t free l → (putL fs t free l).length ≤ 3 * (t.length - free)
  | [], free, _, _ => by unfold putL; rw [List.length_drop]; omega
  | p :: r, free, hf, hl => by
    obtain ⟨h1, h2, _, h4, h5⟩ := hl
    have ih := putL_len h r _ h4 h5
    have := fx_lens h h2
    unfold putL
    simp only [List.length_append, List.length_take, List.length_drop]
    omega
theorem roundS_len {fs : List Fx} (h : BOk fs) (t : List Nat) : (roundS fs t).length ≤ 3 * t.length := by
  rw [roundS_eq h]
  exact putL_len h _ 0 (Nat.zero_le _) (takenS_lot h t)
/-! ### letters that no fix names stay -/
theorem stands_take {w t : List Nat} {k : Nat} (h : standsW w t k = true) : (t.drop k).take w.length = w := by
  unfold standsW at h
  rw [List.isPrefixOf_iff_prefix, List.prefix_iff_eq_take] at h
  exact h.symm
theorem filter_none {q : Nat → Bool} {l : List Nat} (h : ∀ c ∈ l, q c = false) : l.filter q = [] := by
  rw [List.filter_eq_nil_iff]; intro c hc; rw [h c hc]; simp
theorem putL_filter {fs : List Fx} {t : List Nat} (q : Nat → Bool) (hq : ∀ k, (∀ c ∈ fxO fs k, q c = false) ∧ (∀ c ∈ fxN fs k, q c = false)) : ∀ (l : List (Nat × Nat)) (free : Nat), Lot fs t free l → (putL fs t free l).filter q = (t.drop free).filter q
  | [], free, _ => rfl
  | p :: r, free, hl => by
    obtain ⟨h1, h2, h3, h4, h5⟩ := hl
    have ih := putL_filter q hq r _ h5
    unfold putL
    rw [List.filter_append, List.filter_append, ih, filter_none (hq p.2).2, List.append_nil]
    have e1 : t.drop free = (t.drop free).take (p.1 - free) ++ (fxO fs p.2 ++ t.drop (p.1 + (fxO fs p.2).length)) := by
      have a := List.take_append_drop (p.1 - free) (t.drop free)
      rw [List.drop_drop, show free + (p.1 - free) = p.1 by omega] at a
      have b := List.take_append_drop (fxO fs p.2).length (t.drop p.1)
      rw [stands_take h3, List.drop_drop] at b
      rw [b]
      exact a.symm
    conv => rhs; rw [e1]
    rw [List.filter_append, List.filter_append, filter_none (hq p.2).1, List.nil_append]
theorem roundS_filter {fs : List Fx} (h : BOk fs) (t : List Nat) (q : Nat → Bool) (hq : ∀ k, (∀ c ∈ fxO fs k, q c = false) ∧ (∀ c ∈ fxN fs k, q c = false)) : (roundS fs t).filter q = t.filter q := by
  rw [roundS_eq h, putL_filter q hq _ 0 (takenS_lot h t), List.drop_zero]
/-! ### other letters in the place of those named -/
def Fx.map (r : Nat → Nat) (f : Fx) : Fx := ⟨f.a.map r, f.o.map r, f.n.map r, f.b.map r⟩
def InjOn (r : Nat → Nat) (S : Nat → Prop) : Prop := ∀ a b, S a → S b → r a = r b → a = b
theorem stands_map {r : Nat → Nat} {S : Nat → Prop} (hr : InjOn r S) {w t : List Nat} {k : Nat} (hw : ∀ c ∈ w, S c) (ht : ∀ c ∈ t, S c) : standsW (w.map r) (t.map r) k = standsW w t k := by
  rw [Bool.eq_iff_iff, stands_iff, stands_iff]
  constructor
  · intro h j hj
    have := h j (by rw [List.length_map]; exact hj)
    rw [List.getElem?_map, List.getElem_map] at this
    cases e : t[k + j]? with
    | none => rw [e] at this; cases this
    | some c =>
      rw [e] at this
      have h2 : r c = r w[j] := by simpa using this
      rw [hr c w[j] (ht c (List.mem_of_getElem? e)) (hw _ (List.getElem_mem _)) h2]
  · intro h j hj
    rw [List.length_map] at hj
    rw [List.getElem?_map, h j hj, List.getElem_map]; rfl
def FxIn (S : Nat → Prop) (f : Fx) : Prop := (∀ c ∈ f.a, S c) ∧ (∀ c ∈ f.o, S c) ∧ (∀ c ∈ f.n, S c) ∧ (∀ c ∈ f.b, S c)
theorem stF_map {r : Nat → Nat} {S : Nat → Prop} (hr : InjOn r S) {f : Fx} {t : List Nat} {i : Nat} (hf : FxIn S f) (ht : ∀ c ∈ t, S c) : stF (f.map r) (t.map r) i = stF f t i := by
  rw [stF_eq, stF_eq]
  simp only [Fx.map, List.length_map]
  rw [stands_map hr hf.1 ht, stands_map hr hf.2.1 ht, stands_map hr hf.2.2.2 ht]
theorem findsS_map {r : Nat → Nat} {S : Nat → Prop} (hr : InjOn r S) {fs : List Fx} {t : List Nat} (hf : ∀ f ∈ fs, FxIn S f) (ht : ∀ c ∈ t, S c) : findsS (fs.map (Fx.map r)) (t.map r) = findsS fs t := by
  unfold findsS
  rw [List.length_map]
  congr 1
  funext i
  unfold findsAt
  rw [List.length_map]
  congr 2
  funext k
  unfold stK
  rw [List.getElem?_map]
  cases e : fs[k]? with
  | none => rfl
  | some f => exact stF_map hr (hf f (List.mem_of_getElem? e)) ht
theorem fxO_map (r : Nat → Nat) (fs : List Fx) (k : Nat) : fxO (fs.map (Fx.map r)) k = (fxO fs k).map r := by
  unfold fxO
  rw [List.getElem?_map]
  cases fs[k]? <;> rfl
theorem fxN_map (r : Nat → Nat) (fs : List Fx) (k : Nat) : fxN (fs.map (Fx.map r)) k = (fxN fs k).map r := by
  unfold fxN
  rw [List.getElem?_map]
  cases fs[k]? <;> rfl
theorem takeG_map (r : Nat → Nat) (fs : List Fx) : ∀ (free : Nat) (l : List (Nat × Nat)), takeG (fs.map (Fx.map r)) free l = takeG fs free l
  | _, [] => rfl
  | free, p :: l => by
    unfold takeG
    rw [fxO_map, List.length_map, takeG_map r fs _ l, takeG_map r fs _ l]
theorem putL_map (r : Nat → Nat) (fs : List Fx) (t : List Nat) : ∀ (l : List (Nat × Nat)) (free : Nat), putL (fs.map (Fx.map r)) (t.map r) free l = (putL fs t free l).map r
  | [], free => by unfold putL; rw [List.map_drop]
  | p :: l, free => by
    unfold putL
    rw [fxO_map, fxN_map, List.length_map, putL_map r fs t l, List.map_append, List.map_append, List.map_take, List.map_drop]
theorem roundS_map {r : Nat → Nat} {S : Nat → Prop} (hr : InjOn r S) {fs : List Fx} {t : List Nat} (hf : ∀ f ∈ fs, FxIn S f) (ht : ∀ c ∈ t, S c) (h : BOk fs) (h' : BOk (fs.map (Fx.map r))) : roundS (fs.map (Fx.map r)) (t.map r) = (roundS fs t).map r := by
  rw [roundS_eq h', roundS_eq h]
  unfold takenS
  rw [findsS_map hr hf ht, takeG_map, putL_map]
theorem putL_mem {fs : List Fx} {t : List Nat} (S : Nat → Prop) (hf : ∀ k, ∀ c ∈ fxN fs k, S c) (ht : ∀ c ∈ t, S c) : ∀ (l : List (Nat × Nat)) (free : Nat), ∀ c ∈ putL fs t free l, S c
  | [], free, c, hc => ht c (List.mem_of_mem_drop hc)
  | p :: l, free, c, hc => by
    unfold putL at hc
    rcases List.mem_append.1 hc with hc | hc
    · rcases List.mem_append.1 hc with hc | hc
      · exact ht c (List.mem_of_mem_drop (List.mem_of_mem_take hc))
      · exact hf _ c hc
    · exact putL_mem S hf ht l _ c hc
end PL.RF
namespace PL.RF
open PySem PySem.Spec PyProof.Rows L2
/-! ### the program's round: the first fix at a place -/
def wantD (p : Fx × Nat) : PyData := .tuple [nd p.2, dt p.1.lk, nd p.1.a.length]
def firstL (t : List Nat) (i : Nat) : List (Fx × Nat) → Option Nat
  | [] => none
  | p :: r => if stF p.1 t i = true then some p.2 else firstL t i r
@[simp] theorem tgt_want {p : Fx × Nat} {x0 x1 x2 a b c : Option Sl} {r : List (Option Sl)} {st : SrcSt} : mTgt (.tp [3, 4, 5]) (wantD p) ⟨x0 :: x1 :: x2 :: a :: b :: c :: r, st⟩ = some ⟨x0 :: x1 :: x2 :: some (sn p.2) :: some (sd p.1.lk) :: some (sn p.1.a.length) :: r, st⟩ := by
  unfold mTgt wantD
  simp [setE]
def firstR (W : PyData) (t : List Nat) (i : Nat) (y3 y4 y5 : Option Sl) (st : SrcSt) (r : Option Nat) : Res Flow := match r with
  | some k => .ok (.ret (sn k)) ⟨[some (.dat W), some (sd t), some (sn i), y3, y4, y5], st⟩
  | none => .ok .next ⟨[some (.dat W), some (sd t), some (sn i), y3, y4, y5], st⟩
theorem first_loop {W : PyData} {t : List Nat} {i : Nat} (st : SrcSt) : ∀ (l : List (Fx × Nat)) (x3 x4 x5 : Option Sl), (∀ p ∈ l, p.1.Ok) →
    ∃ y3 y4 y5, forL (.tp [3, 4, 5]) (mIfS (mAnd (mTest (mOp pLe (mBor 5) (mBor 2))) (mTest (mSw3 (mBor 1) (mBor 4) (mDat (mOp pSub (mBor 2) (mBor 5)))))) (mRetV 3) mNext) (l.map wantD) ⟨[some (.dat W), some (sd t), some (sn i), x3, x4, x5], st⟩ = firstR W t i y3 y4 y5 st (firstL t i l)
  | [], x3, x4, x5, _ => ⟨x3, x4, x5, rfl⟩
  | p :: r, x3, x4, x5, hp => by
    have hok := hp p List.mem_cons_self
    obtain ⟨y3, y4, y5, e⟩ := first_loop (W := W) (t := t) (i := i) st r (some (sn p.2)) (some (sd p.1.lk)) (some (sn p.1.a.length)) fun q hq => hp q (List.mem_cons_of_mem _ hq)
    have h6 := sw3_at t p.1.lk (i - p.1.a.length) hok.lk0
    rw [List.map_cons, forL_s tgt_want]
    unfold firstL
    by_cases hi : p.1.a.length ≤ i
    · have e1 : (i : Int) - (p.1.a.length : Int) = ((i - p.1.a.length : Nat) : Int) := by omega
      have hs : stF p.1 t i = standsW p.1.lk t (i - p.1.a.length) := by unfold stF; rw [decide_eq_true hi, Bool.true_and]
      cases hw : standsW p.1.lk t (i - p.1.a.length) with
      | true =>
        refine ⟨some (sn p.2), some (sd p.1.lk), some (sn p.1.a.length), ?_⟩
        rw [hs, hw, if_pos rfl]
        simp [hi, e1, h6, hw, firstR]
      | false =>
        refine ⟨y3, y4, y5, ?_⟩
        rw [hs, hw, if_neg (by simp)]
        refine Eq.trans ?_ e
        simp [hi, e1, h6, hw]
    · have hs : stF p.1 t i = false := by unfold stF; rw [decide_eq_false hi, Bool.false_and]
      refine ⟨y3, y4, y5, ?_⟩
      rw [hs, if_neg (by simp)]
      refine Eq.trans ?_ e
      simp [hi]
def optD : Option Nat → PyData
  | some k => nd k
  | none => .none
def firstS (fs : List Fx) (t : List Nat) (i : Nat) : Option Nat := firstL t i fs.zipIdx
theorem zip_mem {fs : List Fx} {p : Fx × Nat} (h : p ∈ fs.zipIdx) : fs[p.2]? = some p.1 := List.mem_zipIdx_iff_getElem?.1 h
theorem zip_ok {fs : List Fx} (h : BOk fs) : ∀ p ∈ fs.zipIdx, p.1.Ok := fun p hp => h.1 _ (List.mem_of_getElem? (zip_mem hp))
abbrev wants (fs : List Fx) : PyData := .list (fs.zipIdx.map wantD)
theorem first_at_at {fs : List Fx} (h : BOk fs) (t : List Nat) (i : Nat) (st : SrcSt) : F_first_at [.dat (wants fs), sd t, sn i] st = .ok (.dat (optD (firstS fs t i))) st := by
  refine call_of (env := [some (.dat (wants fs)), some (sd t), some (sn i), none, none, none]) rfl ?_
  obtain ⟨y3, y4, y5, e⟩ := first_loop (W := wants fs) (t := t) (i := i) st fs.zipIdx none none none (zip_ok h)
  have e' : firstL t i fs.zipIdx = firstS fs t i := rfl
  rw [e'] at e
  unfold m_first_at
  rw [mSeq_x, mFor_x]
  simp only [mIt_x, mDat_x, mVd_0, Res.bind_ok, datR_dat, itR_l, e]
  cases firstS fs t i with
  | none => simp [firstR, optD]
  | some k => simp [firstR, optD]
/-! ### the scan by places is the greedy one -/
theorem firstL_eq {t : List Nat} {i : Nat} : ∀ l : List (Fx × Nat), firstL t i l = (l.filter fun p => stF p.1 t i).head?.map (·.2)
  | [] => rfl
  | p :: r => by
    unfold firstL
    by_cases h : stF p.1 t i = true
    · rw [if_pos h, List.filter_cons, if_pos h]; rfl
    · rw [if_neg h, List.filter_cons, if_neg h, firstL_eq r]
theorem firstS_eq (fs : List Fx) (t : List Nat) (i : Nat) : firstS fs t i = ((List.range fs.length).filter (stK fs t i)).head? := by
  unfold firstS
  rw [firstL_eq]
  have e : List.range fs.length = fs.zipIdx.map (·.2) := by
    rw [List.zipIdx_map_snd, List.range_eq_range']
  rw [e, List.filter_map, List.head?_map]
  congr 2
  apply List.filter_congr
  intro p hp
  show stF p.1 t i = stK fs t i p.2
  unfold stK
  rw [zip_mem hp]
theorem findsAt_none {fs : List Fx} {t : List Nat} {i : Nat} (h : firstS fs t i = none) : findsAt fs t i = [] := by
  rw [firstS_eq, List.head?_eq_none_iff] at h
  unfold findsAt
  rw [h]; rfl
theorem findsAt_some {fs : List Fx} {t : List Nat} {i k : Nat} (h : firstS fs t i = some k) : ∃ r, findsAt fs t i = (i, k) :: r ∧ (∀ p ∈ r, p.1 = i) ∧ ∃ f, fs[k]? = some f := by
  rw [firstS_eq] at h
  unfold findsAt
  cases hl : (List.range fs.length).filter (stK fs t i) with
  | nil => rw [hl] at h; cases h
  | cons a r =>
    rw [hl] at h
    cases h
    refine ⟨r.map fun k => (i, k), rfl, fun p hp => ?_, ?_⟩
    · obtain ⟨_, _, rfl⟩ := List.mem_map.1 hp
      rfl
    · have : k ∈ (List.range fs.length).filter (stK fs t i) := by rw [hl]; exact List.mem_cons_self
      have hk := List.mem_range.1 (List.mem_filter.1 this).1
      exact ⟨_, List.getElem?_eq_getElem hk⟩
def findsFrom (fs : List Fx) (t : List Nat) (a : Nat) : List (Nat × Nat) := (List.range' a (t.length - a)).flatMap (findsAt fs t)
def scanS (fs : List Fx) (t : List Nat) (a : Nat) : List (Nat × Nat) := takeG fs a (findsFrom fs t a)
theorem findsFrom_c {fs : List Fx} {t : List Nat} {a : Nat} (h : a < t.length) : findsFrom fs t a = findsAt fs t a ++ findsFrom fs t (a + 1) := by
  unfold findsFrom
  rw [show t.length - a = (t.length - (a + 1)) + 1 by omega, List.range'_succ, List.flatMap_cons]
theorem findsFrom_end {fs : List Fx} {t : List Nat} {a : Nat} (h : t.length ≤ a) : findsFrom fs t a = [] := by
  unfold findsFrom
  rw [show t.length - a = 0 by omega]; rfl
theorem findsAt_place {fs : List Fx} {t : List Nat} {i : Nat} : ∀ p ∈ findsAt fs t i, p.1 = i := by
  intro p hp
  unfold findsAt at hp
  obtain ⟨k, _, rfl⟩ := List.mem_map.1 hp
  rfl
theorem findsFrom_place {fs : List Fx} {t : List Nat} {a : Nat} : ∀ p ∈ findsFrom fs t a, a ≤ p.1 := by
  intro p hp
  unfold findsFrom at hp
  obtain ⟨i, hi, hp⟩ := List.mem_flatMap.1 hp
  rw [findsAt_place p hp]
  have := List.mem_range'.1 hi
  omega
theorem takeG_skip {fs : List Fx} {free : Nat} : ∀ (l r : List (Nat × Nat)), (∀ p ∈ l, p.1 < free) → takeG fs free (l ++ r) = takeG fs free r
  | [], _, _ => rfl
  | p :: l, r, h => by
    have h1 := h p List.mem_cons_self
    rw [List.cons_append]
    conv => lhs; unfold takeG
    rw [if_neg (by omega)]
    exact takeG_skip l r fun q hq => h q (List.mem_cons_of_mem _ hq)
theorem takeG_free {fs : List Fx} {a b : Nat} (hab : a ≤ b) : ∀ (l : List (Nat × Nat)), (∀ p ∈ l, b ≤ p.1) → takeG fs a l = takeG fs b l
  | [], _ => rfl
  | p :: l, h => by
    have h1 := h p List.mem_cons_self
    unfold takeG
    rw [if_pos (by omega), if_pos h1]
theorem scan_to {fs : List Fx} {t : List Nat} : ∀ (n a : Nat), takeG fs (a + n) (findsFrom fs t a) = scanS fs t (a + n)
  | 0, a => rfl
  | n + 1, a => by
    by_cases h : a < t.length
    · rw [findsFrom_c h, takeG_skip _ _ fun p hp => by rw [findsAt_place p hp]; omega]
      have := scan_to (fs := fs) (t := t) n (a + 1)
      rwa [show a + 1 + n = a + (n + 1) by omega] at this
    · unfold scanS
      rw [findsFrom_end (by omega), findsFrom_end (by omega)]
theorem scan_end {fs : List Fx} {t : List Nat} {a : Nat} (h : t.length ≤ a) : scanS fs t a = [] := by
  unfold scanS
  rw [findsFrom_end h]; rfl
theorem scan_none {fs : List Fx} {t : List Nat} {a : Nat} (h : a < t.length) (h2 : firstS fs t a = none) : scanS fs t a = scanS fs t (a + 1) := by
  unfold scanS
  rw [findsFrom_c h, findsAt_none h2, List.nil_append]
  exact takeG_free (by omega) _ findsFrom_place
theorem scan_some {fs : List Fx} (hb : BOk fs) {t : List Nat} {a k : Nat} (h : a < t.length) (h2 : firstS fs t a = some k) : scanS fs t a = (a, k) :: scanS fs t (a + (fxO fs k).length) := by
  obtain ⟨r, e, hr, hk⟩ := findsAt_some h2
  have h1 := (fx_lens hb hk).1
  conv => lhs; unfold scanS
  rw [findsFrom_c h, e, List.cons_append]
  conv => lhs; unfold takeG
  rw [if_pos (Nat.le_refl _)]
  simp only
  rw [takeG_skip _ _ fun p hp => by rw [hr p hp]; omega]
  have := scan_to (fs := fs) (t := t) ((fxO fs k).length - 1) (a + 1)
  rw [show a + 1 + ((fxO fs k).length - 1) = a + (fxO fs k).length by omega] at this
  rw [this]
theorem scan_taken (fs : List Fx) (t : List Nat) : scanS fs t 0 = takenS fs t := by
  unfold scanS takenS findsFrom findsS
  rw [Nat.sub_zero, List.range_eq_range']
end PL.RF
namespace PL.RF
open PySem PySem.Spec PyProof.Rows L2
/-! ### the program's round: the walk over the places -/
abbrev rfC : M Bool := mTest (mOp pLt (mBor 4) (mDat (mCal fLen (mBs [(mBor 1)]))))
abbrev rfB : M Flow := mSeq (mSet 5 (mCall F_first_at (mArgs [(mVar 2), (mVar 1), (mVar 4)])))
  (mIfS (mTest (mOp pIs (mBor 5) (mDat (mC (.dat .none))))) (mAug (fun i j => i + j) 4 (mDat (mC (.dat (.int 1))))) (mSeq (mApp 3 (mTup (mArgs [(mVar 4), (mVar 5)])))
  (mAug (fun i j => i + j) 4 (mDat (mCal fLen (mBs [(mDat (mOp pIxA (mDat (mOp pIxA (mBor 0) (mBor 5))) (mDat (mC (.dat (.int 1))))))]))))))
abbrev rfE (fs : List Fx) (t : List Nat) (s2 : Sl) (acc : List (Nat × Nat)) (a : Nat) (x5 : Option Sl) : List (Option Sl) := [some (.dat (bookD fs)), some (sd t), some s2, some (.own (.list (acc.map pr))), some (sn a), x5, none]
def isWant (fs : List Fx) (s : Sl) : Prop := s = .dat (wants fs) ∨ s = .own (wants fs)
theorem rf_set {fs : List Fx} (h : BOk fs) (t : List Nat) {s2 : Sl} (hs : isWant fs s2) (acc : List (Nat × Nat)) (a : Nat) (x5 : Option Sl) (st : SrcSt) : mSet 5 (mCall F_first_at (mArgs [(mVar 2), (mVar 1), (mVar 4)])) ⟨rfE fs t s2 acc a x5, st⟩ = .ok .next ⟨rfE fs t (.dat (wants fs)) acc a (some (.dat (optD (firstS fs t a)))), st⟩ := by
  have h1 := first_at_at h t a st
  rcases hs with rfl | rfl <;> simp [h1]
theorem scan_loop {fs : List Fx} {t : List Nat} (h : BOk fs) (ht : t.length ≤ 100000) (st : SrcSt) : ∀ (n fu a : Nat) (acc : List (Nat × Nat)) (s2 : Sl) (x5 : Option Sl), t.length - a ≤ n → n < fu → isWant fs s2 → acc.length + n ≤ 900000 →
    ∃ s2' a' y5, whileN rfC rfB fu ⟨rfE fs t s2 acc a x5, st⟩ = .ok .next ⟨rfE fs t s2' (acc ++ scanS fs t a) a' y5, st⟩
  | n, 0, a, acc, s2, x5, _, hf, _, _ => absurd hf (by omega)
  | n, fu + 1, a, acc, s2, x5, hn, hf, hs, hl => by
    have hlen : fLen [dt t] = some (nd t.length) := fLen_txt (by omega)
    have hc : rfC ⟨rfE fs t s2 acc a x5, st⟩ = .ok (decide (a < t.length)) ⟨rfE fs t s2 acc a x5, st⟩ := by
      simp [hlen]
    by_cases ha : a < t.length
    · rw [decide_eq_true ha] at hc
      have hset := rf_set h t hs acc a x5 st
      cases hk : firstS fs t a with
      | none =>
        rw [hk] at hset
        have hb : rfB ⟨rfE fs t s2 acc a x5, st⟩ = .ok .next ⟨rfE fs t (.dat (wants fs)) acc (a + 1) (some (.dat .none)), st⟩ := by
          show mSeq _ _ _ = _
          rw [mSeq_x, hset]
          simp [optD]
        rw [wh_t hc hb, scan_none ha hk]
        exact scan_loop h ht st (n - 1) fu (a + 1) acc _ _ (by omega) (by omega) (.inl rfl) (by omega)
      | some k =>
        rw [hk] at hset
        obtain ⟨_, _, _, f, hf'⟩ := findsAt_some hk
        have ho : fxO fs k = f.o := by unfold fxO; rw [hf']
        have hok := h.1 f (List.mem_of_getElem? hf')
        have h1 := hok.lo
        have hfl : fLen [dt f.o] = some (nd f.o.length) := fLen_txt (by have := hok.lo3; omega)
        have hx := ix_book hf'
        have hap : mApp 3 (mTup (mArgs [(mVar 4), (mVar 5)])) ⟨rfE fs t (.dat (wants fs)) acc a (some (sn k)), st⟩ = .ok .next ⟨rfE fs t (.dat (wants fs)) (acc ++ [(a, k)]) a (some (sn k)), st⟩ := by
          rw [app_x (env' := rfE fs t (.dat (wants fs)) acc a (some (sn k))) (st' := st) (d := pr (a, k)) (l := acc.map pr) rfl (by simp [pr]) rfl (by rw [List.length_map]; omega)]
          simp
        have hb : rfB ⟨rfE fs t s2 acc a x5, st⟩ = .ok .next ⟨rfE fs t (.dat (wants fs)) (acc ++ [(a, k)]) (a + f.o.length) (some (sn k)), st⟩ := by
          show mSeq _ _ _ = _
          rw [mSeq_x, hset]
          simp only [Res.bind_ok, seqR_n, mIfS_x]
          have ht : mTest (mOp pIs (mBor 5) (mDat (mC (.dat .none)))) ⟨rfE fs t (.dat (wants fs)) acc a (some (.dat (optD (some k)))), st⟩ = .ok false ⟨rfE fs t (.dat (wants fs)) acc a (some (sn k)), st⟩ := by simp [optD]
          rw [ht]
          simp only [Res.bind_ok, Bool.false_eq_true, if_false]
          rw [mSeq_x, hap]
          simp [hx, hfl]
        obtain ⟨s2', a', y5, e⟩ := scan_loop h ht st (n - 1) fu (a + f.o.length) (acc ++ [(a, k)]) (.dat (wants fs)) (some (sn k)) (by omega) (by omega) (.inl rfl) (by simp; omega)
        refine ⟨s2', a', y5, ?_⟩
        rw [wh_t hc hb, e, scan_some h ha hk, ho]
        simp
    · rw [decide_eq_false ha] at hc
      refine ⟨s2, a, x5, ?_⟩
      rw [wh_f hc, scan_end (by omega), List.append_nil]
theorem enum_zip : ∀ (fs : List Fx) (n : Nat), enumD n (fs.map Fx.dat) = (fs.zipIdx n).map fun p => .tuple [nd p.2, p.1.dat]
  | [], _ => rfl
  | f :: r, n => by
    show PyData.tuple [.int (n : Nat), f.dat] :: enumD (n + 1) (r.map Fx.dat) = _
    rw [enum_zip r (n + 1)]
    rfl
theorem want_comp {fs : List Fx} (h : BOk fs) {t : List Nat} (st : SrcSt) : mComp [5, 6] (.tp [5, 6]) (mEnum (mVar 0)) mYes (mTup (mArgs [(mVar 5), (mCall F_looked_for (mArgs [(mVar 6)])), (mCal fLen (mBs [(mDat (mOp pIxA (mBor 6) (mDat (mC (.dat (.int 0))))))]))])) ⟨[some (.dat (bookD fs)), some (sd t), none, none, none, none, none], st⟩ = .ok (wants fs) ⟨[some (.dat (bookD fs)), some (sd t), none, none, none, none, none], st⟩ := by
  refine r_comp1 (l := fs.zipIdx.map fun p => .tuple [nd p.2, p.1.dat]) ?_ (by have := h.2; simp; omega) ?_
  · simp [enum_zip]
  · refine comp_all (fun p : Fx × Nat => PyData.tuple [nd p.2, p.1.dat]) wantD fs.zipIdx fun p hp => ?_
    have hok := zip_ok h p hp
    have hl := looked_for_at hok st
    have hfl : fLen [dt p.1.a] = some (nd p.1.a.length) := fLen_txt (by have := hok.la; omega)
    refine ⟨⟨[some (.dat (bookD fs)), some (sd t), none, none, none, some (sn p.2), some (.dat p.1.dat)], st⟩, ⟨[some (.dat (bookD fs)), some (sd t), none, none, none, some (sn p.2), some (.dat p.1.dat)], st⟩, ?_, ?_, rfl⟩
    · show mTgt (.tp [5, 6]) (.tuple [nd p.2, p.1.dat]) ⟨[some (.dat (bookD fs)), some (sd t), none, none, none, none, none], st⟩ = _
      unfold mTgt
      simp [setE]
    · simp [hl, hfl, wantD]
theorem round_findings_at {fs : List Fx} {t : List Nat} (h : BOk fs) (ht : t.length ≤ 100000) (st : SrcSt) : F_round_findings [.dat (bookD fs), sd t] st = .ok (.own (.list ((takenS fs t).map pr))) st := by
  refine call_of (env := [some (.dat (bookD fs)), some (sd t), none, none, none, none, none]) rfl ?_
  obtain ⟨s2', a', y5, e⟩ := scan_loop h ht st t.length fuel 0 [] (.own (wants fs)) none (by omega) (by unfold fuel; omega) (.inr rfl) (by simp; omega)
  rw [List.nil_append, scan_taken] at e
  have hw := want_comp h (t := t) st
  unfold m_round_findings
  rw [mSeq_x, mSetN_x, hw]
  simp only [Res.bind_ok, sNo_2, seqR_n]
  have e0 : mSeq (mSetN 3 (mLst (mArgs []))) (mSeq (mSet 4 (mC (.dat (.int 0)))) (mSeq (whileN rfC rfB fuel) (mRetV 3))) ⟨[some (.dat (bookD fs)), some (sd t), some (.own (wants fs)), none, none, none, none], st⟩ = (mSeq (whileN rfC rfB fuel) (mRetV 3)) ⟨rfE fs t (.own (wants fs)) [] 0 none, st⟩ := by
    simp [rfE]
    rfl
  refine (congrArg callR e0).trans ?_
  rw [mSeq_x, e]
  simp
theorem taken_at {fs : List Fx} {t : List Nat} (h : BOk fs) (ht : TOk t) (st : SrcSt) : F_taken [.dat (bookD fs), sd t] st = .ok (.own (.list ((takenS fs t).map pr))) st := by
  refine call_of (env := [some (.dat (bookD fs)), some (sd t)]) rfl ?_
  have := ht.2
  simp [m_taken, check_bt_at h ht, round_findings_at h (show t.length ≤ 100000 by omega)]
theorem findings_at {fs : List Fx} {t : List Nat} (h : BOk fs) (ht : TOk t) (st : SrcSt) : F_findings [.dat (bookD fs), sd t] st = .ok (.own (.list ((findsS fs t).map pr))) st := by
  refine call_of (env := [some (.dat (bookD fs)), some (sd t)]) rfl ?_
  have := ht.2
  simp [m_findings, check_bt_at h ht, all_findings_at h (show t.length ≤ 100000 by omega)]
/-! ### put in -/
def pcs (fs : List Fx) (t : List Nat) : Nat → List (Nat × Nat) → List (List Nat)
  | _, [] => []
  | a, p :: r => ((t.drop a).take (p.1 - a) ++ fxN fs p.2) :: pcs fs t (p.1 + (fxO fs p.2).length) r
def pend (fs : List Fx) : Nat → List (Nat × Nat) → Nat
  | a, [] => a
  | _, p :: r => pend fs (p.1 + (fxO fs p.2).length) r
theorem putL_pcs (fs : List Fx) (t : List Nat) : ∀ (l : List (Nat × Nat)) (a : Nat), putL fs t a l = (pcs fs t a l).flatten ++ t.drop (pend fs a l)
  | [], a => by simp [putL, pcs, pend]
  | p :: r, a => by
    unfold putL pcs pend
    rw [putL_pcs fs t r, List.flatten_cons, List.append_assoc, List.append_assoc, List.append_assoc]
theorem pcs_len (fs : List Fx) (t : List Nat) : ∀ (l : List (Nat × Nat)) (a : Nat), (pcs fs t a l).length = l.length
  | [], a => rfl
  | p :: r, a => by unfold pcs; rw [List.length_cons, List.length_cons, pcs_len fs t r]
abbrev piE (fs : List Fx) (t : List Nat) (s2 : Option Sl) (acc : List (List Nat)) (a : Nat) (x5 x6 : Option Sl) : List (Option Sl) := [some (.dat (bookD fs)), some (sd t), s2, some (.own (.list (acc.map dt))), some (sn a), x5, x6]
@[simp] theorem tgt_pr5 {p : Nat × Nat} {x0 x1 x2 x3 x4 a b : Option Sl} {r : List (Option Sl)} {st : SrcSt} : mTgt (.tp [5, 6]) (pr p) ⟨x0 :: x1 :: x2 :: x3 :: x4 :: a :: b :: r, st⟩ = some ⟨x0 :: x1 :: x2 :: x3 :: x4 :: some (sn p.1) :: some (sn p.2) :: r, st⟩ := by
  unfold mTgt pr
  simp [setE]
theorem pput_loop {fs : List Fx} {t : List Nat} (h : BOk fs) (ht : t.length ≤ 100000) (st : SrcSt) {s2 : Option Sl} : ∀ (l : List (Nat × Nat)) (acc : List (List Nat)) (a : Nat) (x5 x6 : Option Sl), (∀ p ∈ l, ∃ f, fs[p.2]? = some f) → acc.length + l.length ≤ 900000 →
    ∃ y5 y6, forL (.tp [5, 6]) (mSeq (mApp 3 (mOp pAdd (mDat (mCut (mBor 1) (some (mBor 4)) (some (mBor 5)))) (mDat (mOp pIxA (mDat (mOp pIxA (mBor 0) (mBor 6))) (mDat (mC (.dat (.int 2))))))))
  (mSet 4 (mOp pAdd (mBor 5) (mDat (mCal fLen (mBs [(mDat (mOp pIxA (mDat (mOp pIxA (mBor 0) (mBor 6))) (mDat (mC (.dat (.int 1))))))])))))) (l.map pr) ⟨piE fs t s2 acc a x5 x6, st⟩ = .ok .next ⟨piE fs t s2 (acc ++ pcs fs t a l) (pend fs a l) y5 y6, st⟩
  | [], acc, a, x5, x6, _, _ => ⟨x5, x6, by simp [pcs, pend]⟩
  | p :: r, acc, a, x5, x6, hp, hl => by
    obtain ⟨f, hf⟩ := hp p List.mem_cons_self
    have hr : ∀ q ∈ r, ∃ f, fs[q.2]? = some f := fun q hq => hp q (List.mem_cons_of_mem _ hq)
    have ho : fxO fs p.2 = f.o := by unfold fxO; rw [hf]
    have hn : fxN fs p.2 = f.n := by unfold fxN; rw [hf]
    have hok := h.1 f (List.mem_of_getElem? hf)
    have h1 := hok.lo3; have h2 := hok.ln
    have hfl : fLen [dt f.o] = some (nd f.o.length) := fLen_txt (by omega)
    rw [List.length_cons] at hl
    have hi := ix_book hf
    have c1 : pCut (dt t) (some (a : Int)) (some (p.1 : Int)) = some (dt ((t.drop a).take (p.1 - a))) := by rw [pCut_tx (by omega), cut_tx]
    have a1 : pAdd (dt ((t.drop a).take (p.1 - a))) (dt f.n) = some (dt ((t.drop a).take (p.1 - a) ++ f.n)) := pAdd_tx (by rw [List.length_take, List.length_drop]; omega)
    have hap : mApp 3 (mOp pAdd (mDat (mCut (mBor 1) (some (mBor 4)) (some (mBor 5)))) (mDat (mOp pIxA (mDat (mOp pIxA (mBor 0) (mBor 6))) (mDat (mC (.dat (.int 2))))))) ⟨piE fs t s2 acc a (some (sn p.1)) (some (sn p.2)), st⟩ = .ok .next ⟨piE fs t s2 (acc ++ [(t.drop a).take (p.1 - a) ++ f.n]) a (some (sn p.1)) (some (sn p.2)), st⟩ := by
      rw [app_x (env' := piE fs t s2 acc a (some (sn p.1)) (some (sn p.2))) (st' := st) (d := dt ((t.drop a).take (p.1 - a) ++ f.n)) (l := acc.map dt) rfl (by simp [c1, hi, a1]) rfl (by rw [List.length_map]; omega)]
      simp
    obtain ⟨y5, y6, e⟩ := pput_loop h ht st (s2 := s2) r (acc ++ [(t.drop a).take (p.1 - a) ++ f.n]) (p.1 + f.o.length) (some (sn p.1)) (some (sn p.2)) hr (by simp; omega)
    refine ⟨y5, y6, ?_⟩
    have e2 : acc ++ pcs fs t a (p :: r) = acc ++ [(t.drop a).take (p.1 - a) ++ f.n] ++ pcs fs t (p.1 + f.o.length) r := by
      conv => lhs; unfold pcs
      rw [ho, hn]; simp
    have e3 : pend fs a (p :: r) = pend fs (p.1 + f.o.length) r := by
      conv => lhs; unfold pend
      rw [ho]
    rw [e2, e3]
    refine Eq.trans ?_ e
    rw [List.map_cons, forL_s tgt_pr5, mSeq_x, hap]
    simp [hi, hfl, piE]
    rfl
theorem put_in_at {fs : List Fx} {t : List Nat} {lot : List (Nat × Nat)} (h : BOk fs) (ht : t.length ≤ 100000) (hl : Lot fs t 0 lot) (hn : lot.length ≤ 500000) (st : SrcSt) : F_put_in [.dat (bookD fs), sd t, .dat (.list (lot.map pr))] st = .ok (sd (putL fs t 0 lot)) st := by
  obtain ⟨y5, y6, e⟩ := pput_loop h ht st (s2 := some (.dat (.list (lot.map pr)))) lot [] 0 none none hl.mem (by simp; omega)
  have hp := putL_len h (t := t) lot 0 (Nat.zero_le _) hl
  rw [putL_pcs] at hp ⊢
  rw [List.length_append] at hp
  rw [List.nil_append] at e
  refine call_of (env := [some (.dat (bookD fs)), some (sd t), some (.dat (.list (lot.map pr))), none, none, none, none]) rfl ?_
  have hj := join0 (ls := pcs fs t 0 lot) (by rw [pcs_len]; omega)
  have hc : pCut (dt t) (some (pend fs 0 lot : Int)) none = some (dt (t.drop (pend fs 0 lot))) := by rw [pCut_tx (by omega), cut_from]
  have ha : pAdd (dt (pcs fs t 0 lot).flatten) (dt (t.drop (pend fs 0 lot))) = some (dt ((pcs fs t 0 lot).flatten ++ t.drop (pend fs 0 lot))) := pAdd_tx (by omega)
  have e' := e
  simp only [piE, List.map_nil] at e'
  rw [show sn 0 = .dat (.int 0) from rfl] at e'
  unfold m_put_in
  simp [e', lit_nil, hj, hc, ha]
theorem mended_at {fs : List Fx} {t : List Nat} (h : BOk fs) (ht : t.length ≤ 100000) (st : SrcSt) : F_mended [.dat (bookD fs), sd t] st = .ok (sd (roundS fs t)) st := by
  have hlen := findsS_len fs t
  have h3 : fs.length * t.length ≤ 5 * t.length := Nat.mul_le_mul_right _ h.2
  have h4 := takeG_len fs 0 (findsS fs t)
  have hp := put_in_at h ht (takenS_lot h t) (by unfold takenS; omega) st
  rw [roundS_eq h]
  refine call_of (env := [some (.dat (bookD fs)), some (sd t)]) rfl ?_
  simp [m_mended, round_findings_at h ht, hp]
theorem one_round_at {fs : List Fx} {t : List Nat} (h : BOk fs) (ht : TOk t) (st : SrcSt) : F_one_round [.dat (bookD fs), sd t] st = .ok (sd (roundS fs t)) st := by
  have := ht.2
  refine call_of (env := [some (.dat (bookD fs)), some (sd t)]) rfl ?_
  simp [m_one_round, check_bt_at h ht, mended_at h (show t.length ≤ 100000 by omega)]
theorem mended_wb_at {fs : List Fx} {t : List Nat} (h : BOk fs) (ht : t.length ≤ 100000) (hr : (roundS fs t).length ≤ 10000) (st : SrcSt) : F_mended_within_bounds [.dat (bookD fs), sd t] st = .ok (sd (roundS fs t)) st := by
  have hl : fLen [dt (roundS fs t)] = some (nd (roundS fs t).length) := fLen_txt (by omega)
  refine call_of (env := [some (.dat (bookD fs)), some (sd t), none]) rfl ?_
  simp [m_mended_within_bounds, mended_at h ht, hl, show ¬ (10000 : Int) < ((roundS fs t).length : Int) by omega]
theorem mended_wb_exc {fs : List Fx} {t : List Nat} (h : BOk fs) (ht : t.length ≤ 100000) (hr : 10000 < (roundS fs t).length) (st : SrcSt) : F_mended_within_bounds [.dat (bookD fs), sd t] st = .exc ⟨"TooMany", []⟩ st := by
  have h3 := roundS_len h t
  have hl : fLen [dt (roundS fs t)] = some (nd (roundS fs t).length) := fLen_txt (by omega)
  refine call_of (env := [some (.dat (bookD fs)), some (sd t), none]) rfl ?_
  simp [m_mended_within_bounds, mended_at h ht, hl, show (10000 : Int) < ((roundS fs t).length : Int) by omega]
/-! ### rounds, one behind the other -/
def itR (fs : List Fx) (t : List Nat) : Nat → List Nat
  | 0 => t
  | n + 1 => roundS fs (itR fs t n)
def rowS (fs : List Fx) (t : List Nat) (n : Nat) : List (List Nat) := (List.range (n + 1)).map (itR fs t)
theorem rowS_succ (fs : List Fx) (t : List Nat) (n : Nat) : rowS fs t (n + 1) = rowS fs t n ++ [itR fs t (n + 1)] := by
  unfold rowS
  rw [List.range_succ, List.map_append]; rfl
theorem rowS_len (fs : List Fx) (t : List Nat) (n : Nat) : (rowS fs t n).length = n + 1 := by simp [rowS]
theorem atI_last {α : Type} {l : List α} {x : α} : atI (l ++ [x]) (-1) = some x := by
  unfold atI ixN
  rw [if_neg (by omega), if_pos (by rw [List.length_append, List.length_singleton]; omega)]
  have e : ((-1 : Int) + ((l ++ [x]).length : Nat)).toNat = l.length := by rw [List.length_append, List.length_singleton]; omega
  rw [e, Option.bind_some, List.getElem?_append_right (Nat.le_refl _), Nat.sub_self]
  rfl
theorem ix_last {l : List PyData} {x : PyData} : pIxA (.list (l ++ [x])) (.int (-1)) = some x := atI_last
theorem ix_row (fs : List Fx) (t : List Nat) (n : Nat) : pIxA (.list ((rowS fs t n).map dt)) (.int (-1)) = some (dt (itR fs t n)) := by
  unfold rowS
  rw [List.range_succ, List.map_append, List.map_append]
  exact ix_last
abbrev roE (fs : List Fx) (t : List Nat) (s2 : Option Sl) (n : Nat) (x4 : Option Sl) : List (Option Sl) := [some (.dat (bookD fs)), some (sd t), s2, some (.own (.list ((rowS fs t n).map dt))), x4]
theorem rounds_at {fs : List Fx} {t : List Nat} (h : BOk fs) (ht : TOk t) {n : Nat} (hn : n ≤ 100) (hb : ∀ k, k ≤ n → (itR fs t k).length ≤ 10000) (st : SrcSt) : F_rounds [.dat (bookD fs), sd t, sn n] st = .ok (.own (.list ((rowS fs t n).map dt))) st := by
  refine call_of (env := [some (.dat (bookD fs)), some (sd t), some (sn n), none, none]) rfl ?_
  have hc : F_check_number [sn n, .dat (.int 0), .dat (.int 100)] st = .ok (.dat .none) st := check_number_at (x := n) (lo := 0) (hi := 100) st (Nat.zero_le _) hn
  obtain ⟨m', e, x4, rfl⟩ := for_n (t := .nm 4) (b := mApp 3 (mCall F_mended_within_bounds (mArgs [(mVar 0), (mOp pIxA (mBor 3) (mDat (mOp1 pNeg (mDat (mC (.dat (.int 1)))))))])))
    (fun k m => ∃ x4, m = ⟨roE fs t (some (sn n)) k x4, st⟩) n (fun k hk m hm => by
      obtain ⟨x4, rfl⟩ := hm
      refine ⟨⟨roE fs t (some (sn n)) k (some (sn k)), st⟩, ⟨roE fs t (some (sn n)) (k + 1) (some (sn k)), st⟩, rfl, ?_, _, rfl⟩
      have h1 := mended_wb_at (t := itR fs t k) h (by have := hb k (by omega); omega) (hb (k + 1) (by omega)) st
      have hx := ix_row fs t k
      rw [app_x (env' := roE fs t (some (sn n)) k (some (sn k))) (st' := st) (d := dt (roundS fs (itR fs t k))) (l := (rowS fs t k).map dt) rfl (by simp [pNeg, hx, h1]) rfl (by rw [List.length_map, rowS_len]; omega)]
      rw [show roE fs t (some (sn n)) (k + 1) (some (sn k)) = [some (.dat (bookD fs)), some (sd t), some (sn n), some (.own (.list ((rowS fs t (k + 1)).map dt))), some (sn k)] from rfl, rowS_succ]
      simp [itR]) ⟨roE fs t (some (sn n)) 0 none, st⟩ ⟨none, rfl⟩
  have hr : ∀ m : Me, rngR [.int (n : Int)] m = .ok (rngD 0 n) m := fun m => rngR_n (by omega)
  have hl : ∀ m : Me, lstR [.dat (dt t)] m = .ok (.list [dt t]) m := fun m => lstR_of rfl (by simp)
  have e' : forL (.nm 4) (mApp 3 (mCall F_mended_within_bounds (mArgs [(mVar 0), (mOp pIxA (mBor 3) (mDat (mOp1 pNeg (mDat (mC (.dat (.int 1)))))))]))) (rngD 0 n) ⟨[some (.dat (bookD fs)), some (sd t), some (sn n), some (.own (.list [dt t])), none], st⟩ = .ok .next ⟨roE fs t (some (sn n)) n x4, st⟩ := e
  simp [m_rounds, check_bt_at h ht, hc, hl, hr, e']
theorem itR_len {fs : List Fx} (h : BOk fs) (t : List Nat) : ∀ k, (itR fs t k).length ≤ 3 ^ k * t.length
  | 0 => by simp [itR]
  | k + 1 => by
    have h1 := itR_len h t k
    have h2 := roundS_len h (itR fs t k)
    show (roundS fs (itR fs t k)).length ≤ _
    rw [Nat.pow_succ, Nat.mul_comm (3 ^ k) 3, Nat.mul_assoc]
    omega
end PL.RF
namespace PL.RF
open PySem PySem.Spec PyProof.Rows L2
/-! ### readings, for simp -/
section
variable {m m1 m2 : Me} {env : List (Option Sl)} {st : SrcSt} {tab : Str → Option Bool}
def lsR (d : PyData) (m : Me) : Res PyData := match d with
  | .list l => .ok (.list l) m
  | _ => .bad
@[simp] theorem lsR_l {l : List PyData} : lsR (.list l) m = .ok (.list l) m := rfl
@[simp] theorem mLs_x {x : M PyData} : mLs x m = (x m).bind lsR := rfl
noncomputable def rrR (d : PyData) (m : Me) : Res (List PyData) := match d with
  | .int n => if inB n then .ok (rngD 0 n.toNat).reverse m else .bad
  | _ => .bad
@[simp] theorem mRRng_x {x : M PyData} : mRRng x m = (x m).bind rrR := rfl
theorem rrR_n {n : Nat} (h : n ≤ 1000000) : rrR (.int (n : Nat)) m = .ok (rngD 0 n).reverse m := by
  unfold rrR
  exact (if_pos ⟨Int.le_trans (b := 0) (by decide) (Int.natCast_nonneg n), Int.lt_of_le_of_lt (b := 1000000) (by omega) (by decide)⟩).trans (by rw [Int.toNat_natCast])
def isxB (o : Option Bool) (m : Me) : Res Sl := match o with
  | some b => .ok (.dat (.bool b)) m
  | none => .bad
def isxR (tab : Str → Option Bool) (s : Sl) (m : Me) : Res Sl := match s with
  | .exc y => isxB (tab y.cls) m
  | _ => .bad
@[simp] theorem mIsX_x {x : M Sl} : mIsX tab x m = (x m).bind (isxR tab) := by
  unfold mIsX isxR isxB
  congr
@[simp] theorem isxR_e {y : Xn} : isxR tab (.exc y) m = isxB (tab y.cls) m := rfl
@[simp] theorem isxB_s {b : Bool} : isxB (some b) m = .ok (.dat (.bool b)) m := rfl
def isnR (s : Sl) (m : Me) : Res Sl := match s with
  | .exc _ => .ok (.dat (.bool false)) m
  | .dat d => .ok (.dat (.bool (isN d))) m
  | _ => .bad
@[simp] theorem mIsNx_x {x : M Sl} : mIsNx x m = (x m).bind isnR := rfl
@[simp] theorem isnR_e {y : Xn} : isnR (.exc y) m = .ok (.dat (.bool false)) m := rfl
@[simp] theorem isnR_n : isnR (.dat .none) m = .ok (.dat (.bool true)) m := rfl
def truR (d : PyData) (m : Me) : Res Bool := match d with
  | .none => .ok false m
  | .bool b => .ok b m
  | .int i => .ok (i != 0) m
  | .str x => if x.length ≤ sizeLine then .ok (x.length != 0) m else .bad
  | .list l => .ok (!l.isEmpty) m
  | .tuple l => .ok (!l.isEmpty) m
  | _ => .bad
@[simp] theorem mTru_x {x : M PyData} : mTru x m = (x m).bind truR := rfl
@[simp] theorem truR_l {l : List PyData} : truR (.list l) m = .ok (!l.isEmpty) m := rfl
theorem try_ok {i : Nat} {body suite : M Flow} {f : Flow} (h : body m = .ok f m1) : mTry tab i body suite m = .ok f m1 := by
  unfold mTry
  rw [h]
theorem try_exc {i : Nat} {body suite : M Flow} {f : Flow} {x : Xn} {m3 : Me} (h : body m = .exc x m1) (ht : tab x.cls = some true) (hp : putE i (.exc x) m1 = some m2) (hs : suite m2 = .ok f m3) : mTry tab i body suite m = .ok f ⟨m3.env.set i none, m3.st⟩ := by
  unfold mTry
  rw [h]
  simp only [ht, hp, hs, if_true]
theorem put_x {i : Nat} {k : M PyData} {v : M Sl} {z d0 kk d d' : PyData} (hv : mDat v m = .ok z m1) (h1 : m1.env[i]? = some (some (.own d0))) (hk : k m1 = .ok kk m2) (h2 : m2.env[i]? = some (some (.own d))) (hp : pPut d kk z = some d') : mPut i k v m = .ok .next { m2 with env := m2.env.set i (some (.own d')) } := by
  unfold mPut
  simp only [hv, h1, hk, h2, hp, Res.bind_ok]
@[simp] theorem truR_t {l : List PyData} : truR (.tuple l) m = .ok (!l.isEmpty) m := rfl
@[simp] theorem truR_b {b : Bool} : truR (.bool b) m = .ok b m := rfl
@[simp] theorem truR_i {i : Int} : truR (.int i) m = .ok (i != 0) m := rfl
@[simp] theorem truR_n : truR .none m = .ok false m := rfl
def raise2R (x f g : Str) (ss : List Sl) (m1 : Me) : Res Flow := match datsOf ss with
  | some [d, e] => .exc ⟨x, [(g, e), (f, d)]⟩ m1
  | _ => .bad
@[simp] theorem mRaise2_x {x f g : Str} {a : M (List Sl)} : mRaise2 x f g a m = (a m).bind (raise2R x f g) := rfl
@[simp] theorem raise2R_d {x f g : Str} {d e : PyData} : raise2R x f g [.dat d, .dat e] m = .exc ⟨x, [(g, e), (f, d)]⟩ m := rfl
end
end PL.RF
namespace PL.RF
open PySem PySem.Spec PyProof.Rows L2
noncomputable section
def topS (i : Nat) : Stmt := PySem.Challenge.pw_restingfixes_k35_bounds_of_desks.main.body.getD i (.Pass ⟨0, 0, 0, 0⟩)
abbrev sF_check_book : Stmt := topS 13
abbrev sF_check_text : Stmt := topS 14
abbrev sF_is_book : Stmt := topS 15
abbrev sF_is_fix : Stmt := topS 16
abbrev sF_is_word : Stmt := topS 17
abbrev sF_is_number : Stmt := topS 19
abbrev sF_looked_for : Stmt := topS 20
abbrev sF_check_book_and_text : Stmt := topS 22
abbrev sF_round_findings : Stmt := topS 25
abbrev sF_first_at : Stmt := topS 26
abbrev sF_put_in : Stmt := topS 27
abbrev sF_mended : Stmt := topS 28
abbrev sF__law_source : Stmt := topS 32
abbrev sF__law_draw : Stmt := topS 33
abbrev sF__law_pick : Stmt := topS 34
abbrev sF__law_word_of : Stmt := topS 35
abbrev sF__law_long_right : Stmt := topS 36
abbrev sF__law_forty_right : Stmt := topS 37
abbrev sF_law : Stmt := topS 38
abbrev sF_Desk___init__ : Stmt := inClass (topS 30) 0
abbrev sF_Desk_book : Stmt := inClass (topS 30) 1
abbrev sF_Desk_text : Stmt := inClass (topS 30) 2
abbrev sF_Desk___len__ : Stmt := inClass (topS 30) 3
abbrev sF_Desk_put : Stmt := inClass (topS 30) 4
abbrev sF_Desk_strike : Stmt := inClass (topS 30) 5
abbrev sF_Desk_round : Stmt := inClass (topS 30) 7
abbrev sF_Desk_undo : Stmt := inClass (topS 30) 8
abbrev sF_Desk_redo : Stmt := inClass (topS 30) 9
abbrev sF_Desk__take_stand : Stmt := inClass (topS 30) 13
theorem sc_check_book : FnScope ["book"] ["book"] (defScope sF_check_book) := ⟨rfl, rfl, rfl, by decide +kernel, rfl, by decide +kernel, by decide +kernel⟩
theorem sc_check_text : FnScope ["text"] ["text"] (defScope sF_check_text) := ⟨rfl, rfl, rfl, by decide +kernel, rfl, by decide +kernel, by decide +kernel⟩
theorem sc_is_book : FnScope ["value", "fix"] ["value"] (defScope sF_is_book) := ⟨rfl, rfl, rfl, by decide +kernel, rfl, by decide +kernel, by decide +kernel⟩
theorem sc_is_fix : FnScope ["value", "ahead", "old", "new", "behind", "sides"] ["value"] (defScope sF_is_fix) := ⟨rfl, rfl, rfl, by decide +kernel, rfl, by decide +kernel, by decide +kernel⟩
theorem sc_is_word : FnScope ["value", "least", "most", "letter"] ["value", "least", "most"] (defScope sF_is_word) := ⟨rfl, rfl, rfl, by decide +kernel, rfl, by decide +kernel, by decide +kernel⟩
theorem sc_is_number : FnScope ["value", "least", "most"] ["value", "least", "most"] (defScope sF_is_number) := ⟨rfl, rfl, rfl, by decide +kernel, rfl, by decide +kernel, by decide +kernel⟩
theorem sc_looked_for : FnScope ["fix", "ahead", "old", "_", "behind"] ["fix"] (defScope sF_looked_for) := ⟨rfl, rfl, rfl, by decide +kernel, rfl, by decide +kernel, by decide +kernel⟩
theorem sc_check_book_and_text : FnScope ["book", "text"] ["book", "text"] (defScope sF_check_book_and_text) := ⟨rfl, rfl, rfl, by decide +kernel, rfl, by decide +kernel, by decide +kernel⟩
theorem sc_round_findings : FnScope ["book", "text", "wanted", "found", "at", "number", "fix"] ["book", "text"] (defScope sF_round_findings) := ⟨rfl, rfl, rfl, by decide +kernel, rfl, by decide +kernel, by decide +kernel⟩
theorem sc_first_at : FnScope ["wanted", "text", "at", "number", "word", "shift"] ["wanted", "text", "at"] (defScope sF_first_at) := ⟨rfl, rfl, rfl, by decide +kernel, rfl, by decide +kernel, by decide +kernel⟩
theorem sc_put_in : FnScope ["book", "text", "found", "parts", "end", "at", "number"] ["book", "text", "found"] (defScope sF_put_in) := ⟨rfl, rfl, rfl, by decide +kernel, rfl, by decide +kernel, by decide +kernel⟩
theorem sc_mended : FnScope ["book", "text"] ["book", "text"] (defScope sF_mended) := ⟨rfl, rfl, rfl, by decide +kernel, rfl, by decide +kernel, by decide +kernel⟩
theorem sc__law_source : FnScope ["script", "cells", "k"] ["script"] (defScope sF__law_source) := ⟨rfl, rfl, rfl, by decide +kernel, rfl, by decide +kernel, by decide +kernel⟩
theorem sc__law_draw : FnScope ["source", "limit", "cells", "turn", "place", "cell", "number"] ["source", "limit"] (defScope sF__law_draw) := ⟨rfl, rfl, rfl, by decide +kernel, rfl, by decide +kernel, by decide +kernel⟩
theorem sc__law_pick : FnScope ["source", "values"] ["source", "values"] (defScope sF__law_pick) := ⟨rfl, rfl, rfl, by decide +kernel, rfl, by decide +kernel, by decide +kernel⟩
theorem sc__law_word_of : FnScope ["desk", "deed", "caught", "found", "e", "hits"] ["desk", "deed"] (defScope sF__law_word_of) := ⟨rfl, rfl, rfl, by decide +kernel, rfl, by decide +kernel, by decide +kernel⟩
theorem sc__law_long_right : FnScope ["source", "grow", "letters", "many", "text", "desk", "words"] ["source"] (defScope sF__law_long_right) := ⟨rfl, rfl, rfl, by decide +kernel, rfl, by decide +kernel, by decide +kernel⟩
theorem sc__law_forty_right : FnScope ["desk", "k", "kept", "words"] [] (defScope sF__law_forty_right) := ⟨rfl, rfl, rfl, by decide +kernel, rfl, by decide +kernel, by decide +kernel⟩
theorem sc_law : FnScope ["script", "source"] ["script"] (defScope sF_law) := ⟨rfl, rfl, rfl, by decide +kernel, rfl, by decide +kernel, by decide +kernel⟩
theorem sc_Desk___init__ : FnScope ["self", "book", "text"] ["self", "book", "text"] (defScope sF_Desk___init__) := ⟨rfl, rfl, rfl, by decide +kernel, rfl, by decide +kernel, by decide +kernel⟩
theorem sc_Desk_book : FnScope ["self"] ["self"] (defScope sF_Desk_book) := ⟨rfl, rfl, rfl, by decide +kernel, rfl, by decide +kernel, by decide +kernel⟩
theorem sc_Desk_text : FnScope ["self"] ["self"] (defScope sF_Desk_text) := ⟨rfl, rfl, rfl, by decide +kernel, rfl, by decide +kernel, by decide +kernel⟩
theorem sc_Desk___len__ : FnScope ["self"] ["self"] (defScope sF_Desk___len__) := ⟨rfl, rfl, rfl, by decide +kernel, rfl, by decide +kernel, by decide +kernel⟩
theorem sc_Desk_put : FnScope ["self", "at", "word"] ["self", "at", "word"] (defScope sF_Desk_put) := ⟨rfl, rfl, rfl, by decide +kernel, rfl, by decide +kernel, by decide +kernel⟩
theorem sc_Desk_strike : FnScope ["self", "begin", "end"] ["self", "begin", "end"] (defScope sF_Desk_strike) := ⟨rfl, rfl, rfl, by decide +kernel, rfl, by decide +kernel, by decide +kernel⟩
theorem sc_Desk_round : FnScope ["self"] ["self"] (defScope sF_Desk_round) := ⟨rfl, rfl, rfl, by decide +kernel, rfl, by decide +kernel, by decide +kernel⟩
theorem sc_Desk_undo : FnScope ["self"] ["self"] (defScope sF_Desk_undo) := ⟨rfl, rfl, rfl, by decide +kernel, rfl, by decide +kernel, by decide +kernel⟩
theorem sc_Desk_redo : FnScope ["self"] ["self"] (defScope sF_Desk_redo) := ⟨rfl, rfl, rfl, by decide +kernel, rfl, by decide +kernel, by decide +kernel⟩
theorem sc_Desk__take_stand : FnScope ["self", "book", "text"] ["self", "book", "text"] (defScope sF_Desk__take_stand) := ⟨rfl, rfl, rfl, by decide +kernel, rfl, by decide +kernel, by decide +kernel⟩
/-! ### where things stand -/
structure Ads where
  a_check_book : Addr
  fd_check_book : FuncData
  a_check_text : Addr
  fd_check_text : FuncData
  a_is_book : Addr
  fd_is_book : FuncData
  a_is_fix : Addr
  fd_is_fix : FuncData
  a_is_word : Addr
  fd_is_word : FuncData
  a_is_number : Addr
  fd_is_number : FuncData
  a_looked_for : Addr
  fd_looked_for : FuncData
  a_check_book_and_text : Addr
  fd_check_book_and_text : FuncData
  a_round_findings : Addr
  fd_round_findings : FuncData
  a_first_at : Addr
  fd_first_at : FuncData
  a_put_in : Addr
  fd_put_in : FuncData
  a_mended : Addr
  fd_mended : FuncData
  a__law_source : Addr
  fd__law_source : FuncData
  a__law_draw : Addr
  fd__law_draw : FuncData
  a__law_pick : Addr
  fd__law_pick : FuncData
  a__law_word_of : Addr
  fd__law_word_of : FuncData
  a__law_long_right : Addr
  fd__law_long_right : FuncData
  a__law_forty_right : Addr
  fd__law_forty_right : FuncData
  a_law : Addr
  fd_law : FuncData
  a_Desk___init__ : Addr
  fd_Desk___init__ : FuncData
  a_Desk_book : Addr
  fd_Desk_book : FuncData
  a_Desk_text : Addr
  fd_Desk_text : FuncData
  a_Desk___len__ : Addr
  fd_Desk___len__ : FuncData
  a_Desk_put : Addr
  fd_Desk_put : FuncData
  a_Desk_strike : Addr
  fd_Desk_strike : FuncData
  a_Desk_round : Addr
  fd_Desk_round : FuncData
  a_Desk_undo : Addr
  fd_Desk_undo : FuncData
  a_Desk_redo : Addr
  fd_Desk_redo : FuncData
  a_Desk__take_stand : Addr
  fd_Desk__take_stand : FuncData
  C_InvalidWord : Addr
  C_InvalidBook : Addr
  C_TooMany : Addr
  C_InvalidPlace : Addr
  C_NothingToUndo : Addr
  C_NothingToRedo : Addr
  C_FixError : Addr
  C_Desk : Addr
  p_Desk_book : Addr
  p_Desk_text : Addr
structure Txt (K : PySem.W.Frag) (mg : Str → Option Value) (A : Ads) : Prop where
  F_check_book : Fun K "check_book" "check_book" sF_check_book A.a_check_book A.fd_check_book
  B_check_book : Binds K A.fd_check_book ["book"] []
  G_check_book : mg "check_book" = some (.ref A.a_check_book)
  F_check_text : Fun K "check_text" "check_text" sF_check_text A.a_check_text A.fd_check_text
  B_check_text : Binds K A.fd_check_text ["text"] []
  G_check_text : mg "check_text" = some (.ref A.a_check_text)
  F_is_book : Fun K "is_book" "is_book" sF_is_book A.a_is_book A.fd_is_book
  B_is_book : Binds K A.fd_is_book ["value"] []
  G_is_book : mg "is_book" = some (.ref A.a_is_book)
  F_is_fix : Fun K "is_fix" "is_fix" sF_is_fix A.a_is_fix A.fd_is_fix
  B_is_fix : Binds K A.fd_is_fix ["value"] []
  G_is_fix : mg "is_fix" = some (.ref A.a_is_fix)
  F_is_word : Fun K "is_word" "is_word" sF_is_word A.a_is_word A.fd_is_word
  B_is_word : Binds K A.fd_is_word ["value", "least", "most"] []
  G_is_word : mg "is_word" = some (.ref A.a_is_word)
  F_is_number : Fun K "is_number" "is_number" sF_is_number A.a_is_number A.fd_is_number
  B_is_number : Binds K A.fd_is_number ["value", "least", "most"] []
  G_is_number : mg "is_number" = some (.ref A.a_is_number)
  F_looked_for : Fun K "looked_for" "looked_for" sF_looked_for A.a_looked_for A.fd_looked_for
  B_looked_for : Binds K A.fd_looked_for ["fix"] []
  G_looked_for : mg "looked_for" = some (.ref A.a_looked_for)
  F_check_book_and_text : Fun K "check_book_and_text" "check_book_and_text" sF_check_book_and_text A.a_check_book_and_text A.fd_check_book_and_text
  B_check_book_and_text : Binds K A.fd_check_book_and_text ["book", "text"] []
  G_check_book_and_text : mg "check_book_and_text" = some (.ref A.a_check_book_and_text)
  F_round_findings : Fun K "round_findings" "round_findings" sF_round_findings A.a_round_findings A.fd_round_findings
  B_round_findings : Binds K A.fd_round_findings ["book", "text"] []
  G_round_findings : mg "round_findings" = some (.ref A.a_round_findings)
  F_first_at : Fun K "first_at" "first_at" sF_first_at A.a_first_at A.fd_first_at
  B_first_at : Binds K A.fd_first_at ["wanted", "text", "at"] []
  G_first_at : mg "first_at" = some (.ref A.a_first_at)
  F_put_in : Fun K "put_in" "put_in" sF_put_in A.a_put_in A.fd_put_in
  B_put_in : Binds K A.fd_put_in ["book", "text", "found"] []
  G_put_in : mg "put_in" = some (.ref A.a_put_in)
  F_mended : Fun K "mended" "mended" sF_mended A.a_mended A.fd_mended
  B_mended : Binds K A.fd_mended ["book", "text"] []
  G_mended : mg "mended" = some (.ref A.a_mended)
  F__law_source : Fun K "_law_source" "_law_source" sF__law_source A.a__law_source A.fd__law_source
  B__law_source : Binds K A.fd__law_source ["script"] []
  G__law_source : mg "_law_source" = some (.ref A.a__law_source)
  F__law_draw : Fun K "_law_draw" "_law_draw" sF__law_draw A.a__law_draw A.fd__law_draw
  B__law_draw : Binds K A.fd__law_draw ["source", "limit"] []
  G__law_draw : mg "_law_draw" = some (.ref A.a__law_draw)
  F__law_pick : Fun K "_law_pick" "_law_pick" sF__law_pick A.a__law_pick A.fd__law_pick
  B__law_pick : Binds K A.fd__law_pick ["source", "values"] []
  G__law_pick : mg "_law_pick" = some (.ref A.a__law_pick)
  F__law_word_of : Fun K "_law_word_of" "_law_word_of" sF__law_word_of A.a__law_word_of A.fd__law_word_of
  B__law_word_of : Binds K A.fd__law_word_of ["desk", "deed"] []
  G__law_word_of : mg "_law_word_of" = some (.ref A.a__law_word_of)
  F__law_long_right : Fun K "_law_long_right" "_law_long_right" sF__law_long_right A.a__law_long_right A.fd__law_long_right
  B__law_long_right : Binds K A.fd__law_long_right ["source"] []
  G__law_long_right : mg "_law_long_right" = some (.ref A.a__law_long_right)
  F__law_forty_right : Fun K "_law_forty_right" "_law_forty_right" sF__law_forty_right A.a__law_forty_right A.fd__law_forty_right
  B__law_forty_right : Binds K A.fd__law_forty_right [] []
  G__law_forty_right : mg "_law_forty_right" = some (.ref A.a__law_forty_right)
  F_law : Fun K "law" "law" sF_law A.a_law A.fd_law
  F_Desk___init__ : Fun K "__init__" "Desk.__init__" sF_Desk___init__ A.a_Desk___init__ A.fd_Desk___init__
  B_Desk___init__ : Binds K A.fd_Desk___init__ ["self", "book", "text"] []
  M_Desk___init__ : Meth K A.C_Desk "__init__" A.a_Desk___init__
  F_Desk_book : Fun K "book" "Desk.book" sF_Desk_book A.a_Desk_book A.fd_Desk_book
  B_Desk_book : Binds K A.fd_Desk_book ["self"] []
  PR_Desk_book : PropOf K A.C_Desk "book" A.p_Desk_book A.a_Desk_book
  F_Desk_text : Fun K "text" "Desk.text" sF_Desk_text A.a_Desk_text A.fd_Desk_text
  B_Desk_text : Binds K A.fd_Desk_text ["self"] []
  PR_Desk_text : PropOf K A.C_Desk "text" A.p_Desk_text A.a_Desk_text
  F_Desk___len__ : Fun K "__len__" "Desk.__len__" sF_Desk___len__ A.a_Desk___len__ A.fd_Desk___len__
  B_Desk___len__ : Binds K A.fd_Desk___len__ ["self"] []
  M_Desk___len__ : Meth K A.C_Desk "__len__" A.a_Desk___len__
  F_Desk_put : Fun K "put" "Desk.put" sF_Desk_put A.a_Desk_put A.fd_Desk_put
  B_Desk_put : Binds K A.fd_Desk_put ["self", "at", "word"] []
  M_Desk_put : Meth K A.C_Desk "put" A.a_Desk_put
  F_Desk_strike : Fun K "strike" "Desk.strike" sF_Desk_strike A.a_Desk_strike A.fd_Desk_strike
  B_Desk_strike : Binds K A.fd_Desk_strike ["self", "begin", "end"] []
  M_Desk_strike : Meth K A.C_Desk "strike" A.a_Desk_strike
  F_Desk_round : Fun K "round" "Desk.round" sF_Desk_round A.a_Desk_round A.fd_Desk_round
  B_Desk_round : Binds K A.fd_Desk_round ["self"] []
  M_Desk_round : Meth K A.C_Desk "round" A.a_Desk_round
  F_Desk_undo : Fun K "undo" "Desk.undo" sF_Desk_undo A.a_Desk_undo A.fd_Desk_undo
  B_Desk_undo : Binds K A.fd_Desk_undo ["self"] []
  M_Desk_undo : Meth K A.C_Desk "undo" A.a_Desk_undo
  F_Desk_redo : Fun K "redo" "Desk.redo" sF_Desk_redo A.a_Desk_redo A.fd_Desk_redo
  B_Desk_redo : Binds K A.fd_Desk_redo ["self"] []
  M_Desk_redo : Meth K A.C_Desk "redo" A.a_Desk_redo
  F_Desk__take_stand : Fun K "_take_stand" "Desk._take_stand" sF_Desk__take_stand A.a_Desk__take_stand A.fd_Desk__take_stand
  B_Desk__take_stand : Binds K A.fd_Desk__take_stand ["self", "book", "text"] []
  M_Desk__take_stand : Meth K A.C_Desk "_take_stand" A.a_Desk__take_stand
  G_Desk : mg "Desk" = some (.ref A.C_Desk)
  DC_Desk : DkC K A.C_Desk
  MK_Desk : Mk K A.C_Desk A.a_Desk___init__
  Z_ValueError : mg "ValueError" = none
  Z_abs : mg "abs" = none
  Z_all : mg "all" = none
  Z_bool : mg "bool" = none
  Z_enumerate : mg "enumerate" = none
  Z_int : mg "int" = none
  Z_isinstance : mg "isinstance" = none
  Z_len : mg "len" = none
  Z_range : mg "range" = none
  Z_str : mg "str" = none
  Z_tuple : mg "tuple" = none
  K_ALPHABET : ∃ t, mg "ALPHABET" = some (.str c_ALPHABET t)
  K_MOST_FIXES : ∃ t, mg "MOST_FIXES" = some (.int 5 t)
  K_MOST_LETTERS : ∃ t, mg "MOST_LETTERS" = some (.int 200 t)
  G_InvalidWord : mg "InvalidWord" = some (.ref A.C_InvalidWord)
  X_InvalidWord : PySem.W.excIn K A.C_InvalidWord [.type "ValueError", .type "Exception", .type "BaseException", .type "object"] "ValueError.__new__" = true
  P_InvalidWord : PySem.W.keepIn K (.ref A.C_InvalidWord) = true
  S_InvalidWord : PySem.W.subIn K (.ref A.C_InvalidWord) (.type "BaseException") = some true
  Y_InvalidWord : PySem.W.typeIn K (.ref A.C_InvalidWord) = some (.type "type")
  G_InvalidBook : mg "InvalidBook" = some (.ref A.C_InvalidBook)
  X_InvalidBook : PySem.W.excIn K A.C_InvalidBook [.type "ValueError", .type "Exception", .type "BaseException", .type "object"] "ValueError.__new__" = true
  P_InvalidBook : PySem.W.keepIn K (.ref A.C_InvalidBook) = true
  S_InvalidBook : PySem.W.subIn K (.ref A.C_InvalidBook) (.type "BaseException") = some true
  Y_InvalidBook : PySem.W.typeIn K (.ref A.C_InvalidBook) = some (.type "type")
  G_TooMany : mg "TooMany" = some (.ref A.C_TooMany)
  X_TooMany : PySem.W.excIn K A.C_TooMany [.type "ValueError", .type "Exception", .type "BaseException", .type "object"] "ValueError.__new__" = true
  P_TooMany : PySem.W.keepIn K (.ref A.C_TooMany) = true
  S_TooMany : PySem.W.subIn K (.ref A.C_TooMany) (.type "BaseException") = some true
  Y_TooMany : PySem.W.typeIn K (.ref A.C_TooMany) = some (.type "type")
  G_InvalidPlace : mg "InvalidPlace" = some (.ref A.C_InvalidPlace)
  X_InvalidPlace : PySem.W.excIn K A.C_InvalidPlace [.type "ValueError", .type "Exception", .type "BaseException", .type "object"] "ValueError.__new__" = true
  P_InvalidPlace : PySem.W.keepIn K (.ref A.C_InvalidPlace) = true
  S_InvalidPlace : PySem.W.subIn K (.ref A.C_InvalidPlace) (.type "BaseException") = some true
  Y_InvalidPlace : PySem.W.typeIn K (.ref A.C_InvalidPlace) = some (.type "type")
  G_NothingToUndo : mg "NothingToUndo" = some (.ref A.C_NothingToUndo)
  X_NothingToUndo : PySem.W.excIn K A.C_NothingToUndo [.type "ValueError", .type "Exception", .type "BaseException", .type "object"] "ValueError.__new__" = true
  P_NothingToUndo : PySem.W.keepIn K (.ref A.C_NothingToUndo) = true
  S_NothingToUndo : PySem.W.subIn K (.ref A.C_NothingToUndo) (.type "BaseException") = some true
  Y_NothingToUndo : PySem.W.typeIn K (.ref A.C_NothingToUndo) = some (.type "type")
  G_NothingToRedo : mg "NothingToRedo" = some (.ref A.C_NothingToRedo)
  X_NothingToRedo : PySem.W.excIn K A.C_NothingToRedo [.type "ValueError", .type "Exception", .type "BaseException", .type "object"] "ValueError.__new__" = true
  P_NothingToRedo : PySem.W.keepIn K (.ref A.C_NothingToRedo) = true
  S_NothingToRedo : PySem.W.subIn K (.ref A.C_NothingToRedo) (.type "BaseException") = some true
  Y_NothingToRedo : PySem.W.typeIn K (.ref A.C_NothingToRedo) = some (.type "type")
  G_FixError : mg "FixError" = some (.ref A.C_FixError)
  HS_FixError : PySem.W.subIn K (.ref A.C_FixError) (.type "BaseException") = some true
  HY_FixError : PySem.W.typeIn K (.ref A.C_FixError) = some (.type "type")
  HD_FixError : PySem.W.hasDictIn K A.C_FixError = true
  SB_InvalidWord_FixError : PySem.W.subIn K (.ref A.C_InvalidWord) (.ref A.C_FixError) = some true
  SB_InvalidBook_FixError : PySem.W.subIn K (.ref A.C_InvalidBook) (.ref A.C_FixError) = some true
  SB_TooMany_FixError : PySem.W.subIn K (.ref A.C_TooMany) (.ref A.C_FixError) = some true
  SB_InvalidPlace_FixError : PySem.W.subIn K (.ref A.C_InvalidPlace) (.ref A.C_FixError) = some true
  SB_NothingToUndo_FixError : PySem.W.subIn K (.ref A.C_NothingToUndo) (.ref A.C_FixError) = some true
  SB_NothingToRedo_FixError : PySem.W.subIn K (.ref A.C_NothingToRedo) (.ref A.C_FixError) = some true
  EC_InvalidWord : ExcC K A.C_InvalidWord
  EC_InvalidBook : ExcC K A.C_InvalidBook
  EC_TooMany : ExcC K A.C_TooMany
  EC_InvalidPlace : ExcC K A.C_InvalidPlace
  EC_NothingToUndo : ExcC K A.C_NothingToUndo
  EC_NothingToRedo : ExcC K A.C_NothingToRedo
  KI_InvalidWord_InvalidPlace : PySem.W.kitOne K (.ref A.C_InvalidWord) (.ref A.C_InvalidPlace) = some false
  KI_InvalidBook_InvalidPlace : PySem.W.kitOne K (.ref A.C_InvalidBook) (.ref A.C_InvalidPlace) = some false
  KI_TooMany_InvalidPlace : PySem.W.kitOne K (.ref A.C_TooMany) (.ref A.C_InvalidPlace) = some false
  KI_InvalidPlace_InvalidPlace : PySem.W.kitOne K (.ref A.C_InvalidPlace) (.ref A.C_InvalidPlace) = some true
  KI_NothingToUndo_InvalidPlace : PySem.W.kitOne K (.ref A.C_NothingToUndo) (.ref A.C_InvalidPlace) = some false
  KI_NothingToRedo_InvalidPlace : PySem.W.kitOne K (.ref A.C_NothingToRedo) (.ref A.C_InvalidPlace) = some false
  KI_InvalidWord_InvalidWord : PySem.W.kitOne K (.ref A.C_InvalidWord) (.ref A.C_InvalidWord) = some true
  KI_InvalidBook_InvalidWord : PySem.W.kitOne K (.ref A.C_InvalidBook) (.ref A.C_InvalidWord) = some false
  KI_TooMany_InvalidWord : PySem.W.kitOne K (.ref A.C_TooMany) (.ref A.C_InvalidWord) = some false
  KI_InvalidPlace_InvalidWord : PySem.W.kitOne K (.ref A.C_InvalidPlace) (.ref A.C_InvalidWord) = some false
  KI_NothingToUndo_InvalidWord : PySem.W.kitOne K (.ref A.C_NothingToUndo) (.ref A.C_InvalidWord) = some false
  KI_NothingToRedo_InvalidWord : PySem.W.kitOne K (.ref A.C_NothingToRedo) (.ref A.C_InvalidWord) = some false
  KI_InvalidWord_NothingToRedo : PySem.W.kitOne K (.ref A.C_InvalidWord) (.ref A.C_NothingToRedo) = some false
  KI_InvalidBook_NothingToRedo : PySem.W.kitOne K (.ref A.C_InvalidBook) (.ref A.C_NothingToRedo) = some false
  KI_TooMany_NothingToRedo : PySem.W.kitOne K (.ref A.C_TooMany) (.ref A.C_NothingToRedo) = some false
  KI_InvalidPlace_NothingToRedo : PySem.W.kitOne K (.ref A.C_InvalidPlace) (.ref A.C_NothingToRedo) = some false
  KI_NothingToUndo_NothingToRedo : PySem.W.kitOne K (.ref A.C_NothingToUndo) (.ref A.C_NothingToRedo) = some false
  KI_NothingToRedo_NothingToRedo : PySem.W.kitOne K (.ref A.C_NothingToRedo) (.ref A.C_NothingToRedo) = some true
  KI_InvalidWord_NothingToUndo : PySem.W.kitOne K (.ref A.C_InvalidWord) (.ref A.C_NothingToUndo) = some false
  KI_InvalidBook_NothingToUndo : PySem.W.kitOne K (.ref A.C_InvalidBook) (.ref A.C_NothingToUndo) = some false
  KI_TooMany_NothingToUndo : PySem.W.kitOne K (.ref A.C_TooMany) (.ref A.C_NothingToUndo) = some false
  KI_InvalidPlace_NothingToUndo : PySem.W.kitOne K (.ref A.C_InvalidPlace) (.ref A.C_NothingToUndo) = some false
  KI_NothingToUndo_NothingToUndo : PySem.W.kitOne K (.ref A.C_NothingToUndo) (.ref A.C_NothingToUndo) = some true
  KI_NothingToRedo_NothingToUndo : PySem.W.kitOne K (.ref A.C_NothingToRedo) (.ref A.C_NothingToUndo) = some false
  KI_InvalidWord_TooMany : PySem.W.kitOne K (.ref A.C_InvalidWord) (.ref A.C_TooMany) = some false
  KI_InvalidBook_TooMany : PySem.W.kitOne K (.ref A.C_InvalidBook) (.ref A.C_TooMany) = some false
  KI_TooMany_TooMany : PySem.W.kitOne K (.ref A.C_TooMany) (.ref A.C_TooMany) = some true
  KI_InvalidPlace_TooMany : PySem.W.kitOne K (.ref A.C_InvalidPlace) (.ref A.C_TooMany) = some false
  KI_NothingToUndo_TooMany : PySem.W.kitOne K (.ref A.C_NothingToUndo) (.ref A.C_TooMany) = some false
  KI_NothingToRedo_TooMany : PySem.W.kitOne K (.ref A.C_NothingToRedo) (.ref A.C_TooMany) = some false
  KI_InvalidWord_ValueError : PySem.W.kitOne K (.ref A.C_InvalidWord) (.type "ValueError") = some true
  KI_InvalidBook_ValueError : PySem.W.kitOne K (.ref A.C_InvalidBook) (.type "ValueError") = some true
  KI_TooMany_ValueError : PySem.W.kitOne K (.ref A.C_TooMany) (.type "ValueError") = some true
  KI_InvalidPlace_ValueError : PySem.W.kitOne K (.ref A.C_InvalidPlace) (.type "ValueError") = some true
  KI_NothingToUndo_ValueError : PySem.W.kitOne K (.ref A.C_NothingToUndo) (.type "ValueError") = some true
  KI_NothingToRedo_ValueError : PySem.W.kitOne K (.ref A.C_NothingToRedo) (.type "ValueError") = some true
def txn_FixError (n : Str) : Option Bool := if n = "InvalidWord" then some true else if n = "InvalidBook" then some true else if n = "TooMany" then some true else if n = "InvalidPlace" then some true else if n = "NothingToUndo" then some true else if n = "NothingToRedo" then some true else none
theorem tx_FixError {X : Cx} {K : PySem.W.Frag} {mg : Str → Option Value} {A : Ads} (T : Txt K mg A) (hK : X.K = K := by rfl) (hm : X.mg = mg := by rfl) : TabX X txn_FixError (.ref A.C_FixError) := by
  subst hK; subst hm
  intro n C hC ht
  unfold txn_FixError at ht
  refine PL.ite_or ht (fun e ht => ?_) (fun ht => ?_)
  · subst e
    have e2 := T.G_InvalidWord.symm.trans hC
    cases e2
    exact PySem.W.exm_ref T.HS_FixError T.HD_FixError T.HY_FixError T.SB_InvalidWord_FixError
  refine PL.ite_or ht (fun e ht => ?_) (fun ht => ?_)
  · subst e
    have e2 := T.G_InvalidBook.symm.trans hC
    cases e2
    exact PySem.W.exm_ref T.HS_FixError T.HD_FixError T.HY_FixError T.SB_InvalidBook_FixError
  refine PL.ite_or ht (fun e ht => ?_) (fun ht => ?_)
  · subst e
    have e2 := T.G_TooMany.symm.trans hC
    cases e2
    exact PySem.W.exm_ref T.HS_FixError T.HD_FixError T.HY_FixError T.SB_TooMany_FixError
  refine PL.ite_or ht (fun e ht => ?_) (fun ht => ?_)
  · subst e
    have e2 := T.G_InvalidPlace.symm.trans hC
    cases e2
    exact PySem.W.exm_ref T.HS_FixError T.HD_FixError T.HY_FixError T.SB_InvalidPlace_FixError
  refine PL.ite_or ht (fun e ht => ?_) (fun ht => ?_)
  · subst e
    have e2 := T.G_NothingToUndo.symm.trans hC
    cases e2
    exact PySem.W.exm_ref T.HS_FixError T.HD_FixError T.HY_FixError T.SB_NothingToUndo_FixError
  refine PL.ite_or ht (fun e ht => ?_) (fun ht => ?_)
  · subst e
    have e2 := T.G_NothingToRedo.symm.trans hC
    cases e2
    exact PySem.W.exm_ref T.HS_FixError T.HD_FixError T.HY_FixError T.SB_NothingToRedo_FixError
  cases ht
def tin_InvalidPlace (n : Str) : Option Bool := if n = "InvalidWord" then some false else if n = "InvalidBook" then some false else if n = "TooMany" then some false else if n = "InvalidPlace" then some true else if n = "NothingToUndo" then some false else if n = "NothingToRedo" then some false else none
theorem ti_InvalidPlace {X : Cx} {K : PySem.W.Frag} {mg : Str → Option Value} {A : Ads} (T : Txt K mg A) (hK : X.K = K := by rfl) (hm : X.mg = mg := by rfl) : TabI X tin_InvalidPlace (.ref A.C_InvalidPlace) := by
  subst hK; subst hm
  intro n C b hC ht
  unfold tin_InvalidPlace at ht
  refine PL.ite_or ht (fun e ht => ?_) (fun ht => ?_)
  · subst e
    have e2 := T.G_InvalidWord.symm.trans hC
    cases e2
    cases ht
    exact ⟨T.EC_InvalidWord, T.KI_InvalidWord_InvalidPlace⟩
  refine PL.ite_or ht (fun e ht => ?_) (fun ht => ?_)
  · subst e
    have e2 := T.G_InvalidBook.symm.trans hC
    cases e2
    cases ht
    exact ⟨T.EC_InvalidBook, T.KI_InvalidBook_InvalidPlace⟩
  refine PL.ite_or ht (fun e ht => ?_) (fun ht => ?_)
  · subst e
    have e2 := T.G_TooMany.symm.trans hC
    cases e2
    cases ht
    exact ⟨T.EC_TooMany, T.KI_TooMany_InvalidPlace⟩
  refine PL.ite_or ht (fun e ht => ?_) (fun ht => ?_)
  · subst e
    have e2 := T.G_InvalidPlace.symm.trans hC
    cases e2
    cases ht
    exact ⟨T.EC_InvalidPlace, T.KI_InvalidPlace_InvalidPlace⟩
  refine PL.ite_or ht (fun e ht => ?_) (fun ht => ?_)
  · subst e
    have e2 := T.G_NothingToUndo.symm.trans hC
    cases e2
    cases ht
    exact ⟨T.EC_NothingToUndo, T.KI_NothingToUndo_InvalidPlace⟩
  refine PL.ite_or ht (fun e ht => ?_) (fun ht => ?_)
  · subst e
    have e2 := T.G_NothingToRedo.symm.trans hC
    cases e2
    cases ht
    exact ⟨T.EC_NothingToRedo, T.KI_NothingToRedo_InvalidPlace⟩
  cases ht
def tin_InvalidWord (n : Str) : Option Bool := if n = "InvalidWord" then some true else if n = "InvalidBook" then some false else if n = "TooMany" then some false else if n = "InvalidPlace" then some false else if n = "NothingToUndo" then some false else if n = "NothingToRedo" then some false else none
theorem ti_InvalidWord {X : Cx} {K : PySem.W.Frag} {mg : Str → Option Value} {A : Ads} (T : Txt K mg A) (hK : X.K = K := by rfl) (hm : X.mg = mg := by rfl) : TabI X tin_InvalidWord (.ref A.C_InvalidWord) := by
  subst hK; subst hm
  intro n C b hC ht
  unfold tin_InvalidWord at ht
  refine PL.ite_or ht (fun e ht => ?_) (fun ht => ?_)
  · subst e
    have e2 := T.G_InvalidWord.symm.trans hC
    cases e2
    cases ht
    exact ⟨T.EC_InvalidWord, T.KI_InvalidWord_InvalidWord⟩
  refine PL.ite_or ht (fun e ht => ?_) (fun ht => ?_)
  · subst e
    have e2 := T.G_InvalidBook.symm.trans hC
    cases e2
    cases ht
    exact ⟨T.EC_InvalidBook, T.KI_InvalidBook_InvalidWord⟩
  refine PL.ite_or ht (fun e ht => ?_) (fun ht => ?_)
  · subst e
    have e2 := T.G_TooMany.symm.trans hC
    cases e2
    cases ht
    exact ⟨T.EC_TooMany, T.KI_TooMany_InvalidWord⟩
  refine PL.ite_or ht (fun e ht => ?_) (fun ht => ?_)
  · subst e
    have e2 := T.G_InvalidPlace.symm.trans hC
    cases e2
    cases ht
    exact ⟨T.EC_InvalidPlace, T.KI_InvalidPlace_InvalidWord⟩
  refine PL.ite_or ht (fun e ht => ?_) (fun ht => ?_)
  · subst e
    have e2 := T.G_NothingToUndo.symm.trans hC
    cases e2
    cases ht
    exact ⟨T.EC_NothingToUndo, T.KI_NothingToUndo_InvalidWord⟩
  refine PL.ite_or ht (fun e ht => ?_) (fun ht => ?_)
  · subst e
    have e2 := T.G_NothingToRedo.symm.trans hC
    cases e2
    cases ht
    exact ⟨T.EC_NothingToRedo, T.KI_NothingToRedo_InvalidWord⟩
  cases ht
def tin_NothingToRedo (n : Str) : Option Bool := if n = "InvalidWord" then some false else if n = "InvalidBook" then some false else if n = "TooMany" then some false else if n = "InvalidPlace" then some false else if n = "NothingToUndo" then some false else if n = "NothingToRedo" then some true else none
theorem ti_NothingToRedo {X : Cx} {K : PySem.W.Frag} {mg : Str → Option Value} {A : Ads} (T : Txt K mg A) (hK : X.K = K := by rfl) (hm : X.mg = mg := by rfl) : TabI X tin_NothingToRedo (.ref A.C_NothingToRedo) := by
  subst hK; subst hm
  intro n C b hC ht
  unfold tin_NothingToRedo at ht
  refine PL.ite_or ht (fun e ht => ?_) (fun ht => ?_)
  · subst e
    have e2 := T.G_InvalidWord.symm.trans hC
    cases e2
    cases ht
    exact ⟨T.EC_InvalidWord, T.KI_InvalidWord_NothingToRedo⟩
  refine PL.ite_or ht (fun e ht => ?_) (fun ht => ?_)
  · subst e
    have e2 := T.G_InvalidBook.symm.trans hC
    cases e2
    cases ht
    exact ⟨T.EC_InvalidBook, T.KI_InvalidBook_NothingToRedo⟩
  refine PL.ite_or ht (fun e ht => ?_) (fun ht => ?_)
  · subst e
    have e2 := T.G_TooMany.symm.trans hC
    cases e2
    cases ht
    exact ⟨T.EC_TooMany, T.KI_TooMany_NothingToRedo⟩
  refine PL.ite_or ht (fun e ht => ?_) (fun ht => ?_)
  · subst e
    have e2 := T.G_InvalidPlace.symm.trans hC
    cases e2
    cases ht
    exact ⟨T.EC_InvalidPlace, T.KI_InvalidPlace_NothingToRedo⟩
  refine PL.ite_or ht (fun e ht => ?_) (fun ht => ?_)
  · subst e
    have e2 := T.G_NothingToUndo.symm.trans hC
    cases e2
    cases ht
    exact ⟨T.EC_NothingToUndo, T.KI_NothingToUndo_NothingToRedo⟩
  refine PL.ite_or ht (fun e ht => ?_) (fun ht => ?_)
  · subst e
    have e2 := T.G_NothingToRedo.symm.trans hC
    cases e2
    cases ht
    exact ⟨T.EC_NothingToRedo, T.KI_NothingToRedo_NothingToRedo⟩
  cases ht
def tin_NothingToUndo (n : Str) : Option Bool := if n = "InvalidWord" then some false else if n = "InvalidBook" then some false else if n = "TooMany" then some false else if n = "InvalidPlace" then some false else if n = "NothingToUndo" then some true else if n = "NothingToRedo" then some false else none
theorem ti_NothingToUndo {X : Cx} {K : PySem.W.Frag} {mg : Str → Option Value} {A : Ads} (T : Txt K mg A) (hK : X.K = K := by rfl) (hm : X.mg = mg := by rfl) : TabI X tin_NothingToUndo (.ref A.C_NothingToUndo) := by
  subst hK; subst hm
  intro n C b hC ht
  unfold tin_NothingToUndo at ht
  refine PL.ite_or ht (fun e ht => ?_) (fun ht => ?_)
  · subst e
    have e2 := T.G_InvalidWord.symm.trans hC
    cases e2
    cases ht
    exact ⟨T.EC_InvalidWord, T.KI_InvalidWord_NothingToUndo⟩
  refine PL.ite_or ht (fun e ht => ?_) (fun ht => ?_)
  · subst e
    have e2 := T.G_InvalidBook.symm.trans hC
    cases e2
    cases ht
    exact ⟨T.EC_InvalidBook, T.KI_InvalidBook_NothingToUndo⟩
  refine PL.ite_or ht (fun e ht => ?_) (fun ht => ?_)
  · subst e
    have e2 := T.G_TooMany.symm.trans hC
    cases e2
    cases ht
    exact ⟨T.EC_TooMany, T.KI_TooMany_NothingToUndo⟩
  refine PL.ite_or ht (fun e ht => ?_) (fun ht => ?_)
  · subst e
    have e2 := T.G_InvalidPlace.symm.trans hC
    cases e2
    cases ht
    exact ⟨T.EC_InvalidPlace, T.KI_InvalidPlace_NothingToUndo⟩
  refine PL.ite_or ht (fun e ht => ?_) (fun ht => ?_)
  · subst e
    have e2 := T.G_NothingToUndo.symm.trans hC
    cases e2
    cases ht
    exact ⟨T.EC_NothingToUndo, T.KI_NothingToUndo_NothingToUndo⟩
  refine PL.ite_or ht (fun e ht => ?_) (fun ht => ?_)
  · subst e
    have e2 := T.G_NothingToRedo.symm.trans hC
    cases e2
    cases ht
    exact ⟨T.EC_NothingToRedo, T.KI_NothingToRedo_NothingToUndo⟩
  cases ht
def tin_TooMany (n : Str) : Option Bool := if n = "InvalidWord" then some false else if n = "InvalidBook" then some false else if n = "TooMany" then some true else if n = "InvalidPlace" then some false else if n = "NothingToUndo" then some false else if n = "NothingToRedo" then some false else none
theorem ti_TooMany {X : Cx} {K : PySem.W.Frag} {mg : Str → Option Value} {A : Ads} (T : Txt K mg A) (hK : X.K = K := by rfl) (hm : X.mg = mg := by rfl) : TabI X tin_TooMany (.ref A.C_TooMany) := by
  subst hK; subst hm
  intro n C b hC ht
  unfold tin_TooMany at ht
  refine PL.ite_or ht (fun e ht => ?_) (fun ht => ?_)
  · subst e
    have e2 := T.G_InvalidWord.symm.trans hC
    cases e2
    cases ht
    exact ⟨T.EC_InvalidWord, T.KI_InvalidWord_TooMany⟩
  refine PL.ite_or ht (fun e ht => ?_) (fun ht => ?_)
  · subst e
    have e2 := T.G_InvalidBook.symm.trans hC
    cases e2
    cases ht
    exact ⟨T.EC_InvalidBook, T.KI_InvalidBook_TooMany⟩
  refine PL.ite_or ht (fun e ht => ?_) (fun ht => ?_)
  · subst e
    have e2 := T.G_TooMany.symm.trans hC
    cases e2
    cases ht
    exact ⟨T.EC_TooMany, T.KI_TooMany_TooMany⟩
  refine PL.ite_or ht (fun e ht => ?_) (fun ht => ?_)
  · subst e
    have e2 := T.G_InvalidPlace.symm.trans hC
    cases e2
    cases ht
    exact ⟨T.EC_InvalidPlace, T.KI_InvalidPlace_TooMany⟩
  refine PL.ite_or ht (fun e ht => ?_) (fun ht => ?_)
  · subst e
    have e2 := T.G_NothingToUndo.symm.trans hC
    cases e2
    cases ht
    exact ⟨T.EC_NothingToUndo, T.KI_NothingToUndo_TooMany⟩
  refine PL.ite_or ht (fun e ht => ?_) (fun ht => ?_)
  · subst e
    have e2 := T.G_NothingToRedo.symm.trans hC
    cases e2
    cases ht
    exact ⟨T.EC_NothingToRedo, T.KI_NothingToRedo_TooMany⟩
  cases ht
def tin_ValueError (n : Str) : Option Bool := if n = "InvalidWord" then some true else if n = "InvalidBook" then some true else if n = "TooMany" then some true else if n = "InvalidPlace" then some true else if n = "NothingToUndo" then some true else if n = "NothingToRedo" then some true else none
theorem ti_ValueError {X : Cx} {K : PySem.W.Frag} {mg : Str → Option Value} {A : Ads} (T : Txt K mg A) (hK : X.K = K := by rfl) (hm : X.mg = mg := by rfl) : TabI X tin_ValueError (.type "ValueError") := by
  subst hK; subst hm
  intro n C b hC ht
  unfold tin_ValueError at ht
  refine PL.ite_or ht (fun e ht => ?_) (fun ht => ?_)
  · subst e
    have e2 := T.G_InvalidWord.symm.trans hC
    cases e2
    cases ht
    exact ⟨T.EC_InvalidWord, T.KI_InvalidWord_ValueError⟩
  refine PL.ite_or ht (fun e ht => ?_) (fun ht => ?_)
  · subst e
    have e2 := T.G_InvalidBook.symm.trans hC
    cases e2
    cases ht
    exact ⟨T.EC_InvalidBook, T.KI_InvalidBook_ValueError⟩
  refine PL.ite_or ht (fun e ht => ?_) (fun ht => ?_)
  · subst e
    have e2 := T.G_TooMany.symm.trans hC
    cases e2
    cases ht
    exact ⟨T.EC_TooMany, T.KI_TooMany_ValueError⟩
  refine PL.ite_or ht (fun e ht => ?_) (fun ht => ?_)
  · subst e
    have e2 := T.G_InvalidPlace.symm.trans hC
    cases e2
    cases ht
    exact ⟨T.EC_InvalidPlace, T.KI_InvalidPlace_ValueError⟩
  refine PL.ite_or ht (fun e ht => ?_) (fun ht => ?_)
  · subst e
    have e2 := T.G_NothingToUndo.symm.trans hC
    cases e2
    cases ht
    exact ⟨T.EC_NothingToUndo, T.KI_NothingToUndo_ValueError⟩
  refine PL.ite_or ht (fun e ht => ?_) (fun ht => ?_)
  · subst e
    have e2 := T.G_NothingToRedo.symm.trans hC
    cases e2
    cases ht
    exact ⟨T.EC_NothingToRedo, T.KI_NothingToRedo_ValueError⟩
  cases ht
/-! ### the meaning of each def -/
def m__law_pick : M Flow := (mRet (mOp pIxA (mBor 1) (mDat (mCall F__law_draw (mArgs [(mVar 0), (mCal fLen (mBs [(mBor 1)]))])))))
def F__law_pick : List Sl → SrcSt → CRes := callOf 2 m__law_pick
def m_Desk_text : M Flow := (mRet (mOp pIxA (mDat (mDkNow 0)) (mDat (mC (.dat (.int 1))))))
def F_Desk_text : List Sl → SrcSt → CRes := callOf 1 m_Desk_text
def m_Desk___len__ : M Flow := (mRet (mCal fLen (mBs [(mDat (mProp F_Desk_text 0))])))
def F_Desk___len__ : List Sl → SrcSt → CRes := callOf 1 m_Desk___len__
def m_Desk__take_stand : M Flow := (mSeq (mIfS (mTest (mOp pGt (mDat (mCal fLen (mBs [(mBor 2)]))) (mDat (mC (.dat (.int 200)))))) (mRaise ⟨"TooMany", []⟩) mNext)
  (mSeq (mDkDel 0)
  (mSeq (mDkApp 0 (mTup (mArgs [(mVar 1), (mVar 2)])))
  (mDkMv 0 1))))
def F_Desk__take_stand : List Sl → SrcSt → CRes := callOf 3 m_Desk__take_stand
def m_Desk_book : M Flow := (mRet (mOp pIxA (mDat (mDkNow 0)) (mDat (mC (.dat (.int 0))))))
def F_Desk_book : List Sl → SrcSt → CRes := callOf 1 m_Desk_book
def m_Desk_put : M Flow := (mSeq (mIfS (mNot (mTest (mCall F_is_number (mArgs [(mVar 1), (mC (.dat (.int 0))), (mLenO F_Desk___len__ 0)])))) (mRaise ⟨"InvalidPlace", []⟩) mNext)
  (mSeq (mDrop (mCall F_check_text (mArgs [(mVar 2)])))
  (mDrop (mMeth F_Desk__take_stand 0 [(mProp F_Desk_book 0), (mOp pAdd (mDat (mOp pAdd (mDat (mCut (mDat (mProp F_Desk_text 0)) none (some (mBor 1)))) (mBor 2))) (mDat (mCut (mDat (mProp F_Desk_text 0)) (some (mBor 1)) none)))]))))
def F_Desk_put : List Sl → SrcSt → CRes := callOf 3 m_Desk_put
def m_Desk_strike : M Flow := (mSeq (mIfS (mOr (mNot (mTest (mCall F_is_number (mArgs [(mVar 1), (mC (.dat (.int 0))), (mLenO F_Desk___len__ 0)])))) (mNot (mTest (mCall F_is_number (mArgs [(mVar 2), (mVar 1), (mLenO F_Desk___len__ 0)]))))) (mRaise ⟨"InvalidPlace", []⟩) mNext)
  (mDrop (mMeth F_Desk__take_stand 0 [(mProp F_Desk_book 0), (mOp pAdd (mDat (mCut (mDat (mProp F_Desk_text 0)) none (some (mBor 1)))) (mDat (mCut (mDat (mProp F_Desk_text 0)) (some (mBor 2)) none)))])))
def F_Desk_strike : List Sl → SrcSt → CRes := callOf 3 m_Desk_strike
def m_Desk_round : M Flow := (mDrop (mMeth F_Desk__take_stand 0 [(mProp F_Desk_book 0), (mCall F_mended (mArgs [(mProp F_Desk_book 0), (mProp F_Desk_text 0)]))]))
def F_Desk_round : List Sl → SrcSt → CRes := callOf 1 m_Desk_round
def m_Desk_undo : M Flow := (mSeq (mIfS (mTest (mOp pEq (mDat (mDkAt 0)) (mDat (mC (.dat (.int 0)))))) (mRaise ⟨"NothingToUndo", []⟩) mNext)
  (mDkMv 0 (-1)))
def F_Desk_undo : List Sl → SrcSt → CRes := callOf 1 m_Desk_undo
def m_Desk_redo : M Flow := (mSeq (mIfS (mTest (mOp pEq (mDat (mOp pAdd (mDat (mDkAt 0)) (mDat (mC (.dat (.int 1)))))) (mDat (mDkLen 0)))) (mRaise ⟨"NothingToRedo", []⟩) mNext)
  (mDkMv 0 1))
def F_Desk_redo : List Sl → SrcSt → CRes := callOf 1 m_Desk_redo
def m__law_word_of : M Flow := (mSeq (mSet 2 (mC (.dat .none)))
  (mSeq (mSet 3 (mC (.dat (.int 7))))
  (mSeq (mTry txn_FixError 4 (mIfS (mTest (mOp pEq (mDat (mOp pIxA (mBor 1) (mDat (mC (.dat (.int 0)))))) (mDat (mC (.dat (.str "put")))))) (mSet 3 (mMeth F_Desk_put 0 [(mOp pIxA (mBor 1) (mDat (mC (.dat (.int 1))))), (mOp pIxA (mBor 1) (mDat (mC (.dat (.int 2)))))])) (mIfS (mTest (mOp pEq (mDat (mOp pIxA (mBor 1) (mDat (mC (.dat (.int 0)))))) (mDat (mC (.dat (.str "strike")))))) (mSet 3 (mMeth F_Desk_strike 0 [(mOp pIxA (mBor 1) (mDat (mC (.dat (.int 1))))), (mOp pIxA (mBor 1) (mDat (mC (.dat (.int 2)))))])) (mIfS (mTest (mOp pEq (mDat (mOp pIxA (mBor 1) (mDat (mC (.dat (.int 0)))))) (mDat (mC (.dat (.str "round")))))) (mSet 3 (mMeth F_Desk_round 0 [])) (mIfS (mTest (mOp pEq (mDat (mOp pIxA (mBor 1) (mDat (mC (.dat (.int 0)))))) (mDat (mC (.dat (.str "undo")))))) (mSet 3 (mMeth F_Desk_undo 0 [])) (mSet 3 (mMeth F_Desk_redo 0 [])))))) (mSet 2 (mVar 4)))
  (mSeq (mIfS (mTest (mIsNx (mVar 2))) (mRet (mOp pIxA (mDat (mL (mLst (mArgs [(mC (.dat (.str "other"))), (mC (.dat (.str "good")))])))) (mDat (mCal fInt (mBs [(mDat (mOp pIs (mBor 3) (mDat (mC (.dat .none)))))]))))) mNext)
  (mSeq (mSetN 5 (mLst (mArgs [(mIsX tin_InvalidPlace (mVar 2)), (mIsX tin_InvalidWord (mVar 2)), (mIsX tin_TooMany (mVar 2))])))
  (mSeq (mSet 5 (mOp pAdd (mBor 5) (mDat (mL (mLst (mArgs [(mIsX tin_NothingToUndo (mVar 2)), (mIsX tin_NothingToRedo (mVar 2))]))))))
  (mSeq (mIfS (mOr (mTest (mOp (pNot pEq) (mDat (mOp1 (pCnt true) (mBor 5))) (mDat (mC (.dat (.int 1)))))) (mNot (mTest (mIsX tin_ValueError (mVar 2))))) (mRet (mC (.dat (.str "other")))) mNext)
  (mRet (mOp pIxA (mDat (mL (mLst (mArgs [(mC (.dat (.str "place"))), (mC (.dat (.str "word"))), (mC (.dat (.str "many"))), (mC (.dat (.str "undo"))), (mC (.dat (.str "redo")))])))) (mDat (mOp pIndex (mLs (mBor 5)) (mDat (mC (.dat (.bool true)))))))))))))))
def F__law_word_of : List Sl → SrcSt → CRes := callOf 6 m__law_word_of
def m__law_long_right : M Flow := (mSeq (mSet 1 (mTup (mArgs [(mTup (mArgs [(mC (.dat (.str ""))), (mC (.dat (.str "ab"))), (mC (.dat (.str "abc"))), (mC (.dat (.str "")))]))])))
  (mSeq (mSet 2 (mCall F__law_pick (mArgs [(mVar 0), (mL (mLst (mArgs [(mC (.dat (.str "x"))), (mC (.dat (.str "ba"))), (mC (.dat (.str "c")))])))])))
  (mSeq (mFor (.nm 3) (mIt (mL (mLst (mArgs [(mC (.dat (.int 197))), (mC (.dat (.int 198))), (mC (.dat (.int 199))), (mC (.dat (.int 200)))])))) (mSeq (mSet 4 (mOp pAdd (mDat (mCut (mDat (mOp pMul (mBor 2) (mDat (mC (.dat (.int 200)))))) none (some (mDat (mOp pSub (mBor 3) (mDat (mC (.dat (.int 2))))))))) (mDat (mC (.dat (.str "ab"))))))
  (mMk F_check_book_and_text [(mVar 1), (mVar 4)] 5
  (mSeq (mSetN 6 (mLst (mArgs [(mCall F__law_word_of (mArgs [(mVar 5), (mTup (mArgs [(mC (.dat (.str "put"))), (mVar 3), (mOp pMul (mDat (mC (.dat (.str "z")))) (mDat (mOp pSub (mDat (mC (.dat (.int 200)))) (mBor 3))))]))])), (mCall F__law_word_of (mArgs [(mVar 5), (mTup (mArgs [(mC (.dat (.str "put"))), (mC (.dat (.int 0))), (mC (.dat (.str "z")))]))]))])))
  (mSeq (mIfS (mOr (mTest (mOp (pNot pEq) (mBor 6) (mDat (mL (mLst (mArgs [(mC (.dat (.str "good"))), (mC (.dat (.str "many")))])))))) (mTest (mOp (pNot pEq) (mDat (mProp F_Desk_text 5)) (mDat (mOp pAdd (mBor 4) (mDat (mOp pMul (mDat (mC (.dat (.str "z")))) (mDat (mOp pSub (mDat (mC (.dat (.int 200)))) (mBor 3)))))))))) (mRet (mC (.dat (.bool false)))) mNext)
  (mSeq (mSetN 6 (mLst (mArgs [(mCall F__law_word_of (mArgs [(mVar 5), (mTup (mArgs [(mC (.dat (.str "put"))), (mC (.dat (.int 201))), (mC (.dat (.str "z")))]))])), (mCall F__law_word_of (mArgs [(mVar 5), (mTup (mArgs [(mC (.dat (.str "put"))), (mC (.dat (.int 0))), (mC (.dat (.str "Z")))]))]))])))
  (mSeq (mSet 6 (mOp pAdd (mBor 6) (mDat (mL (mLst (mArgs [(mCall F__law_word_of (mArgs [(mVar 5), (mTup (mArgs [(mC (.dat (.str "put"))), (mC (.dat (.int 0))), (mC (.dat (.str "")))]))]))]))))))
  (mSeq (mIfS (mOr (mTest (mOp (pNot pEq) (mBor 6) (mDat (mL (mLst (mArgs [(mC (.dat (.str "place"))), (mC (.dat (.str "word"))), (mC (.dat (.str "good")))])))))) (mTest (mOp (pNot pEq) (mDat (mCall F__law_word_of (mArgs [(mVar 5), (mTup (mArgs [(mC (.dat (.str "redo")))]))]))) (mDat (mC (.dat (.str "redo"))))))) (mRet (mC (.dat (.bool false)))) mNext)
  (mSeq (mIfS (mOr (mTest (mOp (pNot pEq) (mDat (mCall F__law_word_of (mArgs [(mVar 5), (mTup (mArgs [(mC (.dat (.str "put"))), (mC (.dat (.int 0))), (mOp pMul (mDat (mC (.dat (.str "z")))) (mDat (mC (.dat (.int 201)))))]))]))) (mDat (mC (.dat (.str "word")))))) (mTest (mOp (pNot pEq) (mDat (mCall F__law_word_of (mArgs [(mVar 5), (mTup (mArgs [(mC (.dat (.str "put"))), (mC (.dat (.int 0))), (mOp pMul (mDat (mC (.dat (.str "z")))) (mDat (mC (.dat (.int 200)))))]))]))) (mDat (mC (.dat (.str "many"))))))) (mRet (mC (.dat (.bool false)))) mNext)
  (mSeq (mIfS (mOr (mTest (mOp (pNot pEq) (mDat (mCall F__law_word_of (mArgs [(mVar 5), (mTup (mArgs [(mC (.dat (.str "round")))]))]))) (mDat (mC (.dat (.str "many")))))) (mTest (mOp (pNot pEq) (mDat (mLenO F_Desk___len__ 5)) (mDat (mC (.dat (.int 200))))))) (mRet (mC (.dat (.bool false)))) mNext)
  (mSeq (mSetN 6 (mLst (mArgs [(mCall F__law_word_of (mArgs [(mVar 5), (mTup (mArgs [(mC (.dat (.str "undo")))]))])), (mCall F__law_word_of (mArgs [(mVar 5), (mTup (mArgs [(mC (.dat (.str "undo")))]))])), (mCall F__law_word_of (mArgs [(mVar 5), (mTup (mArgs [(mC (.dat (.str "round")))]))]))])))
  (mSeq (mIfS (mTest (mOp (pNot pEq) (mBor 6) (mDat (mL (mLst (mArgs [(mC (.dat (.str "good"))), (mC (.dat (.str "good"))), (mOp pIxA (mDat (mL (mLst (mArgs [(mC (.dat (.str "good"))), (mC (.dat (.str "many")))])))) (mDat (mCal fInt (mBs [(mDat (mOp pGt (mDat (mOp pSCnt (mStr (mBor 4)) (mDat (mC (.dat (.str "ab")))))) (mDat (mOp pSub (mDat (mC (.dat (.int 200)))) (mBor 3)))))]))))])))))) (mRet (mC (.dat (.bool false)))) mNext)
  (mIfS (mTest (mOp (pNot pEq) (mDat (mLenO F_Desk___len__ 5)) (mDat (mOp pIxA (mDat (mL (mLst (mArgs [(mOp pAdd (mBor 3) (mDat (mOp pSCnt (mStr (mBor 4)) (mDat (mC (.dat (.str "ab"))))))), (mVar 3)])))) (mDat (mCal fInt (mBs [(mDat (mOp pEq (mDat (mOp pIxA (mBor 6) (mDat (mC (.dat (.int 2)))))) (mDat (mC (.dat (.str "many"))))))]))))))) (mRet (mC (.dat (.bool false)))) mNext)))))))))))))
  (mRet (mC (.dat (.bool true)))))))
def F__law_long_right : List Sl → SrcSt → CRes := callOf 7 m__law_long_right
def m__law_forty_right : M Flow := (mMk F_check_book_and_text [(mTup (mArgs [])), (mC (.dat (.str "")))] 0
  (mSeq (mFor (.nm 1) (mRng1 (mBs [(mDat (mC (.dat (.int 40))))])) (mDrop (mMeth F_Desk_put 0 [(mOp pFdiv (mBor 1) (mDat (mC (.dat (.int 2))))), (mOp pIxA (mDat (mC (.dat (.str "abcdefgh")))) (mDat (mOp pMod (mBor 1) (mDat (mC (.dat (.int 8)))))))])))
  (mSeq (mSet 2 (mProp F_Desk_text 0))
  (mSeq (mIfS (mOr (mTest (mOp (pNot pEq) (mDat (mCall F__law_word_of (mArgs [(mVar 0), (mTup (mArgs [(mC (.dat (.str "put"))), (mC (.dat (.int 41))), (mC (.dat (.str "a")))]))]))) (mDat (mC (.dat (.str "place")))))) (mTest (mOp (pNot pEq) (mDat (mLenO F_Desk___len__ 0)) (mDat (mC (.dat (.int 40))))))) (mRet (mC (.dat (.bool false)))) mNext)
  (mSeq (mSetN 3 (mComp [1] (.nm 1) (mRng1 (mBs [(mDat (mC (.dat (.int 41))))])) mYes (mCall F__law_word_of (mArgs [(mVar 0), (mTup (mArgs [(mC (.dat (.str "undo")))]))]))))
  (mSeq (mIfS (mOr (mTest (mOp (pNot pEq) (mBor 3) (mDat (mOp pAdd (mDat (mOp pRep (mDat (mL (mLst (mArgs [(mC (.dat (.str "good")))])))) (mDat (mC (.dat (.int 40)))))) (mDat (mL (mLst (mArgs [(mC (.dat (.str "undo")))])))))))) (mTest (mOp (pNot pEq) (mDat (mProp F_Desk_text 0)) (mDat (mC (.dat (.str ""))))))) (mRet (mC (.dat (.bool false)))) mNext)
  (mSeq (mSetN 3 (mComp [1] (.nm 1) (mRng1 (mBs [(mDat (mC (.dat (.int 41))))])) mYes (mCall F__law_word_of (mArgs [(mVar 0), (mTup (mArgs [(mC (.dat (.str "redo")))]))]))))
  (mSeq (mIfS (mOr (mTest (mOp (pNot pEq) (mBor 3) (mDat (mOp pAdd (mDat (mOp pRep (mDat (mL (mLst (mArgs [(mC (.dat (.str "good")))])))) (mDat (mC (.dat (.int 40)))))) (mDat (mL (mLst (mArgs [(mC (.dat (.str "redo")))])))))))) (mTest (mOp (pNot pEq) (mDat (mProp F_Desk_text 0)) (mBor 2)))) (mRet (mC (.dat (.bool false)))) mNext)
  (mSeq (mDrop (mMeth F_Desk_undo 0 []))
  (mSeq (mIfS (mOr (mTest (mOp (pNot pEq) (mDat (mCall F__law_word_of (mArgs [(mVar 0), (mTup (mArgs [(mC (.dat (.str "strike"))), (mC (.dat (.int 3))), (mC (.dat (.int 2)))]))]))) (mDat (mC (.dat (.str "place")))))) (mOr (mTest (mOp (pNot pEq) (mDat (mCall F__law_word_of (mArgs [(mVar 0), (mTup (mArgs [(mC (.dat (.str "redo")))]))]))) (mDat (mC (.dat (.str "good")))))) (mTest (mOp (pNot pEq) (mDat (mProp F_Desk_text 0)) (mBor 2))))) (mRet (mC (.dat (.bool false)))) mNext)
  (mSeq (mSetN 3 (mLst (mArgs [(mCall F__law_word_of (mArgs [(mVar 0), (mTup (mArgs [(mC (.dat (.str "undo")))]))])), (mCall F__law_word_of (mArgs [(mVar 0), (mTup (mArgs [(mC (.dat (.str "strike"))), (mC (.dat (.int 5))), (mC (.dat (.int 5)))]))])), (mCall F__law_word_of (mArgs [(mVar 0), (mTup (mArgs [(mC (.dat (.str "redo")))]))]))])))
  (mSeq (mIfS (mOr (mTest (mOp (pNot pEq) (mBor 3) (mDat (mL (mLst (mArgs [(mC (.dat (.str "good"))), (mC (.dat (.str "good"))), (mC (.dat (.str "redo")))])))))) (mTest (mOp (pNot pEq) (mDat (mLenO F_Desk___len__ 0)) (mDat (mC (.dat (.int 39))))))) (mRet (mC (.dat (.bool false)))) mNext)
  (mRet (mOp pEq (mDat (mL (mComp [1] (.nm 1) (mRng1 (mBs [(mDat (mC (.dat (.int 41))))])) mYes (mCall F__law_word_of (mArgs [(mVar 0), (mTup (mArgs [(mC (.dat (.str "undo")))]))]))))) (mDat (mOp pAdd (mDat (mOp pRep (mDat (mL (mLst (mArgs [(mC (.dat (.str "good")))])))) (mDat (mC (.dat (.int 40)))))) (mDat (mL (mLst (mArgs [(mC (.dat (.str "undo")))]))))))))))))))))))))
def F__law_forty_right : List Sl → SrcSt → CRes := callOf 4 m__law_forty_right
def m_law : M Flow := (mRet (mAndV (mCall F__law_long_right (mArgs [(mVar 1)])) (mCall F__law_forty_right (mArgs []))))
section
variable {P : Program} {w : World} {K : PySem.W.Frag} {mg : Str → Option Value} {base : Heap} {A : Ads}
theorem ok__law_draw (T : Txt K mg A) : FnOk P w K mg base (L2.CX P w) 1 A.a__law_draw A.fd__law_draw ["source", "limit"] (spP ⟨K, P, w⟩ mg 2 drawF) := by
  refine T.F__law_draw.okX sc__law_draw (fun vs H Q E h => ?_) (fun cdv A' outer s H vs Q E hr h => ?_)
  · obtain ⟨_, _, _, _, h, _⟩ := h
    exact h
  · obtain ⟨sc, T0, args, st, hl, hs, al, sr, sv, h⟩ := h
    have hne : drawF args st ≠ .bad := fun z => by rw [z] at h; exact h
    obtain ⟨lim, rfl, ⟨c0, cl, t0, t1⟩, l0, l1⟩ := drawF_shape hne
    obtain ⟨v, u, rfl, hv, hu⟩ := sv.two
    obtain ⟨a, c, es, rfl⟩ := hv.src
    obtain rfl := hu.int
    obtain ⟨cells, turn, bx⟩ := st
    have t0 : 0 ≤ turn := t0
    have t1 : turn < 2 ^ 62 := t1
    have cl : cells.length ≤ 100000 := cl
    have c0 : cells ≠ [] := c0
    obtain ⟨nac, ha, hc⟩ := sr.d a c es
    have hlen : 0 < cells.length := List.length_pos_iff.mpr c0
    have hlenI : (0 : Int) < (cells.length : Int) := by omega
    have hp0 : 0 ≤ turn % (cells.length : Int) := Int.emod_nonneg _ (by omega)
    have hp1 : turn % (cells.length : Int) < (cells.length : Int) := Int.emod_lt_of_pos _ hlenI
    obtain ⟨p, hp⟩ : ∃ p : Nat, turn % (cells.length : Int) = (p : Int) := ⟨(turn % (cells.length : Int)).toNat, by omega⟩
    have hpl : p < cells.length := by omega
    unfold drawF at h
    simp only [hp, Int.toNat_natCast] at h
    rw [if_pos ⟨⟨c0, cl, t0, t1⟩, l0, l1⟩] at h
    have hcell : (cells.map V.int)[p]? = some (.int (cells.getD p 0)) := by
      rw [List.getElem?_map, List.getElem?_eq_getElem hpl, List.getD_eq_getElem?_getD, List.getElem?_eq_getElem hpl]
      rfl
    generalize hcv : cells.getD p 0 = cell at h hcell
    refine ⟨_, pss_cons (ps_asg (pv 0) (pg_unl rfl (pgs_cons (pg_name (i := 2) sc__law_draw.nd rfl (.inl rfl)) (pgs_cons (pg_name (i := 3) sc__law_draw.nd rfl (.inl rfl)) pgs_nil))))
      (pss_cons (ps_set (i := 4) sc__law_draw.nd rfl (.inl rfl) (pe_op op_mod (pe_callTy call_int1 (by rfl) T.Z_int boot_intP (pa_cons (pv 3) pa_nil)) (pe_callB call_len_seq (by rfl) T.Z_len PySem.boot_len (pa_cons (pv 2) pa_nil))))
      (pss_cons (ps_set (i := 5) sc__law_draw.nd rfl (.inl rfl) (pe_ix ix_list (pv 2) (pv 4) (fun _ _ => rfl)))
      (pss_cons (ps_asg (pe_op op_add (pv 3) pe_int) (pg_sub (pv 0) pe_int set_list))
      (pss_cons (ps_if (pt_cmpR op_ge (pv 5) (pe_op op_pow pe_int pe_int) (nomark _))
        (pss_cons (ps_asg (pe_op op_fdiv (pv 5) (pv 1)) (pg_sub (pv 2) (pv 4) set_list))
          (pss_one (ps_ret (pe_op op_mod (pe_callTy call_int1 (by rfl) T.Z_int boot_intP (pa_cons (pv 5) pa_nil)) (pv 1))))) pss_nil)
      (pss_cons (ps_set (i := 6) sc__law_draw.nd rfl (.inl rfl) (pe_op op_mod (pe_callTy call_int1 (by rfl) T.Z_int boot_intP (pa_cons
          (pe_op op_add (pe_op op_add (pe_op op_mul (pe_op op_mod (pe_callTy call_int1 (by rfl) T.Z_int boot_intP (pa_cons (pv 5) pa_nil)) pe_int) pe_int) (pe_op op_mul (pe_op op_mul (pv 3) (pv 3)) pe_int)) pe_int) pa_nil)) pe_int))
      (pss_cons (ps_set (i := 6) sc__law_draw.nd rfl (.inl rfl) (pe_op op_mod (pe_callTy call_int1 (by rfl) T.Z_int boot_intP (pa_cons (pe_op op_mul (pv 6) (pv 6)) pa_nil)) pe_int))
      (pss_cons (ps_set (i := 6) sc__law_draw.nd rfl (.inl rfl) (pe_op op_mod (pe_callTy call_int1 (by rfl) T.Z_int boot_intP (pa_cons (pe_op op_mul (pv 6) (pv 6)) pa_nil)) pe_int))
      (pss_one (ps_ret (pe_op op_mod (pe_callTy call_int1 (by rfl) T.Z_int boot_intP (pa_cons (pv 6) pa_nil)) (pv 1))))))))))), ?_⟩
    -- cells, turn = source
    refine ⟨.ref a, rfl, a, _, rfl, .inl (.inl ha), rfl, .ref c, _, rfl, .int turn, _, rfl, rfl, ?_⟩
    -- place
    refine ⟨.int turn, rfl, .inl ⟨turn, rfl, .ref c, rfl, c, _, rfl, .inl (.inl (.inl hc)), turn, _, rfl, rfl, by rw [List.length_map]; exact hlenI, ?_⟩⟩
    have ep : turn % ((List.map V.int cells).length : Int) = (p : Int) := by rw [List.length_map]; exact hp
    dsimp only
    rw [ep]
    -- cell
    refine ⟨.ref c, rfl, .int p, rfl, c, _, _, _, rfl, rfl, .inl (.inl hc), atI_nat hcell, ?_⟩
    -- source[1] = turn + 1
    refine ⟨.int turn, rfl, turn, 1, rfl, rfl, .ref a, rfl, a, _, 1, 1, rfl, rfl, ha, rfl, ?_⟩
    have hc1 : (L2.upd H a (.lst ([V.ref c, V.int turn].set 1 (.int (turn + 1))))) c = some (.lst (cells.map V.int)) := by rw [upd_ne nac.symm]; exact hc
    -- if
    refine ⟨.int cell, rfl, 10, 18, rfl, rfl, ⟨by decide, by decide, by decide⟩, cell, _, rfl, rfl, _, rfl, ?_⟩
    have e10 : ((10 : Int) ^ (18 : Int).toNat) = 10 ^ 18 := rfl
    rw [e10]
    refine ite2 (fun hb => ?_) (fun hb => ?_)
    · have hb' := of_decide_eq_true hb
      rw [if_pos hb'] at h
      -- cells[place] = cell // limit
      refine ⟨.int cell, rfl, .int lim, rfl, cell, lim, rfl, rfl, ⟨l0, by omega⟩, .ref c, rfl, .int p, rfl, c, _, p, p, rfl, rfl, hc1, by unfold ixN; rw [if_pos (by omega), if_pos (by rw [List.length_map]; omega)]; simp, ?_⟩
      refine ⟨.int cell, rfl, .inl ⟨cell, rfl, .int lim, rfl, cell, lim, rfl, rfl, l0, ?_⟩⟩
      refine h _ _ (fun b o ns hb0 => ?_) (sr.draw es hs (fun b n1 n2 => ?_) nac ?_ ?_) (DD.int _)
      · rw [upd_ne (fun z => ns (.inl ⟨a, c, es, .inr z⟩)), upd_ne (fun z => ns (.inl ⟨a, c, es, .inl z⟩))]
        exact hb0
      · rw [upd_ne n2, upd_ne n1]
      · rw [upd_ne nac, upd_same]; rfl
      · rw [upd_same, List.map_set]
    · have hb' : ¬ 10 ^ 18 ≤ cell := fun z => hb (decide_eq_true z)
      rw [if_neg hb'] at h
      -- number
      have hm1 : ∀ x : Int, 0 ≤ x % 2147483647 ∧ x % 2147483647 < 2147483647 := fun x => ⟨Int.emod_nonneg _ (by decide), Int.emod_lt_of_pos _ (by decide)⟩
      have hm2 : ∀ x : Int, 0 ≤ x % 2147483629 ∧ x % 2147483629 < 2147483629 := fun x => ⟨Int.emod_nonneg _ (by decide), Int.emod_lt_of_pos _ (by decide)⟩
      refine ⟨.int cell, rfl, .inl ⟨cell, rfl, cell, 2147483629, rfl, rfl, (by show (0 : Int) < 2147483629; decide), _, 48271, rfl, rfl, .inr ⟨by decide, by decide⟩, .int turn, rfl, .int turn, rfl, turn, turn, rfl, rfl, .inl ⟨by omega, by omega⟩, _, 69621, rfl, rfl, .inr ⟨by decide, by decide⟩, _, _, rfl, rfl, _, 11, rfl, rfl, .inl ⟨_, rfl, _, 2147483647, rfl, rfl, (by show (0 : Int) < 2147483647; decide), ?_⟩⟩⟩
      obtain ⟨n1, hn1⟩ : ∃ n1 : Int, (cell % 2147483629 * 48271 + turn * turn * 69621 + 11) % 2147483647 = n1 := ⟨_, rfl⟩
      have b1 := hm1 (cell % 2147483629 * 48271 + turn * turn * 69621 + 11)
      rw [hn1] at b1
      dsimp only
      rw [hn1]
      refine ⟨.int n1, rfl, .int n1, rfl, n1, n1, rfl, rfl, .inl ⟨by omega, by omega⟩, .inl ⟨_, rfl, _, 2147483629, rfl, rfl, (by show (0 : Int) < 2147483629; decide), ?_⟩⟩
      obtain ⟨n2, hn2⟩ : ∃ n2 : Int, n1 * n1 % 2147483629 = n2 := ⟨_, rfl⟩
      have b2 := hm2 (n1 * n1)
      rw [hn2] at b2
      dsimp only
      rw [hn2]
      refine ⟨.int n2, rfl, .int n2, rfl, n2, n2, rfl, rfl, .inl ⟨by omega, by omega⟩, .inl ⟨_, rfl, _, 2147483587, rfl, rfl, (by show (0 : Int) < 2147483587; decide), ?_⟩⟩
      refine ⟨_, rfl, .inl ⟨_, rfl, .int lim, rfl, _, lim, rfl, rfl, l0, ?_⟩⟩
      have em : mixD cell turn = n2 * n2 % 2147483587 := by
        unfold mixD
        simp only [hn1, hn2]
      rw [em] at h
      refine h _ _ (fun b o ns hb0 => ?_) (sr.draw es hs (fun b n1 n2 => ?_) nac ?_ ?_) (DD.int _)
      · rw [upd_ne (fun z => ns (.inl ⟨a, c, es, .inl z⟩))]
        exact hb0
      · rw [upd_ne n1]
      · rw [upd_same]; rfl
      · exact hc1

theorem ok__law_source (T : Txt K mg A) : FnOk P w K mg base (L2.CX P w) 1 A.a__law_source A.fd__law_source ["script"] (spSource K) := by
  refine T.F__law_source.okX sc__law_source (fun vs H Q E h => ?_) (fun cdv A' outer s H vs Q E hr h => ?_)
  · obtain ⟨_, _, rfl, _⟩ := h
    rfl
  · obtain ⟨a0, ns, rfl, hS, hn, q⟩ := h
    refine ⟨_, pss_cons (ps_set (i := 1) sc__law_source.nd rfl (.inl rfl) (pe_slice sl_list (pv 0) po_none (po_some pe_int)))
      (pss_cons (ps_for (passes_of rfl) rfl (pi_range1 (by rfl) T.Z_range (pa_cons (pe_callB call_len_seq (by rfl) T.Z_len PySem.boot_len (pa_cons (pv 1) pa_nil)) pa_nil)) (pg_name (i := 2) sc__law_source.nd rfl (.inl rfl))
        (pss_one (ps_if (pt_cmpR op_ge (pe_callB call_abs (by rfl) T.Z_abs (by decide +kernel) (pa_cons (pe_ix ix_list (pv 1) (pv 2) (fun _ _ => rfl)) pa_nil)) (pe_op op_pow pe_int pe_int) (nomark _))
          (pss_one (ps_asg (pe_op op_mod (pe_callTy call_int1 (by rfl) T.Z_int boot_intP (pa_cons (pe_ix ix_list (pv 1) (pv 2) (fun _ _ => rfl)) pa_nil)) (pe_op op_powW (pe_op op_powW pe_int pe_int) pe_int)) (pg_sub (pv 1) (pv 2) set_list))) pss_nil)))
      (pss_cons (ps_if (pt_cmpR (op_eqD hr.units) (pv 1) (pe_lst pa_nil) (nomark _)) (pss_one (ps_set (i := 1) sc__law_source.nd rfl (.inl rfl) (pe_lst (pa_cons pe_int pa_nil)))) pss_nil)
      (pss_one (ps_ret (pe_lst (pa_cons (pv 1) (pa_cons pe_int pa_nil))))))), ?_⟩
    -- cells = script[:63]
    refine ⟨.ref a0, rfl, 63, rfl, a0, _, rfl, hS, fun c hc => ?_⟩
    have ecut : cutV (ns.map V.int) none (some 63) = ns.map V.int := by
      unfold cutV
      have e1 : HT.sIx (ns.map V.int).length 0 none = 0 := rfl
      have e2 : HT.sIx (ns.map V.int).length (ns.map V.int).length (some 63) = (ns.map V.int).length := by
        rw [show (63 : Int) = ((63 : Nat) : Int) from rfl, HT.sIx_nat, List.length_map]
        omega
      rw [e1, e2, List.drop_zero, Nat.sub_zero, List.take_length]
    rw [ecut]
    have hc0 : (L2.upd H c (.lst (ns.map V.int))) c = some (.lst (ns.map V.int)) := upd_same
    -- the loop
    refine ⟨.ref c, rfl, c, _, rfl, .inl (.inl (.inl hc0)), _, rfl, by omega, by rw [List.length_map]; omega, for_range (lo := 0) (n := _) (fun i σ H' => ∃ (cells : List Int) (z : Option V), σ = [some (.ref a0), some (.ref c), z] ∧ cells.length = ns.length ∧ H' = L2.upd H c (.lst (cells.map V.int))) ⟨ns, none, rfl, rfl, rfl⟩ ?_ ?_⟩
    · rintro i σ H' hi ⟨cells, z, rfl, hl, rfl⟩
      have hi' : i < cells.length := by
        rw [hl]
        have e : ((((List.map V.int ns).length : Nat) : Int)).toNat = ns.length := by rw [List.length_map]; omega
        omega
      have hget : (cells.map V.int)[i]? = some (.int cells[i]) := by rw [List.getElem?_map, List.getElem?_eq_getElem hi']; rfl
      have hcc : (L2.upd H c (.lst (cells.map V.int))) c = some (.lst (cells.map V.int)) := upd_same
      have e0 : (0 : Int) + (i : Int) = (i : Int) := Int.zero_add _
      refine ⟨.ref c, rfl, .int (0 + (i : Int)), rfl, c, _, _, _, rfl, rfl, .inl (.inl hcc), by rw [e0]; exact atI_nat hget, _, rfl, 10, 18, rfl, rfl, ⟨by decide, by decide, by decide⟩, _, _, rfl, rfl, _, rfl, ?_⟩
      refine ite2 (fun hb => ?_) (fun hb => ?_)
      · refine ⟨.ref c, rfl, .int (0 + (i : Int)), rfl, c, _, _, _, rfl, rfl, .inl (.inl hcc), by rw [e0]; exact atI_nat hget, .inl ⟨_, rfl, 10, 60, rfl, rfl, ⟨by decide, by decide +kernel⟩, _, 20, rfl, rfl, ⟨by decide, by decide +kernel⟩, _, _, rfl, rfl, (by show (0 : Int) < (10 ^ (60 : Int).toNat) ^ (20 : Int).toNat; decide +kernel), ?_⟩⟩
        refine ⟨.ref c, rfl, .int (0 + (i : Int)), rfl, c, _, _, i, rfl, rfl, hcc, by rw [e0]; unfold ixN; rw [if_pos (by omega), if_pos (by rw [List.length_map]; omega)]; simp, ?_⟩
        refine ⟨cells.set i (cells[i] % (10 ^ (60 : Int).toNat) ^ (20 : Int).toNat), _, rfl, by rw [List.length_set]; exact hl, ?_⟩
        rw [upd_upd, List.map_set]
      · exact ⟨cells, _, rfl, hl, rfl⟩
    · rintro σ H' ⟨cells, z, rfl, hl, rfl⟩
      have hcc : (L2.upd H c (.lst (cells.map V.int))) c = some (.lst (cells.map V.int)) := upd_same
      have sm1 : Same0 H (L2.upd H c (.lst (cells.map V.int))) := Same0.new hc
      -- if cells == []
      refine ⟨.ref c, rfl, Nat.zero_le _, fun e he => ?_⟩
      have hce : (L2.upd (L2.upd H c (.lst (cells.map V.int))) e (.lst [])) c = some (.lst (cells.map V.int)) := Same0.new he c _ hcc
      refine ⟨.list (cells.map PyData.int), .list [], .lst (.inl (.inl hce)) (dp_ints cells), .lst (.inl (.inl upd_same)) .nil, shaped_ints cells, rfl, _, rfl, ?_⟩
      rw [eqv_nil]
      have he0 : H e = none := by
        cases hh : H e with
        | none => rfl
        | some o => rw [sm1 e o hh] at he; cases he
      cases cells with
      | nil =>
        refine ⟨by show 1 ≤ sizeLine; decide, fun c2 hc2 => ?_⟩
        refine ⟨.ref c2, rfl, by show 2 ≤ sizeLine; decide, fun a ha => ?_⟩
        have sm2 : Same0 H (L2.upd (L2.upd H c (.lst [])) e (.lst [])) := fun b o h => Same0.new he b o (sm1 b o h)
        have sm3 : Same0 H (L2.upd (L2.upd (L2.upd H c (.lst [])) e (.lst [])) c2 (.lst [V.int 0])) := fun b o h => Same0.new hc2 b o (sm2 b o h)
        have nac : a ≠ c2 := fun z => by rw [z, upd_same] at ha; cases ha
        have fr : ∀ (G : Hp) (p : Addr), Same0 H G → G p = none → H p = none := fun G p s n => by
          cases hh : H p with
          | none => rfl
          | some o => rw [s p o hh] at n; cases n
        exact q _ a c2 [0] (fun b o h => Same0.new ha b o (sm3 b o h)) (fr _ a sm3 ha) (fr _ c2 sm2 hc2) nac upd_same (by rw [upd_ne nac.symm, upd_same]; rfl) (by decide) (by decide)
      | cons x r =>
        refine ⟨.ref c, rfl, by show 2 ≤ sizeLine; decide, fun a ha => ?_⟩
        have sm2 : Same0 H (L2.upd (L2.upd H c (.lst ((x :: r).map V.int))) e (.lst [])) := fun b o h => Same0.new he b o (sm1 b o h)
        have nac : a ≠ c := fun z => by rw [z, hce] at ha; cases ha
        have ha0 : H a = none := by
          cases hh : H a with
          | none => rfl
          | some o => rw [sm2 a o hh] at ha; cases ha
        exact q _ a c (x :: r) (fun b o h => Same0.new ha b o (sm2 b o h)) ha0 hc nac upd_same (by rw [upd_ne nac.symm]; exact hce) (by simp) (by omega)

theorem ok_is_word (T : Txt K mg A) : FnOk P w K mg base (L2.CX P w) 1 A.a_is_word A.fd_is_word ["value", "least", "most"] (spP ⟨K, P, w⟩ mg 3 F_is_word) :=
  okP (N := ["value", "least", "most", "letter"]) T.F_is_word sc_is_word rfl (by decide) fun cdv A' outer s H E hr => by
  have tk := takes_of (X := cxOf (L2.CX P w) P w K mg base ["value", "least", "most", "letter"] "is_word" (defScope sF_is_word) A.a_is_word cdv A' outer s H E) (E := E) rfl rfl rfl rfl
  exact (ppss_cons (pps_if (ppt_bool (pwt_or (ppt_not (ppt_val (pp_isi (by rfl) T.Z_isinstance (pe_tyN (by rfl) T.Z_str boot_str) (pb_var 0)))) (pwt_or1 (ppt_not (ppt_chain op_le op_le ok_le ok_le (pb_var 1) (pb_of (pp_len (by rfl) T.Z_len (pbs_cons (pb_var 0) pbs_nil))) (pb_var 2)))))) (ppss_one (pps_ret pp_bl)) ppss_nil)
  (ppss_one (pps_ret (pp_all rfl (by rfl) T.Z_all (pbs_cons (pb_of (pp_new (pn_lc (own := [("letter", 3)]) rfl sc_is_word.nd (pit_seq (pp_var 0)) (blkOk_by (N := ["value", "least", "most", "letter"]) (sc := (defScope sF_is_word)) (by decide +kernel)) rfl (by decide) (fun _ _ _ _ _ => (ptg_nm sc_is_word.nd (i := 3) rfl (by first | exact .inl rfl | exact .inr rfl))) (fun _ _ _ _ _ => pts_yes) (fun _ _ _ _ _ => (pp_inA (u65 hr) (pb_var 3) (pb_of (pp_gS (by rfl) T.K_ALPHABET))))))) pbs_nil)))))
theorem ok_is_fix (T : Txt K mg A) (G_is_word : FnOk P w K mg base (L2.CX P w) 1 A.a_is_word A.fd_is_word ["value", "least", "most"] (spP ⟨K, P, w⟩ mg 3 F_is_word)) : FnOk P w K mg base (L2.CX P w) 2 A.a_is_fix A.fd_is_fix ["value"] (spP ⟨K, P, w⟩ mg 1 F_is_fix) :=
  okP (N := ["value", "ahead", "old", "new", "behind", "sides"]) T.F_is_fix sc_is_fix rfl (by decide) fun cdv A' outer s H E hr => by
  have tk := takes_of (X := cxOf (L2.CX P w) P w K mg base ["value", "ahead", "old", "new", "behind", "sides"] "is_fix" (defScope sF_is_fix) A.a_is_fix cdv A' outer s H E) (E := E) rfl rfl rfl rfl
  exact (ppss_cons (pps_if (ppt_bool (pwt_or (ppt_not (ppt_val (pp_isi (by rfl) T.Z_isinstance (pe_tyN (by rfl) T.Z_tuple boot_tuple) (pb_var 0)))) (pwt_or1 (ppt_ne (u65 hr) (pb_of (pp_len (by rfl) T.Z_len (pbs_cons (pb_var 0) pbs_nil))) (pb_of pp_int))))) (ppss_one (pps_ret pp_bl)) ppss_nil)
  (ppss_cons (pps_asg (pp_var 0) (ptg_tp rfl sc_is_fix.nd (PTn.cons (i := 1) rfl (by first | exact .inl rfl | exact .inr rfl) (by first | exact .inl rfl | exact .inr rfl) rfl (PTn.cons (i := 2) rfl (by first | exact .inl rfl | exact .inr rfl) (by first | exact .inl rfl | exact .inr rfl) rfl (PTn.cons (i := 3) rfl (by first | exact .inl rfl | exact .inr rfl) (by first | exact .inl rfl | exact .inr rfl) rfl (PTn.cons (i := 4) rfl (by first | exact .inl rfl | exact .inr rfl) (by first | exact .inl rfl | exact .inr rfl) rfl PTn.nil))))))
  (ppss_cons (pps_set (i := 5) sc_is_fix.nd (pp_and (pp_call G_is_word (hr.mono (by decide)) (by rfl) T.G_is_word T.F_is_word.kp T.B_is_word (passW tk) (pps_cons (pp_var 1) (pps_cons pp_int (pps_cons pp_int pps_nil)))) (pp_one (pp_call G_is_word (hr.mono (by decide)) (by rfl) T.G_is_word T.F_is_word.kp T.B_is_word (passW tk) (pps_cons (pp_var 4) (pps_cons pp_int (pps_cons pp_int pps_nil)))))))
  (ppss_one (pps_ret (pp_and (pp_var 5) (pp_and (pp_call G_is_word (hr.mono (by decide)) (by rfl) T.G_is_word T.F_is_word.kp T.B_is_word (passW tk) (pps_cons (pp_var 2) (pps_cons pp_int (pps_cons pp_int pps_nil)))) (pp_one (pp_call G_is_word (hr.mono (by decide)) (by rfl) T.G_is_word T.F_is_word.kp T.B_is_word (passW tk) (pps_cons (pp_var 3) (pps_cons pp_int (pps_cons pp_int pps_nil))))))))))))
theorem ok_is_book (T : Txt K mg A) (G_is_fix : FnOk P w K mg base (L2.CX P w) 2 A.a_is_fix A.fd_is_fix ["value"] (spP ⟨K, P, w⟩ mg 1 F_is_fix)) : FnOk P w K mg base (L2.CX P w) 3 A.a_is_book A.fd_is_book ["value"] (spP ⟨K, P, w⟩ mg 1 F_is_book) :=
  okP (N := ["value", "fix"]) T.F_is_book sc_is_book rfl (by decide) fun cdv A' outer s H E hr => by
  have tk := takes_of (X := cxOf (L2.CX P w) P w K mg base ["value", "fix"] "is_book" (defScope sF_is_book) A.a_is_book cdv A' outer s H E) (E := E) rfl rfl rfl rfl
  exact (ppss_cons (pps_if (ppt_bool (pwt_or (ppt_not (ppt_val (pp_isi (by rfl) T.Z_isinstance (pe_tyN (by rfl) T.Z_tuple boot_tuple) (pb_var 0)))) (pwt_or1 (ppt_gt (pb_of (pp_len (by rfl) T.Z_len (pbs_cons (pb_var 0) pbs_nil))) (pb_of (pp_gI (by rfl) T.K_MOST_FIXES)))))) (ppss_one (pps_ret pp_bl)) ppss_nil)
  (ppss_one (pps_ret (pp_all rfl (by rfl) T.Z_all (pbs_cons (pb_of (pp_new (pn_lc (own := [("fix", 1)]) rfl sc_is_book.nd (pit_seq (pp_var 0)) (blkOk_by (N := ["value", "fix"]) (sc := (defScope sF_is_book)) (by decide +kernel)) rfl (by decide) (fun _ _ _ _ _ => (ptg_nm sc_is_book.nd (i := 1) rfl (by first | exact .inl rfl | exact .inr rfl))) (fun _ _ _ _ _ => pts_yes) (fun _ _ _ _ _ => (pp_call G_is_fix (hr.mono (by decide)) (by rfl) T.G_is_fix T.F_is_fix.kp T.B_is_fix pass00 (pps_cons (pp_var 1) pps_nil)))))) pbs_nil)))))
theorem ok_check_book (T : Txt K mg A) (G_is_book : FnOk P w K mg base (L2.CX P w) 3 A.a_is_book A.fd_is_book ["value"] (spP ⟨K, P, w⟩ mg 1 F_is_book)) : FnOk P w K mg base (L2.CX P w) 4 A.a_check_book A.fd_check_book ["book"] (spP ⟨K, P, w⟩ mg 1 F_check_book) :=
  okP (N := ["book"]) T.F_check_book sc_check_book rfl (by decide) fun cdv A' outer s H E hr => by
  have tk := takes_of (X := cxOf (L2.CX P w) P w K mg base ["book"] "check_book" (defScope sF_check_book) A.a_check_book cdv A' outer s H E) (E := E) rfl rfl rfl rfl
  exact (ppss_one (pps_if (ppt_not (ppt_val (pp_call G_is_book (hr.mono (by decide)) (by rfl) T.G_is_book T.F_is_book.kp T.B_is_book (passW tk) (pps_cons (pp_var 0) pps_nil)))) (ppss_one (pps_raise rfl tk PySem.F.excBase_ValueError T.X_InvalidBook T.G_InvalidBook T.P_InvalidBook (raises_own T.S_InvalidBook T.Y_InvalidBook) (by rfl))) ppss_nil))
theorem ok_check_text (T : Txt K mg A) (G_is_word : FnOk P w K mg base (L2.CX P w) 1 A.a_is_word A.fd_is_word ["value", "least", "most"] (spP ⟨K, P, w⟩ mg 3 F_is_word)) : FnOk P w K mg base (L2.CX P w) 2 A.a_check_text A.fd_check_text ["text"] (spP ⟨K, P, w⟩ mg 1 F_check_text) :=
  okP (N := ["text"]) T.F_check_text sc_check_text rfl (by decide) fun cdv A' outer s H E hr => by
  have tk := takes_of (X := cxOf (L2.CX P w) P w K mg base ["text"] "check_text" (defScope sF_check_text) A.a_check_text cdv A' outer s H E) (E := E) rfl rfl rfl rfl
  exact (ppss_one (pps_if (ppt_not (ppt_val (pp_call G_is_word (hr.mono (by decide)) (by rfl) T.G_is_word T.F_is_word.kp T.B_is_word (passW tk) (pps_cons (pp_var 0) (pps_cons pp_int (pps_cons (pp_gI (by rfl) T.K_MOST_LETTERS) pps_nil)))))) (ppss_one (pps_raise rfl tk PySem.F.excBase_ValueError T.X_InvalidWord T.G_InvalidWord T.P_InvalidWord (raises_own T.S_InvalidWord T.Y_InvalidWord) (by rfl))) ppss_nil))
theorem ok_is_number (T : Txt K mg A) : FnOk P w K mg base (L2.CX P w) 1 A.a_is_number A.fd_is_number ["value", "least", "most"] (spP ⟨K, P, w⟩ mg 3 F_is_number) :=
  okP (N := ["value", "least", "most"]) T.F_is_number sc_is_number rfl (by decide) fun cdv A' outer s H E hr => by
  have tk := takes_of (X := cxOf (L2.CX P w) P w K mg base ["value", "least", "most"] "is_number" (defScope sF_is_number) A.a_is_number cdv A' outer s H E) (E := E) rfl rfl rfl rfl
  exact (ppss_one (pps_ret (pp_and (pp_isi (by rfl) T.Z_isinstance (pe_tyN (by rfl) T.Z_int boot_intP) (pb_var 0)) (pp_and (pp_not (pp_isi (by rfl) T.Z_isinstance (pe_tyN (by rfl) T.Z_bool boot_bool) (pb_var 0))) (pp_one (pp_chain op_le op_le ok_le ok_le (pb_var 1) (pb_var 0) (pb_var 2)))))))
theorem ok_looked_for (T : Txt K mg A) : FnOk P w K mg base (L2.CX P w) 1 A.a_looked_for A.fd_looked_for ["fix"] (spP ⟨K, P, w⟩ mg 1 F_looked_for) :=
  okP (N := ["fix", "ahead", "old", "_", "behind"]) T.F_looked_for sc_looked_for rfl (by decide) fun cdv A' outer s H E hr => by
  have tk := takes_of (X := cxOf (L2.CX P w) P w K mg base ["fix", "ahead", "old", "_", "behind"] "looked_for" (defScope sF_looked_for) A.a_looked_for cdv A' outer s H E) (E := E) rfl rfl rfl rfl
  exact (ppss_cons (pps_asg (pp_var 0) (ptg_tp rfl sc_looked_for.nd (PTn.cons (i := 1) rfl (by first | exact .inl rfl | exact .inr rfl) (by first | exact .inl rfl | exact .inr rfl) rfl (PTn.cons (i := 2) rfl (by first | exact .inl rfl | exact .inr rfl) (by first | exact .inl rfl | exact .inr rfl) rfl (PTn.cons (i := 3) rfl (by first | exact .inl rfl | exact .inr rfl) (by first | exact .inl rfl | exact .inr rfl) rfl (PTn.cons (i := 4) rfl (by first | exact .inl rfl | exact .inr rfl) (by first | exact .inl rfl | exact .inr rfl) rfl PTn.nil))))))
  (ppss_one (pps_ret (pp_add (pb_of (pp_add (pb_var 1) (pb_var 2))) (pb_var 4)))))
theorem ok_check_book_and_text (T : Txt K mg A) (G_check_book : FnOk P w K mg base (L2.CX P w) 4 A.a_check_book A.fd_check_book ["book"] (spP ⟨K, P, w⟩ mg 1 F_check_book)) (G_check_text : FnOk P w K mg base (L2.CX P w) 2 A.a_check_text A.fd_check_text ["text"] (spP ⟨K, P, w⟩ mg 1 F_check_text)) : FnOk P w K mg base (L2.CX P w) 5 A.a_check_book_and_text A.fd_check_book_and_text ["book", "text"] (spP ⟨K, P, w⟩ mg 2 F_check_book_and_text) :=
  okP (N := ["book", "text"]) T.F_check_book_and_text sc_check_book_and_text rfl (by decide) fun cdv A' outer s H E hr => by
  have tk := takes_of (X := cxOf (L2.CX P w) P w K mg base ["book", "text"] "check_book_and_text" (defScope sF_check_book_and_text) A.a_check_book_and_text cdv A' outer s H E) (E := E) rfl rfl rfl rfl
  exact (ppss_cons (pps_expr (pp_call G_check_book (hr.mono (by decide)) (by rfl) T.G_check_book T.F_check_book.kp T.B_check_book (passW tk) (pps_cons (pp_var 0) pps_nil)))
  (ppss_one (pps_expr (pp_call G_check_text (hr.mono (by decide)) (by rfl) T.G_check_text T.F_check_text.kp T.B_check_text (passW tk) (pps_cons (pp_var 1) pps_nil)))))
theorem ok_first_at (T : Txt K mg A) : FnOk P w K mg base (L2.CX P w) 1 A.a_first_at A.fd_first_at ["wanted", "text", "at"] (spP ⟨K, P, w⟩ mg 3 F_first_at) :=
  okP (N := ["wanted", "text", "at", "number", "word", "shift"]) T.F_first_at sc_first_at rfl (by decide) fun cdv A' outer s H E hr => by
  have tk := takes_of (X := cxOf (L2.CX P w) P w K mg base ["wanted", "text", "at", "number", "word", "shift"] "first_at" (defScope sF_first_at) A.a_first_at cdv A' outer s H E) (E := E) rfl rfl rfl rfl
  exact (ppss_cons (pps_for (passes_of rfl) rfl (pit_seq (pp_var 0)) (ptg_tp rfl sc_first_at.nd (PTn.cons (i := 3) rfl (by first | exact .inl rfl | exact .inr rfl) (by first | exact .inl rfl | exact .inr rfl) rfl (PTn.cons (i := 4) rfl (by first | exact .inl rfl | exact .inr rfl) (by first | exact .inl rfl | exact .inr rfl) rfl (PTn.cons (i := 5) rfl (by first | exact .inl rfl | exact .inr rfl) (by first | exact .inl rfl | exact .inr rfl) rfl PTn.nil)))) (ppss_one (pps_if (ppt_bool (pwt_and (ppt_le (pb_var 5) (pb_var 2)) (pwt_and1 (ppt_val (pp_sw3 (pb_var 1) (pb_var 4) (pb_of (pp_sub (pb_var 2) (pb_var 5)))))))) (ppss_one (pps_retV (i := 3))) ppss_nil)))
  (ppss_one (pps_ret pp_non)))
theorem ok_round_findings (T : Txt K mg A) (G_looked_for : FnOk P w K mg base (L2.CX P w) 1 A.a_looked_for A.fd_looked_for ["fix"] (spP ⟨K, P, w⟩ mg 1 F_looked_for)) (G_first_at : FnOk P w K mg base (L2.CX P w) 1 A.a_first_at A.fd_first_at ["wanted", "text", "at"] (spP ⟨K, P, w⟩ mg 3 F_first_at)) : FnOk P w K mg base (L2.CX P w) 2 A.a_round_findings A.fd_round_findings ["book", "text"] (spP ⟨K, P, w⟩ mg 2 F_round_findings) :=
  okP (N := ["book", "text", "wanted", "found", "at", "number", "fix"]) T.F_round_findings sc_round_findings rfl (by decide) fun cdv A' outer s H E hr => by
  have tk := takes_of (X := cxOf (L2.CX P w) P w K mg base ["book", "text", "wanted", "found", "at", "number", "fix"] "round_findings" (defScope sF_round_findings) A.a_round_findings cdv A' outer s H E) (E := E) rfl rfl rfl rfl
  exact (ppss_cons (pps_setLc (i := 2) (own := [("number", 5), ("fix", 6)]) rfl sc_round_findings.nd (pit_enum (by rfl) T.Z_enumerate (pp_var 0)) (blkOk_by (N := ["book", "text", "wanted", "found", "at", "number", "fix"]) (sc := (defScope sF_round_findings)) (by decide +kernel)) rfl (by decide) (fun _ _ _ _ _ => (ptg_tp rfl sc_round_findings.nd (PTn.cons (i := 5) rfl (by first | exact .inl rfl | exact .inr rfl) (by first | exact .inl rfl | exact .inr rfl) rfl (PTn.cons (i := 6) rfl (by first | exact .inl rfl | exact .inr rfl) (by first | exact .inl rfl | exact .inr rfl) rfl PTn.nil)))) (fun _ _ _ _ _ => pts_yes) (fun _ _ _ _ _ => (pp_tup (pps_cons (pp_var 5) (pps_cons (pp_call G_looked_for (hr.mono (by decide)) (by rfl) T.G_looked_for T.F_looked_for.kp T.B_looked_for pass00 (pps_cons (pp_var 6) pps_nil)) (pps_cons (pp_len (by rfl) T.Z_len (pbs_cons (pb_of (pp_itemA (u65 hr) (pb_var 6) (pb_of pp_int))) pbs_nil)) pps_nil))))) rfl rfl (sw_true rfl rfl rfl (by decide +kernel)))
  (ppss_cons (pps_setN (i := 3) sc_round_findings.nd (pn_lst pps_nil))
  (ppss_cons (pps_set (i := 4) sc_round_findings.nd pp_int)
  (ppss_cons (pps_while fuel (passes_of rfl) (ppt_lt (pb_var 4) (pb_of (pp_len (by rfl) T.Z_len (pbs_cons (pb_var 1) pbs_nil)))) (ppss_cons (pps_set (i := 5) sc_round_findings.nd (pp_call G_first_at (hr.mono (by decide)) (by rfl) T.G_first_at T.F_first_at.kp T.B_first_at (passW tk) (pps_cons (pp_var 2) (pps_cons (pp_var 1) (pps_cons (pp_var 4) pps_nil)))))
  (ppss_one (pps_if (ppt_is (pb_var 5) (pb_of pp_non)) (ppss_one (pps_aug (i := 4) sc_round_findings.nd (pb_of pp_int) ip_add)) (ppss_cons (pps_append (i := 3) (pp_tup (pps_cons (pp_var 4) (pps_cons (pp_var 5) pps_nil))))
  (ppss_one (pps_aug (i := 4) sc_round_findings.nd (pb_of (pp_len (by rfl) T.Z_len (pbs_cons (pb_of (pp_itemA (u65 hr) (pb_of (pp_itemA (u65 hr) (pb_var 0) (pb_var 5))) (pb_of pp_int))) pbs_nil))) ip_add)))))))
  (ppss_one (pps_retV (i := 3)))))))
theorem ok_put_in (T : Txt K mg A) : FnOk P w K mg base (L2.CX P w) 1 A.a_put_in A.fd_put_in ["book", "text", "found"] (spP ⟨K, P, w⟩ mg 3 F_put_in) :=
  okP (N := ["book", "text", "found", "parts", "end", "at", "number"]) T.F_put_in sc_put_in rfl (by decide) fun cdv A' outer s H E hr => by
  have tk := takes_of (X := cxOf (L2.CX P w) P w K mg base ["book", "text", "found", "parts", "end", "at", "number"] "put_in" (defScope sF_put_in) A.a_put_in cdv A' outer s H E) (E := E) rfl rfl rfl rfl
  exact (ppss_cons (pps_setN (i := 3) sc_put_in.nd (pn_lst pps_nil))
  (ppss_cons (pps_set (i := 4) sc_put_in.nd pp_int)
  (ppss_cons (pps_for (passes_of rfl) rfl (pit_seq (pp_var 2)) (ptg_tp rfl sc_put_in.nd (PTn.cons (i := 5) rfl (by first | exact .inl rfl | exact .inr rfl) (by first | exact .inl rfl | exact .inr rfl) rfl (PTn.cons (i := 6) rfl (by first | exact .inl rfl | exact .inr rfl) (by first | exact .inl rfl | exact .inr rfl) rfl PTn.nil))) (ppss_cons (pps_append (i := 3) (pp_add (pb_of (pp_slice (pb_var 1) (ppo_some (pb_var 4)) (ppo_some (pb_var 5)))) (pb_of (pp_itemA (u65 hr) (pb_of (pp_itemA (u65 hr) (pb_var 0) (pb_var 6))) (pb_of pp_int)))))
  (ppss_one (pps_set (i := 4) sc_put_in.nd (pp_add (pb_var 5) (pb_of (pp_len (by rfl) T.Z_len (pbs_cons (pb_of (pp_itemA (u65 hr) (pb_of (pp_itemA (u65 hr) (pb_var 0) (pb_var 6))) (pb_of pp_int))) pbs_nil))))))))
  (ppss_one (pps_ret (pp_add (pb_of (pp_join (pb_of pp_str) (pb_var 3))) (pb_of (pp_slice (pb_var 1) (ppo_some (pb_var 4)) ppo_none))))))))
theorem ok_mended (T : Txt K mg A) (G_put_in : FnOk P w K mg base (L2.CX P w) 1 A.a_put_in A.fd_put_in ["book", "text", "found"] (spP ⟨K, P, w⟩ mg 3 F_put_in)) (G_round_findings : FnOk P w K mg base (L2.CX P w) 2 A.a_round_findings A.fd_round_findings ["book", "text"] (spP ⟨K, P, w⟩ mg 2 F_round_findings)) : FnOk P w K mg base (L2.CX P w) 3 A.a_mended A.fd_mended ["book", "text"] (spP ⟨K, P, w⟩ mg 2 F_mended) :=
  okP (N := ["book", "text"]) T.F_mended sc_mended rfl (by decide) fun cdv A' outer s H E hr => by
  have tk := takes_of (X := cxOf (L2.CX P w) P w K mg base ["book", "text"] "mended" (defScope sF_mended) A.a_mended cdv A' outer s H E) (E := E) rfl rfl rfl rfl
  exact (ppss_one (pps_retC G_put_in (hr.mono (by decide)) (by rfl) T.G_put_in T.F_put_in.kp T.B_put_in (passW tk) (pps_cons (pp_var 0) (pps_cons (pp_var 1) (pps_cons (pp_call G_round_findings (hr.mono (by decide)) (by rfl) T.G_round_findings T.F_round_findings.kp T.B_round_findings (passW tk) (pps_cons (pp_var 0) (pps_cons (pp_var 1) pps_nil))) pps_nil)))))
theorem ok__law_pick (T : Txt K mg A) (G__law_draw : FnOk P w K mg base (L2.CX P w) 1 A.a__law_draw A.fd__law_draw ["source", "limit"] (spP ⟨K, P, w⟩ mg 2 F__law_draw)) : FnOk P w K mg base (L2.CX P w) 2 A.a__law_pick A.fd__law_pick ["source", "values"] (spP ⟨K, P, w⟩ mg 2 F__law_pick) :=
  okP (N := ["source", "values"]) T.F__law_pick sc__law_pick rfl (by decide) fun cdv A' outer s H E hr => by
  have tk := takes_of (X := cxOf (L2.CX P w) P w K mg base ["source", "values"] "_law_pick" (defScope sF__law_pick) A.a__law_pick cdv A' outer s H E) (E := E) rfl rfl rfl rfl
  exact (ppss_one (pps_ret (pp_itemA (u65 hr) (pb_var 1) (pb_of (pp_call G__law_draw (hr.mono (by decide)) (by rfl) T.G__law_draw T.F__law_draw.kp T.B__law_draw (passW tk) (pps_cons (pp_var 0) (pps_cons (pp_len (by rfl) T.Z_len (pbs_cons (pb_var 1) pbs_nil)) pps_nil)))))))
theorem ok_Desk_text (T : Txt K mg A) : FnOk P w K mg base (L2.CX P w) 1 A.a_Desk_text A.fd_Desk_text ["self"] (spP ⟨K, P, w⟩ mg 1 F_Desk_text) :=
  okP (N := ["self"]) T.F_Desk_text sc_Desk_text rfl (by decide) fun cdv A' outer s H E hr => by
  have tk := takes_of (X := cxOf (L2.CX P w) P w K mg base ["self"] "Desk.text" (defScope sF_Desk_text) A.a_Desk_text cdv A' outer s H E) (E := E) rfl rfl rfl rfl
  exact (ppss_one (pps_ret (pp_itemA (u65 hr) (pb_of (pp_dkNow (i := 0) T.DC_Desk)) (pb_of pp_int))))
theorem ok_Desk___len__ (T : Txt K mg A) (G_Desk_text : FnOk P w K mg base (L2.CX P w) 1 A.a_Desk_text A.fd_Desk_text ["self"] (spP ⟨K, P, w⟩ mg 1 F_Desk_text)) : FnOk P w K mg base (L2.CX P w) 3 A.a_Desk___len__ A.fd_Desk___len__ ["self"] (spP ⟨K, P, w⟩ mg 1 F_Desk___len__) :=
  okP (N := ["self"]) T.F_Desk___len__ sc_Desk___len__ rfl (by decide) fun cdv A' outer s H E hr => by
  have tk := takes_of (X := cxOf (L2.CX P w) P w K mg base ["self"] "Desk.__len__" (defScope sF_Desk___len__) A.a_Desk___len__ cdv A' outer s H E) (E := E) rfl rfl rfl rfl
  exact (ppss_one (pps_ret (pp_len (by rfl) T.Z_len (pbs_cons (pb_of (pp_prop (i := 0) T.DC_Desk T.PR_Desk_text G_Desk_text (hr.mono (by decide)) T.B_Desk_text)) pbs_nil))))
theorem ok_Desk__take_stand (T : Txt K mg A) : FnOk P w K mg base (L2.CX P w) 1 A.a_Desk__take_stand A.fd_Desk__take_stand ["self", "book", "text"] (spP ⟨K, P, w⟩ mg 3 F_Desk__take_stand) :=
  okP (N := ["self", "book", "text"]) T.F_Desk__take_stand sc_Desk__take_stand rfl (by decide) fun cdv A' outer s H E hr => by
  have tk := takes_of (X := cxOf (L2.CX P w) P w K mg base ["self", "book", "text"] "Desk._take_stand" (defScope sF_Desk__take_stand) A.a_Desk__take_stand cdv A' outer s H E) (E := E) rfl rfl rfl rfl
  exact (ppss_cons (pps_if (ppt_gt (pb_of (pp_len (by rfl) T.Z_len (pbs_cons (pb_var 2) pbs_nil))) (pb_of (pp_gI (by rfl) T.K_MOST_LETTERS))) (ppss_one (pps_raise rfl tk PySem.F.excBase_ValueError T.X_TooMany T.G_TooMany T.P_TooMany (raises_own T.S_TooMany T.Y_TooMany) (by rfl))) ppss_nil)
  (ppss_cons (pps_dkDel (i := 0) T.DC_Desk)
  (ppss_cons (pps_dkApp (i := 0) T.DC_Desk (pp_tup (pps_cons (pp_var 1) (pps_cons (pp_var 2) pps_nil))))
  (ppss_one (pps_dkAdd (i := 0) T.DC_Desk)))))
theorem ok_Desk_book (T : Txt K mg A) : FnOk P w K mg base (L2.CX P w) 1 A.a_Desk_book A.fd_Desk_book ["self"] (spP ⟨K, P, w⟩ mg 1 F_Desk_book) :=
  okP (N := ["self"]) T.F_Desk_book sc_Desk_book rfl (by decide) fun cdv A' outer s H E hr => by
  have tk := takes_of (X := cxOf (L2.CX P w) P w K mg base ["self"] "Desk.book" (defScope sF_Desk_book) A.a_Desk_book cdv A' outer s H E) (E := E) rfl rfl rfl rfl
  exact (ppss_one (pps_ret (pp_itemA (u65 hr) (pb_of (pp_dkNow (i := 0) T.DC_Desk)) (pb_of pp_int))))
theorem ok_Desk_put (T : Txt K mg A) (G_is_number : FnOk P w K mg base (L2.CX P w) 1 A.a_is_number A.fd_is_number ["value", "least", "most"] (spP ⟨K, P, w⟩ mg 3 F_is_number)) (G_Desk___len__ : FnOk P w K mg base (L2.CX P w) 3 A.a_Desk___len__ A.fd_Desk___len__ ["self"] (spP ⟨K, P, w⟩ mg 1 F_Desk___len__)) (G_check_text : FnOk P w K mg base (L2.CX P w) 2 A.a_check_text A.fd_check_text ["text"] (spP ⟨K, P, w⟩ mg 1 F_check_text)) (G_Desk__take_stand : FnOk P w K mg base (L2.CX P w) 1 A.a_Desk__take_stand A.fd_Desk__take_stand ["self", "book", "text"] (spP ⟨K, P, w⟩ mg 3 F_Desk__take_stand)) (G_Desk_book : FnOk P w K mg base (L2.CX P w) 1 A.a_Desk_book A.fd_Desk_book ["self"] (spP ⟨K, P, w⟩ mg 1 F_Desk_book)) (G_Desk_text : FnOk P w K mg base (L2.CX P w) 1 A.a_Desk_text A.fd_Desk_text ["self"] (spP ⟨K, P, w⟩ mg 1 F_Desk_text)) : FnOk P w K mg base (L2.CX P w) 5 A.a_Desk_put A.fd_Desk_put ["self", "at", "word"] (spP ⟨K, P, w⟩ mg 3 F_Desk_put) :=
  okP (N := ["self", "at", "word"]) T.F_Desk_put sc_Desk_put rfl (by decide) fun cdv A' outer s H E hr => by
  have tk := takes_of (X := cxOf (L2.CX P w) P w K mg base ["self", "at", "word"] "Desk.put" (defScope sF_Desk_put) A.a_Desk_put cdv A' outer s H E) (E := E) rfl rfl rfl rfl
  exact (ppss_cons (pps_if (ppt_not (ppt_val (pp_call G_is_number (hr.mono (by decide)) (by rfl) T.G_is_number T.F_is_number.kp T.B_is_number (passW tk) (pps_cons (pp_var 1) (pps_cons pp_int (pps_cons (pp_lenO (i := 0) T.DC_Desk (by rfl) T.Z_len T.M_Desk___len__.at_ T.M_Desk___len__.fn G_Desk___len__ (hr.mono (by decide)) T.B_Desk___len__) pps_nil)))))) (ppss_one (pps_raise rfl tk PySem.F.excBase_ValueError T.X_InvalidPlace T.G_InvalidPlace T.P_InvalidPlace (raises_own T.S_InvalidPlace T.Y_InvalidPlace) (by rfl))) ppss_nil)
  (ppss_cons (pps_expr (pp_call G_check_text (hr.mono (by decide)) (by rfl) T.G_check_text T.F_check_text.kp T.B_check_text (passW tk) (pps_cons (pp_var 2) pps_nil)))
  (ppss_one (pps_expr (pp_meth (i := 0) T.DC_Desk T.M_Desk__take_stand G_Desk__take_stand (hr.mono (by decide)) T.B_Desk__take_stand (passW tk) (pps_cons (pp_prop (i := 0) T.DC_Desk T.PR_Desk_book G_Desk_book (hr.mono (by decide)) T.B_Desk_book) (pps_cons (pp_add (pb_of (pp_add (pb_of (pp_slice (pb_of (pp_prop (i := 0) T.DC_Desk T.PR_Desk_text G_Desk_text (hr.mono (by decide)) T.B_Desk_text)) ppo_none (ppo_some (pb_var 1)))) (pb_var 2))) (pb_of (pp_slice (pb_of (pp_prop (i := 0) T.DC_Desk T.PR_Desk_text G_Desk_text (hr.mono (by decide)) T.B_Desk_text)) (ppo_some (pb_var 1)) ppo_none))) pps_nil)))))))
theorem ok_Desk_strike (T : Txt K mg A) (G_is_number : FnOk P w K mg base (L2.CX P w) 1 A.a_is_number A.fd_is_number ["value", "least", "most"] (spP ⟨K, P, w⟩ mg 3 F_is_number)) (G_Desk___len__ : FnOk P w K mg base (L2.CX P w) 3 A.a_Desk___len__ A.fd_Desk___len__ ["self"] (spP ⟨K, P, w⟩ mg 1 F_Desk___len__)) (G_Desk__take_stand : FnOk P w K mg base (L2.CX P w) 1 A.a_Desk__take_stand A.fd_Desk__take_stand ["self", "book", "text"] (spP ⟨K, P, w⟩ mg 3 F_Desk__take_stand)) (G_Desk_book : FnOk P w K mg base (L2.CX P w) 1 A.a_Desk_book A.fd_Desk_book ["self"] (spP ⟨K, P, w⟩ mg 1 F_Desk_book)) (G_Desk_text : FnOk P w K mg base (L2.CX P w) 1 A.a_Desk_text A.fd_Desk_text ["self"] (spP ⟨K, P, w⟩ mg 1 F_Desk_text)) : FnOk P w K mg base (L2.CX P w) 5 A.a_Desk_strike A.fd_Desk_strike ["self", "begin", "end"] (spP ⟨K, P, w⟩ mg 3 F_Desk_strike) :=
  okP (N := ["self", "begin", "end"]) T.F_Desk_strike sc_Desk_strike rfl (by decide) fun cdv A' outer s H E hr => by
  have tk := takes_of (X := cxOf (L2.CX P w) P w K mg base ["self", "begin", "end"] "Desk.strike" (defScope sF_Desk_strike) A.a_Desk_strike cdv A' outer s H E) (E := E) rfl rfl rfl rfl
  exact (ppss_cons (pps_if (ppt_bool (pwt_or (ppt_not (ppt_val (pp_call G_is_number (hr.mono (by decide)) (by rfl) T.G_is_number T.F_is_number.kp T.B_is_number (passW tk) (pps_cons (pp_var 1) (pps_cons pp_int (pps_cons (pp_lenO (i := 0) T.DC_Desk (by rfl) T.Z_len T.M_Desk___len__.at_ T.M_Desk___len__.fn G_Desk___len__ (hr.mono (by decide)) T.B_Desk___len__) pps_nil)))))) (pwt_or1 (ppt_not (ppt_val (pp_call G_is_number (hr.mono (by decide)) (by rfl) T.G_is_number T.F_is_number.kp T.B_is_number (passW tk) (pps_cons (pp_var 2) (pps_cons (pp_var 1) (pps_cons (pp_lenO (i := 0) T.DC_Desk (by rfl) T.Z_len T.M_Desk___len__.at_ T.M_Desk___len__.fn G_Desk___len__ (hr.mono (by decide)) T.B_Desk___len__) pps_nil))))))))) (ppss_one (pps_raise rfl tk PySem.F.excBase_ValueError T.X_InvalidPlace T.G_InvalidPlace T.P_InvalidPlace (raises_own T.S_InvalidPlace T.Y_InvalidPlace) (by rfl))) ppss_nil)
  (ppss_one (pps_expr (pp_meth (i := 0) T.DC_Desk T.M_Desk__take_stand G_Desk__take_stand (hr.mono (by decide)) T.B_Desk__take_stand (passW tk) (pps_cons (pp_prop (i := 0) T.DC_Desk T.PR_Desk_book G_Desk_book (hr.mono (by decide)) T.B_Desk_book) (pps_cons (pp_add (pb_of (pp_slice (pb_of (pp_prop (i := 0) T.DC_Desk T.PR_Desk_text G_Desk_text (hr.mono (by decide)) T.B_Desk_text)) ppo_none (ppo_some (pb_var 1)))) (pb_of (pp_slice (pb_of (pp_prop (i := 0) T.DC_Desk T.PR_Desk_text G_Desk_text (hr.mono (by decide)) T.B_Desk_text)) (ppo_some (pb_var 2)) ppo_none))) pps_nil))))))
theorem ok_Desk_round (T : Txt K mg A) (G_Desk__take_stand : FnOk P w K mg base (L2.CX P w) 1 A.a_Desk__take_stand A.fd_Desk__take_stand ["self", "book", "text"] (spP ⟨K, P, w⟩ mg 3 F_Desk__take_stand)) (G_Desk_book : FnOk P w K mg base (L2.CX P w) 1 A.a_Desk_book A.fd_Desk_book ["self"] (spP ⟨K, P, w⟩ mg 1 F_Desk_book)) (G_mended : FnOk P w K mg base (L2.CX P w) 3 A.a_mended A.fd_mended ["book", "text"] (spP ⟨K, P, w⟩ mg 2 F_mended)) (G_Desk_text : FnOk P w K mg base (L2.CX P w) 1 A.a_Desk_text A.fd_Desk_text ["self"] (spP ⟨K, P, w⟩ mg 1 F_Desk_text)) : FnOk P w K mg base (L2.CX P w) 4 A.a_Desk_round A.fd_Desk_round ["self"] (spP ⟨K, P, w⟩ mg 1 F_Desk_round) :=
  okP (N := ["self"]) T.F_Desk_round sc_Desk_round rfl (by decide) fun cdv A' outer s H E hr => by
  have tk := takes_of (X := cxOf (L2.CX P w) P w K mg base ["self"] "Desk.round" (defScope sF_Desk_round) A.a_Desk_round cdv A' outer s H E) (E := E) rfl rfl rfl rfl
  exact (ppss_one (pps_expr (pp_meth (i := 0) T.DC_Desk T.M_Desk__take_stand G_Desk__take_stand (hr.mono (by decide)) T.B_Desk__take_stand (passW tk) (pps_cons (pp_prop (i := 0) T.DC_Desk T.PR_Desk_book G_Desk_book (hr.mono (by decide)) T.B_Desk_book) (pps_cons (pp_call G_mended (hr.mono (by decide)) (by rfl) T.G_mended T.F_mended.kp T.B_mended (passW tk) (pps_cons (pp_prop (i := 0) T.DC_Desk T.PR_Desk_book G_Desk_book (hr.mono (by decide)) T.B_Desk_book) (pps_cons (pp_prop (i := 0) T.DC_Desk T.PR_Desk_text G_Desk_text (hr.mono (by decide)) T.B_Desk_text) pps_nil))) pps_nil)))))
theorem ok_Desk_undo (T : Txt K mg A) : FnOk P w K mg base (L2.CX P w) 1 A.a_Desk_undo A.fd_Desk_undo ["self"] (spP ⟨K, P, w⟩ mg 1 F_Desk_undo) :=
  okP (N := ["self"]) T.F_Desk_undo sc_Desk_undo rfl (by decide) fun cdv A' outer s H E hr => by
  have tk := takes_of (X := cxOf (L2.CX P w) P w K mg base ["self"] "Desk.undo" (defScope sF_Desk_undo) A.a_Desk_undo cdv A' outer s H E) (E := E) rfl rfl rfl rfl
  exact (ppss_cons (pps_if (ppt_eq (u65 hr) (pb_of (pp_dkAt (i := 0) T.DC_Desk)) (pb_of pp_int)) (ppss_one (pps_raise rfl tk PySem.F.excBase_ValueError T.X_NothingToUndo T.G_NothingToUndo T.P_NothingToUndo (raises_own T.S_NothingToUndo T.Y_NothingToUndo) (by rfl))) ppss_nil)
  (ppss_one (pps_dkSub (i := 0) T.DC_Desk)))
theorem ok_Desk_redo (T : Txt K mg A) : FnOk P w K mg base (L2.CX P w) 1 A.a_Desk_redo A.fd_Desk_redo ["self"] (spP ⟨K, P, w⟩ mg 1 F_Desk_redo) :=
  okP (N := ["self"]) T.F_Desk_redo sc_Desk_redo rfl (by decide) fun cdv A' outer s H E hr => by
  have tk := takes_of (X := cxOf (L2.CX P w) P w K mg base ["self"] "Desk.redo" (defScope sF_Desk_redo) A.a_Desk_redo cdv A' outer s H E) (E := E) rfl rfl rfl rfl
  exact (ppss_cons (pps_if (ppt_eq (u65 hr) (pb_of (pp_add (pb_of (pp_dkAt (i := 0) T.DC_Desk)) (pb_of pp_int))) (pb_of (pp_dkLen (i := 0) T.DC_Desk (by rfl) T.Z_len))) (ppss_one (pps_raise rfl tk PySem.F.excBase_ValueError T.X_NothingToRedo T.G_NothingToRedo T.P_NothingToRedo (raises_own T.S_NothingToRedo T.Y_NothingToRedo) (by rfl))) ppss_nil)
  (ppss_one (pps_dkAdd (i := 0) T.DC_Desk)))
theorem ok__law_word_of (T : Txt K mg A) (G_Desk_put : FnOk P w K mg base (L2.CX P w) 5 A.a_Desk_put A.fd_Desk_put ["self", "at", "word"] (spP ⟨K, P, w⟩ mg 3 F_Desk_put)) (G_Desk_strike : FnOk P w K mg base (L2.CX P w) 5 A.a_Desk_strike A.fd_Desk_strike ["self", "begin", "end"] (spP ⟨K, P, w⟩ mg 3 F_Desk_strike)) (G_Desk_round : FnOk P w K mg base (L2.CX P w) 4 A.a_Desk_round A.fd_Desk_round ["self"] (spP ⟨K, P, w⟩ mg 1 F_Desk_round)) (G_Desk_undo : FnOk P w K mg base (L2.CX P w) 1 A.a_Desk_undo A.fd_Desk_undo ["self"] (spP ⟨K, P, w⟩ mg 1 F_Desk_undo)) (G_Desk_redo : FnOk P w K mg base (L2.CX P w) 1 A.a_Desk_redo A.fd_Desk_redo ["self"] (spP ⟨K, P, w⟩ mg 1 F_Desk_redo)) : FnOk P w K mg base (L2.CX P w) 6 A.a__law_word_of A.fd__law_word_of ["desk", "deed"] (spP ⟨K, P, w⟩ mg 2 F__law_word_of) :=
  okP (N := ["desk", "deed", "caught", "found", "e", "hits"]) T.F__law_word_of sc__law_word_of rfl (by decide) fun cdv A' outer s H E hr => by
  have tk := takes_of (X := cxOf (L2.CX P w) P w K mg base ["desk", "deed", "caught", "found", "e", "hits"] "_law_word_of" (defScope sF__law_word_of) A.a__law_word_of cdv A' outer s H E) (E := E) rfl rfl rfl rfl
  exact (ppss_cons (pps_set (i := 2) sc__law_word_of.nd pp_non)
  (ppss_cons (pps_set (i := 3) sc__law_word_of.nd pp_int)
  (ppss_cons (pps_try (i := 4) rfl rfl sc__law_word_of.nd ⟨by rfl, by decide, .inl T.G_FixError⟩ rfl (tx_FixError T) (fun _ _ _ tk _ => (ppss_one (pps_if (ppt_eq (u65 hr) (pb_of (pp_itemA (u65 hr) (pb_var 1) (pb_of pp_int))) (pb_of pp_str)) (ppss_one (pps_set (i := 3) sc__law_word_of.nd (pp_meth (i := 0) T.DC_Desk T.M_Desk_put G_Desk_put (hr.mono (by decide)) T.B_Desk_put (passW tk) (pps_cons (pp_itemA (u65 hr) (pb_var 1) (pb_of pp_int)) (pps_cons (pp_itemA (u65 hr) (pb_var 1) (pb_of pp_int)) pps_nil))))) (ppss_one (pps_if (ppt_eq (u65 hr) (pb_of (pp_itemA (u65 hr) (pb_var 1) (pb_of pp_int))) (pb_of pp_str)) (ppss_one (pps_set (i := 3) sc__law_word_of.nd (pp_meth (i := 0) T.DC_Desk T.M_Desk_strike G_Desk_strike (hr.mono (by decide)) T.B_Desk_strike (passW tk) (pps_cons (pp_itemA (u65 hr) (pb_var 1) (pb_of pp_int)) (pps_cons (pp_itemA (u65 hr) (pb_var 1) (pb_of pp_int)) pps_nil))))) (ppss_one (pps_if (ppt_eq (u65 hr) (pb_of (pp_itemA (u65 hr) (pb_var 1) (pb_of pp_int))) (pb_of pp_str)) (ppss_one (pps_set (i := 3) sc__law_word_of.nd (pp_meth0 (i := 0) T.DC_Desk T.M_Desk_round G_Desk_round (hr.mono (by decide)) T.B_Desk_round (passW tk)))) (ppss_one (pps_if (ppt_eq (u65 hr) (pb_of (pp_itemA (u65 hr) (pb_var 1) (pb_of pp_int))) (pb_of pp_str)) (ppss_one (pps_set (i := 3) sc__law_word_of.nd (pp_meth0 (i := 0) T.DC_Desk T.M_Desk_undo G_Desk_undo (hr.mono (by decide)) T.B_Desk_undo (passW tk)))) (ppss_one (pps_set (i := 3) sc__law_word_of.nd (pp_meth0 (i := 0) T.DC_Desk T.M_Desk_redo G_Desk_redo (hr.mono (by decide)) T.B_Desk_redo (passW tk))))))))))))) (fun _ _ => (ppss_one (pps_set (i := 2) sc__law_word_of.nd (pp_var 4)))))
  (ppss_cons (pps_if (ppt_isNx (pp_var 2) pe_non rfl) (ppss_one (pps_ret (pp_itemA (u65 hr) (pb_of (pp_new (pn_lst (pps_cons pp_str (pps_cons pp_str pps_nil))))) (pb_of (pp_int1 (by rfl) T.Z_int (pbs_cons (pb_of (pp_is (pb_var 3) (pb_of pp_non))) pbs_nil)))))) ppss_nil)
  (ppss_cons (pps_setN (i := 5) sc__law_word_of.nd (pn_lst (pps_cons (pp_isX (by rfl) T.Z_isinstance (.own _) (pe_glob (v := .ref A.C_InvalidPlace) (by rfl) T.G_InvalidPlace rfl) (ti_InvalidPlace T) (pp_var 2)) (pps_cons (pp_isX (by rfl) T.Z_isinstance (.own _) (pe_glob (v := .ref A.C_InvalidWord) (by rfl) T.G_InvalidWord rfl) (ti_InvalidWord T) (pp_var 2)) (pps_cons (pp_isX (by rfl) T.Z_isinstance (.own _) (pe_glob (v := .ref A.C_TooMany) (by rfl) T.G_TooMany rfl) (ti_TooMany T) (pp_var 2)) pps_nil)))))
  (ppss_cons (pps_set (i := 5) sc__law_word_of.nd (pp_add (pb_var 5) (pb_of (pp_new (pn_lst (pps_cons (pp_isX (by rfl) T.Z_isinstance (.own _) (pe_glob (v := .ref A.C_NothingToUndo) (by rfl) T.G_NothingToUndo rfl) (ti_NothingToUndo T) (pp_var 2)) (pps_cons (pp_isX (by rfl) T.Z_isinstance (.own _) (pe_glob (v := .ref A.C_NothingToRedo) (by rfl) T.G_NothingToRedo rfl) (ti_NothingToRedo T) (pp_var 2)) pps_nil)))))))
  (ppss_cons (pps_if (ppt_bool (pwt_or (ppt_ne (u65 hr) (pb_of (pp_count (pb_var 5) pe_bl)) (pb_of pp_int)) (pwt_or1 (ppt_not (ppt_val (pp_isX (by rfl) T.Z_isinstance (.ty _) (pe_tyN (by rfl) T.Z_ValueError (by decide +kernel)) (ti_ValueError T) (pp_var 2))))))) (ppss_one (pps_ret pp_str)) ppss_nil)
  (ppss_one (pps_ret (pp_itemA (u65 hr) (pb_of (pp_new (pn_lst (pps_cons pp_str (pps_cons pp_str (pps_cons pp_str (pps_cons pp_str (pps_cons pp_str pps_nil)))))))) (pb_of (pp_index (u65 hr) (pb_var 5) (pb_of pp_bl)))))))))))))
theorem ok_Desk___init__ (T : Txt K mg A) (G_check_book_and_text : FnOk P w K mg base (L2.CX P w) 5 A.a_check_book_and_text A.fd_check_book_and_text ["book", "text"] (spP ⟨K, P, w⟩ mg 2 F_check_book_and_text)) : FnOk P w K mg base (L2.CX P w) 6 A.a_Desk___init__ A.fd_Desk___init__ ["self", "book", "text"] (spMk ⟨K, P, w⟩ mg A.C_Desk F_check_book_and_text) := ok_initDk T.F_Desk___init__ sc_Desk___init__ T.DC_Desk rfl (by decide +kernel) (by decide +kernel) (by decide +kernel) (fun env he => by obtain ⟨⟩ := env; cases he; rfl) (fun env he => by obtain ⟨⟩ := env; cases he; rfl) (fun env he => by obtain ⟨⟩ := env; cases he; rfl) (fun env he => by obtain ⟨⟩ := env; cases he; rfl) G_check_book_and_text T.G_check_book_and_text T.F_check_book_and_text.kp T.B_check_book_and_text
theorem ok__law_long_right (T : Txt K mg A) (G__law_pick : FnOk P w K mg base (L2.CX P w) 2 A.a__law_pick A.fd__law_pick ["source", "values"] (spP ⟨K, P, w⟩ mg 2 F__law_pick)) (G_Desk___init__ : FnOk P w K mg base (L2.CX P w) 6 A.a_Desk___init__ A.fd_Desk___init__ ["self", "book", "text"] (spMk ⟨K, P, w⟩ mg A.C_Desk F_check_book_and_text)) (G__law_word_of : FnOk P w K mg base (L2.CX P w) 6 A.a__law_word_of A.fd__law_word_of ["desk", "deed"] (spP ⟨K, P, w⟩ mg 2 F__law_word_of)) (G_Desk_text : FnOk P w K mg base (L2.CX P w) 1 A.a_Desk_text A.fd_Desk_text ["self"] (spP ⟨K, P, w⟩ mg 1 F_Desk_text)) (G_Desk___len__ : FnOk P w K mg base (L2.CX P w) 3 A.a_Desk___len__ A.fd_Desk___len__ ["self"] (spP ⟨K, P, w⟩ mg 1 F_Desk___len__)) : FnOk P w K mg base (L2.CX P w) 8 A.a__law_long_right A.fd__law_long_right ["source"] (spP ⟨K, P, w⟩ mg 1 F__law_long_right) :=
  okP (N := ["source", "grow", "letters", "many", "text", "desk", "words"]) T.F__law_long_right sc__law_long_right rfl (by decide) fun cdv A' outer s H E hr => by
  have tk := takes_of (X := cxOf (L2.CX P w) P w K mg base ["source", "grow", "letters", "many", "text", "desk", "words"] "_law_long_right" (defScope sF__law_long_right) A.a__law_long_right cdv A' outer s H E) (E := E) rfl rfl rfl rfl
  exact (ppss_cons (pps_set (i := 1) sc__law_long_right.nd (pp_tup (pps_cons (pp_tup (pps_cons pp_str (pps_cons pp_str (pps_cons pp_str (pps_cons pp_str pps_nil))))) pps_nil)))
  (ppss_cons (pps_set (i := 2) sc__law_long_right.nd (pp_call G__law_pick (hr.mono (by decide)) (by rfl) T.G__law_pick T.F__law_pick.kp T.B__law_pick (passW tk) (pps_cons (pp_var 0) (pps_cons (pp_new (pn_lst (pps_cons pp_str (pps_cons pp_str (pps_cons pp_str pps_nil))))) pps_nil))))
  (ppss_cons (pps_for (passes_of rfl) rfl (pit_seq (pp_new (pn_lst (pps_cons pp_int (pps_cons pp_int (pps_cons pp_int (pps_cons pp_int pps_nil))))))) (ptg_nm sc__law_long_right.nd (i := 3) rfl (by first | exact .inl rfl | exact .inr rfl)) (ppss_cons (pps_set (i := 4) sc__law_long_right.nd (pp_add (pb_of (pp_slice (pb_of (pp_mul (pb_var 2) (pb_of pp_int))) ppo_none (ppo_some (pb_of (pp_sub (pb_var 3) (pb_of pp_int)))))) (pb_of pp_str)))
  (pss_newDk (i := 5) T.DC_Desk T.MK_Desk G_Desk___init__ (hr.mono (by decide)) (by rfl) T.G_Desk T.B_Desk___init__ (passW tk) (pps_cons (pp_var 1) (pps_cons (pp_var 4) pps_nil)) sc__law_long_right.nd
  (ppss_cons (pps_setN (i := 6) sc__law_long_right.nd (pn_lst (pps_cons (pp_call G__law_word_of (hr.mono (by decide)) (by rfl) T.G__law_word_of T.F__law_word_of.kp T.B__law_word_of (passW tk) (pps_cons (pp_var 5) (pps_cons (pp_tup (pps_cons pp_str (pps_cons (pp_var 3) (pps_cons (pp_mul (pb_of pp_str) (pb_of (pp_sub (pb_of pp_int) (pb_var 3)))) pps_nil)))) pps_nil))) (pps_cons (pp_call G__law_word_of (hr.mono (by decide)) (by rfl) T.G__law_word_of T.F__law_word_of.kp T.B__law_word_of (passW tk) (pps_cons (pp_var 5) (pps_cons (pp_tup (pps_cons pp_str (pps_cons pp_int (pps_cons pp_str pps_nil)))) pps_nil))) pps_nil))))
  (ppss_cons (pps_if (ppt_bool (pwt_or (ppt_ne (u65 hr) (pb_var 6) (pb_of (pp_new (pn_lst (pps_cons pp_str (pps_cons pp_str pps_nil)))))) (pwt_or1 (ppt_ne (u65 hr) (pb_of (pp_prop (i := 5) T.DC_Desk T.PR_Desk_text G_Desk_text (hr.mono (by decide)) T.B_Desk_text)) (pb_of (pp_add (pb_var 4) (pb_of (pp_mul (pb_of pp_str) (pb_of (pp_sub (pb_of pp_int) (pb_var 3))))))))))) (ppss_one (pps_ret pp_bl)) ppss_nil)
  (ppss_cons (pps_setN (i := 6) sc__law_long_right.nd (pn_lst (pps_cons (pp_call G__law_word_of (hr.mono (by decide)) (by rfl) T.G__law_word_of T.F__law_word_of.kp T.B__law_word_of (passW tk) (pps_cons (pp_var 5) (pps_cons (pp_tup (pps_cons pp_str (pps_cons pp_int (pps_cons pp_str pps_nil)))) pps_nil))) (pps_cons (pp_call G__law_word_of (hr.mono (by decide)) (by rfl) T.G__law_word_of T.F__law_word_of.kp T.B__law_word_of (passW tk) (pps_cons (pp_var 5) (pps_cons (pp_tup (pps_cons pp_str (pps_cons pp_int (pps_cons pp_str pps_nil)))) pps_nil))) pps_nil))))
  (ppss_cons (pps_set (i := 6) sc__law_long_right.nd (pp_add (pb_var 6) (pb_of (pp_new (pn_lst (pps_cons (pp_call G__law_word_of (hr.mono (by decide)) (by rfl) T.G__law_word_of T.F__law_word_of.kp T.B__law_word_of (passW tk) (pps_cons (pp_var 5) (pps_cons (pp_tup (pps_cons pp_str (pps_cons pp_int (pps_cons pp_str pps_nil)))) pps_nil))) pps_nil))))))
  (ppss_cons (pps_if (ppt_bool (pwt_or (ppt_ne (u65 hr) (pb_var 6) (pb_of (pp_new (pn_lst (pps_cons pp_str (pps_cons pp_str (pps_cons pp_str pps_nil))))))) (pwt_or1 (ppt_ne (u65 hr) (pb_of (pp_call G__law_word_of (hr.mono (by decide)) (by rfl) T.G__law_word_of T.F__law_word_of.kp T.B__law_word_of (passW tk) (pps_cons (pp_var 5) (pps_cons (pp_tup (pps_cons pp_str pps_nil)) pps_nil)))) (pb_of pp_str))))) (ppss_one (pps_ret pp_bl)) ppss_nil)
  (ppss_cons (pps_if (ppt_bool (pwt_or (ppt_ne (u65 hr) (pb_of (pp_call G__law_word_of (hr.mono (by decide)) (by rfl) T.G__law_word_of T.F__law_word_of.kp T.B__law_word_of (passW tk) (pps_cons (pp_var 5) (pps_cons (pp_tup (pps_cons pp_str (pps_cons pp_int (pps_cons (pp_mul (pb_of pp_str) (pb_of pp_int)) pps_nil)))) pps_nil)))) (pb_of pp_str)) (pwt_or1 (ppt_ne (u65 hr) (pb_of (pp_call G__law_word_of (hr.mono (by decide)) (by rfl) T.G__law_word_of T.F__law_word_of.kp T.B__law_word_of (passW tk) (pps_cons (pp_var 5) (pps_cons (pp_tup (pps_cons pp_str (pps_cons pp_int (pps_cons (pp_mul (pb_of pp_str) (pb_of pp_int)) pps_nil)))) pps_nil)))) (pb_of pp_str))))) (ppss_one (pps_ret pp_bl)) ppss_nil)
  (ppss_cons (pps_if (ppt_bool (pwt_or (ppt_ne (u65 hr) (pb_of (pp_call G__law_word_of (hr.mono (by decide)) (by rfl) T.G__law_word_of T.F__law_word_of.kp T.B__law_word_of (passW tk) (pps_cons (pp_var 5) (pps_cons (pp_tup (pps_cons pp_str pps_nil)) pps_nil)))) (pb_of pp_str)) (pwt_or1 (ppt_ne (u65 hr) (pb_of (pp_lenO (i := 5) T.DC_Desk (by rfl) T.Z_len T.M_Desk___len__.at_ T.M_Desk___len__.fn G_Desk___len__ (hr.mono (by decide)) T.B_Desk___len__)) (pb_of pp_int))))) (ppss_one (pps_ret pp_bl)) ppss_nil)
  (ppss_cons (pps_setN (i := 6) sc__law_long_right.nd (pn_lst (pps_cons (pp_call G__law_word_of (hr.mono (by decide)) (by rfl) T.G__law_word_of T.F__law_word_of.kp T.B__law_word_of (passW tk) (pps_cons (pp_var 5) (pps_cons (pp_tup (pps_cons pp_str pps_nil)) pps_nil))) (pps_cons (pp_call G__law_word_of (hr.mono (by decide)) (by rfl) T.G__law_word_of T.F__law_word_of.kp T.B__law_word_of (passW tk) (pps_cons (pp_var 5) (pps_cons (pp_tup (pps_cons pp_str pps_nil)) pps_nil))) (pps_cons (pp_call G__law_word_of (hr.mono (by decide)) (by rfl) T.G__law_word_of T.F__law_word_of.kp T.B__law_word_of (passW tk) (pps_cons (pp_var 5) (pps_cons (pp_tup (pps_cons pp_str pps_nil)) pps_nil))) pps_nil)))))
  (ppss_cons (pps_if (ppt_ne (u65 hr) (pb_var 6) (pb_of (pp_new (pn_lst (pps_cons pp_str (pps_cons pp_str (pps_cons (pp_itemA (u65 hr) (pb_of (pp_new (pn_lst (pps_cons pp_str (pps_cons pp_str pps_nil))))) (pb_of (pp_int1 (by rfl) T.Z_int (pbs_cons (pb_of (pp_gt (pb_of (pp_scount (pb_var 4) (pb_of pp_str))) (pb_of (pp_sub (pb_of pp_int) (pb_var 3))))) pbs_nil)))) pps_nil))))))) (ppss_one (pps_ret pp_bl)) ppss_nil)
  (ppss_one (pps_if (ppt_ne (u65 hr) (pb_of (pp_lenO (i := 5) T.DC_Desk (by rfl) T.Z_len T.M_Desk___len__.at_ T.M_Desk___len__.fn G_Desk___len__ (hr.mono (by decide)) T.B_Desk___len__)) (pb_of (pp_itemA (u65 hr) (pb_of (pp_new (pn_lst (pps_cons (pp_add (pb_var 3) (pb_of (pp_scount (pb_var 4) (pb_of pp_str)))) (pps_cons (pp_var 3) pps_nil))))) (pb_of (pp_int1 (by rfl) T.Z_int (pbs_cons (pb_of (pp_eq (u65 hr) (pb_of (pp_itemA (u65 hr) (pb_var 6) (pb_of pp_int))) (pb_of pp_str))) pbs_nil)))))) (ppss_one (pps_ret pp_bl)) ppss_nil))))))))))))))
  (ppss_one (pps_ret pp_bl)))))
theorem ok__law_forty_right (T : Txt K mg A) (G_Desk___init__ : FnOk P w K mg base (L2.CX P w) 6 A.a_Desk___init__ A.fd_Desk___init__ ["self", "book", "text"] (spMk ⟨K, P, w⟩ mg A.C_Desk F_check_book_and_text)) (G_Desk_put : FnOk P w K mg base (L2.CX P w) 5 A.a_Desk_put A.fd_Desk_put ["self", "at", "word"] (spP ⟨K, P, w⟩ mg 3 F_Desk_put)) (G_Desk_text : FnOk P w K mg base (L2.CX P w) 1 A.a_Desk_text A.fd_Desk_text ["self"] (spP ⟨K, P, w⟩ mg 1 F_Desk_text)) (G__law_word_of : FnOk P w K mg base (L2.CX P w) 6 A.a__law_word_of A.fd__law_word_of ["desk", "deed"] (spP ⟨K, P, w⟩ mg 2 F__law_word_of)) (G_Desk___len__ : FnOk P w K mg base (L2.CX P w) 3 A.a_Desk___len__ A.fd_Desk___len__ ["self"] (spP ⟨K, P, w⟩ mg 1 F_Desk___len__)) (G_Desk_undo : FnOk P w K mg base (L2.CX P w) 1 A.a_Desk_undo A.fd_Desk_undo ["self"] (spP ⟨K, P, w⟩ mg 1 F_Desk_undo)) : FnOk P w K mg base (L2.CX P w) 8 A.a__law_forty_right A.fd__law_forty_right [] (spP ⟨K, P, w⟩ mg 0 F__law_forty_right) :=
  okP (N := ["desk", "k", "kept", "words"]) T.F__law_forty_right sc__law_forty_right rfl (by decide) fun cdv A' outer s H E hr => by
  have tk := takes_of (X := cxOf (L2.CX P w) P w K mg base ["desk", "k", "kept", "words"] "_law_forty_right" (defScope sF__law_forty_right) A.a__law_forty_right cdv A' outer s H E) (E := E) rfl rfl rfl rfl
  exact (pss_newDk (i := 0) T.DC_Desk T.MK_Desk G_Desk___init__ (hr.mono (by decide)) (by rfl) T.G_Desk T.B_Desk___init__ (passW tk) (pps_cons (pp_tup pps_nil) (pps_cons pp_str pps_nil)) sc__law_forty_right.nd
  (ppss_cons (pps_for (passes_of rfl) rfl (pit_range1 (by rfl) T.Z_range (pbs_cons (pb_of pp_int) pbs_nil)) (ptg_nm sc__law_forty_right.nd (i := 1) rfl (by first | exact .inl rfl | exact .inr rfl)) (ppss_one (pps_expr (pp_meth (i := 0) T.DC_Desk T.M_Desk_put G_Desk_put (hr.mono (by decide)) T.B_Desk_put (passW tk) (pps_cons (pp_fdiv (pb_var 1) (pb_of pp_int)) (pps_cons (pp_itemA (u65 hr) (pb_of pp_str) (pb_of (pp_mod (pb_var 1) (pb_of pp_int)))) pps_nil))))))
  (ppss_cons (pps_set (i := 2) sc__law_forty_right.nd (pp_prop (i := 0) T.DC_Desk T.PR_Desk_text G_Desk_text (hr.mono (by decide)) T.B_Desk_text))
  (ppss_cons (pps_if (ppt_bool (pwt_or (ppt_ne (u65 hr) (pb_of (pp_call G__law_word_of (hr.mono (by decide)) (by rfl) T.G__law_word_of T.F__law_word_of.kp T.B__law_word_of (passW tk) (pps_cons (pp_var 0) (pps_cons (pp_tup (pps_cons pp_str (pps_cons pp_int (pps_cons pp_str pps_nil)))) pps_nil)))) (pb_of pp_str)) (pwt_or1 (ppt_ne (u65 hr) (pb_of (pp_lenO (i := 0) T.DC_Desk (by rfl) T.Z_len T.M_Desk___len__.at_ T.M_Desk___len__.fn G_Desk___len__ (hr.mono (by decide)) T.B_Desk___len__)) (pb_of pp_int))))) (ppss_one (pps_ret pp_bl)) ppss_nil)
  (ppss_cons (pps_setLc (i := 3) (own := [("k", 1)]) rfl sc__law_forty_right.nd (pit_range1 (by rfl) T.Z_range (pbs_cons (pb_of pp_int) pbs_nil)) (blkOk_by (N := ["desk", "k", "kept", "words"]) (sc := (defScope sF__law_forty_right)) (by decide +kernel)) rfl (by decide) (fun _ _ _ _ _ => (ptg_nm sc__law_forty_right.nd (i := 1) rfl (by first | exact .inl rfl | exact .inr rfl))) (fun _ _ _ _ _ => pts_yes) (fun _ _ _ _ _ => (pp_call G__law_word_of (hr.mono (by decide)) (by rfl) T.G__law_word_of T.F__law_word_of.kp T.B__law_word_of pass00 (pps_cons (pp_var 0) (pps_cons (pp_tup (pps_cons pp_str pps_nil)) pps_nil)))) rfl rfl (sw_true rfl rfl rfl (by decide +kernel)))
  (ppss_cons (pps_if (ppt_bool (pwt_or (ppt_ne (u65 hr) (pb_var 3) (pb_of (pp_add (pb_of (pp_rep (pb_of (pp_new (pn_lst (pps_cons pp_str pps_nil)))) (pb_of pp_int))) (pb_of (pp_new (pn_lst (pps_cons pp_str pps_nil))))))) (pwt_or1 (ppt_ne (u65 hr) (pb_of (pp_prop (i := 0) T.DC_Desk T.PR_Desk_text G_Desk_text (hr.mono (by decide)) T.B_Desk_text)) (pb_of pp_str))))) (ppss_one (pps_ret pp_bl)) ppss_nil)
  (ppss_cons (pps_setLc (i := 3) (own := [("k", 1)]) rfl sc__law_forty_right.nd (pit_range1 (by rfl) T.Z_range (pbs_cons (pb_of pp_int) pbs_nil)) (blkOk_by (N := ["desk", "k", "kept", "words"]) (sc := (defScope sF__law_forty_right)) (by decide +kernel)) rfl (by decide) (fun _ _ _ _ _ => (ptg_nm sc__law_forty_right.nd (i := 1) rfl (by first | exact .inl rfl | exact .inr rfl))) (fun _ _ _ _ _ => pts_yes) (fun _ _ _ _ _ => (pp_call G__law_word_of (hr.mono (by decide)) (by rfl) T.G__law_word_of T.F__law_word_of.kp T.B__law_word_of pass00 (pps_cons (pp_var 0) (pps_cons (pp_tup (pps_cons pp_str pps_nil)) pps_nil)))) rfl rfl (sw_true rfl rfl rfl (by decide +kernel)))
  (ppss_cons (pps_if (ppt_bool (pwt_or (ppt_ne (u65 hr) (pb_var 3) (pb_of (pp_add (pb_of (pp_rep (pb_of (pp_new (pn_lst (pps_cons pp_str pps_nil)))) (pb_of pp_int))) (pb_of (pp_new (pn_lst (pps_cons pp_str pps_nil))))))) (pwt_or1 (ppt_ne (u65 hr) (pb_of (pp_prop (i := 0) T.DC_Desk T.PR_Desk_text G_Desk_text (hr.mono (by decide)) T.B_Desk_text)) (pb_var 2))))) (ppss_one (pps_ret pp_bl)) ppss_nil)
  (ppss_cons (pps_expr (pp_meth0 (i := 0) T.DC_Desk T.M_Desk_undo G_Desk_undo (hr.mono (by decide)) T.B_Desk_undo (passW tk)))
  (ppss_cons (pps_if (ppt_bool (pwt_or (ppt_ne (u65 hr) (pb_of (pp_call G__law_word_of (hr.mono (by decide)) (by rfl) T.G__law_word_of T.F__law_word_of.kp T.B__law_word_of (passW tk) (pps_cons (pp_var 0) (pps_cons (pp_tup (pps_cons pp_str (pps_cons pp_int (pps_cons pp_int pps_nil)))) pps_nil)))) (pb_of pp_str)) (pwt_or (ppt_ne (u65 hr) (pb_of (pp_call G__law_word_of (hr.mono (by decide)) (by rfl) T.G__law_word_of T.F__law_word_of.kp T.B__law_word_of (passW tk) (pps_cons (pp_var 0) (pps_cons (pp_tup (pps_cons pp_str pps_nil)) pps_nil)))) (pb_of pp_str)) (pwt_or1 (ppt_ne (u65 hr) (pb_of (pp_prop (i := 0) T.DC_Desk T.PR_Desk_text G_Desk_text (hr.mono (by decide)) T.B_Desk_text)) (pb_var 2)))))) (ppss_one (pps_ret pp_bl)) ppss_nil)
  (ppss_cons (pps_setN (i := 3) sc__law_forty_right.nd (pn_lst (pps_cons (pp_call G__law_word_of (hr.mono (by decide)) (by rfl) T.G__law_word_of T.F__law_word_of.kp T.B__law_word_of (passW tk) (pps_cons (pp_var 0) (pps_cons (pp_tup (pps_cons pp_str pps_nil)) pps_nil))) (pps_cons (pp_call G__law_word_of (hr.mono (by decide)) (by rfl) T.G__law_word_of T.F__law_word_of.kp T.B__law_word_of (passW tk) (pps_cons (pp_var 0) (pps_cons (pp_tup (pps_cons pp_str (pps_cons pp_int (pps_cons pp_int pps_nil)))) pps_nil))) (pps_cons (pp_call G__law_word_of (hr.mono (by decide)) (by rfl) T.G__law_word_of T.F__law_word_of.kp T.B__law_word_of (passW tk) (pps_cons (pp_var 0) (pps_cons (pp_tup (pps_cons pp_str pps_nil)) pps_nil))) pps_nil)))))
  (ppss_cons (pps_if (ppt_bool (pwt_or (ppt_ne (u65 hr) (pb_var 3) (pb_of (pp_new (pn_lst (pps_cons pp_str (pps_cons pp_str (pps_cons pp_str pps_nil))))))) (pwt_or1 (ppt_ne (u65 hr) (pb_of (pp_lenO (i := 0) T.DC_Desk (by rfl) T.Z_len T.M_Desk___len__.at_ T.M_Desk___len__.fn G_Desk___len__ (hr.mono (by decide)) T.B_Desk___len__)) (pb_of pp_int))))) (ppss_one (pps_ret pp_bl)) ppss_nil)
  (ppss_one (pps_ret (pp_eq (u65 hr) (pb_of (pp_new (pn_lc (own := [("k", 1)]) rfl sc__law_forty_right.nd (pit_range1 (by rfl) T.Z_range (pbs_cons (pb_of pp_int) pbs_nil)) (blkOk_by (N := ["desk", "k", "kept", "words"]) (sc := (defScope sF__law_forty_right)) (by decide +kernel)) rfl (by decide) (fun _ _ _ _ _ => (ptg_nm sc__law_forty_right.nd (i := 1) rfl (by first | exact .inl rfl | exact .inr rfl))) (fun _ _ _ _ _ => pts_yes) (fun _ _ _ _ _ => (pp_call G__law_word_of (hr.mono (by decide)) (by rfl) T.G__law_word_of T.F__law_word_of.kp T.B__law_word_of pass00 (pps_cons (pp_var 0) (pps_cons (pp_tup (pps_cons pp_str pps_nil)) pps_nil))))))) (pb_of (pp_add (pb_of (pp_rep (pb_of (pp_new (pn_lst (pps_cons pp_str pps_nil)))) (pb_of pp_int))) (pb_of (pp_new (pn_lst (pps_cons pp_str pps_nil)))))))))))))))))))))
def Pure : Prop := ∀ cells : List Int, cells ≠ [] → cells.length ≤ 63 → ∃ m', m_law ⟨env1 0, ⟨cells, 0, .no⟩⟩ = .ok (.ret (.dat (.bool true))) m'
theorem ok_law (T : Txt K mg A) (GS : FnOk P w K mg base (L2.CX P w) 1 A.a__law_source A.fd__law_source ["script"] (spSource K)) (G__law_long_right : FnOk P w K mg base (L2.CX P w) 8 A.a__law_long_right A.fd__law_long_right ["source"] (spP ⟨K, P, w⟩ mg 1 F__law_long_right)) (G__law_forty_right : FnOk P w K mg base (L2.CX P w) 8 A.a__law_forty_right A.fd__law_forty_right [] (spP ⟨K, P, w⟩ mg 0 F__law_forty_right)) (pure : Pure) : FnOk P w K mg base (L2.CX P w) 9 A.a_law A.fd_law ["script"] (spLaw K) := by
  refine T.F_law.okX sc_law (fun vs H Q E h => ?_) (fun cdv A' outer s H vs Q E hr h => ?_)
  · obtain ⟨_, _, rfl, _⟩ := h
    rfl
  · obtain ⟨a0, ns, rfl, hS, hn, q⟩ := h
    have tk := takes_of (X := cxOf (L2.CX P w) P w K mg base ["script", "source"] "law" (defScope sF_law) A.a_law cdv A' outer s H E) (E := E) rfl rfl rfl rfl
    refine ⟨tSeq (tAsg (tCallS (spSource K) (WE (fun c d _ H => E c d H)) (tCons (tVar 0) tNil)) (gName 1)) (tS ⟨K, P, w⟩ mg (fun c d _ H => E c d H) m_law), pss_cons (ps_set (i := 1) sc_law.nd rfl (.inl rfl) (pe_callS GS (hr.mono (by decide)) (by rfl) T.G__law_source T.F__law_source.kp T.B__law_source (passW tk) (pa_cons (pv 0) pa_nil))) (ppss_one (pps_ret (pp_and (pp_call G__law_long_right (hr.mono (by decide)) (by rfl) T.G__law_long_right T.F__law_long_right.kp T.B__law_long_right (passW tk) (pps_cons (pp_var 1) pps_nil)) (pp_one (pp_call0 G__law_forty_right (hr.mono (by decide)) (by rfl) T.G__law_forty_right T.F__law_forty_right.kp T.B__law_forty_right (passW tk)))))), ?_⟩
    refine ⟨.ref a0, rfl, a0, ns, rfl, hS, hn, fun H' a c cells sm na nc nac ha hc hne hl => ?_⟩
    obtain ⟨m', hm⟩ := pure cells hne hl
    exact law_rest (n := 0) rfl rfl nac ha hc hm q
theorem all_ok (T : Txt K mg A) (pure : Pure) : FnOk P w K mg base (L2.CX P w) 9 A.a_law A.fd_law ["script"] (spLaw K) := by
  have GS := ok__law_source (P := P) (w := w) (base := base) T
  have G_is_word := ok_is_word (P := P) (w := w) (base := base) T 
  have G_is_fix := ok_is_fix (P := P) (w := w) (base := base) T G_is_word
  have G_is_book := ok_is_book (P := P) (w := w) (base := base) T G_is_fix
  have G_check_book := ok_check_book (P := P) (w := w) (base := base) T G_is_book
  have G_check_text := ok_check_text (P := P) (w := w) (base := base) T G_is_word
  have G_is_number := ok_is_number (P := P) (w := w) (base := base) T 
  have G_looked_for := ok_looked_for (P := P) (w := w) (base := base) T 
  have G_check_book_and_text := ok_check_book_and_text (P := P) (w := w) (base := base) T G_check_book G_check_text
  have G_first_at := ok_first_at (P := P) (w := w) (base := base) T 
  have G_round_findings := ok_round_findings (P := P) (w := w) (base := base) T G_looked_for G_first_at
  have G_put_in := ok_put_in (P := P) (w := w) (base := base) T 
  have G_mended := ok_mended (P := P) (w := w) (base := base) T G_put_in G_round_findings
  have G__law_draw := ok__law_draw (P := P) (w := w) (base := base) T
  have G__law_pick := ok__law_pick (P := P) (w := w) (base := base) T G__law_draw
  have G_Desk_text := ok_Desk_text (P := P) (w := w) (base := base) T 
  have G_Desk___len__ := ok_Desk___len__ (P := P) (w := w) (base := base) T G_Desk_text
  have G_Desk__take_stand := ok_Desk__take_stand (P := P) (w := w) (base := base) T 
  have G_Desk_book := ok_Desk_book (P := P) (w := w) (base := base) T 
  have G_Desk_put := ok_Desk_put (P := P) (w := w) (base := base) T G_is_number G_Desk___len__ G_check_text G_Desk__take_stand G_Desk_book G_Desk_text
  have G_Desk_strike := ok_Desk_strike (P := P) (w := w) (base := base) T G_is_number G_Desk___len__ G_Desk__take_stand G_Desk_book G_Desk_text
  have G_Desk_round := ok_Desk_round (P := P) (w := w) (base := base) T G_Desk__take_stand G_Desk_book G_mended G_Desk_text
  have G_Desk_undo := ok_Desk_undo (P := P) (w := w) (base := base) T 
  have G_Desk_redo := ok_Desk_redo (P := P) (w := w) (base := base) T 
  have G__law_word_of := ok__law_word_of (P := P) (w := w) (base := base) T G_Desk_put G_Desk_strike G_Desk_round G_Desk_undo G_Desk_redo
  have G_Desk___init__ := ok_Desk___init__ (P := P) (w := w) (base := base) T G_check_book_and_text
  have G__law_long_right := ok__law_long_right (P := P) (w := w) (base := base) T G__law_pick G_Desk___init__ G__law_word_of G_Desk_text G_Desk___len__
  have G__law_forty_right := ok__law_forty_right (P := P) (w := w) (base := base) T G_Desk___init__ G_Desk_put G_Desk_text G__law_word_of G_Desk___len__ G_Desk_undo
  exact ok_law T GS G__law_long_right G__law_forty_right pure
end
end
end PL.RF
namespace PL.RF
open PySem PySem.Spec PyProof.Rows L2
/-! ### desks: what the methods do -/
abbrev Stand := List Fx × List Nat
def stD (p : Stand) : PyData := .tuple [bookD p.1, dt p.2]
abbrev DkS (c : List Int) (t : Int) (L : List Stand) (n : Nat) : SrcSt := ⟨c, t, .dsk (L.map stD) (n : Int)⟩
theorem st_dsk {c : List Int} {t : Int} {L : List PyData} {n : Int} : (⟨c, t, .dsk L n⟩ : SrcSt).b = .dsk L n := rfl
section
variable {c : List Int} {t : Int} {L : List PyData} {n : Int} {r : List (Option Sl)} {x0 x1 x2 x3 x4 : Option Sl}
theorem dk_0 : dkOf ⟨some (.obj .bx) :: r, ⟨c, t, .dsk L n⟩⟩ 0 = some (L, n) := rfl
theorem dk_5 : dkOf ⟨x0 :: x1 :: x2 :: x3 :: x4 :: some (.obj .bx) :: r, ⟨c, t, .dsk L n⟩⟩ 5 = some (L, n) := rfl
variable {m : Me} {i : Nat} {F : List Sl → SrcSt → CRes} {ms : List (M Sl)}
theorem mMeth_x (h : dkOf m i = some (L, n)) : mMeth F i ms m = (mArgs ms m).bind fun ss m1 => resV m1 (F (.obj .bx :: ss) m1.st) := by unfold mMeth; rw [h]
theorem mProp_x {s : Sl} {st' : SrcSt} (h : dkOf m i = some (L, n)) (hf : F [.obj .bx] m.st = .ok s st') : mProp F i m = resV m (.ok s st') := by unfold mProp; rw [h]; simp only [hf]
theorem mLenO_x {k : Nat} {st' : SrcSt} (h : dkOf m i = some (L, n)) (hf : F [.obj .bx] m.st = .ok (sn k) st') (hk : k ≤ 1000000) : mLenO F i m = .ok (sn k) ⟨m.env, st'⟩ := by
  unfold mLenO
  rw [h]
  simp only [hf]
  rw [if_pos ⟨by omega, by omega⟩]
end
/-- the stand that stands now -/
structure Now (L : List Stand) (n : Nat) (fs : List Fx) (x : List Nat) : Prop where
  at_ : L[n]? = some (fs, x)
  bk : BOk fs
  tx : TOk x
section
variable {c : List Int} {t : Int} {L : List Stand} {n : Nat} {fs : List Fx} {x : List Nat}
theorem Now.lt (h : Now L n fs x) : n < L.length := by
  rcases Nat.lt_or_ge n L.length with z | z
  · exact z
  · have := h.at_; rw [List.getElem?_eq_none z] at this; cases this
theorem now_x (h : Now L n fs x) {r : List (Option Sl)} : mDkNow 0 ⟨some (.obj .bx) :: r, DkS c t L n⟩ = .ok (.dat (.tuple [bookD fs, dt x])) ⟨some (.obj .bx) :: r, DkS c t L n⟩ := by
  unfold mDkNow
  rw [dk_0]
  simp only
  rw [if_pos (by omega), Int.toNat_natCast, List.getElem?_map, h.at_]
  rfl
theorem text_at (h : Now L n fs x) : F_Desk_text [.obj .bx] (DkS c t L n) = .ok (sd x) (DkS c t L n) := by
  refine call_of (env := [some (.obj .bx)]) rfl ?_
  have hi : pIxA (.tuple [bookD fs, dt x]) (.int 1) = some (dt x) := pIxA_t (n := 1) rfl
  simp only [m_Desk_text, mRet_x, mOp_x, mDat_x, now_x h, mC_x, Res.bind_ok, datR_dat, hi, opR_some, callR_r]
theorem book_at (h : Now L n fs x) : F_Desk_book [.obj .bx] (DkS c t L n) = .ok (.dat (bookD fs)) (DkS c t L n) := by
  refine call_of (env := [some (.obj .bx)]) rfl ?_
  have hi : pIxA (.tuple [bookD fs, dt x]) (.int 0) = some (bookD fs) := pIxA_t (n := 0) rfl
  simp only [m_Desk_book, mRet_x, mOp_x, mDat_x, now_x h, mC_x, Res.bind_ok, datR_dat, hi, opR_some, callR_r]
theorem textP (h : Now L n fs x) {m : Me} {i : Nat} (hd : dkOf m i = some (L.map stD, (n : Int))) (hs : m.st = DkS c t L n) : mProp F_Desk_text i m = .ok (sd x) m := by
  obtain ⟨env, st⟩ := m
  have hs : st = DkS c t L n := hs
  subst hs
  rw [mProp_x hd (text_at h)]
  rfl
theorem bookP (h : Now L n fs x) {m : Me} {i : Nat} (hd : dkOf m i = some (L.map stD, (n : Int))) (hs : m.st = DkS c t L n) : mProp F_Desk_book i m = .ok (.dat (bookD fs)) m := by
  obtain ⟨env, st⟩ := m
  have hs : st = DkS c t L n := hs
  subst hs
  rw [mProp_x hd (book_at h)]
  rfl
theorem len_at (h : Now L n fs x) : F_Desk___len__ [.obj .bx] (DkS c t L n) = .ok (sn x.length) (DkS c t L n) := by
  refine call_of (env := [some (.obj .bx)]) rfl ?_
  have hl : fLen [dt x] = some (nd x.length) := fLen_txt (by have := h.tx.2; omega)
  simp only [m_Desk___len__, mRet_x, mCal_x, mBs_cons, mBs_nil, mDat_x, textP (m := ⟨[some (.obj .bx)], DkS c t L n⟩) (i := 0) h dk_0 rfl, Res.bind_ok, datR_dat, hl, opR_some, callR_r]
theorem lenP (h : Now L n fs x) {m : Me} {i : Nat} (hd : dkOf m i = some (L.map stD, (n : Int))) (hs : m.st = DkS c t L n) : mLenO F_Desk___len__ i m = .ok (sn x.length) m := by
  obtain ⟨env, st⟩ := m
  have hs : st = DkS c t L n := hs
  subst hs
  exact mLenO_x hd (len_at h) (by have := h.tx.2; omega)
abbrev xMany : Xn := ⟨"TooMany", []⟩
abbrev xPlace : Xn := ⟨"InvalidPlace", []⟩
abbrev xWord : Xn := ⟨"InvalidWord", []⟩
abbrev xUndo : Xn := ⟨"NothingToUndo", []⟩
abbrev xRedo : Xn := ⟨"NothingToRedo", []⟩
/-- what comes of a stand that is to be taken -/
def takeR (c : List Int) (t : Int) (L : List Stand) (n : Nat) (p : Stand) : CRes := if p.2.length ≤ 200 then .ok (.dat .none) (DkS c t (L.take (n + 1) ++ [p]) (n + 1)) else .exc xMany (DkS c t L n)
theorem take_stand_at (hn : n < L.length) (hL : L.length ≤ 1000) {gs : List Fx} {y : List Nat} (hy : y.length ≤ 100000) : F_Desk__take_stand [.obj .bx, .dat (bookD gs), sd y] (DkS c t L n) = takeR c t L n (gs, y) := by
  refine call_of (env := [some (.obj .bx), some (.dat (bookD gs)), some (sd y)]) rfl ?_
  have hl : fLen [dt y] = some (nd y.length) := fLen_txt (by omega)
  unfold takeR
  by_cases h2 : y.length ≤ 200
  · rw [if_pos h2]
    have hg : ¬ ((200 : Int) < (y.length : Int)) := by omega
    have e1 : mDkDel 0 ⟨[some (.obj .bx), some (.dat (bookD gs)), some (sd y)], DkS c t L n⟩ = .ok .next ⟨[some (.obj .bx), some (.dat (bookD gs)), some (sd y)], DkS c t (L.take (n + 1)) n⟩ := by
      unfold mDkDel
      rw [dk_0]
      simp only
      rw [if_pos ⟨by omega, by rw [Int.toNat_natCast, List.length_map]; omega⟩, Int.toNat_natCast]
      simp only [DkS, List.map_take]
    have e2 : mDkApp 0 (mTup (mArgs [(mVar 1), (mVar 2)])) ⟨[some (.obj .bx), some (.dat (bookD gs)), some (sd y)], DkS c t (L.take (n + 1)) n⟩ = .ok .next ⟨[some (.obj .bx), some (.dat (bookD gs)), some (sd y)], DkS c t (L.take (n + 1) ++ [(gs, y)]) n⟩ := by
      unfold mDkApp
      rw [dk_0]
      simp only [mDat_x, mTup_x, mArgs_cons, mArgs_nil, mVd_1, mVd_2, Res.bind_ok, tupR_2, datR_dat, dk_0]
      rw [if_pos (by rw [sl_eq, List.length_map, List.length_take]; omega)]
      simp only [DkS, List.map_append]
      rfl
    have e3 : mDkMv 0 1 ⟨[some (.obj .bx), some (.dat (bookD gs)), some (sd y)], DkS c t (L.take (n + 1) ++ [(gs, y)]) n⟩ = .ok .next ⟨[some (.obj .bx), some (.dat (bookD gs)), some (sd y)], DkS c t (L.take (n + 1) ++ [(gs, y)]) (n + 1)⟩ := rfl
    unfold m_Desk__take_stand
    rw [mSeq_x]
    simp only [mIfS_x, mTest_x, mOp_x, mDat_x, mCal_x, mBs_cons, mBs_nil, mBd_2, mC_x, Res.bind_ok, hl, opR_some, datR_dat, pGt_i, testR_b, decide_eq_false hg, Bool.false_eq_true, if_false, mNext_x, seqR_n]
    rw [mSeq_x, e1]
    simp only [Res.bind_ok, seqR_n]
    rw [mSeq_x, e2]
    simp only [Res.bind_ok, seqR_n]
    rw [e3]
    rfl
  · rw [if_neg h2]
    have hg : ((200 : Int) < (y.length : Int)) := by omega
    unfold m_Desk__take_stand
    rw [mSeq_x]
    simp only [mIfS_x, mTest_x, mOp_x, mDat_x, mCal_x, mBs_cons, mBs_nil, mBd_2, mC_x, Res.bind_ok, hl, opR_some, datR_dat, pGt_i, testR_b, decide_eq_true hg, if_true, mRaise_x, Res.bind_exc]
    rfl
theorem is_numI (k : Int) (hi : Nat) (lo : Nat) (st : SrcSt) : F_is_number [.dat (.int k), .dat (.int (lo : Int)), sn hi] st = .ok (.dat (.bool (decide ((lo : Int) ≤ k) && decide (k ≤ (hi : Int))))) st := by
  refine call_of (env := [some (.dat (.int k)), some (.dat (.int (lo : Int))), some (sn hi)]) rfl ?_
  by_cases h : (lo : Int) ≤ k
  · by_cases h2 : k ≤ (hi : Int) <;> simp [m_is_number, h, h2]
  · simp [m_is_number, h]
theorem check_textB {y : List Nat} (hy : y.length ≤ 100000) (st : SrcSt) : F_check_text [sd y] st = if wordB y 0 200 = true then .ok (.dat .none) st else .exc xWord st := by
  have hw : F_is_word [sd y, .dat (.int 0), .dat (.int 200)] st = .ok (.dat (.bool (wordB y 0 200))) st := is_word_at y 0 200 st (by omega)
  refine call_of (env := [some (sd y)]) rfl ?_
  cases hb : wordB y 0 200 <;> rw [hb] at hw <;> simp [m_check_text, hw]
/-- a desk's answer to put -/
def putD (c : List Int) (t : Int) (L : List Stand) (n : Nat) (fs : List Fx) (x : List Nat) (k : Nat) (y : List Nat) : CRes := if k ≤ x.length then (if wordB y 0 200 = true then takeR c t L n (fs, x.take k ++ y ++ x.drop k) else .exc xWord (DkS c t L n)) else .exc xPlace (DkS c t L n)
theorem put_at (h : Now L n fs x) (hL : L.length ≤ 1000) (k : Nat) {y : List Nat} (hy : y.length ≤ 10000) : F_Desk_put [.obj .bx, sn k, sd y] (DkS c t L n) = putD c t L n fs x k y := by
  refine call_of (env := [some (.obj .bx), some (sn k), some (sd y)]) rfl ?_
  have hx := h.tx.2
  let E : Me := ⟨[some (.obj .bx), some (sn k), some (sd y)], DkS c t L n⟩
  have el : mLenO F_Desk___len__ 0 E = .ok (sn x.length) E := lenP h dk_0 rfl
  have eb : mProp F_Desk_book 0 E = .ok (.dat (bookD fs)) E := bookP h dk_0 rfl
  have et : mProp F_Desk_text 0 E = .ok (sd x) E := textP h dk_0 rfl
  have en : F_is_number [sn k, .dat (.int 0), sn x.length] (DkS c t L n) = .ok (.dat (.bool (decide ((0 : Int) ≤ (k : Int)) && decide ((k : Int) ≤ (x.length : Int))))) (DkS c t L n) := is_numI (k : Int) x.length 0 _
  have h0 : decide ((0 : Int) ≤ (k : Int)) = true := decide_eq_true (by omega)
  rw [h0, Bool.true_and] at en
  unfold putD
  show callR (m_Desk_put E) = _
  unfold m_Desk_put
  rw [mSeq_x]
  have v1 : mVar 1 E = .ok (sn k) E := rfl
  have v2 : mVar 2 E = .ok (sd y) E := rfl
  have b1 : mBor 1 E = .ok (nd k) E := rfl
  have b2 : mBor 2 E = .ok (dt y) E := rfl
  simp only [mIfS_x, mNot_x, mTest_x, mCall_x, mArgs_cons, mArgs_nil, v1, mC_x, el, Res.bind_ok]
  have en' : resV E (F_is_number [sn k, .dat (.int 0), sn x.length] E.st) = .ok (.dat (.bool (decide ((k : Int) ≤ (x.length : Int))))) E := by
    show resV E (F_is_number [sn k, .dat (.int 0), sn x.length] (DkS c t L n)) = _
    rw [en]; rfl
  rw [en']
  simp only [Res.bind_ok, testR_b]
  by_cases hk : k ≤ x.length
  · rw [if_pos hk, decide_eq_true (by omega : (k : Int) ≤ (x.length : Int))]
    simp only [Bool.not_true, Bool.false_eq_true, if_false, mNext_x, Res.bind_ok, seqR_n]
    rw [mSeq_x]
    simp only [mDrop_x, mCall_x, mArgs_cons, mArgs_nil, v2, Res.bind_ok]
    rw [check_textB (by omega)]
    by_cases hw : wordB y 0 200 = true
    · rw [if_pos hw, if_pos hw]
      have c1 : pCut (dt x) none (some (k : Int)) = some (dt (x.take k)) := by
        rw [pCut_tx (by omega)]
        exact congrArg (fun s => some (PyData.str s)) (cut_to x k)
      have c2 : pCut (dt x) (some (k : Int)) none = some (dt (x.drop k)) := by
        rw [pCut_tx (by omega)]
        exact congrArg (fun s => some (PyData.str s)) (cut_from x k)
      have l1 : (x.take k).length ≤ x.length := by rw [List.length_take]; omega
      have l2 : (x.drop k).length ≤ x.length := by rw [List.length_drop]; omega
      have a1 : pAdd (dt (x.take k)) (dt y) = some (dt (x.take k ++ y)) := pAdd_tx (by omega)
      have a2 : pAdd (dt (x.take k ++ y)) (dt (x.drop k)) = some (dt (x.take k ++ y ++ x.drop k)) := pAdd_tx (by rw [List.length_append]; omega)
      have hr : resV E (.ok (.dat .none) E.st) = .ok (.dat .none) E := rfl
      rw [hr]
      simp only [Res.bind_ok, seqR_n]
      rw [mDrop_x, mMeth_x (L := L.map stD) (n := (n : Int)) (show dkOf E 0 = some (L.map stD, (n : Int)) from rfl)]
      simp only [mArgs_cons, mArgs_nil, eb, Res.bind_ok, mOp_x, mDat_x, mCut_x, et, datR_dat, mPart_n, mPart_s, b1, b2, partR_i, c1, c2, opR_some, a1, a2]
      show callR ((resV E (F_Desk__take_stand [.obj .bx, .dat (bookD fs), sd (x.take k ++ y ++ x.drop k)] (DkS c t L n))).bind _) = _
      rw [take_stand_at h.lt hL (by rw [List.length_append, List.length_append]; omega)]
      unfold takeR
      split <;> rfl
    · rw [if_neg hw, if_neg hw]
      rfl
  · rw [if_neg hk, decide_eq_false (by omega : ¬ (k : Int) ≤ (x.length : Int))]
    simp only [Bool.not_false, if_true, mRaise_x, Res.bind_exc]
    rfl
/-- a desk's answer to strike -/
def strikeD (c : List Int) (t : Int) (L : List Stand) (n : Nat) (fs : List Fx) (x : List Nat) (a b : Nat) : CRes := if a ≤ b ∧ b ≤ x.length then takeR c t L n (fs, x.take a ++ x.drop b) else .exc xPlace (DkS c t L n)
theorem strike_at (h : Now L n fs x) (hL : L.length ≤ 1000) (a b : Nat) : F_Desk_strike [.obj .bx, sn a, sn b] (DkS c t L n) = strikeD c t L n fs x a b := by
  refine call_of (env := [some (.obj .bx), some (sn a), some (sn b)]) rfl ?_
  have hx := h.tx.2
  let E : Me := ⟨[some (.obj .bx), some (sn a), some (sn b)], DkS c t L n⟩
  have el : mLenO F_Desk___len__ 0 E = .ok (sn x.length) E := lenP h dk_0 rfl
  have eb : mProp F_Desk_book 0 E = .ok (.dat (bookD fs)) E := bookP h dk_0 rfl
  have et : mProp F_Desk_text 0 E = .ok (sd x) E := textP h dk_0 rfl
  have en : F_is_number [sn a, .dat (.int 0), sn x.length] (DkS c t L n) = .ok (.dat (.bool (decide ((0 : Int) ≤ (a : Int)) && decide ((a : Int) ≤ (x.length : Int))))) (DkS c t L n) := is_numI (a : Int) x.length 0 _
  have en2 : F_is_number [sn b, sn a, sn x.length] (DkS c t L n) = .ok (.dat (.bool (decide ((a : Int) ≤ (b : Int)) && decide ((b : Int) ≤ (x.length : Int))))) (DkS c t L n) := is_numI (b : Int) x.length a _
  have h0 : decide ((0 : Int) ≤ (a : Int)) = true := decide_eq_true (by omega)
  rw [h0, Bool.true_and] at en
  unfold strikeD
  show callR (m_Desk_strike E) = _
  unfold m_Desk_strike
  rw [mSeq_x]
  have v1 : mVar 1 E = .ok (sn a) E := rfl
  have v2 : mVar 2 E = .ok (sn b) E := rfl
  have b1 : mBor 1 E = .ok (nd a) E := rfl
  have b2 : mBor 2 E = .ok (nd b) E := rfl
  have en' : resV E (F_is_number [sn a, .dat (.int 0), sn x.length] E.st) = .ok (.dat (.bool (decide ((a : Int) ≤ (x.length : Int))))) E := by
    show resV E (F_is_number [sn a, .dat (.int 0), sn x.length] (DkS c t L n)) = _
    rw [en]; rfl
  have en2' : resV E (F_is_number [sn b, sn a, sn x.length] E.st) = .ok (.dat (.bool (decide ((a : Int) ≤ (b : Int)) && decide ((b : Int) ≤ (x.length : Int))))) E := by
    show resV E (F_is_number [sn b, sn a, sn x.length] (DkS c t L n)) = _
    rw [en2]; rfl
  simp only [mIfS_x, mOr_x, mNot_x, mTest_x, mCall_x, mArgs_cons, mArgs_nil, v1, v2, mC_x, el, Res.bind_ok, en', en2', testR_b]
  by_cases ha : a ≤ x.length
  · rw [decide_eq_true (by omega : (a : Int) ≤ (x.length : Int))]
    simp only [Bool.not_true, Bool.false_eq_true, if_false, Res.bind_ok]
    by_cases hab : a ≤ b ∧ b ≤ x.length
    · rw [if_pos hab, decide_eq_true (by omega : (a : Int) ≤ (b : Int)), decide_eq_true (by omega : (b : Int) ≤ (x.length : Int))]
      simp only [Bool.and_self, Bool.not_true, Bool.false_eq_true, if_false, mNext_x, Res.bind_ok, seqR_n]
      have c1 : pCut (dt x) none (some (a : Int)) = some (dt (x.take a)) := by
        rw [pCut_tx (by omega)]
        exact congrArg (fun s => some (PyData.str s)) (cut_to x a)
      have c2 : pCut (dt x) (some (b : Int)) none = some (dt (x.drop b)) := by
        rw [pCut_tx (by omega)]
        exact congrArg (fun s => some (PyData.str s)) (cut_from x b)
      have l1 : (x.take a).length ≤ x.length := by rw [List.length_take]; omega
      have l2 : (x.drop b).length ≤ x.length := by rw [List.length_drop]; omega
      have a1 : pAdd (dt (x.take a)) (dt (x.drop b)) = some (dt (x.take a ++ x.drop b)) := pAdd_tx (by omega)
      rw [mDrop_x, mMeth_x (L := L.map stD) (n := (n : Int)) (show dkOf E 0 = some (L.map stD, (n : Int)) from rfl)]
      simp only [mArgs_cons, mArgs_nil, eb, Res.bind_ok, mOp_x, mDat_x, mCut_x, et, datR_dat, mPart_n, mPart_s, b1, b2, partR_i, c1, c2, opR_some, a1]
      show callR ((resV E (F_Desk__take_stand [.obj .bx, .dat (bookD fs), sd (x.take a ++ x.drop b)] (DkS c t L n))).bind _) = _
      rw [take_stand_at h.lt hL (by rw [List.length_append]; omega)]
      unfold takeR
      split <;> rfl
    · rw [if_neg hab]
      have hf : (decide ((a : Int) ≤ (b : Int)) && decide ((b : Int) ≤ (x.length : Int))) = false := by
        rw [Bool.and_eq_false_iff]
        by_cases h1 : a ≤ b
        · exact .inr (decide_eq_false (by omega))
        · exact .inl (decide_eq_false (by omega))
      rw [hf]
      simp only [Bool.not_false, if_true, mRaise_x, Res.bind_exc]
      rfl
  · rw [decide_eq_false (by omega : ¬ (a : Int) ≤ (x.length : Int)), if_neg (show ¬ (a ≤ b ∧ b ≤ x.length) by omega)]
    simp only [Bool.not_false, if_true, Res.bind_ok, mRaise_x, Res.bind_exc]
    rfl
theorem round_at (h : Now L n fs x) (hL : L.length ≤ 1000) : F_Desk_round [.obj .bx] (DkS c t L n) = takeR c t L n (fs, roundS fs x) := by
  refine call_of (env := [some (.obj .bx)]) rfl ?_
  have hx := h.tx.2
  let E : Me := ⟨[some (.obj .bx)], DkS c t L n⟩
  have eb : mProp F_Desk_book 0 E = .ok (.dat (bookD fs)) E := bookP h dk_0 rfl
  have et : mProp F_Desk_text 0 E = .ok (sd x) E := textP h dk_0 rfl
  have em : resV E (F_mended [.dat (bookD fs), sd x] E.st) = .ok (sd (roundS fs x)) E := by rw [mended_at h.bk (by omega)]; rfl
  have hr := roundS_len h.bk x
  show callR (m_Desk_round E) = _
  unfold m_Desk_round
  rw [mDrop_x, mMeth_x (L := L.map stD) (n := (n : Int)) (show dkOf E 0 = some (L.map stD, (n : Int)) from rfl)]
  simp only [mArgs_cons, mArgs_nil, eb, et, mCall_x, Res.bind_ok, em]
  show callR ((resV E (F_Desk__take_stand [.obj .bx, .dat (bookD fs), sd (roundS fs x)] (DkS c t L n))).bind _) = _
  rw [take_stand_at h.lt hL (by omega)]
  unfold takeR
  split <;> rfl
theorem undo_at : F_Desk_undo [.obj .bx] (DkS c t L n) = if n = 0 then .exc xUndo (DkS c t L n) else .ok (.dat .none) (DkS c t L (n - 1)) := by
  refine call_of (env := [some (.obj .bx)]) rfl ?_
  let E : Me := ⟨[some (.obj .bx)], DkS c t L n⟩
  have ea : mDkAt 0 E = .ok (sn n) E := rfl
  show callR (m_Desk_undo E) = _
  unfold m_Desk_undo
  rw [mSeq_x]
  simp only [mIfS_x, mTest_x, mOp_x, mDat_x, ea, mC_x, Res.bind_ok, datR_dat, pEq_i, opR_some, testR_b]
  by_cases hn : n = 0
  · rw [if_pos hn, decide_eq_true (by omega)]
    simp only [if_true, mRaise_x, Res.bind_exc]
    rfl
  · rw [if_neg hn, decide_eq_false (by omega)]
    simp only [Bool.false_eq_true, if_false, mNext_x, Res.bind_ok, seqR_n]
    have e3 : mDkMv 0 (-1) E = .ok .next ⟨[some (.obj .bx)], DkS c t L (n - 1)⟩ := by
      show Res.ok Flow.next ⟨[some (.obj .bx)], ⟨c, t, .dsk (L.map stD) ((n : Int) + -1)⟩⟩ = _
      rw [show ((n : Int) + -1) = ((n - 1 : Nat) : Int) by omega]
    rw [e3]
    rfl
theorem redo_at : F_Desk_redo [.obj .bx] (DkS c t L n) = if n + 1 = L.length then .exc xRedo (DkS c t L n) else .ok (.dat .none) (DkS c t L (n + 1)) := by
  refine call_of (env := [some (.obj .bx)]) rfl ?_
  let E : Me := ⟨[some (.obj .bx)], DkS c t L n⟩
  have ea : mDkAt 0 E = .ok (sn n) E := rfl
  have ec : mDkLen 0 E = .ok (sn L.length) E := by
    show Res.ok (Sl.dat (.int ((L.map stD).length : Nat))) E = _
    rw [List.length_map]
  show callR (m_Desk_redo E) = _
  unfold m_Desk_redo
  rw [mSeq_x]
  simp only [mIfS_x, mTest_x, mOp_x, mDat_x, ea, ec, mC_x, Res.bind_ok, datR_dat, pAdd_i, pEq_i, opR_some, testR_b]
  by_cases hn : n + 1 = L.length
  · rw [if_pos hn, decide_eq_true (by omega)]
    simp only [if_true, mRaise_x, Res.bind_exc]
    rfl
  · rw [if_neg hn, decide_eq_false (by omega)]
    simp only [Bool.false_eq_true, if_false, mNext_x, Res.bind_ok, seqR_n]
    rfl
end
end PL.RF
namespace PL.RF
open PySem PySem.Spec PyProof.Rows L2
/-! ### desks: the word of a deed -/
def kindW (y : Xn) : Str := if y.cls = Str.ofString "InvalidPlace" then "place" else if y.cls = Str.ofString "InvalidWord" then "word" else if y.cls = Str.ofString "TooMany" then "many" else if y.cls = Str.ofString "NothingToUndo" then "undo" else "redo"
def wordOf : CRes → CRes
  | .ok _ st' => .ok (.dat (.str "good")) st'
  | .exc y st' => .ok (.dat (.str (kindW y))) st'
  | .bad => .bad
def OkR (R : CRes) : Prop := (∃ st', R = .ok (.dat .none) st') ∨ ∃ y st', R = .exc y st' ∧ (y = xPlace ∨ y = xWord ∨ y = xMany ∨ y = xUndo ∨ y = xRedo)
theorem takeR_ok (c : List Int) (t : Int) (L : List Stand) (n : Nat) (p : Stand) : OkR (takeR c t L n p) := by
  unfold takeR
  split
  · exact .inl ⟨_, rfl⟩
  · exact .inr ⟨_, _, rfl, .inr (.inr (.inl rfl))⟩
theorem putD_ok (c : List Int) (t : Int) (L : List Stand) (n : Nat) (fs : List Fx) (x : List Nat) (k : Nat) (y : List Nat) : OkR (putD c t L n fs x k y) := by
  unfold putD
  split
  · split
    · exact takeR_ok ..
    · exact .inr ⟨_, _, rfl, .inr (.inl rfl)⟩
  · exact .inr ⟨_, _, rfl, .inl rfl⟩
theorem strikeD_ok (c : List Int) (t : Int) (L : List Stand) (n : Nat) (fs : List Fx) (x : List Nat) (a b : Nat) : OkR (strikeD c t L n fs x a b) := by
  unfold strikeD
  split
  · exact takeR_ok ..
  · exact .inr ⟨_, _, rfl, .inl rfl⟩
noncomputable abbrev woB : M Flow := (mIfS (mTest (mOp pEq (mDat (mOp pIxA (mBor 1) (mDat (mC (.dat (.int 0)))))) (mDat (mC (.dat (.str "put")))))) (mSet 3 (mMeth F_Desk_put 0 [(mOp pIxA (mBor 1) (mDat (mC (.dat (.int 1))))), (mOp pIxA (mBor 1) (mDat (mC (.dat (.int 2)))))])) (mIfS (mTest (mOp pEq (mDat (mOp pIxA (mBor 1) (mDat (mC (.dat (.int 0)))))) (mDat (mC (.dat (.str "strike")))))) (mSet 3 (mMeth F_Desk_strike 0 [(mOp pIxA (mBor 1) (mDat (mC (.dat (.int 1))))), (mOp pIxA (mBor 1) (mDat (mC (.dat (.int 2)))))])) (mIfS (mTest (mOp pEq (mDat (mOp pIxA (mBor 1) (mDat (mC (.dat (.int 0)))))) (mDat (mC (.dat (.str "round")))))) (mSet 3 (mMeth F_Desk_round 0 [])) (mIfS (mTest (mOp pEq (mDat (mOp pIxA (mBor 1) (mDat (mC (.dat (.int 0)))))) (mDat (mC (.dat (.str "undo")))))) (mSet 3 (mMeth F_Desk_undo 0 [])) (mSet 3 (mMeth F_Desk_redo 0 []))))))
abbrev WE0 (d : PyData) (x2 x3 x4 x5 : Option Sl) (st : SrcSt) : Me := ⟨[some (.obj .bx), some (.dat d), x2, x3, x4, x5], st⟩
theorem lst2 (a b : PyData) (m : Me) : lstR [.dat a, .dat b] m = .ok (.list [a, b]) m := lstR_of rfl (by simp)
theorem lst3 (a b c : PyData) (m : Me) : lstR [.dat a, .dat b, .dat c] m = .ok (.list [a, b, c]) m := lstR_of rfl (by simp)
theorem lst5 (a b c d e : PyData) (m : Me) : lstR [.dat a, .dat b, .dat c, .dat d, .dat e] m = .ok (.list [a, b, c, d, e]) m := lstR_of rfl (by simp)
theorem wo_exc {d : PyData} {st st' : SrcSt} {y : Xn} {b1 b2 b3 b4 b5 : Bool} {j : Nat} {r : PyData} (h : woB (WE0 d (some (.dat .none)) (some (.dat (.int 7))) none none st) = .exc y (WE0 d (some (.dat .none)) (some (.dat (.int 7))) none none st'))
    (hx : txn_FixError y.cls = some true) (q1 : tin_InvalidPlace y.cls = some b1) (q2 : tin_InvalidWord y.cls = some b2) (q3 : tin_TooMany y.cls = some b3) (q4 : tin_NothingToUndo y.cls = some b4) (q5 : tin_NothingToRedo y.cls = some b5) (qv : tin_ValueError y.cls = some true)
    (hc : pCnt true (.list [.bool b1, .bool b2, .bool b3, .bool b4, .bool b5]) = some (.int 1)) (hj : pIndex (.list [.bool b1, .bool b2, .bool b3, .bool b4, .bool b5]) (.bool true) = some (nd j)) (hr : pIxA (.list [.str "place", .str "word", .str "many", .str "undo", .str "redo"]) (nd j) = some r) : F__law_word_of [.obj .bx, .dat d] st = .ok (.dat r) st' := by
  refine call_of (env := [some (.obj .bx), some (.dat d), none, none, none, none]) rfl ?_
  have ht := try_exc (tab := txn_FixError) (i := 4) (body := woB) (suite := mSet 2 (mVar 4)) (m := WE0 d (some (.dat .none)) (some (.dat (.int 7))) none none st) (x := y) (m1 := WE0 d (some (.dat .none)) (some (.dat (.int 7))) none none st') (f := .next) (m2 := WE0 d (some (.dat .none)) (some (.dat (.int 7))) (some (.exc y)) none st') (m3 := WE0 d (some (.exc y)) (some (.dat (.int 7))) (some (.exc y)) none st') h hx rfl (by simp)
  have hadd : pAdd (.list [.bool b1, .bool b2, .bool b3]) (.list [.bool b4, .bool b5]) = some (.list [.bool b1, .bool b2, .bool b3, .bool b4, .bool b5]) := pAdd_ls (by simp)
  unfold m__law_word_of
  rw [mSeq_x]
  simp only [mSet_x, mC_x, Res.bind_ok, sRd_2, seqR_n]
  rw [mSeq_x]
  simp only [mSet_x, mC_x, Res.bind_ok, sRd_3, seqR_n]
  rw [mSeq_x, ht]
  simp [q1, q2, q3, q4, q5, qv, lst2, lst3, lst5, hadd, hc, hj, hr]
theorem wo_ok {d : PyData} {st st' : SrcSt} (h : woB (WE0 d (some (.dat .none)) (some (.dat (.int 7))) none none st) = .ok .next (WE0 d (some (.dat .none)) (some (.dat .none)) none none st')) : F__law_word_of [.obj .bx, .dat d] st = .ok (.dat (.str "good")) st' := by
  refine call_of (env := [some (.obj .bx), some (.dat d), none, none, none, none]) rfl ?_
  have ht := try_ok (tab := txn_FixError) (i := 4) (body := woB) (suite := mSet 2 (mVar 4)) (m := WE0 d (some (.dat .none)) (some (.dat (.int 7))) none none st) (f := .next) (m1 := WE0 d (some (.dat .none)) (some (.dat .none)) none none st') h
  have hi : pIxA (.list [.str "other", .str "good"]) (.int 1) = some (.str "good") := pIxA_l (n := 1) rfl
  have hn : fInt [.bool true] = some (.int 1) := rfl
  unfold m__law_word_of
  rw [mSeq_x]
  simp only [mSet_x, mC_x, Res.bind_ok, sRd_2, seqR_n]
  rw [mSeq_x]
  simp only [mSet_x, mC_x, Res.bind_ok, sRd_3, seqR_n]
  rw [mSeq_x, ht]
  simp [lst2, hn, hi]
/-- the answer of the law's word, where the deed's answer is R -/
theorem wo_of {d : PyData} {st : SrcSt} {R : CRes} (hR : OkR R) (h : woB (WE0 d (some (.dat .none)) (some (.dat (.int 7))) none none st) = (resV (WE0 d (some (.dat .none)) (some (.dat (.int 7))) none none st) R).bind fun s m1 => setR 3 s m1) : F__law_word_of [.obj .bx, .dat d] st = wordOf R := by
  rcases hR with ⟨st', rfl⟩ | ⟨y, st', rfl, hy⟩
  · refine wo_ok (h.trans ?_)
    rw [resV_d]
    simp
  · have h2 := h
    rw [resV_e] at h2
    simp only [Res.bind_exc] at h2
    rcases hy with rfl | rfl | rfl | rfl | rfl
    · exact wo_exc (b1 := true) (b2 := false) (b3 := false) (b4 := false) (b5 := false) (j := 0) (r := .str (kindW xPlace)) h2 (by decide +kernel) (by decide +kernel) (by decide +kernel) (by decide +kernel) (by decide +kernel) (by decide +kernel) (by decide +kernel) rfl rfl (by rw [show kindW xPlace = Str.ofString "place" by decide +kernel]; rfl)
    · exact wo_exc (b1 := false) (b2 := true) (b3 := false) (b4 := false) (b5 := false) (j := 1) (r := .str (kindW xWord)) h2 (by decide +kernel) (by decide +kernel) (by decide +kernel) (by decide +kernel) (by decide +kernel) (by decide +kernel) (by decide +kernel) rfl rfl (by rw [show kindW xWord = Str.ofString "word" by decide +kernel]; rfl)
    · exact wo_exc (b1 := false) (b2 := false) (b3 := true) (b4 := false) (b5 := false) (j := 2) (r := .str (kindW xMany)) h2 (by decide +kernel) (by decide +kernel) (by decide +kernel) (by decide +kernel) (by decide +kernel) (by decide +kernel) (by decide +kernel) rfl rfl (by rw [show kindW xMany = Str.ofString "many" by decide +kernel]; rfl)
    · exact wo_exc (b1 := false) (b2 := false) (b3 := false) (b4 := true) (b5 := false) (j := 3) (r := .str (kindW xUndo)) h2 (by decide +kernel) (by decide +kernel) (by decide +kernel) (by decide +kernel) (by decide +kernel) (by decide +kernel) (by decide +kernel) rfl rfl (by rw [show kindW xUndo = Str.ofString "undo" by decide +kernel]; rfl)
    · exact wo_exc (b1 := false) (b2 := false) (b3 := false) (b4 := false) (b5 := true) (j := 4) (r := .str (kindW xRedo)) h2 (by decide +kernel) (by decide +kernel) (by decide +kernel) (by decide +kernel) (by decide +kernel) (by decide +kernel) (by decide +kernel) rfl rfl (by rw [show kindW xRedo = Str.ofString "redo" by decide +kernel]; rfl)
theorem eqSt (a : String) : pEq (.str (Str.ofString a)) (.str (Str.ofString a)) = some (.bool true) := by
  show some (PyData.bool (decide (Str.ofString a = Str.ofString a))) = _
  simp
theorem neSt {a b : String} (h : Str.ofString a ≠ Str.ofString b) : pEq (.str (Str.ofString a)) (.str (Str.ofString b)) = some (.bool false) := by
  show some (PyData.bool (decide (Str.ofString a = Str.ofString b))) = _
  rw [decide_eq_false h]
abbrev dPut (k : Nat) (y : List Nat) : PyData := .tuple [.str "put", nd k, dt y]
abbrev dStrike (a b : Nat) : PyData := .tuple [.str "strike", nd a, nd b]
abbrev dRound : PyData := .tuple [.str "round"]
abbrev dUndo : PyData := .tuple [.str "undo"]
abbrev dRedo : PyData := .tuple [.str "redo"]
theorem ix0 (d : PyData) (l : List PyData) : pIxA (.tuple (d :: l)) (.int 0) = some d := pIxA_t (n := 0) rfl
theorem ix1 (d e : PyData) (l : List PyData) : pIxA (.tuple (d :: e :: l)) (.int 1) = some e := pIxA_t (n := 1) rfl
theorem ix2 (d e f : PyData) (l : List PyData) : pIxA (.tuple (d :: e :: f :: l)) (.int 2) = some f := pIxA_t (n := 2) rfl
section
variable {c : List Int} {t : Int} {L : List Stand} {n : Nat} {fs : List Fx} {x : List Nat}
theorem dkW {d : PyData} {x2 x3 x4 x5 : Option Sl} : dkOf (WE0 d x2 x3 x4 x5 (DkS c t L n)) 0 = some (L.map stD, (n : Int)) := rfl
theorem wo_put (h : Now L n fs x) (hL : L.length ≤ 1000) (k : Nat) {y : List Nat} (hy : y.length ≤ 10000) : F__law_word_of [.obj .bx, .dat (dPut k y)] (DkS c t L n) = wordOf (putD c t L n fs x k y) := by
  refine wo_of (putD_ok ..) ?_
  have hp := put_at (c := c) (t := t) h hL k hy
  have b1 : mBor 1 (WE0 (dPut k y) (some (.dat .none)) (some (.dat (.int 7))) none none (DkS c t L n)) = .ok (dPut k y) (WE0 (dPut k y) (some (.dat .none)) (some (.dat (.int 7))) none none (DkS c t L n)) := rfl
  unfold woB
  rw [mIfS_x]
  simp only [mTest_x, mOp_x, mDat_x, b1, mC_x, Res.bind_ok, datR_dat, ix0, opR_some, eqSt "put", testR_b, if_true]
  rw [mSet_x, mMeth_x dkW]
  simp only [mArgs_cons, mArgs_nil, mOp_x, mDat_x, b1, mC_x, Res.bind_ok, datR_dat, ix1, ix2, opR_some]
  show ((resV _ (F_Desk_put [.obj .bx, sn k, sd y] (DkS c t L n))).bind _) = _
  rw [hp]
theorem wo_strike (h : Now L n fs x) (hL : L.length ≤ 1000) (a b : Nat) : F__law_word_of [.obj .bx, .dat (dStrike a b)] (DkS c t L n) = wordOf (strikeD c t L n fs x a b) := by
  refine wo_of (strikeD_ok ..) ?_
  have hp := strike_at (c := c) (t := t) h hL a b
  have b1 : mBor 1 (WE0 (dStrike a b) (some (.dat .none)) (some (.dat (.int 7))) none none (DkS c t L n)) = .ok (dStrike a b) (WE0 (dStrike a b) (some (.dat .none)) (some (.dat (.int 7))) none none (DkS c t L n)) := rfl
  unfold woB
  rw [mIfS_x]
  simp only [mTest_x, mOp_x, mDat_x, b1, mC_x, Res.bind_ok, datR_dat, ix0, opR_some, neSt (show Str.ofString "strike" ≠ Str.ofString "put" by decide +kernel), testR_b, Bool.false_eq_true, if_false]
  rw [mIfS_x]
  simp only [mTest_x, mOp_x, mDat_x, b1, mC_x, Res.bind_ok, datR_dat, ix0, opR_some, eqSt "strike", testR_b, if_true]
  rw [mSet_x, mMeth_x dkW]
  simp only [mArgs_cons, mArgs_nil, mOp_x, mDat_x, b1, mC_x, Res.bind_ok, datR_dat, ix1, ix2, opR_some]
  show ((resV _ (F_Desk_strike [.obj .bx, sn a, sn b] (DkS c t L n))).bind _) = _
  rw [hp]
theorem wo_round (h : Now L n fs x) (hL : L.length ≤ 1000) : F__law_word_of [.obj .bx, .dat dRound] (DkS c t L n) = wordOf (takeR c t L n (fs, roundS fs x)) := by
  refine wo_of (takeR_ok ..) ?_
  have hp := round_at (c := c) (t := t) h hL
  have b1 : mBor 1 (WE0 dRound (some (.dat .none)) (some (.dat (.int 7))) none none (DkS c t L n)) = .ok dRound (WE0 dRound (some (.dat .none)) (some (.dat (.int 7))) none none (DkS c t L n)) := rfl
  unfold woB
  rw [mIfS_x]
  simp only [mTest_x, mOp_x, mDat_x, b1, mC_x, Res.bind_ok, datR_dat, ix0, opR_some, neSt (show Str.ofString "round" ≠ Str.ofString "put" by decide +kernel), testR_b, Bool.false_eq_true, if_false]
  rw [mIfS_x]
  simp only [mTest_x, mOp_x, mDat_x, b1, mC_x, Res.bind_ok, datR_dat, ix0, opR_some, neSt (show Str.ofString "round" ≠ Str.ofString "strike" by decide +kernel), testR_b, Bool.false_eq_true, if_false]
  rw [mIfS_x]
  simp only [mTest_x, mOp_x, mDat_x, b1, mC_x, Res.bind_ok, datR_dat, ix0, opR_some, eqSt "round", testR_b, if_true]
  rw [mSet_x, mMeth_x dkW]
  simp only [mArgs_nil, Res.bind_ok]
  show ((resV _ (F_Desk_round [.obj .bx] (DkS c t L n))).bind _) = _
  rw [hp]
theorem wo_undo : F__law_word_of [.obj .bx, .dat dUndo] (DkS c t L n) = if n = 0 then .ok (.dat (.str "undo")) (DkS c t L n) else .ok (.dat (.str "good")) (DkS c t L (n - 1)) := by
  have hR : OkR (if n = 0 then .exc xUndo (DkS c t L n) else .ok (.dat .none) (DkS c t L (n - 1))) := by
    split
    · exact .inr ⟨_, _, rfl, .inr (.inr (.inr (.inl rfl)))⟩
    · exact .inl ⟨_, rfl⟩
  refine (wo_of hR ?_).trans ?_
  · have hp := undo_at (c := c) (t := t) (L := L) (n := n)
    have b1 : mBor 1 (WE0 dUndo (some (.dat .none)) (some (.dat (.int 7))) none none (DkS c t L n)) = .ok dUndo (WE0 dUndo (some (.dat .none)) (some (.dat (.int 7))) none none (DkS c t L n)) := rfl
    unfold woB
    rw [mIfS_x]
    simp only [mTest_x, mOp_x, mDat_x, b1, mC_x, Res.bind_ok, datR_dat, ix0, opR_some, neSt (show Str.ofString "undo" ≠ Str.ofString "put" by decide +kernel), testR_b, Bool.false_eq_true, if_false]
    rw [mIfS_x]
    simp only [mTest_x, mOp_x, mDat_x, b1, mC_x, Res.bind_ok, datR_dat, ix0, opR_some, neSt (show Str.ofString "undo" ≠ Str.ofString "strike" by decide +kernel), testR_b, Bool.false_eq_true, if_false]
    rw [mIfS_x]
    simp only [mTest_x, mOp_x, mDat_x, b1, mC_x, Res.bind_ok, datR_dat, ix0, opR_some, neSt (show Str.ofString "undo" ≠ Str.ofString "round" by decide +kernel), testR_b, Bool.false_eq_true, if_false]
    rw [mIfS_x]
    simp only [mTest_x, mOp_x, mDat_x, b1, mC_x, Res.bind_ok, datR_dat, ix0, opR_some, eqSt "undo", testR_b, if_true]
    rw [mSet_x, mMeth_x dkW]
    simp only [mArgs_nil, Res.bind_ok]
    show ((resV _ (F_Desk_undo [.obj .bx] (DkS c t L n))).bind _) = _
    rw [hp]
  · split
    · show CRes.ok (.dat (.str (kindW xUndo))) _ = _
      rw [show kindW xUndo = Str.ofString "undo" by decide +kernel]
    · rfl
theorem wo_redo : F__law_word_of [.obj .bx, .dat dRedo] (DkS c t L n) = if n + 1 = L.length then .ok (.dat (.str "redo")) (DkS c t L n) else .ok (.dat (.str "good")) (DkS c t L (n + 1)) := by
  have hR : OkR (if n + 1 = L.length then .exc xRedo (DkS c t L n) else .ok (.dat .none) (DkS c t L (n + 1))) := by
    split
    · exact .inr ⟨_, _, rfl, .inr (.inr (.inr (.inr rfl)))⟩
    · exact .inl ⟨_, rfl⟩
  refine (wo_of hR ?_).trans ?_
  · have hp := redo_at (c := c) (t := t) (L := L) (n := n)
    have b1 : mBor 1 (WE0 dRedo (some (.dat .none)) (some (.dat (.int 7))) none none (DkS c t L n)) = .ok dRedo (WE0 dRedo (some (.dat .none)) (some (.dat (.int 7))) none none (DkS c t L n)) := rfl
    unfold woB
    rw [mIfS_x]
    simp only [mTest_x, mOp_x, mDat_x, b1, mC_x, Res.bind_ok, datR_dat, ix0, opR_some, neSt (show Str.ofString "redo" ≠ Str.ofString "put" by decide +kernel), testR_b, Bool.false_eq_true, if_false]
    rw [mIfS_x]
    simp only [mTest_x, mOp_x, mDat_x, b1, mC_x, Res.bind_ok, datR_dat, ix0, opR_some, neSt (show Str.ofString "redo" ≠ Str.ofString "strike" by decide +kernel), testR_b, Bool.false_eq_true, if_false]
    rw [mIfS_x]
    simp only [mTest_x, mOp_x, mDat_x, b1, mC_x, Res.bind_ok, datR_dat, ix0, opR_some, neSt (show Str.ofString "redo" ≠ Str.ofString "round" by decide +kernel), testR_b, Bool.false_eq_true, if_false]
    rw [mIfS_x]
    simp only [mTest_x, mOp_x, mDat_x, b1, mC_x, Res.bind_ok, datR_dat, ix0, opR_some, neSt (show Str.ofString "redo" ≠ Str.ofString "undo" by decide +kernel), testR_b, Bool.false_eq_true, if_false]
    rw [mSet_x, mMeth_x dkW]
    simp only [mArgs_nil, Res.bind_ok]
    show ((resV _ (F_Desk_redo [.obj .bx] (DkS c t L n))).bind _) = _
    rw [hp]
  · split
    · show CRes.ok (.dat (.str (kindW xRedo))) _ = _
      rw [show kindW xRedo = Str.ofString "redo" by decide +kernel]
    · rfl
end
end PL.RF
namespace PL.RF
open PySem PySem.Spec PyProof.Rows L2
/-! ### k35: forty deeds -/
theorem comp_run {i : Nat} {e : M Sl} {E : List (Option Sl)} (s : Nat → SrcSt) (v : Nat → PyData) (hi : i < E.length) (hE : ∀ d, (E.set i (some (.dat d))).set i none = E)
    (hs : ∀ (j : Nat) (d : PyData), e ⟨E.set i (some (.dat d)), s j⟩ = .ok (.dat (v j)) ⟨E.set i (some (.dat d)), s (j + 1)⟩) :
    ∀ (ds : List PyData) (j : Nat), compL [i] (.nm i) mYes e ds ⟨E, s j⟩ = .ok ((List.range' j ds.length).map v) ⟨E, s (j + ds.length)⟩
  | [], j => rfl
  | d :: r, j => by
    show (match (if i < E.length then some (⟨E.set i (some (.dat d)), s j⟩ : Me) else none) with | none => Res.bad | some m0 => (noX (mYes m0)).bind fun b m1 => if b = true then (noX (mDat e m1)).bind fun z m2 => (compL [i] (.nm i) mYes e r (wipeM [i] m2)).bind fun zs m3 => .ok (z :: zs) m3 else compL [i] (.nm i) mYes e r (wipeM [i] m1)) = _
    rw [if_pos hi]
    show (noX (mDat e ⟨E.set i (some (.dat d)), s j⟩)).bind (fun z m2 => (compL [i] (.nm i) mYes e r (wipeM [i] m2)).bind fun zs m3 => Res.ok (z :: zs) m3) = _
    have hd : mDat e ⟨E.set i (some (.dat d)), s j⟩ = .ok (v j) ⟨E.set i (some (.dat d)), s (j + 1)⟩ := by simp [hs]
    rw [hd]
    show (compL [i] (.nm i) mYes e r ⟨(E.set i (some (.dat d))).set i none, s (j + 1)⟩).bind _ = _
    rw [hE, comp_run s v hi hE hs r (j + 1)]
    simp only [Res.bind_ok, List.length_cons, List.range'_succ, List.map_cons]
    rw [show j + 1 + r.length = j + (r.length + 1) by omega]
def T40 : Nat → List Nat
  | 0 => []
  | k + 1 => (T40 k).take (k / 2) ++ [97 + k % 8] ++ (T40 k).drop (k / 2)
theorem T40_len : ∀ k, (T40 k).length = k
  | 0 => rfl
  | k + 1 => by
    have ih := T40_len k
    show ((T40 k).take (k / 2) ++ [97 + k % 8] ++ (T40 k).drop (k / 2)).length = _
    rw [List.length_append, List.length_append, List.length_take, List.length_drop, ih]
    simp only [List.length_cons, List.length_nil]
    omega
theorem isL_at (k : Nat) : isL (97 + k % 8) = true := by
  unfold isL
  exact decide_eq_true (by omega)
theorem T40_w : ∀ k, isW (T40 k)
  | 0 => (fun _ h => nomatch h)
  | k + 1 => fun c hc => by
    have ih := T40_w k
    have hc : c ∈ (T40 k).take (k / 2) ++ [97 + k % 8] ++ (T40 k).drop (k / 2) := hc
    rcases List.mem_append.1 hc with hc | hc
    · rcases List.mem_append.1 hc with hc | hc
      · exact ih c (List.mem_of_mem_take hc)
      · rw [List.mem_singleton.1 hc]; exact isL_at k
    · exact ih c (List.mem_of_mem_drop hc)
def L40 (k : Nat) : List Stand := (List.range (k + 1)).map fun j => ([], T40 j)
theorem L40_len (k : Nat) : (L40 k).length = k + 1 := by simp [L40]
theorem L40_succ (k : Nat) : L40 (k + 1) = L40 k ++ [([], T40 (k + 1))] := by
  unfold L40
  rw [List.range_succ, List.map_append]
  rfl
theorem emp_bok : BOk [] := ⟨(fun _ h => nomatch h), by simp⟩
theorem now40 {k n : Nat} (hn : n ≤ k) (hk : k ≤ 200) : Now (L40 k) n [] (T40 n) := ⟨by
  unfold L40
  rw [List.getElem?_map, List.getElem?_range (by omega)]
  rfl, emp_bok, T40_w n, by rw [T40_len]; omega⟩
section
variable {c : List Int} {t : Int}
theorem put40 (k : Nat) (hk : k < 100) : F_Desk_put [.obj .bx, sn (k / 2), sd [97 + k % 8]] (DkS c t (L40 k) k) = .ok (.dat .none) (DkS c t (L40 (k + 1)) (k + 1)) := by
  rw [put_at (now40 (Nat.le_refl k) (by omega)) (by rw [L40_len]; omega) (k / 2) (by simp)]
  unfold putD
  rw [if_pos (by rw [T40_len]; omega), if_pos (wordB_of (by intro x hx; rw [List.mem_singleton.1 hx]; exact isL_at k) (by omega) (by simp))]
  unfold takeR
  have hl : ((T40 k).take (k / 2) ++ [97 + k % 8] ++ (T40 k).drop (k / 2)).length = k + 1 := T40_len (k + 1)
  rw [if_pos (by show ((T40 k).take (k / 2) ++ [97 + k % 8] ++ (T40 k).drop (k / 2)).length ≤ 200; omega), List.take_of_length_le (by rw [L40_len]; omega), L40_succ]
  rfl
abbrev F4 (x1 x2 x3 : Option Sl) (st : SrcSt) : Me := ⟨[some (.obj .bx), x1, x2, x3], st⟩
theorem loop40 (x1 x2 x3 : Option Sl) : ∃ y1, forL (.nm 1) (mDrop (mMeth F_Desk_put 0 [(mOp pFdiv (mBor 1) (mDat (mC (.dat (.int 2))))), (mOp pIxA (mDat (mC (.dat (.str "abcdefgh")))) (mDat (mOp pMod (mBor 1) (mDat (mC (.dat (.int 8)))))))])) (rngD 0 40) (F4 x1 x2 x3 (DkS c t (L40 0) 0)) = .ok .next (F4 y1 x2 x3 (DkS c t (L40 40) 40)) := by
  obtain ⟨m', e, y1, rfl⟩ := for_n (t := .nm 1) (b := mDrop (mMeth F_Desk_put 0 [(mOp pFdiv (mBor 1) (mDat (mC (.dat (.int 2))))), (mOp pIxA (mDat (mC (.dat (.str "abcdefgh")))) (mDat (mOp pMod (mBor 1) (mDat (mC (.dat (.int 8)))))))])) (fun k m => ∃ y1, m = F4 y1 x2 x3 (DkS c t (L40 k) k)) 40 (fun k hk m hm => by
    obtain ⟨y1, rfl⟩ := hm
    refine ⟨F4 (some (sn k)) x2 x3 (DkS c t (L40 k) k), F4 (some (sn k)) x2 x3 (DkS c t (L40 (k + 1)) (k + 1)), rfl, ?_, some (sn k), rfl⟩
    have h1 : pFdiv (nd k) (.int 2) = some (nd (k / 2)) := by
      show (if (0 : Int) < 2 ∧ (2 : Int) < 1073741824 then some (PyData.int ((k : Int) / 2)) else none) = _
      rw [if_pos (by decide)]
      rfl
    have h2 : pMod (nd k) (.int 8) = some (nd (k % 8)) := by
      show (if (0 : Int) < 8 then some (PyData.int ((k : Int) % 8)) else none) = _
      rw [if_pos (by decide)]
      rfl
    have h3 : pIxA (.str "abcdefgh") (nd (k % 8)) = some (dt [97 + k % 8]) := by
      rw [show (Str.ofString "abcdefgh") = tx [97, 98, 99, 100, 101, 102, 103, 104] by decide +kernel]
      refine pIxA_s ?_ (by simp)
      have : k % 8 < 8 := Nat.mod_lt _ (by omega)
      generalize k % 8 = z at this ⊢
      match z, this with
      | 0, _ => rfl
      | 1, _ => rfl
      | 2, _ => rfl
      | 3, _ => rfl
      | 4, _ => rfl
      | 5, _ => rfl
      | 6, _ => rfl
      | 7, _ => rfl
    rw [mDrop_x, mMeth_x (L := (L40 k).map stD) (n := (k : Int)) (show dkOf (F4 (some (sn k)) x2 x3 (DkS c t (L40 k) k)) 0 = _ from rfl)]
    simp only [mArgs_cons, mArgs_nil, mOp_x, mDat_x, mBd_1, mC_x, Res.bind_ok, datR_dat, h1, h2, h3, opR_some]
    show ((resV _ (F_Desk_put [.obj .bx, sn (k / 2), sd [97 + k % 8]] (DkS c t (L40 k) k))).bind _) = _
    rw [put40 k (by omega)]
    rfl) (F4 x1 x2 x3 (DkS c t (L40 0) 0)) ⟨x1, rfl⟩
  exact ⟨y1, e⟩
def gU : PyData := .str "good"
def words40 (w : PyData) : List PyData := (List.replicate 40 [gU]).flatten ++ [w]
theorem undo41 (x1 x2 x3 : Option Sl) : mComp [1] (.nm 1) (mRng1 (mBs [(mDat (mC (.dat (.int 41))))])) mYes (mCall F__law_word_of (mArgs [(mVar 0), (mTup (mArgs [(mC (.dat (.str "undo")))]))])) (F4 x1 x2 x3 (DkS c t (L40 40) 40)) = .ok (.list (words40 (.str "undo"))) (F4 none x2 x3 (DkS c t (L40 40) 0)) := by
  have hr : mRng1 (mBs [(mDat (mC (.dat (.int 41))))]) (F4 x1 x2 x3 (DkS c t (L40 40) 40)) = .ok (rngD 0 41) (F4 x1 x2 x3 (DkS c t (L40 40) 40)) := by
    simp only [mRng1_x, mBs_cons, mBs_nil, mDat_x, mC_x, Res.bind_ok, datR_dat]
    exact rngR_n (n := 41) (by omega)
  refine r_comp hr (by rw [rng_len]; omega) ?_
  have := comp_run (i := 1) (e := mCall F__law_word_of (mArgs [(mVar 0), (mTup (mArgs [(mC (.dat (.str "undo")))]))])) (E := (F4 none x2 x3 (DkS c t (L40 40) 40)).env) (fun j => DkS c t (L40 40) (40 - j)) (fun j => if 40 - j = 0 then .str "undo" else gU) (by simp) (fun d => rfl) (fun j d => by
    have hw := wo_undo (c := c) (t := t) (L := L40 40) (n := 40 - j)
    have hw2 : F__law_word_of [.obj .bx, .dat (.tuple [.str "undo"])] (DkS c t (L40 40) (40 - j)) = .ok (.dat (if 40 - j = 0 then .str "undo" else gU)) (DkS c t (L40 40) (40 - (j + 1))) := by
      rw [show (PyData.tuple [.str "undo"]) = dUndo from rfl, hw]
      by_cases h : 40 - j = 0
      · rw [if_pos h, if_pos h, show 40 - (j + 1) = 40 - j by omega]
      · rw [if_neg h, if_neg h, show 40 - (j + 1) = 40 - j - 1 by omega]
        rfl
    show mCall F__law_word_of (mArgs [(mVar 0), (mTup (mArgs [(mC (.dat (.str "undo")))]))]) ⟨some (.obj .bx) :: some (.dat d) :: [x2, x3], DkS c t (L40 40) (40 - j)⟩ = _
    simp only [mCall_x, mArgs_cons, mArgs_nil, mVb_0, mTup_x, mC_x, Res.bind_ok, tupR_1, hw2, resV_d]
    rfl) (rngD 0 41) 0
  rw [rng_len] at this
  exact this
theorem redo41 (x1 x2 x3 : Option Sl) : mComp [1] (.nm 1) (mRng1 (mBs [(mDat (mC (.dat (.int 41))))])) mYes (mCall F__law_word_of (mArgs [(mVar 0), (mTup (mArgs [(mC (.dat (.str "redo")))]))])) (F4 x1 x2 x3 (DkS c t (L40 40) 0)) = .ok (.list (words40 (.str "redo"))) (F4 none x2 x3 (DkS c t (L40 40) 40)) := by
  have hr : mRng1 (mBs [(mDat (mC (.dat (.int 41))))]) (F4 x1 x2 x3 (DkS c t (L40 40) 0)) = .ok (rngD 0 41) (F4 x1 x2 x3 (DkS c t (L40 40) 0)) := by
    simp only [mRng1_x, mBs_cons, mBs_nil, mDat_x, mC_x, Res.bind_ok, datR_dat]
    exact rngR_n (n := 41) (by omega)
  refine r_comp hr (by rw [rng_len]; omega) ?_
  have := comp_run (i := 1) (e := mCall F__law_word_of (mArgs [(mVar 0), (mTup (mArgs [(mC (.dat (.str "redo")))]))])) (E := (F4 none x2 x3 (DkS c t (L40 40) 40)).env) (fun j => DkS c t (L40 40) (min 40 j)) (fun j => if min 40 j + 1 = 41 then .str "redo" else gU) (by simp) (fun d => rfl) (fun j d => by
    have hw := wo_redo (c := c) (t := t) (L := L40 40) (n := min 40 j)
    rw [L40_len] at hw
    have hw2 : F__law_word_of [.obj .bx, .dat (.tuple [.str "redo"])] (DkS c t (L40 40) (min 40 j)) = .ok (.dat (if min 40 j + 1 = 41 then .str "redo" else gU)) (DkS c t (L40 40) (min 40 (j + 1))) := by
      rw [show (PyData.tuple [.str "redo"]) = dRedo from rfl, hw]
      by_cases h : min 40 j + 1 = 41
      · rw [if_pos h, if_pos h, show min 40 (j + 1) = min 40 j by omega]
      · rw [if_neg h, if_neg h, show min 40 (j + 1) = min 40 j + 1 by omega]
        rfl
    show mCall F__law_word_of (mArgs [(mVar 0), (mTup (mArgs [(mC (.dat (.str "redo")))]))]) ⟨some (.obj .bx) :: some (.dat d) :: [x2, x3], DkS c t (L40 40) (min 40 j)⟩ = _
    simp only [mCall_x, mArgs_cons, mArgs_nil, mVb_0, mTup_x, mC_x, Res.bind_ok, tupR_1, hw2, resV_d]
    rfl) (rngD 0 41) 0
  rw [rng_len] at this
  exact this
end
end PL.RF
namespace PL.RF
open PySem PySem.Spec PyProof.Rows L2
theorem l_a : (Str.ofString "a") = tx [97] := by decide +kernel
theorem kP : kindW xPlace = Str.ofString "place" := by decide +kernel
theorem kW : kindW xWord = Str.ofString "word" := by decide +kernel
theorem kM : kindW xMany = Str.ofString "many" := by decide +kernel
theorem sh_words {l : List PyData} (h : (PyData.canLay0 (.list l) && decide (PyData.depth (.list l) ≤ 4)) = true) : pNot pEq (.list l) (.list l) = some (.bool false) := by
  rw [Bool.and_eq_true] at h
  exact pNot_b (pEq_same (k := 4) ⟨h.1, of_decide_eq_true h.2⟩ (by omega))
theorem w40_rep (w : PyData) : pAdd (.list (List.replicate 40 [gU]).flatten) (.list [w]) = some (.list (words40 w)) := pAdd_ls (by simp)
theorem rep40 : pRep (.list [gU]) (.int 40) = some (.list (List.replicate 40 [gU]).flatten) := by
  show (if -(2 ^ 62) ≤ (40 : Int) ∧ (40 : Int) ≤ 1000000 ∧ ([gU] : List PyData).length * (40 : Int).toNat ≤ 1000000 then some (PyData.list (List.replicate (40 : Int).toNat [gU]).flatten) else none) = _
  rw [if_pos ⟨by decide, by decide, by decide⟩]
  rfl
theorem rep40g : pRep (.list [.str "good"]) (.int 40) = some (.list (List.replicate 40 [gU]).flatten) := rep40
section
variable {c : List Int} {t : Int}
theorem textF {k n : Nat} (hn : n ≤ k) (hk : k ≤ 200) (x1 x2 x3 : Option Sl) : mProp F_Desk_text 0 (F4 x1 x2 x3 (DkS c t (L40 k) n)) = .ok (sd (T40 n)) (F4 x1 x2 x3 (DkS c t (L40 k) n)) := textP (now40 hn hk) rfl rfl
theorem lenF {k n : Nat} (hn : n ≤ k) (hk : k ≤ 200) (x1 x2 x3 : Option Sl) : mLenO F_Desk___len__ 0 (F4 x1 x2 x3 (DkS c t (L40 k) n)) = .ok (sn n) (F4 x1 x2 x3 (DkS c t (L40 k) n)) := by
  have := lenP (c := c) (t := t) (now40 hn hk) (m := F4 x1 x2 x3 (DkS c t (L40 k) n)) (i := 0) rfl rfl
  rwa [T40_len] at this
/-- the place is behind the text -/
theorem w_put41 : F__law_word_of [.obj .bx, .dat (.tuple [.str "put", .int 41, dt [97]])] (DkS c t (L40 40) 40) = .ok (.dat (.str "place")) (DkS c t (L40 40) 40) := by
  have := wo_put (c := c) (t := t) (now40 (k := 40) (n := 40) (by omega) (by omega)) (by rw [L40_len]; omega) 41 (y := [97]) (by simp)
  unfold putD at this
  rw [if_neg (by rw [T40_len]; omega)] at this
  rw [show F__law_word_of [.obj .bx, .dat (.tuple [.str "put", .int 41, dt [97]])] (DkS c t (L40 40) 40) = _ from this]
  show CRes.ok (.dat (.str (kindW xPlace))) _ = _
  rw [kP]
theorem w_strike32 : F__law_word_of [.obj .bx, .dat (.tuple [.str "strike", .int 3, .int 2])] (DkS c t (L40 40) 39) = .ok (.dat (.str "place")) (DkS c t (L40 40) 39) := by
  have := wo_strike (c := c) (t := t) (now40 (k := 40) (n := 39) (by omega) (by omega)) (by rw [L40_len]; omega) 3 2
  unfold strikeD at this
  rw [if_neg (by omega)] at this
  rw [show F__law_word_of [.obj .bx, .dat (.tuple [.str "strike", .int 3, .int 2])] (DkS c t (L40 40) 39) = _ from this]
  show CRes.ok (.dat (.str (kindW xPlace))) _ = _
  rw [kP]
def L41 : List Stand := (L40 40).take 40 ++ [([], T40 39)]
theorem L41_len : L41.length = 41 := by unfold L41; rw [List.length_append, List.length_take, L40_len]; rfl
theorem w_strike55 : F__law_word_of [.obj .bx, .dat (.tuple [.str "strike", .int 5, .int 5])] (DkS c t (L40 40) 39) = .ok (.dat gU) (DkS c t L41 40) := by
  have := wo_strike (c := c) (t := t) (now40 (k := 40) (n := 39) (by omega) (by omega)) (by rw [L40_len]; omega) 5 5
  unfold strikeD takeR at this
  rw [if_pos (by rw [T40_len]; omega), List.take_append_drop, if_pos (by show (T40 39).length ≤ 200; rw [T40_len]; omega)] at this
  exact this
theorem w_undo (n : Nat) (L : List Stand) : F__law_word_of [.obj .bx, .dat (.tuple [.str "undo"])] (DkS c t L (n + 1)) = .ok (.dat gU) (DkS c t L n) := by
  have := wo_undo (c := c) (t := t) (L := L) (n := n + 1)
  rw [if_neg (by omega)] at this
  exact this
theorem w_redo39 : F__law_word_of [.obj .bx, .dat (.tuple [.str "redo"])] (DkS c t (L40 40) 39) = .ok (.dat gU) (DkS c t (L40 40) 40) := by
  have := wo_redo (c := c) (t := t) (L := L40 40) (n := 39)
  rw [L40_len, if_neg (by omega)] at this
  exact this
theorem w_redoEnd : F__law_word_of [.obj .bx, .dat (.tuple [.str "redo"])] (DkS c t L41 40) = .ok (.dat (.str "redo")) (DkS c t L41 40) := by
  have := wo_redo (c := c) (t := t) (L := L41) (n := 40)
  rw [L41_len, if_pos rfl] at this
  exact this
theorem now41 : Now L41 40 [] (T40 39) := ⟨by
  unfold L41
  rw [List.getElem?_append_right (by rw [List.length_take, L40_len]; omega), List.length_take, L40_len]
  rfl, emp_bok, T40_w 39, by rw [T40_len]; omega⟩
theorem undo41b (x1 x2 x3 : Option Sl) : mComp [1] (.nm 1) (mRng1 (mBs [(mDat (mC (.dat (.int 41))))])) mYes (mCall F__law_word_of (mArgs [(mVar 0), (mTup (mArgs [(mC (.dat (.str "undo")))]))])) (F4 x1 x2 x3 (DkS c t L41 40)) = .ok (.list (words40 (.str "undo"))) (F4 none x2 x3 (DkS c t L41 0)) := by
  have hr : mRng1 (mBs [(mDat (mC (.dat (.int 41))))]) (F4 x1 x2 x3 (DkS c t L41 40)) = .ok (rngD 0 41) (F4 x1 x2 x3 (DkS c t L41 40)) := by
    simp only [mRng1_x, mBs_cons, mBs_nil, mDat_x, mC_x, Res.bind_ok, datR_dat]
    exact rngR_n (n := 41) (by omega)
  refine r_comp hr (by rw [rng_len]; omega) ?_
  have := comp_run (i := 1) (e := mCall F__law_word_of (mArgs [(mVar 0), (mTup (mArgs [(mC (.dat (.str "undo")))]))])) (E := (F4 none x2 x3 (DkS c t L41 40)).env) (fun j => DkS c t L41 (40 - j)) (fun j => if 40 - j = 0 then .str "undo" else gU) (by simp) (fun d => rfl) (fun j d => by
    have hw := wo_undo (c := c) (t := t) (L := L41) (n := 40 - j)
    have hw2 : F__law_word_of [.obj .bx, .dat (.tuple [.str "undo"])] (DkS c t L41 (40 - j)) = .ok (.dat (if 40 - j = 0 then .str "undo" else gU)) (DkS c t L41 (40 - (j + 1))) := by
      rw [show (PyData.tuple [.str "undo"]) = dUndo from rfl, hw]
      by_cases h : 40 - j = 0
      · rw [if_pos h, if_pos h, show 40 - (j + 1) = 40 - j by omega]
      · rw [if_neg h, if_neg h, show 40 - (j + 1) = 40 - j - 1 by omega]
        rfl
    show mCall F__law_word_of (mArgs [(mVar 0), (mTup (mArgs [(mC (.dat (.str "undo")))]))]) ⟨some (.obj .bx) :: some (.dat d) :: [x2, x3], DkS c t L41 (40 - j)⟩ = _
    simp only [mCall_x, mArgs_cons, mArgs_nil, mVb_0, mTup_x, mC_x, Res.bind_ok, tupR_1, hw2, resV_d]
    rfl) (rngD 0 41) 0
  rw [rng_len] at this
  exact this
theorem r_seq {a b : M Flow} {m m1 : Me} {r : Res Flow} (h : a m = .ok .next m1) (h2 : b m1 = r) : mSeq a b m = r := by
  rw [mSeq_x, h]
  exact h2
theorem r_for {tg : Tg} {it : M (List PyData)} {b : M Flow} {m m1 : Me} {l : List PyData} {r : Res Flow} (h : it m = .ok l m1) (h2 : forL tg b l m1 = r) : mFor tg it b m = r := by
  rw [mFor_x, h]
  exact h2
theorem r_setN3 {x : M PyData} {m : Me} {d : PyData} {x0 x1 x2 x3 : Option Sl} {st : SrcSt} (h : x m = .ok d ⟨[x0, x1, x2, x3], st⟩) : mSetN 3 x m = .ok .next ⟨[x0, x1, x2, some (.own d)], st⟩ := by
  rw [mSetN_x, h]
  exact sNo_3
theorem r_set2 {x : M Sl} {m : Me} {d : PyData} {x0 x1 x2 x3 : Option Sl} {st : SrcSt} (h : x m = .ok (.dat d) ⟨[x0, x1, x2, x3], st⟩) : mSet 2 x m = .ok .next ⟨[x0, x1, some (.dat d), x3], st⟩ := by
  rw [mSet_x, h]
  exact sRd_2
theorem hU40 : pNot pEq (.list (words40 (.str "undo"))) (.list (words40 (.str "undo"))) = some (.bool false) := sh_words (by decide +kernel)
theorem hR40 : pNot pEq (.list (words40 (.str "redo"))) (.list (words40 (.str "redo"))) = some (.bool false) := sh_words (by decide +kernel)
theorem hUe40 : pEq (.list (words40 (.str "undo"))) (.list (words40 (.str "undo"))) = some (.bool true) := pEq_same (k := 4) ⟨by decide +kernel, by decide +kernel⟩ (by omega)
theorem lstG (m : Me) : lstR [.dat (.str "good")] m = .ok (.list [gU]) m := lstR_of rfl (by simp)
theorem lst1 (a : PyData) (m : Me) : lstR [.dat a] m = .ok (.list [a]) m := lstR_of rfl (by simp)
theorem ttN (x : List Nat) : pNot pEq (dt x) (dt x) = some (.bool false) := by rw [pNot_b (pEq_tx _ _)]; simp
theorem A3 (x1 : Option Sl) (x3 : Option Sl) : mIfS (mOr (mTest (mOp (pNot pEq) (mDat (mCall F__law_word_of (mArgs [(mVar 0), (mTup (mArgs [(mC (.dat (.str "put"))), (mC (.dat (.int 41))), (mC (.dat (.str "a")))]))]))) (mDat (mC (.dat (.str "place")))))) (mTest (mOp (pNot pEq) (mDat (mLenO F_Desk___len__ 0)) (mDat (mC (.dat (.int 40))))))) (mRet (mC (.dat (.bool false)))) mNext (F4 x1 (some (sd (T40 40))) x3 (DkS c t (L40 40) 40)) = .ok .next (F4 x1 (some (sd (T40 40))) x3 (DkS c t (L40 40) 40)) := by
  have h40 : pNot pEq (nd 40) (.int 40) = some (.bool false) := rfl
  simp only [mIfS_x, mOr_x, mTest_x, mOp_x, mDat_x, mCall_x, mArgs_cons, mArgs_nil, mVb_0, mTup_x, mC_x, Res.bind_ok, tupR_3, l_a, w_put41, resV_d, datR_dat, pNot_b (eqSt "place"), Bool.not_true, opR_some, testR_b, Bool.false_eq_true, if_false, lenF (show 40 ≤ 40 by omega) (show 40 ≤ 200 by omega), h40, mNext_x]
theorem A5 (x2 : Option Sl) : mIfS (mOr (mTest (mOp (pNot pEq) (mBor 3) (mDat (mOp pAdd (mDat (mOp pRep (mDat (mL (mLst (mArgs [(mC (.dat (.str "good")))])))) (mDat (mC (.dat (.int 40)))))) (mDat (mL (mLst (mArgs [(mC (.dat (.str "undo")))])))))))) (mTest (mOp (pNot pEq) (mDat (mProp F_Desk_text 0)) (mDat (mC (.dat (.str ""))))))) (mRet (mC (.dat (.bool false)))) mNext (F4 none x2 (some (.own (.list (words40 (.str "undo"))))) (DkS c t (L40 40) 0)) = .ok .next (F4 none x2 (some (.own (.list (words40 (.str "undo"))))) (DkS c t (L40 40) 0)) := by
  have t0 : pNot pEq (dt (T40 0)) (dt []) = some (.bool false) := ttN []
  rw [mIfS_x, mOr_x]
  simp only [mTest_x, mOp_x, mDat_x, mBo_3, mL_x, mLst_x, mArgs_cons, mArgs_nil, mC_x, Res.bind_ok, datR_dat, rep40g, opR_some, lst1, w40_rep, hU40, testR_b, Bool.false_eq_true, if_false, textF (show 0 ≤ 40 by omega) (show 40 ≤ 200 by omega), lit_nil, t0, mNext_x]
theorem A7 : mIfS (mOr (mTest (mOp (pNot pEq) (mBor 3) (mDat (mOp pAdd (mDat (mOp pRep (mDat (mL (mLst (mArgs [(mC (.dat (.str "good")))])))) (mDat (mC (.dat (.int 40)))))) (mDat (mL (mLst (mArgs [(mC (.dat (.str "redo")))])))))))) (mTest (mOp (pNot pEq) (mDat (mProp F_Desk_text 0)) (mBor 2)))) (mRet (mC (.dat (.bool false)))) mNext (F4 none (some (sd (T40 40))) (some (.own (.list (words40 (.str "redo"))))) (DkS c t (L40 40) 40)) = .ok .next (F4 none (some (sd (T40 40))) (some (.own (.list (words40 (.str "redo"))))) (DkS c t (L40 40) 40)) := by
  rw [mIfS_x, mOr_x]
  simp only [mTest_x, mOp_x, mDat_x, mBo_3, mL_x, mLst_x, mArgs_cons, mArgs_nil, mC_x, Res.bind_ok, datR_dat, rep40g, opR_some, lst1, w40_rep, hR40, testR_b, Bool.false_eq_true, if_false, textF (show 40 ≤ 40 by omega) (show 40 ≤ 200 by omega), mBd_2, ttN, mNext_x]
theorem A8 (x2 x3 : Option Sl) : mDrop (mMeth F_Desk_undo 0 []) (F4 none x2 x3 (DkS c t (L40 40) 40)) = .ok .next (F4 none x2 x3 (DkS c t (L40 40) 39)) := by
  have hu : F_Desk_undo [.obj .bx] (DkS c t (L40 40) 40) = .ok (.dat .none) (DkS c t (L40 40) 39) := by rw [undo_at, if_neg (by omega)]
  rw [mDrop_x, mMeth_x (L := (L40 40).map stD) (n := ((40 : Nat) : Int)) (show dkOf (F4 none x2 x3 (DkS c t (L40 40) 40)) 0 = _ from rfl)]
  simp only [mArgs_nil, Res.bind_ok]
  show ((resV _ (F_Desk_undo [.obj .bx] (DkS c t (L40 40) 40))).bind _) = _
  rw [hu]
  rfl
theorem A9 (x3 : Option Sl) : mIfS (mOr (mTest (mOp (pNot pEq) (mDat (mCall F__law_word_of (mArgs [(mVar 0), (mTup (mArgs [(mC (.dat (.str "strike"))), (mC (.dat (.int 3))), (mC (.dat (.int 2)))]))]))) (mDat (mC (.dat (.str "place")))))) (mOr (mTest (mOp (pNot pEq) (mDat (mCall F__law_word_of (mArgs [(mVar 0), (mTup (mArgs [(mC (.dat (.str "redo")))]))]))) (mDat (mC (.dat (.str "good")))))) (mTest (mOp (pNot pEq) (mDat (mProp F_Desk_text 0)) (mBor 2))))) (mRet (mC (.dat (.bool false)))) mNext (F4 none (some (sd (T40 40))) x3 (DkS c t (L40 40) 39)) = .ok .next (F4 none (some (sd (T40 40))) x3 (DkS c t (L40 40) 40)) := by
  have hgg : pNot pEq gU (.str "good") = some (.bool false) := pNot_b (eqSt "good")
  simp only [mIfS_x, mOr_x, mTest_x, mOp_x, mDat_x, mCall_x, mArgs_cons, mArgs_nil, mVb_0, mTup_x, mC_x, Res.bind_ok, tupR_3, tupR_1, w_strike32, resV_d, datR_dat, pNot_b (eqSt "place"), Bool.not_true, opR_some, testR_b, Bool.false_eq_true, if_false, w_redo39, hgg, textF (show 40 ≤ 40 by omega) (show 40 ≤ 200 by omega), mBd_2, ttN, mNext_x]
theorem A10 (x2 x3 : Option Sl) : mSetN 3 (mLst (mArgs [(mCall F__law_word_of (mArgs [(mVar 0), (mTup (mArgs [(mC (.dat (.str "undo")))]))])), (mCall F__law_word_of (mArgs [(mVar 0), (mTup (mArgs [(mC (.dat (.str "strike"))), (mC (.dat (.int 5))), (mC (.dat (.int 5)))]))])), (mCall F__law_word_of (mArgs [(mVar 0), (mTup (mArgs [(mC (.dat (.str "redo")))]))]))])) (F4 none x2 x3 (DkS c t (L40 40) 40)) = .ok .next (F4 none x2 (some (.own (.list [gU, gU, .str "redo"]))) (DkS c t L41 40)) := by
  have hu : F__law_word_of [.obj .bx, .dat (.tuple [.str "undo"])] (DkS c t (L40 40) 40) = .ok (.dat gU) (DkS c t (L40 40) 39) := w_undo 39 (L40 40)
  simp only [mSetN_x, mLst_x, mArgs_cons, mArgs_nil, mCall_x, mVb_0, mTup_x, mC_x, Res.bind_ok, tupR_3, tupR_1, hu, w_strike55, w_redoEnd, resV_d, lst3, sNo_3]
theorem A11 (x2 : Option Sl) : mIfS (mOr (mTest (mOp (pNot pEq) (mBor 3) (mDat (mL (mLst (mArgs [(mC (.dat (.str "good"))), (mC (.dat (.str "good"))), (mC (.dat (.str "redo")))])))))) (mTest (mOp (pNot pEq) (mDat (mLenO F_Desk___len__ 0)) (mDat (mC (.dat (.int 39))))))) (mRet (mC (.dat (.bool false)))) mNext (F4 none x2 (some (.own (.list [gU, gU, .str "redo"]))) (DkS c t L41 40)) = .ok .next (F4 none x2 (some (.own (.list [gU, gU, .str "redo"]))) (DkS c t L41 40)) := by
  have hg : pNot pEq (.list [gU, gU, .str "redo"]) (.list [.str "good", .str "good", .str "redo"]) = some (.bool false) := sh_words (l := [gU, gU, .str "redo"]) (by decide +kernel)
  have e39 : mLenO F_Desk___len__ 0 (F4 none x2 (some (.own (.list [gU, gU, .str "redo"]))) (DkS c t L41 40)) = .ok (sn 39) (F4 none x2 (some (.own (.list [gU, gU, .str "redo"]))) (DkS c t L41 40)) := by
    have := lenP (c := c) (t := t) now41 (m := F4 none x2 (some (.own (.list [gU, gU, .str "redo"]))) (DkS c t L41 40)) (i := 0) rfl rfl
    rwa [T40_len] at this
  have h39 : pNot pEq (nd 39) (.int 39) = some (.bool false) := rfl
  simp only [mIfS_x, mOr_x, mTest_x, mOp_x, mDat_x, mBo_3, mL_x, mLst_x, mArgs_cons, mArgs_nil, mC_x, Res.bind_ok, lst3, datR_dat, hg, opR_some, testR_b, Bool.false_eq_true, if_false, e39, h39, mNext_x]
theorem A12 (x2 x3 : Option Sl) : mRet (mOp pEq (mDat (mL (mComp [1] (.nm 1) (mRng1 (mBs [(mDat (mC (.dat (.int 41))))])) mYes (mCall F__law_word_of (mArgs [(mVar 0), (mTup (mArgs [(mC (.dat (.str "undo")))]))]))))) (mDat (mOp pAdd (mDat (mOp pRep (mDat (mL (mLst (mArgs [(mC (.dat (.str "good")))])))) (mDat (mC (.dat (.int 40)))))) (mDat (mL (mLst (mArgs [(mC (.dat (.str "undo")))]))))))) (F4 none x2 x3 (DkS c t L41 40)) = .ok (.ret (.dat (.bool true))) (F4 none x2 x3 (DkS c t L41 0)) := by
  rw [mRet_x, mOp_x]
  simp only [mDat_x, mL_x]
  rw [undo41b]
  simp only [Res.bind_ok, datR_dat, mOp_x, mDat_x, mL_x, mLst_x, mArgs_cons, mArgs_nil, mC_x, rep40g, opR_some, lst1, w40_rep, hUe40]
theorem forty_rest : ∃ (R : M Flow) (m' : Me), m__law_forty_right = mMk F_check_book_and_text [(mTup (mArgs [])), (mC (.dat (.str "")))] 0 R ∧ R (F4 none none none (DkS c t (L40 0) 0)) = .ok (.ret (.dat (.bool true))) m' ∧ m'.st.c = c ∧ m'.st.t = t := by
  have hr : mRng1 (mBs [(mDat (mC (.dat (.int 40))))]) (F4 none none none (DkS c t (L40 0) 0)) = .ok (rngD 0 40) (F4 none none none (DkS c t (L40 0) 0)) := by
    simp only [mRng1_x, mBs_cons, mBs_nil, mDat_x, mC_x, Res.bind_ok, datR_dat]
    exact rngR_n (n := 40) (by omega)
  obtain ⟨y1, e1⟩ := loop40 (c := c) (t := t) none none none
  refine ⟨_, F4 none (some (sd (T40 40))) (some (.own (.list [gU, gU, .str "redo"]))) (DkS c t L41 0), rfl, ?_, rfl, rfl⟩
  refine r_seq (r_for hr e1) ?_
  refine r_seq (r_set2 (textF (by omega) (by omega) _ _ _)) ?_
  refine r_seq (A3 _ _) ?_
  refine r_seq (r_setN3 (undo41 _ _ _)) ?_
  refine r_seq (A5 _) ?_
  refine r_seq (r_setN3 (redo41 _ _ _)) ?_
  refine r_seq A7 ?_
  refine r_seq (A8 _ _) ?_
  refine r_seq (A9 _) ?_
  refine r_seq (A10 _ _) ?_
  refine r_seq (A11 _) ?_
  exact A12 _ _
theorem forty_at : F__law_forty_right [] ⟨c, t, .no⟩ = .ok (.dat (.bool true)) ⟨c, t, .no⟩ := by
  obtain ⟨R, m', hR, h1, h2, h3⟩ := forty_rest (c := c) (t := t)
  refine call_of (env := [none, none, none, none]) rfl ?_
  have hck : F_check_book_and_text [.dat (.tuple []), .dat (.str "")] st0 = .ok (.dat .none) st0 := by
    rw [lit_nil]
    exact check_bt_at emp_bok (t := []) ⟨(fun _ h => nomatch h), by simp⟩ st0
  have hst : (⟨([none, none, none, none] : List (Option Sl)).set 0 (some (.obj .bx)), ⟨c, t, .dsk [.tuple [.tuple [], .str ""]] 0⟩⟩ : Me) = F4 none none none (DkS c t (L40 0) 0) := by
    rw [lit_nil]; rfl
  rw [hR]
  unfold mMk
  simp only [mArgs_cons, mArgs_nil, mTup_x, tupR_0, mC_x, Res.bind_ok, hck]
  unfold mBox
  rw [if_pos ⟨rfl, by simp⟩, hst, h1]
  show CRes.ok (.dat (.bool true)) (unbox m').st = _
  show CRes.ok (.dat (.bool true)) (⟨m'.st.c, m'.st.t, .no⟩ : SrcSt) = _
  rw [h2, h3]
end
end PL.RF
namespace PL.RF
open PySem PySem.Spec PyProof.Rows L2
/-! ### k35: texts of two hundred letters -/
theorem tx_mulC (c n : Nat) : Txt.mul (tx [c]) (n : Int) = tx (List.replicate n c) := by
  have g : ∀ (k : Nat) (acc : List Nat), (List.replicate k (tx [c]).cps).foldl (· ++ ·) acc.toArray = (acc ++ List.replicate k c).toArray := by
    intro k
    induction k with
    | zero => intro acc; simp
    | succ k ih =>
      intro acc
      have e : acc.toArray ++ (tx [c]).cps = (acc ++ [c]).toArray := by simp [tx]
      rw [List.replicate_succ, List.foldl_cons, e, ih]
      simp [List.replicate_succ]
  unfold Txt.mul
  split
  · rename_i h
    have : n = 0 := by omega
    subst this; rfl
  · split
    · rename_i h h2
      have : n = 1 := by
        simp only [Bool.or_eq_true, beq_iff_eq] at h2
        rcases h2 with h2 | h2
        · omega
        · cases h2
      subst this; rfl
    · have := g n []
      simp only [Int.toNat_natCast]
      show (⟨_⟩ : Str) = _
      rw [this]; rfl
theorem mulC {c n : Nat} (h2 : n ≤ 1000) : pMul (dt [c]) (.int (n : Int)) = some (dt (List.replicate n c)) := by
  unfold pMul
  simp only
  rw [if_pos ⟨by omega, by omega, by rw [tx_len, Int.toNat_natCast]; simp; omega⟩, tx_mulC c n]
theorem tx_mulL (l : List Nat) (n : Nat) (hn : 2 ≤ n) (hl : l ≠ []) : Txt.mul (tx l) (n : Int) = tx (List.replicate n l).flatten := by
  have g : ∀ (k : Nat) (acc : List Nat), (List.replicate k (tx l).cps).foldl (· ++ ·) acc.toArray = (acc ++ (List.replicate k l).flatten).toArray := by
    intro k
    induction k with
    | zero => intro acc; simp
    | succ k ih =>
      intro acc
      have e : acc.toArray ++ (tx l).cps = (acc ++ l).toArray := by simp [tx]
      rw [List.replicate_succ, List.foldl_cons, e, ih]
      simp [List.replicate_succ]
  unfold Txt.mul
  split
  · rename_i h
    omega
  · split
    · rename_i h h2
      simp only [Bool.or_eq_true, beq_iff_eq] at h2
      rcases h2 with h2 | h2
      · omega
      · have : l.length = 0 := h2
        exact absurd (List.eq_nil_of_length_eq_zero this) hl
    · have := g n []
      simp only [Int.toNat_natCast]
      show (⟨_⟩ : Str) = _
      rw [this]; rfl
theorem mulL {l : List Nat} {n : Nat} (hn : 2 ≤ n) (h2 : n ≤ 1000) (h0 : l ≠ []) (hl : l.length ≤ 100) : pMul (dt l) (.int (n : Int)) = some (dt (List.replicate n l).flatten) := by
  unfold pMul
  simp only
  rw [if_pos ⟨by omega, by omega, by
    rw [tx_len, Int.toNat_natCast]
    have := Nat.mul_le_mul hl h2
    omega⟩, tx_mulL l n hn h0]
def GF : Fx := ⟨[], [97, 98], [97, 98, 99], []⟩
def G1 : List Fx := [GF]
theorem GF_ok : GF.Ok := ⟨(fun _ h => nomatch h), by intro c hc; revert c; decide, by intro c hc; revert c; decide, (fun _ h => nomatch h), by decide, by decide, by decide, by decide, by decide⟩
theorem G1_ok : BOk G1 := ⟨fun f hf => by rw [List.mem_singleton.1 hf]; exact GF_ok, by decide⟩
def zs (n : Nat) : List Nat := List.replicate n 122
theorem zs_w (n : Nat) : isW (zs n) := fun c hc => by rw [(List.mem_replicate.1 hc).2]; decide
theorem zs_len (n : Nat) : (zs n).length = n := List.length_replicate
theorem isW_app {a b : List Nat} (ha : isW a) (hb : isW b) : isW (a ++ b) := fun c hc => (List.mem_append.1 hc).elim (ha c) (hb c)
/-- what is known of a text of the turn -/
structure Turn35 (x : List Nat) (M cnt : Nat) : Prop where
  lo : 197 ≤ M
  hi : M ≤ 200
  w : isW x
  len : x.length = M
  cn : Txt.count (tx x) (tx [97, 98]) = (cnt : Int)
  one : 1 ≤ cnt
  r1 : (roundS G1 x).length = M + cnt
  rws : isW (roundS G1 x)
  r2 : 200 < (roundS G1 (x ++ zs (200 - M))).length
abbrev F7 (g : Sl) (x2 x3 x4 x6 : Option Sl) (st : SrcSt) : Me := ⟨[some .src, some g, x2, x3, x4, some (.obj .bx), x6], st⟩
def LA (x : List Nat) : List Stand := [(G1, x)]
def LB (x : List Nat) (M : Nat) : List Stand := [(G1, x), (G1, x ++ zs (200 - M))]
def LC (x : List Nat) (M : Nat) : List Stand := [(G1, x), (G1, x ++ zs (200 - M)), (G1, x ++ zs (200 - M))]
def LD (x : List Nat) : List Stand := [(G1, x), (G1, roundS G1 x)]
section
variable {c : List Int} {t : Int} {x : List Nat} {M cnt : Nat}
theorem Turn35.tx (h : Turn35 x M cnt) : TOk x := ⟨h.w, by rw [h.len]; exact h.hi⟩
theorem Turn35.len2 (h : Turn35 x M cnt) : (x ++ zs (200 - M)).length = 200 := by
  have := h.hi
  rw [List.length_append, zs_len, h.len]; omega
theorem Turn35.tx2 (h : Turn35 x M cnt) : TOk (x ++ zs (200 - M)) := ⟨isW_app h.w (zs_w _), by rw [h.len2]; omega⟩
theorem nowA (h : Turn35 x M cnt) : Now (LA x) 0 G1 x := ⟨rfl, G1_ok, h.tx⟩
theorem nowB (h : Turn35 x M cnt) : Now (LB x M) 1 G1 (x ++ zs (200 - M)) := ⟨rfl, G1_ok, h.tx2⟩
theorem nowC (h : Turn35 x M cnt) : Now (LC x M) 2 G1 (x ++ zs (200 - M)) := ⟨rfl, G1_ok, h.tx2⟩
theorem nowC0 (h : Turn35 x M cnt) : Now (LC x M) 0 G1 x := ⟨rfl, G1_ok, h.tx⟩
theorem w_putA (h : Turn35 x M cnt) : F__law_word_of [.obj .bx, .dat (.tuple [.str "put", nd M, dt (zs (200 - M))])] (DkS c t (LA x) 0) = .ok (.dat gU) (DkS c t (LB x M) 1) := by
  have := wo_put (c := c) (t := t) (nowA h) (by simp [LA]) M (y := zs (200 - M)) (by rw [zs_len]; omega)
  unfold putD takeR at this
  have hx : x.take M ++ zs (200 - M) ++ x.drop M = x ++ zs (200 - M) := by
    rw [← h.len, List.take_of_length_le (Nat.le_refl _), List.drop_of_length_le (Nat.le_refl _), List.append_nil]
  rw [if_pos (by rw [h.len]; omega), if_pos (wordB_of (zs_w _) (by omega) (by rw [zs_len]; omega)), hx, if_pos (by show (x ++ zs (200 - M)).length ≤ 200; rw [h.len2]; omega)] at this
  exact this
theorem w_putB (h : Turn35 x M cnt) (y : List Nat) (hy : wordB y 0 200 = true) (h1 : 1 ≤ y.length) (h2 : y.length ≤ 1000) {L : List Stand} {n : Nat} (hn : Now L n G1 (x ++ zs (200 - M))) (hL : L.length ≤ 1000) : F__law_word_of [.obj .bx, .dat (.tuple [.str "put", .int 0, dt y])] (DkS c t L n) = .ok (.dat (.str "many")) (DkS c t L n) := by
  have := wo_put (c := c) (t := t) hn hL 0 (y := y) (by omega)
  unfold putD takeR at this
  rw [if_pos (by omega), if_pos hy, if_neg (by
    show ¬ ((x ++ zs (200 - M)).take 0 ++ y ++ (x ++ zs (200 - M)).drop 0).length ≤ 200
    rw [List.take_zero, List.nil_append, List.drop_zero, List.length_append, h.len2]
    omega)] at this
  rw [show F__law_word_of [.obj .bx, .dat (.tuple [.str "put", .int 0, dt y])] (DkS c t L n) = _ from this]
  show CRes.ok (.dat (.str (kindW xMany))) _ = _
  rw [kM]
theorem w_put201 (h : Turn35 x M cnt) (y : List Nat) (h2 : y.length ≤ 1000) {L : List Stand} {n : Nat} (hn : Now L n G1 (x ++ zs (200 - M))) (hL : L.length ≤ 1000) : F__law_word_of [.obj .bx, .dat (.tuple [.str "put", .int 201, dt y])] (DkS c t L n) = .ok (.dat (.str "place")) (DkS c t L n) := by
  have := wo_put (c := c) (t := t) hn hL 201 (y := y) (by omega)
  unfold putD at this
  rw [if_neg (by rw [h.len2]; omega)] at this
  rw [show F__law_word_of [.obj .bx, .dat (.tuple [.str "put", .int 201, dt y])] (DkS c t L n) = _ from this]
  show CRes.ok (.dat (.str (kindW xPlace))) _ = _
  rw [kP]
theorem w_putW (y : List Nat) (hy : wordB y 0 200 = false) (h2 : y.length ≤ 1000) {L : List Stand} {n : Nat} {z : List Nat} (hn : Now L n G1 z) (hL : L.length ≤ 1000) : F__law_word_of [.obj .bx, .dat (.tuple [.str "put", .int 0, dt y])] (DkS c t L n) = .ok (.dat (.str "word")) (DkS c t L n) := by
  have := wo_put (c := c) (t := t) hn hL 0 (y := y) (by omega)
  unfold putD at this
  rw [if_pos (by omega), if_neg (by rw [hy]; simp)] at this
  rw [show F__law_word_of [.obj .bx, .dat (.tuple [.str "put", .int 0, dt y])] (DkS c t L n) = _ from this]
  show CRes.ok (.dat (.str (kindW xWord))) _ = _
  rw [kW]
theorem w_putE (h : Turn35 x M cnt) : F__law_word_of [.obj .bx, .dat (.tuple [.str "put", .int 0, dt []])] (DkS c t (LB x M) 1) = .ok (.dat gU) (DkS c t (LC x M) 2) := by
  have := wo_put (c := c) (t := t) (nowB h) (by simp [LB]) 0 (y := []) (by simp)
  unfold putD takeR at this
  have hx : (x ++ zs (200 - M)).take 0 ++ [] ++ (x ++ zs (200 - M)).drop 0 = x ++ zs (200 - M) := by simp
  rw [if_pos (by omega), if_pos (by decide), hx, if_pos (by show (x ++ zs (200 - M)).length ≤ 200; rw [h.len2]; omega)] at this
  exact this
theorem w_redoC : F__law_word_of [.obj .bx, .dat (.tuple [.str "redo"])] (DkS c t (LC x M) 2) = .ok (.dat (.str "redo")) (DkS c t (LC x M) 2) := by
  have := wo_redo (c := c) (t := t) (L := LC x M) (n := 2)
  rw [if_pos (by rfl)] at this
  exact this
theorem w_roundC (h : Turn35 x M cnt) : F__law_word_of [.obj .bx, .dat (.tuple [.str "round"])] (DkS c t (LC x M) 2) = .ok (.dat (.str "many")) (DkS c t (LC x M) 2) := by
  have := wo_round (c := c) (t := t) (nowC h) (by simp [LC])
  unfold takeR at this
  rw [if_neg (by show ¬ (roundS G1 (x ++ zs (200 - M))).length ≤ 200; have := h.r2; omega)] at this
  rw [show F__law_word_of [.obj .bx, .dat (.tuple [.str "round"])] (DkS c t (LC x M) 2) = _ from this]
  show CRes.ok (.dat (.str (kindW xMany))) _ = _
  rw [kM]
/-- the last round of the turn -/
theorem w_roundD (h : Turn35 x M cnt) : F__law_word_of [.obj .bx, .dat (.tuple [.str "round"])] (DkS c t (LC x M) 0) = if M + cnt ≤ 200 then .ok (.dat gU) (DkS c t (LD x) 1) else .ok (.dat (.str "many")) (DkS c t (LC x M) 0) := by
  have := wo_round (c := c) (t := t) (nowC0 h) (by simp [LC])
  unfold takeR at this
  rw [show F__law_word_of [.obj .bx, .dat (.tuple [.str "round"])] (DkS c t (LC x M) 0) = _ from this]
  show wordOf (if (roundS G1 x).length ≤ 200 then _ else _) = _
  rw [h.r1]
  by_cases hc : M + cnt ≤ 200
  · rw [if_pos hc, if_pos hc]; rfl
  · rw [if_neg hc, if_neg hc]
    show CRes.ok (.dat (.str (kindW xMany))) _ = _
    rw [kM]
theorem nowD (h : Turn35 x M cnt) (hc : M + cnt ≤ 200) : Now (LD x) 1 G1 (roundS G1 x) := ⟨rfl, G1_ok, h.rws, by rw [h.r1]; exact hc⟩
end
end PL.RF
namespace PL.RF
open PySem PySem.Spec PyProof.Rows L2
/-! ### k35: a turn with a text of about two hundred letters -/
theorem l_z : (Str.ofString "z") = tx [122] := by decide +kernel
theorem l_Z : (Str.ofString "Z") = tx [90] := by decide +kernel
theorem l_ab : (Str.ofString "ab") = tx [97, 98] := by decide +kernel
theorem r_setN6 {x : M PyData} {m : Me} {d : PyData} {x0 x1 x2 x3 x4 x5 x6 : Option Sl} {st : SrcSt} (h : x m = .ok d ⟨[x0, x1, x2, x3, x4, x5, x6], st⟩) : mSetN 6 x m = .ok .next ⟨[x0, x1, x2, x3, x4, x5, some (.own d)], st⟩ := by
  rw [mSetN_x, h]
  exact sNo_6
abbrev E7 (x : List Nat) (M : Nat) (x2 x6 : Option Sl) (st : SrcSt) : Me := ⟨[some .src, some (.dat (bookD G1)), x2, some (sn M), some (sd x), some (.obj .bx), x6], st⟩
abbrev gM : PyData := .str "many"
noncomputable abbrev tB8 : M Flow := mSetN 6 (mLst (mArgs [(mCall F__law_word_of (mArgs [(mVar 5), (mTup (mArgs [(mC (.dat (.str "undo")))]))])), (mCall F__law_word_of (mArgs [(mVar 5), (mTup (mArgs [(mC (.dat (.str "undo")))]))])), (mCall F__law_word_of (mArgs [(mVar 5), (mTup (mArgs [(mC (.dat (.str "round")))]))]))]))
noncomputable abbrev tB9 : M Flow := mIfS (mTest (mOp (pNot pEq) (mBor 6) (mDat (mL (mLst (mArgs [(mC (.dat (.str "good"))), (mC (.dat (.str "good"))), (mOp pIxA (mDat (mL (mLst (mArgs [(mC (.dat (.str "good"))), (mC (.dat (.str "many")))])))) (mDat (mCal fInt (mBs [(mDat (mOp pGt (mDat (mOp pSCnt (mStr (mBor 4)) (mDat (mC (.dat (.str "ab")))))) (mDat (mOp pSub (mDat (mC (.dat (.int 200)))) (mBor 3)))))]))))])))))) (mRet (mC (.dat (.bool false)))) mNext
noncomputable abbrev tB10 : M Flow := mIfS (mTest (mOp (pNot pEq) (mDat (mLenO F_Desk___len__ 5)) (mDat (mOp pIxA (mDat (mL (mLst (mArgs [(mOp pAdd (mBor 3) (mDat (mOp pSCnt (mStr (mBor 4)) (mDat (mC (.dat (.str "ab"))))))), (mVar 3)])))) (mDat (mCal fInt (mBs [(mDat (mOp pEq (mDat (mOp pIxA (mBor 6) (mDat (mC (.dat (.int 2)))))) (mDat (mC (.dat (.str "many"))))))]))))))) (mRet (mC (.dat (.bool false)))) mNext
section
variable {c : List Int} {t : Int} {x : List Nat} {M cnt : Nat} {x2 x6 : Option Sl}
theorem hsub (h : Turn35 x M cnt) : pSub (.int 200) (nd M) = some (nd (200 - M)) := by
  have := h.hi
  rw [pSub_i, show (200 : Int) - (M : Int) = ((200 - M : Nat) : Int) by omega]
theorem hzmul (h : Turn35 x M cnt) : pMul (dt [122]) (nd (200 - M)) = some (dt (zs (200 - M))) := mulC (by omega)
theorem textE {L : List Stand} {n : Nat} {fs : List Fx} {z : List Nat} (h : Now L n fs z) : mProp F_Desk_text 5 (E7 x M x2 x6 (DkS c t L n)) = .ok (sd z) (E7 x M x2 x6 (DkS c t L n)) := textP h rfl rfl
theorem lenE {L : List Stand} {n : Nat} {fs : List Fx} {z : List Nat} (h : Now L n fs z) : mLenO F_Desk___len__ 5 (E7 x M x2 x6 (DkS c t L n)) = .ok (sn z.length) (E7 x M x2 x6 (DkS c t L n)) := lenP h rfl rfl
theorem B1 (h : Turn35 x M cnt) : mSetN 6 (mLst (mArgs [(mCall F__law_word_of (mArgs [(mVar 5), (mTup (mArgs [(mC (.dat (.str "put"))), (mVar 3), (mOp pMul (mDat (mC (.dat (.str "z")))) (mDat (mOp pSub (mDat (mC (.dat (.int 200)))) (mBor 3))))]))])), (mCall F__law_word_of (mArgs [(mVar 5), (mTup (mArgs [(mC (.dat (.str "put"))), (mC (.dat (.int 0))), (mC (.dat (.str "z")))]))]))])) (E7 x M x2 x6 (DkS c t (LA x) 0)) = .ok .next (E7 x M x2 (some (.own (.list [gU, gM]))) (DkS c t (LB x M) 1)) := by
  have hb := w_putB (c := c) (t := t) h [122] (by decide) (by simp) (by simp) (nowB h) (by simp [LB])
  refine r_setN6 (x6 := x6) ?_
  simp only [mLst_x, mArgs_cons, mArgs_nil, mCall_x, mVb_5, mTup_x, mC_x, mVd_3, mOp_x, mDat_x, mBd_3, Res.bind_ok, datR_dat, l_z, hsub h, opR_some, hzmul h, tupR_3, w_putA h, resV_d, hb, lst2]
theorem B2 (h : Turn35 x M cnt) : mIfS (mOr (mTest (mOp (pNot pEq) (mBor 6) (mDat (mL (mLst (mArgs [(mC (.dat (.str "good"))), (mC (.dat (.str "many")))])))))) (mTest (mOp (pNot pEq) (mDat (mProp F_Desk_text 5)) (mDat (mOp pAdd (mBor 4) (mDat (mOp pMul (mDat (mC (.dat (.str "z")))) (mDat (mOp pSub (mDat (mC (.dat (.int 200)))) (mBor 3)))))))))) (mRet (mC (.dat (.bool false)))) mNext (E7 x M x2 (some (.own (.list [gU, gM]))) (DkS c t (LB x M) 1)) = .ok .next (E7 x M x2 (some (.own (.list [gU, gM]))) (DkS c t (LB x M) 1)) := by
  have hg : pNot pEq (.list [gU, gM]) (.list [.str "good", .str "many"]) = some (.bool false) := sh_words (l := [gU, gM]) (by decide +kernel)
  have ha : pAdd (dt x) (dt (zs (200 - M))) = some (dt (x ++ zs (200 - M))) := pAdd_tx (by rw [h.len, zs_len]; have := h.hi; omega)
  simp only [mIfS_x, mOr_x, mTest_x, mOp_x, mDat_x, mBo_6, mL_x, mLst_x, mArgs_cons, mArgs_nil, mC_x, Res.bind_ok, lst2, datR_dat, hg, opR_some, testR_b, Bool.false_eq_true, if_false, textE (nowB h), mBd_4, l_z, mBd_3, hsub h, hzmul h, ha, ttN, mNext_x]
theorem B3 (h : Turn35 x M cnt) : mSetN 6 (mLst (mArgs [(mCall F__law_word_of (mArgs [(mVar 5), (mTup (mArgs [(mC (.dat (.str "put"))), (mC (.dat (.int 201))), (mC (.dat (.str "z")))]))])), (mCall F__law_word_of (mArgs [(mVar 5), (mTup (mArgs [(mC (.dat (.str "put"))), (mC (.dat (.int 0))), (mC (.dat (.str "Z")))]))]))])) (E7 x M x2 x6 (DkS c t (LB x M) 1)) = .ok .next (E7 x M x2 (some (.own (.list [.str "place", .str "word"]))) (DkS c t (LB x M) 1)) := by
  have h1 := w_put201 (c := c) (t := t) h [122] (by simp) (nowB h) (by simp [LB])
  have h2 := w_putW (c := c) (t := t) [90] (by decide) (by simp) (nowB h) (by simp [LB])
  refine r_setN6 (x6 := x6) ?_
  simp only [mLst_x, mArgs_cons, mArgs_nil, mCall_x, mVb_5, mTup_x, mC_x, Res.bind_ok, l_z, l_Z, tupR_3, h1, h2, resV_d, lst2]
theorem B4 (h : Turn35 x M cnt) : mSet 6 (mOp pAdd (mBor 6) (mDat (mL (mLst (mArgs [(mCall F__law_word_of (mArgs [(mVar 5), (mTup (mArgs [(mC (.dat (.str "put"))), (mC (.dat (.int 0))), (mC (.dat (.str "")))]))]))]))))) (E7 x M x2 (some (.own (.list [.str "place", .str "word"]))) (DkS c t (LB x M) 1)) = .ok .next (E7 x M x2 (some (.dat (.list [.str "place", .str "word", gU]))) (DkS c t (LC x M) 2)) := by
  have ha : pAdd (.list [.str "place", .str "word"]) (.list [gU]) = some (.list [.str "place", .str "word", gU]) := pAdd_ls (by simp)
  simp only [mSet_x, mOp_x, mBo_6, mDat_x, mL_x, mLst_x, mArgs_cons, mArgs_nil, mCall_x, mVb_5, mTup_x, mC_x, Res.bind_ok, lit_nil, tupR_3, w_putE h, resV_d, lst1, datR_dat, ha, opR_some, sRd_6]
theorem B5 : mIfS (mOr (mTest (mOp (pNot pEq) (mBor 6) (mDat (mL (mLst (mArgs [(mC (.dat (.str "place"))), (mC (.dat (.str "word"))), (mC (.dat (.str "good")))])))))) (mTest (mOp (pNot pEq) (mDat (mCall F__law_word_of (mArgs [(mVar 5), (mTup (mArgs [(mC (.dat (.str "redo")))]))]))) (mDat (mC (.dat (.str "redo"))))))) (mRet (mC (.dat (.bool false)))) mNext (E7 x M x2 (some (.dat (.list [.str "place", .str "word", gU]))) (DkS c t (LC x M) 2)) = .ok .next (E7 x M x2 (some (.dat (.list [.str "place", .str "word", gU]))) (DkS c t (LC x M) 2)) := by
  have hg : pNot pEq (.list [.str "place", .str "word", gU]) (.list [.str "place", .str "word", .str "good"]) = some (.bool false) := sh_words (l := [.str "place", .str "word", gU]) (by decide +kernel)
  simp only [mIfS_x, mOr_x, mTest_x, mOp_x, mDat_x, mBd_6, mL_x, mLst_x, mArgs_cons, mArgs_nil, mC_x, Res.bind_ok, lst3, datR_dat, hg, opR_some, testR_b, Bool.false_eq_true, if_false, mCall_x, mVb_5, mTup_x, tupR_1, w_redoC, resV_d, pNot_b (eqSt "redo"), Bool.not_true, mNext_x]
theorem B6 (h : Turn35 x M cnt) : mIfS (mOr (mTest (mOp (pNot pEq) (mDat (mCall F__law_word_of (mArgs [(mVar 5), (mTup (mArgs [(mC (.dat (.str "put"))), (mC (.dat (.int 0))), (mOp pMul (mDat (mC (.dat (.str "z")))) (mDat (mC (.dat (.int 201)))))]))]))) (mDat (mC (.dat (.str "word")))))) (mTest (mOp (pNot pEq) (mDat (mCall F__law_word_of (mArgs [(mVar 5), (mTup (mArgs [(mC (.dat (.str "put"))), (mC (.dat (.int 0))), (mOp pMul (mDat (mC (.dat (.str "z")))) (mDat (mC (.dat (.int 200)))))]))]))) (mDat (mC (.dat (.str "many"))))))) (mRet (mC (.dat (.bool false)))) mNext (E7 x M x2 x6 (DkS c t (LC x M) 2)) = .ok .next (E7 x M x2 x6 (DkS c t (LC x M) 2)) := by
  have m1 : pMul (dt [122]) (.int 201) = some (dt (zs 201)) := mulC (n := 201) (by omega)
  have m2 : pMul (dt [122]) (.int 200) = some (dt (zs 200)) := mulC (n := 200) (by omega)
  have h1 := w_putW (c := c) (t := t) (zs 201) (by unfold wordB; rw [zs_len]; rfl) (by rw [zs_len]; omega) (nowC h) (by simp [LC])
  have h2 := w_putB (c := c) (t := t) h (zs 200) (wordB_of (zs_w _) (by omega) (by rw [zs_len]; omega)) (by rw [zs_len]; omega) (by rw [zs_len]; omega) (nowC h) (by simp [LC])
  simp only [mIfS_x, mOr_x, mTest_x, mOp_x, mDat_x, mArgs_cons, mArgs_nil, mC_x, Res.bind_ok, mCall_x, mVb_5, mTup_x, l_z, datR_dat, m1, m2, opR_some, tupR_3, h1, h2, resV_d, pNot_b (eqSt "word"), pNot_b (eqSt "many"), Bool.not_true, testR_b, Bool.false_eq_true, if_false, mNext_x]
theorem B7 (h : Turn35 x M cnt) : mIfS (mOr (mTest (mOp (pNot pEq) (mDat (mCall F__law_word_of (mArgs [(mVar 5), (mTup (mArgs [(mC (.dat (.str "round")))]))]))) (mDat (mC (.dat (.str "many")))))) (mTest (mOp (pNot pEq) (mDat (mLenO F_Desk___len__ 5)) (mDat (mC (.dat (.int 200))))))) (mRet (mC (.dat (.bool false)))) mNext (E7 x M x2 x6 (DkS c t (LC x M) 2)) = .ok .next (E7 x M x2 x6 (DkS c t (LC x M) 2)) := by
  have hl := lenE (c := c) (t := t) (x := x) (M := M) (x2 := x2) (x6 := x6) (nowC h)
  rw [h.len2] at hl
  have h200 : pNot pEq (nd 200) (.int 200) = some (.bool false) := rfl
  simp only [mIfS_x, mOr_x, mTest_x, mOp_x, mDat_x, mArgs_cons, mArgs_nil, mC_x, Res.bind_ok, mCall_x, mVb_5, mTup_x, tupR_1, w_roundC h, resV_d, datR_dat, pNot_b (eqSt "many"), Bool.not_true, opR_some, testR_b, Bool.false_eq_true, if_false, hl, h200, mNext_x]
theorem u2 : F__law_word_of [.obj .bx, .dat (.tuple [.str "undo"])] (DkS c t (LC x M) 2) = .ok (.dat gU) (DkS c t (LC x M) 1) := w_undo 1 _
theorem u1 : F__law_word_of [.obj .bx, .dat (.tuple [.str "undo"])] (DkS c t (LC x M) 1) = .ok (.dat gU) (DkS c t (LC x M) 0) := w_undo 0 _
theorem scnt (h : Turn35 x M cnt) : pSCnt (dt x) (dt [97, 98]) = some (nd cnt) := by
  show some (PyData.int (Txt.count (tx x) (tx [97, 98]))) = _
  rw [h.cn]
theorem endGood (h : Turn35 x M cnt) (hc : M + cnt ≤ 200) : mSeq tB8 (mSeq tB9 tB10) (E7 x M x2 x6 (DkS c t (LC x M) 2)) = .ok .next (E7 x M x2 (some (.own (.list [gU, gU, gU]))) (DkS c t (LD x) 1)) := by
  have hr := w_roundD (c := c) (t := t) h
  rw [if_pos hc] at hr
  have hg : pNot pEq (.list [gU, gU, gU]) (.list [.str "good", .str "good", .str "good"]) = some (.bool false) := sh_words (l := [gU, gU, gU]) (by decide +kernel)
  have hgt : pGt (nd cnt) (nd (200 - M)) = some (.bool false) := by rw [pGt_i, decide_eq_false (by omega)]
  have f0 : fInt [.bool false] = some (.int 0) := rfl
  have i0 : pIxA (.list [.str "good", .str "many"]) (.int 0) = some (.str "good") := pIxA_l (n := 0) rfl
  have i2 : pIxA (.list [gU, gU, gU]) (.int 2) = some gU := pIxA_l (n := 2) rfl
  have j0 : pIxA (.list [nd (M + cnt), nd M]) (.int 0) = some (nd (M + cnt)) := pIxA_l (n := 0) rfl
  have hne : pEq gU (.str "many") = some (.bool false) := neSt (a := "good") (b := "many") (by decide +kernel)
  have had : pAdd (nd M) (nd cnt) = some (nd (M + cnt)) := by rw [pAdd_i]; rfl
  have hl : mLenO F_Desk___len__ 5 (E7 x M x2 (some (.own (.list [gU, gU, gU]))) (DkS c t (LD x) 1)) = .ok (sn (M + cnt)) (E7 x M x2 (some (.own (.list [gU, gU, gU]))) (DkS c t (LD x) 1)) := by
    have := lenE (c := c) (t := t) (x := x) (M := M) (x2 := x2) (x6 := some (.own (.list [gU, gU, gU]))) (nowD h hc)
    rwa [h.r1] at this
  have heq : pNot pEq (nd (M + cnt)) (nd (M + cnt)) = some (.bool false) := by rw [pNot_b (pEq_nd _ _)]; simp
  refine r_seq (m1 := E7 x M x2 (some (.own (.list [gU, gU, gU]))) (DkS c t (LD x) 1)) (r_setN6 (x6 := x6) ?_) (r_seq (m1 := E7 x M x2 (some (.own (.list [gU, gU, gU]))) (DkS c t (LD x) 1)) ?_ ?_)
  · simp only [mLst_x, mArgs_cons, mArgs_nil, mCall_x, mVb_5, mTup_x, mC_x, Res.bind_ok, tupR_1, u2, u1, hr, resV_d, lst3]
  · simp only [mIfS_x, mTest_x, mOp_x, mDat_x, mBo_6, mL_x, mLst_x, mArgs_cons, mArgs_nil, mC_x, Res.bind_ok, lst2, datR_dat, mCal_x, mBs_cons, mBs_nil, mStr_x, mBd_4, strR_s, l_ab, scnt h, opR_some, mBd_3, hsub h, hgt, f0, i0, lst3, hg, testR_b, Bool.false_eq_true, if_false, mNext_x]
  · simp only [mIfS_x, mTest_x, mOp_x, mDat_x, hl, mL_x, mLst_x, mArgs_cons, mArgs_nil, mC_x, Res.bind_ok, datR_dat, mStr_x, mBd_4, strR_s, l_ab, scnt h, opR_some, mBd_3, mVd_3, had, lst2, mCal_x, mBs_cons, mBs_nil, mBo_6, i2, hne, f0, j0, heq, testR_b, Bool.false_eq_true, if_false, mNext_x]
theorem endMany (h : Turn35 x M cnt) (hc : ¬ M + cnt ≤ 200) : mSeq tB8 (mSeq tB9 tB10) (E7 x M x2 x6 (DkS c t (LC x M) 2)) = .ok .next (E7 x M x2 (some (.own (.list [gU, gU, gM]))) (DkS c t (LC x M) 0)) := by
  have hr := w_roundD (c := c) (t := t) h
  rw [if_neg hc] at hr
  have hg : pNot pEq (.list [gU, gU, gM]) (.list [.str "good", .str "good", .str "many"]) = some (.bool false) := sh_words (l := [gU, gU, gM]) (by decide +kernel)
  have hhi := h.hi
  have hgt : pGt (nd cnt) (nd (200 - M)) = some (.bool true) := by rw [pGt_i, decide_eq_true (by omega)]
  have f1 : fInt [.bool true] = some (.int 1) := rfl
  have i1 : pIxA (.list [.str "good", .str "many"]) (.int 1) = some (.str "many") := pIxA_l (n := 1) rfl
  have i2 : pIxA (.list [gU, gU, gM]) (.int 2) = some gM := pIxA_l (n := 2) rfl
  have j1 : pIxA (.list [nd (M + cnt), nd M]) (.int 1) = some (nd M) := pIxA_l (n := 1) rfl
  have hne : pEq gM (.str "many") = some (.bool true) := eqSt "many"
  have had : pAdd (nd M) (nd cnt) = some (nd (M + cnt)) := by rw [pAdd_i]; rfl
  have hl : mLenO F_Desk___len__ 5 (E7 x M x2 (some (.own (.list [gU, gU, gM]))) (DkS c t (LC x M) 0)) = .ok (sn M) (E7 x M x2 (some (.own (.list [gU, gU, gM]))) (DkS c t (LC x M) 0)) := by
    have := lenE (c := c) (t := t) (x := x) (M := M) (x2 := x2) (x6 := some (.own (.list [gU, gU, gM]))) (nowC0 h)
    rwa [h.len] at this
  have heq : pNot pEq (nd M) (nd M) = some (.bool false) := by rw [pNot_b (pEq_nd _ _)]; simp
  refine r_seq (m1 := E7 x M x2 (some (.own (.list [gU, gU, gM]))) (DkS c t (LC x M) 0)) (r_setN6 (x6 := x6) ?_) (r_seq (m1 := E7 x M x2 (some (.own (.list [gU, gU, gM]))) (DkS c t (LC x M) 0)) ?_ ?_)
  · simp only [mLst_x, mArgs_cons, mArgs_nil, mCall_x, mVb_5, mTup_x, mC_x, Res.bind_ok, tupR_1, u2, u1, hr, resV_d, lst3]
  · simp only [mIfS_x, mTest_x, mOp_x, mDat_x, mBo_6, mL_x, mLst_x, mArgs_cons, mArgs_nil, mC_x, Res.bind_ok, lst2, datR_dat, mCal_x, mBs_cons, mBs_nil, mStr_x, mBd_4, strR_s, l_ab, scnt h, opR_some, mBd_3, hsub h, hgt, f1, i1, lst3, hg, testR_b, Bool.false_eq_true, if_false, mNext_x]
  · simp only [mIfS_x, mTest_x, mOp_x, mDat_x, hl, mL_x, mLst_x, mArgs_cons, mArgs_nil, mC_x, Res.bind_ok, datR_dat, mStr_x, mBd_4, strR_s, l_ab, scnt h, opR_some, mBd_3, mVd_3, had, lst2, mCal_x, mBs_cons, mBs_nil, mBo_6, i2, hne, f1, j1, heq, testR_b, Bool.false_eq_true, if_false, mNext_x]
end
end PL.RF
namespace PL.RF
open PySem PySem.Spec PyProof.Rows L2
/-! ### k35: the twelve texts -/
def xt (w : List Nat) (M : Nat) : List Nat := (List.replicate 200 w).flatten.take (M - 2) ++ [97, 98]
def chk (w : List Nat) (M n : Nat) : Bool := ((decide ((xt w M).length = M) && (xt w M).all isL) && (decide (Txt.count (tx (xt w M)) (tx [97, 98]) = (n : Int)) && decide (1 ≤ n))) && ((decide ((roundS G1 (xt w M)).length = M + n) && (roundS G1 (xt w M)).all isL) && decide (200 < (roundS G1 (xt w M ++ zs (200 - M))).length))
theorem turn_of {w : List Nat} {M n : Nat} (h : chk w M n = true) (h1 : 197 ≤ M) (h2 : M ≤ 200) : Turn35 (xt w M) M n := by
  unfold chk at h
  simp only [Bool.and_eq_true, decide_eq_true_eq, List.all_eq_true] at h
  obtain ⟨⟨⟨a1, a2⟩, a3, a4⟩, ⟨a5, a6⟩, a7⟩ := h
  exact ⟨h1, h2, a2, a1, a3, a4, a5, a6, a7⟩
theorem x197 : chk [120] 197 1 = true := by decide +kernel
theorem x198 : chk [120] 198 1 = true := by decide +kernel
theorem x199 : chk [120] 199 1 = true := by decide +kernel
theorem x200 : chk [120] 200 1 = true := by decide +kernel
theorem c197 : chk [99] 197 1 = true := by decide +kernel
theorem c198 : chk [99] 198 1 = true := by decide +kernel
theorem c199 : chk [99] 199 1 = true := by decide +kernel
theorem c200 : chk [99] 200 1 = true := by decide +kernel
theorem b197 : chk [98, 97] 197 98 = true := by decide +kernel
theorem b198 : chk [98, 97] 198 98 = true := by decide +kernel
theorem b199 : chk [98, 97] 199 99 = true := by decide +kernel
theorem b200 : chk [98, 97] 200 99 = true := by decide +kernel
abbrev ws35 : List (List Nat) := [[120], [98, 97], [99]]
theorem all12 {w : List Nat} (hw : w ∈ ws35) {M : Nat} (hM : M = 197 ∨ M = 198 ∨ M = 199 ∨ M = 200) : ∃ n, Turn35 (xt w M) M n := by
  simp only [List.mem_cons, List.not_mem_nil, or_false] at hw
  rcases hw with rfl | rfl | rfl
  · rcases hM with rfl | rfl | rfl | rfl
    · exact ⟨_, turn_of x197 (by omega) (by omega)⟩
    · exact ⟨_, turn_of x198 (by omega) (by omega)⟩
    · exact ⟨_, turn_of x199 (by omega) (by omega)⟩
    · exact ⟨_, turn_of x200 (by omega) (by omega)⟩
  · rcases hM with rfl | rfl | rfl | rfl
    · exact ⟨_, turn_of b197 (by omega) (by omega)⟩
    · exact ⟨_, turn_of b198 (by omega) (by omega)⟩
    · exact ⟨_, turn_of b199 (by omega) (by omega)⟩
    · exact ⟨_, turn_of b200 (by omega) (by omega)⟩
  · rcases hM with rfl | rfl | rfl | rfl
    · exact ⟨_, turn_of c197 (by omega) (by omega)⟩
    · exact ⟨_, turn_of c198 (by omega) (by omega)⟩
    · exact ⟨_, turn_of c199 (by omega) (by omega)⟩
    · exact ⟨_, turn_of c200 (by omega) (by omega)⟩
theorem w35 {w : List Nat} (hw : w ∈ ws35) : w ≠ [] ∧ w.length ≤ 2 := by
  simp only [List.mem_cons, List.not_mem_nil, or_false] at hw
  rcases hw with rfl | rfl | rfl <;> simp
end PL.RF
namespace PL.RF
open PySem PySem.Spec PyProof.Rows L2
/-! ### k35: the law -/
theorem for_all0 {t : Tg} {b : M Flow} (I : Me → Prop) : ∀ (ds : List PyData), (∀ d ∈ ds, ∀ m, I m → ∃ m0 m1, mTgt t d m = some m0 ∧ b m0 = .ok .next m1 ∧ I m1) → ∀ m, I m → ∃ m', forL t b ds m = .ok .next m' ∧ I m'
  | [], _, m, hi => ⟨m, rfl, hi⟩
  | d :: r, h, m, hi => by
    obtain ⟨m0, m1, h1, h2, h3⟩ := h d List.mem_cons_self m hi
    obtain ⟨m', h4, h5⟩ := for_all0 I r (fun e he => h e (List.mem_cons_of_mem _ he)) m1 h3
    refine ⟨m', ?_, h5⟩
    rw [forL_s h1, h2]
    exact h4
theorem pick_list {b : Nat} {st : SrcSt} {ds : List PyData} (h : Gd b st) (hb : b ≤ 1000000) (h0 : ds ≠ []) (h1 : ds.length ≤ 1000) : ∃ (d : PyData) (st' : SrcSt), F__law_pick [.src, .dat (.list ds)] st = .ok (.dat d) st' ∧ d ∈ ds ∧ Gd (b + 1) st' := by
  have hp : 0 < ds.length := List.length_pos_iff.2 h0
  obtain ⟨r, st', e, hr, g⟩ := draw_nat (n := ds.length) h hb (by omega) (by omega)
  refine ⟨ds[r], st', ?_, List.getElem_mem _, g⟩
  refine call_of (env := [some .src, some (.dat (.list ds))]) rfl ?_
  have hx : pIxA (.list ds) (nd r) = some ds[r] := pIxA_l (List.getElem?_eq_getElem hr)
  simp [m__law_pick, e, hx]
abbrev Z7 (x2 x3 x4 x5 x6 : Option Sl) (st : SrcSt) : Me := ⟨[some .src, some (.dat (bookD G1)), x2, x3, x4, x5, x6], st⟩
noncomputable abbrev tText : M Flow := mSet 4 (mOp pAdd (mDat (mCut (mDat (mOp pMul (mBor 2) (mDat (mC (.dat (.int 200)))))) none (some (mDat (mOp pSub (mBor 3) (mDat (mC (.dat (.int 2))))))))) (mDat (mC (.dat (.str "ab")))))
theorem text_set {w : List Nat} (hw : w ∈ ws35) {M : Nat} (h1 : 197 ≤ M) (h2 : M ≤ 200) (x4 x5 x6 : Option Sl) (st : SrcSt) : tText (Z7 (some (sd w)) (some (sn M)) x4 x5 x6 st) = .ok .next (Z7 (some (sd w)) (some (sn M)) (some (sd (xt w M))) x5 x6 st) := by
  obtain ⟨w0, wl⟩ := w35 hw
  have hm : pMul (dt w) (.int 200) = some (dt (List.replicate 200 w).flatten) := mulL (n := 200) (by omega) (by omega) w0 (by omega)
  have hs : pSub (nd M) (.int 2) = some (nd (M - 2)) := by rw [pSub_i, show (M : Int) - 2 = ((M - 2 : Nat) : Int) by omega]
  have hl : (List.replicate 200 w).flatten.length ≤ 400 := by
    rw [List.length_flatten, List.map_replicate, List.sum_replicate_nat]
    omega
  have hc : pCut (dt (List.replicate 200 w).flatten) none (some ((M - 2 : Nat) : Int)) = some (dt ((List.replicate 200 w).flatten.take (M - 2))) := by
    rw [pCut_tx (by omega)]
    exact congrArg (fun s => some (PyData.str s)) (cut_to _ _)
  have ha : pAdd (dt ((List.replicate 200 w).flatten.take (M - 2))) (dt [97, 98]) = some (dt (xt w M)) := pAdd_tx (by rw [List.length_take]; simp only [List.length_cons, List.length_nil]; omega)
  simp only [mSet_x, mOp_x, mDat_x, mCut_x, mBd_2, mC_x, Res.bind_ok, datR_dat, hm, opR_some, mPart_n, mPart_s, mBd_3, hs, partR_i, hc, l_ab, ha, sRd_4]
end PL.RF
namespace PL.RF
open PySem PySem.Spec PyProof.Rows L2
theorem long_shape : ∃ (R : M Flow), m__law_long_right = (mSeq (mSet 1 (mTup (mArgs [(mTup (mArgs [(mC (.dat (.str ""))), (mC (.dat (.str "ab"))), (mC (.dat (.str "abc"))), (mC (.dat (.str "")))]))])))
  (mSeq (mSet 2 (mCall F__law_pick (mArgs [(mVar 0), (mL (mLst (mArgs [(mC (.dat (.str "x"))), (mC (.dat (.str "ba"))), (mC (.dat (.str "c")))])))])))
  (mSeq (mFor (.nm 3) (mIt (mL (mLst (mArgs [(mC (.dat (.int 197))), (mC (.dat (.int 198))), (mC (.dat (.int 199))), (mC (.dat (.int 200)))])))) (mSeq tText (mMk F_check_book_and_text [(mVar 1), (mVar 4)] 5 R))) (mRet (mC (.dat (.bool true)))))))
  ∧ ∀ (c : List Int) (t : Int) (x : List Nat) (M cnt : Nat), Turn35 x M cnt → ∀ (x2 x6 : Option Sl), ∃ (d : PyData) (L : List Stand) (n : Nat), R (E7 x M x2 x6 (DkS c t (LA x) 0)) = .ok .next (E7 x M x2 (some (.own d)) (DkS c t L n)) := by
  refine ⟨_, rfl, fun c t x M cnt h x2 x6 => ?_⟩
  by_cases hc : M + cnt ≤ 200
  · exact ⟨_, _, _, r_seq (B1 h) (r_seq (B2 h) (r_seq (B3 h) (r_seq (B4 h) (r_seq B5 (r_seq (B6 h) (r_seq (B7 h) (endGood h hc)))))))⟩
  · exact ⟨_, _, _, r_seq (B1 h) (r_seq (B2 h) (r_seq (B3 h) (r_seq (B4 h) (r_seq B5 (r_seq (B6 h) (r_seq (B7 h) (endMany h hc)))))))⟩
theorem turn35 {R : M Flow} (hR : ∀ (c : List Int) (t : Int) (x : List Nat) (M cnt : Nat), Turn35 x M cnt → ∀ (x2 x6 : Option Sl), ∃ (d : PyData) (L : List Stand) (n : Nat), R (E7 x M x2 x6 (DkS c t (LA x) 0)) = .ok .next (E7 x M x2 (some (.own d)) (DkS c t L n)))
    {w : List Nat} (hw : w ∈ ws35) {M cnt : Nat} (h : Turn35 (xt w M) M cnt) (c : List Int) (t : Int) (x4 x5 x6 : Option Sl) : ∃ (d : PyData), mSeq tText (mMk F_check_book_and_text [(mVar 1), (mVar 4)] 5 R) (Z7 (some (sd w)) (some (sn M)) x4 x5 x6 ⟨c, t, .no⟩) = .ok .next (Z7 (some (sd w)) (some (sn M)) (some (sd (xt w M))) none (some (.own d)) ⟨c, t, .no⟩) := by
  obtain ⟨d, L, n, e⟩ := hR c t (xt w M) M cnt h (some (sd w)) x6
  refine ⟨d, r_seq (text_set hw h.lo h.hi x4 x5 x6 _) ?_⟩
  have hck : F_check_book_and_text [.dat (bookD G1), sd (xt w M)] st0 = .ok (.dat .none) st0 := check_bt_at G1_ok h.tx st0
  have hms : mArgs [(mVar 1), (mVar 4)] (Z7 (some (sd w)) (some (sn M)) (some (sd (xt w M))) x5 x6 ⟨c, t, .no⟩) = .ok [.dat (bookD G1), sd (xt w M)] (Z7 (some (sd w)) (some (sn M)) (some (sd (xt w M))) x5 x6 ⟨c, t, .no⟩) := rfl
  unfold mMk
  rw [hms]
  simp only [Res.bind_ok, hck]
  unfold mBox
  rw [if_pos ⟨rfl, by simp⟩]
  have hst : (⟨(Z7 (some (sd w)) (some (sn M)) (some (sd (xt w M))) x5 x6 ⟨c, t, .no⟩).env.set 5 (some (.obj .bx)), ⟨c, t, .dsk [.tuple [bookD G1, sd (xt w M) |> fun _ => dt (xt w M)]] 0⟩⟩ : Me) = E7 (xt w M) M (some (sd w)) x6 (DkS c t (LA (xt w M)) 0) := rfl
  rw [show (⟨(Z7 (some (sd w)) (some (sn M)) (some (sd (xt w M))) x5 x6 ⟨c, t, .no⟩).env.set 5 (some (.obj .bx)), ⟨c, t, .dsk [.tuple [bookD G1, dt (xt w M)]] 0⟩⟩ : Me) = E7 (xt w M) M (some (sd w)) x6 (DkS c t (LA (xt w M)) 0) from hst, e]
  rfl
theorem long_at {b : Nat} {st : SrcSt} (g : Gd b st) (hb : b ≤ 1000) : ∃ st' : SrcSt, F__law_long_right [.src] st = .ok (.dat (.bool true)) st' ∧ Gd (b + 1) st' := by
  obtain ⟨R, hR, hr⟩ := long_shape
  obtain ⟨d, st1, e, hd, g1⟩ := pick_list (ds := ws35.map dt) g (by omega) (by simp) (by simp)
  obtain ⟨w, hw, rfl⟩ := List.mem_map.1 hd
  obtain ⟨c, t, bx⟩ := st1
  have hno : bx = .no := g1.2.2.2.2
  subst hno
  refine ⟨⟨c, t, .no⟩, ?_, g1⟩
  refine call_of (env := [some .src, none, none, none, none, none, none]) rfl ?_
  have la : (Str.ofString "x") = tx [120] := by decide +kernel
  have lb : (Str.ofString "ba") = tx [98, 97] := by decide +kernel
  have lc : (Str.ofString "c") = tx [99] := by decide +kernel
  have labc : (Str.ofString "abc") = tx [97, 98, 99] := by decide +kernel
  have l3 : ∀ m : Me, lstR [sd [120], sd [98, 97], sd [99]] m = .ok (.list (ws35.map dt)) m := fun m => lst3 _ _ _ m
  have s1 : mSet 1 (mTup (mArgs [(mTup (mArgs [(mC (.dat (.str ""))), (mC (.dat (.str "ab"))), (mC (.dat (.str "abc"))), (mC (.dat (.str "")))]))])) ⟨[some .src, none, none, none, none, none, none], st⟩ = .ok .next (Z7 none none none none none st) := by
    simp only [mSet_x, mTup_x, mArgs_cons, mArgs_nil, mC_x, Res.bind_ok, lit_nil, l_ab, labc, tupR_4, tupR_1, sRd_1]
    rfl
  have s2 : mSet 2 (mCall F__law_pick (mArgs [(mVar 0), (mL (mLst (mArgs [(mC (.dat (.str "x"))), (mC (.dat (.str "ba"))), (mC (.dat (.str "c")))])))])) (Z7 none none none none none st) = .ok .next (Z7 (some (sd w)) none none none none ⟨c, t, .no⟩) := by
    simp only [mSet_x, mCall_x, mArgs_cons, mArgs_nil, mVs_0, mL_x, mLst_x, mC_x, Res.bind_ok, la, lb, lc, l3, e, resV_d, sRd_2]
  have hit : mIt (mL (mLst (mArgs [(mC (.dat (.int 197))), (mC (.dat (.int 198))), (mC (.dat (.int 199))), (mC (.dat (.int 200)))]))) (Z7 (some (sd w)) none none none none ⟨c, t, .no⟩) = .ok [nd 197, nd 198, nd 199, nd 200] (Z7 (some (sd w)) none none none none ⟨c, t, .no⟩) := by
    have l4 : ∀ (a b c d : PyData) (m : Me), lstR [.dat a, .dat b, .dat c, .dat d] m = .ok (.list [a, b, c, d]) m := fun a b c d m => lstR_of rfl (by simp)
    simp only [mIt_x, mDat_x, mL_x, mLst_x, mArgs_cons, mArgs_nil, mC_x, Res.bind_ok, l4, datR_dat, itR_l]
    rfl
  obtain ⟨m', hfor, y3, y4, y5, y6, rfl⟩ := for_all0 (t := .nm 3) (b := mSeq tText (mMk F_check_book_and_text [(mVar 1), (mVar 4)] 5 R)) (fun m => ∃ x3 x4 x5 x6, m = Z7 (some (sd w)) x3 x4 x5 x6 ⟨c, t, .no⟩) [nd 197, nd 198, nd 199, nd 200] (fun d hd m hm => by
    obtain ⟨x3, x4, x5, x6, rfl⟩ := hm
    obtain ⟨M, hM, rfl⟩ : ∃ M : Nat, (M = 197 ∨ M = 198 ∨ M = 199 ∨ M = 200) ∧ d = nd M := by
      simp only [List.mem_cons, List.not_mem_nil, or_false] at hd
      rcases hd with rfl | rfl | rfl | rfl
      · exact ⟨197, by omega, rfl⟩
      · exact ⟨198, by omega, rfl⟩
      · exact ⟨199, by omega, rfl⟩
      · exact ⟨200, by omega, rfl⟩
    obtain ⟨cnt, h⟩ := all12 hw hM
    obtain ⟨d, e⟩ := turn35 hr hw h c t x4 x5 x6
    exact ⟨Z7 (some (sd w)) (some (sn M)) x4 x5 x6 ⟨c, t, .no⟩, _, rfl, e, _, _, _, _, rfl⟩) (Z7 (some (sd w)) none none none none ⟨c, t, .no⟩) ⟨none, none, none, none, rfl⟩
  rw [hR]
  have hall := r_seq s1 (r_seq s2 (r_seq (r_for hit hfor) (show mRet (mC (.dat (.bool true))) (Z7 (some (sd w)) y3 y4 y5 y6 ⟨c, t, .no⟩) = .ok (.ret (.dat (.bool true))) (Z7 (some (sd w)) y3 y4 y5 y6 ⟨c, t, .no⟩) from rfl)))
  rw [hall]
  rfl
theorem pure : Pure := by
  intro cells hc hl
  have g0 : Gd 0 ⟨cells, 0, .no⟩ := ⟨hc, hl, by simp, by simp, rfl⟩
  obtain ⟨st', e, g⟩ := long_at g0 (by omega)
  obtain ⟨c, t, bx⟩ := st'
  have hno : bx = .no := g.2.2.2.2
  subst hno
  refine ⟨⟨[none, some .src], ⟨c, t, .no⟩⟩, ?_⟩
  show m_law ⟨[none, some .src], ⟨cells, 0, .no⟩⟩ = _
  unfold m_law
  simp only [mRet_x, mAndV_x, mTest_x, mCall_x, mArgs_cons, mArgs_nil, mVs_1, Res.bind_ok, e, resV_d, testR_b, if_true, forty_at]
end PL.RF
namespace PL.RF
open PySem PySem.Spec PyProof.Rows L2

theorem all_mk (pure : Pure) {P : Program} {w : World} {K : PySem.W.Frag} {h : Heap} {mg : Str → Option Value} {fa : Addr} (X : K.In h) (G : h.Ns mainGlobals mg) (hfa : mg "law" = some (.ref fa))
    {C_Desk : Addr}
    {f0 : Addr} {od0 an0 : Option Addr} {sl0 : Array (Option Value)} {oc0 kV0 dc0 pm0 cd0 ct0 : Value}
    {f1 : Addr} {od1 an1 : Option Addr} {sl1 : Array (Option Value)} {oc1 kV1 dc1 pm1 cd1 ct1 : Value}
    {f2 : Addr} {od2 an2 : Option Addr} {sl2 : Array (Option Value)} {oc2 kV2 dc2 pm2 cd2 ct2 : Value}
    {f3 : Addr} {od3 an3 : Option Addr} {sl3 : Array (Option Value)} {oc3 kV3 dc3 pm3 cd3 ct3 : Value}
    {f4 : Addr} {od4 an4 : Option Addr} {sl4 : Array (Option Value)} {oc4 kV4 dc4 pm4 cd4 ct4 : Value}
    {f5 : Addr} {od5 an5 : Option Addr} {sl5 : Array (Option Value)} {oc5 kV5 dc5 pm5 cd5 ct5 : Value}
    {f6 : Addr} {od6 an6 : Option Addr} {sl6 : Array (Option Value)} {oc6 kV6 dc6 pm6 cd6 ct6 : Value}
    {f7 : Addr} {od7 an7 : Option Addr} {sl7 : Array (Option Value)} {oc7 kV7 dc7 pm7 cd7 ct7 : Value}
    {f8 : Addr} {od8 an8 : Option Addr} {sl8 : Array (Option Value)} {oc8 kV8 dc8 pm8 cd8 ct8 : Value}
    {f9 : Addr} {od9 an9 : Option Addr} {sl9 : Array (Option Value)} {oc9 kV9 dc9 pm9 cd9 ct9 : Value}
    {f10 : Addr} {od10 an10 : Option Addr} {sl10 : Array (Option Value)} {oc10 kV10 dc10 pm10 cd10 ct10 : Value}
    {f11 : Addr} {od11 an11 : Option Addr} {sl11 : Array (Option Value)} {oc11 kV11 dc11 pm11 cd11 ct11 : Value}
    {f12 : Addr} {od12 an12 : Option Addr} {sl12 : Array (Option Value)} {oc12 kV12 dc12 pm12 cd12 ct12 : Value}
    {f13 : Addr} {od13 an13 : Option Addr} {sl13 : Array (Option Value)} {oc13 kV13 dc13 pm13 cd13 ct13 : Value}
    {f14 : Addr} {od14 an14 : Option Addr} {sl14 : Array (Option Value)} {oc14 kV14 dc14 pm14 cd14 ct14 : Value}
    {f15 : Addr} {od15 an15 : Option Addr} {sl15 : Array (Option Value)} {oc15 kV15 dc15 pm15 cd15 ct15 : Value}
    {f16 : Addr} {od16 an16 : Option Addr} {sl16 : Array (Option Value)} {oc16 kV16 dc16 pm16 cd16 ct16 : Value}
    {f17 : Addr} {od17 an17 : Option Addr} {sl17 : Array (Option Value)} {oc17 kV17 dc17 pm17 cd17 ct17 : Value}
    {f18 : Addr} {od18 an18 : Option Addr} {sl18 : Array (Option Value)} {oc18 kV18 dc18 pm18 cd18 ct18 : Value}
    {f19 : Addr} {od19 an19 : Option Addr} {sl19 : Array (Option Value)} {oc19 kV19 dc19 pm19 cd19 ct19 : Value}
    {f20 : Addr} {od20 an20 : Option Addr} {sl20 : Array (Option Value)} {oc20 kV20 dc20 pm20 cd20 ct20 : Value}
    {p20 : Addr} {pr20 : List Value}
    {f21 : Addr} {od21 an21 : Option Addr} {sl21 : Array (Option Value)} {oc21 kV21 dc21 pm21 cd21 ct21 : Value}
    {p21 : Addr} {pr21 : List Value}
    {f22 : Addr} {od22 an22 : Option Addr} {sl22 : Array (Option Value)} {oc22 kV22 dc22 pm22 cd22 ct22 : Value}
    {f23 : Addr} {od23 an23 : Option Addr} {sl23 : Array (Option Value)} {oc23 kV23 dc23 pm23 cd23 ct23 : Value}
    {f24 : Addr} {od24 an24 : Option Addr} {sl24 : Array (Option Value)} {oc24 kV24 dc24 pm24 cd24 ct24 : Value}
    {f25 : Addr} {od25 an25 : Option Addr} {sl25 : Array (Option Value)} {oc25 kV25 dc25 pm25 cd25 ct25 : Value}
    {f26 : Addr} {od26 an26 : Option Addr} {sl26 : Array (Option Value)} {oc26 kV26 dc26 pm26 cd26 ct26 : Value}
    {f27 : Addr} {od27 an27 : Option Addr} {sl27 : Array (Option Value)} {oc27 kV27 dc27 pm27 cd27 ct27 : Value}
    {f28 : Addr} {od28 an28 : Option Addr} {sl28 : Array (Option Value)} {oc28 kV28 dc28 pm28 cd28 ct28 : Value}
    {t_ALPHABET : Tok}
    {t_MOST_FIXES : Tok}
    {t_MOST_LETTERS : Tok}
    {C_InvalidWord : Addr}
    {C_InvalidBook : Addr}
    {C_TooMany : Addr}
    {C_InvalidPlace : Addr}
    {C_NothingToUndo : Addr}
    {C_NothingToRedo : Addr}
    {C_FixError : Addr}
    (adk : PySem.W.nsIn K mainGlobals "Desk" = some (some (.ref C_Desk)))
    (a0 : PySem.W.nsIn K mainGlobals "check_book" = some (some (.ref f0)))
    (l0 : K.lookup f0 = some ⟨oc0, od0, .func (PySem.W.fnOf "check_book" "check_book" (defArgs sF_check_book) (defBody sF_check_book) (defScope sF_check_book) .none kV0 dc0 pm0 an0 cd0 ct0), sl0⟩)
    (c0 : PySem.W.codeIn K cd0 "check_book" = true)
    (k0 : PySem.W.keepIn K (.ref f0) = true)
    (a1 : PySem.W.nsIn K mainGlobals "check_text" = some (some (.ref f1)))
    (l1 : K.lookup f1 = some ⟨oc1, od1, .func (PySem.W.fnOf "check_text" "check_text" (defArgs sF_check_text) (defBody sF_check_text) (defScope sF_check_text) .none kV1 dc1 pm1 an1 cd1 ct1), sl1⟩)
    (c1 : PySem.W.codeIn K cd1 "check_text" = true)
    (k1 : PySem.W.keepIn K (.ref f1) = true)
    (a2 : PySem.W.nsIn K mainGlobals "is_book" = some (some (.ref f2)))
    (l2 : K.lookup f2 = some ⟨oc2, od2, .func (PySem.W.fnOf "is_book" "is_book" (defArgs sF_is_book) (defBody sF_is_book) (defScope sF_is_book) .none kV2 dc2 pm2 an2 cd2 ct2), sl2⟩)
    (c2 : PySem.W.codeIn K cd2 "is_book" = true)
    (k2 : PySem.W.keepIn K (.ref f2) = true)
    (a3 : PySem.W.nsIn K mainGlobals "is_fix" = some (some (.ref f3)))
    (l3 : K.lookup f3 = some ⟨oc3, od3, .func (PySem.W.fnOf "is_fix" "is_fix" (defArgs sF_is_fix) (defBody sF_is_fix) (defScope sF_is_fix) .none kV3 dc3 pm3 an3 cd3 ct3), sl3⟩)
    (c3 : PySem.W.codeIn K cd3 "is_fix" = true)
    (k3 : PySem.W.keepIn K (.ref f3) = true)
    (a4 : PySem.W.nsIn K mainGlobals "is_word" = some (some (.ref f4)))
    (l4 : K.lookup f4 = some ⟨oc4, od4, .func (PySem.W.fnOf "is_word" "is_word" (defArgs sF_is_word) (defBody sF_is_word) (defScope sF_is_word) .none kV4 dc4 pm4 an4 cd4 ct4), sl4⟩)
    (c4 : PySem.W.codeIn K cd4 "is_word" = true)
    (k4 : PySem.W.keepIn K (.ref f4) = true)
    (a5 : PySem.W.nsIn K mainGlobals "is_number" = some (some (.ref f5)))
    (l5 : K.lookup f5 = some ⟨oc5, od5, .func (PySem.W.fnOf "is_number" "is_number" (defArgs sF_is_number) (defBody sF_is_number) (defScope sF_is_number) .none kV5 dc5 pm5 an5 cd5 ct5), sl5⟩)
    (c5 : PySem.W.codeIn K cd5 "is_number" = true)
    (k5 : PySem.W.keepIn K (.ref f5) = true)
    (a6 : PySem.W.nsIn K mainGlobals "looked_for" = some (some (.ref f6)))
    (l6 : K.lookup f6 = some ⟨oc6, od6, .func (PySem.W.fnOf "looked_for" "looked_for" (defArgs sF_looked_for) (defBody sF_looked_for) (defScope sF_looked_for) .none kV6 dc6 pm6 an6 cd6 ct6), sl6⟩)
    (c6 : PySem.W.codeIn K cd6 "looked_for" = true)
    (k6 : PySem.W.keepIn K (.ref f6) = true)
    (a7 : PySem.W.nsIn K mainGlobals "check_book_and_text" = some (some (.ref f7)))
    (l7 : K.lookup f7 = some ⟨oc7, od7, .func (PySem.W.fnOf "check_book_and_text" "check_book_and_text" (defArgs sF_check_book_and_text) (defBody sF_check_book_and_text) (defScope sF_check_book_and_text) .none kV7 dc7 pm7 an7 cd7 ct7), sl7⟩)
    (c7 : PySem.W.codeIn K cd7 "check_book_and_text" = true)
    (k7 : PySem.W.keepIn K (.ref f7) = true)
    (a8 : PySem.W.nsIn K mainGlobals "round_findings" = some (some (.ref f8)))
    (l8 : K.lookup f8 = some ⟨oc8, od8, .func (PySem.W.fnOf "round_findings" "round_findings" (defArgs sF_round_findings) (defBody sF_round_findings) (defScope sF_round_findings) .none kV8 dc8 pm8 an8 cd8 ct8), sl8⟩)
    (c8 : PySem.W.codeIn K cd8 "round_findings" = true)
    (k8 : PySem.W.keepIn K (.ref f8) = true)
    (a9 : PySem.W.nsIn K mainGlobals "first_at" = some (some (.ref f9)))
    (l9 : K.lookup f9 = some ⟨oc9, od9, .func (PySem.W.fnOf "first_at" "first_at" (defArgs sF_first_at) (defBody sF_first_at) (defScope sF_first_at) .none kV9 dc9 pm9 an9 cd9 ct9), sl9⟩)
    (c9 : PySem.W.codeIn K cd9 "first_at" = true)
    (k9 : PySem.W.keepIn K (.ref f9) = true)
    (a10 : PySem.W.nsIn K mainGlobals "put_in" = some (some (.ref f10)))
    (l10 : K.lookup f10 = some ⟨oc10, od10, .func (PySem.W.fnOf "put_in" "put_in" (defArgs sF_put_in) (defBody sF_put_in) (defScope sF_put_in) .none kV10 dc10 pm10 an10 cd10 ct10), sl10⟩)
    (c10 : PySem.W.codeIn K cd10 "put_in" = true)
    (k10 : PySem.W.keepIn K (.ref f10) = true)
    (a11 : PySem.W.nsIn K mainGlobals "mended" = some (some (.ref f11)))
    (l11 : K.lookup f11 = some ⟨oc11, od11, .func (PySem.W.fnOf "mended" "mended" (defArgs sF_mended) (defBody sF_mended) (defScope sF_mended) .none kV11 dc11 pm11 an11 cd11 ct11), sl11⟩)
    (c11 : PySem.W.codeIn K cd11 "mended" = true)
    (k11 : PySem.W.keepIn K (.ref f11) = true)
    (a12 : PySem.W.nsIn K mainGlobals "_law_source" = some (some (.ref f12)))
    (l12 : K.lookup f12 = some ⟨oc12, od12, .func (PySem.W.fnOf "_law_source" "_law_source" (defArgs sF__law_source) (defBody sF__law_source) (defScope sF__law_source) .none kV12 dc12 pm12 an12 cd12 ct12), sl12⟩)
    (c12 : PySem.W.codeIn K cd12 "_law_source" = true)
    (k12 : PySem.W.keepIn K (.ref f12) = true)
    (a13 : PySem.W.nsIn K mainGlobals "_law_draw" = some (some (.ref f13)))
    (l13 : K.lookup f13 = some ⟨oc13, od13, .func (PySem.W.fnOf "_law_draw" "_law_draw" (defArgs sF__law_draw) (defBody sF__law_draw) (defScope sF__law_draw) .none kV13 dc13 pm13 an13 cd13 ct13), sl13⟩)
    (c13 : PySem.W.codeIn K cd13 "_law_draw" = true)
    (k13 : PySem.W.keepIn K (.ref f13) = true)
    (a14 : PySem.W.nsIn K mainGlobals "_law_pick" = some (some (.ref f14)))
    (l14 : K.lookup f14 = some ⟨oc14, od14, .func (PySem.W.fnOf "_law_pick" "_law_pick" (defArgs sF__law_pick) (defBody sF__law_pick) (defScope sF__law_pick) .none kV14 dc14 pm14 an14 cd14 ct14), sl14⟩)
    (c14 : PySem.W.codeIn K cd14 "_law_pick" = true)
    (k14 : PySem.W.keepIn K (.ref f14) = true)
    (a15 : PySem.W.nsIn K mainGlobals "_law_word_of" = some (some (.ref f15)))
    (l15 : K.lookup f15 = some ⟨oc15, od15, .func (PySem.W.fnOf "_law_word_of" "_law_word_of" (defArgs sF__law_word_of) (defBody sF__law_word_of) (defScope sF__law_word_of) .none kV15 dc15 pm15 an15 cd15 ct15), sl15⟩)
    (c15 : PySem.W.codeIn K cd15 "_law_word_of" = true)
    (k15 : PySem.W.keepIn K (.ref f15) = true)
    (a16 : PySem.W.nsIn K mainGlobals "_law_long_right" = some (some (.ref f16)))
    (l16 : K.lookup f16 = some ⟨oc16, od16, .func (PySem.W.fnOf "_law_long_right" "_law_long_right" (defArgs sF__law_long_right) (defBody sF__law_long_right) (defScope sF__law_long_right) .none kV16 dc16 pm16 an16 cd16 ct16), sl16⟩)
    (c16 : PySem.W.codeIn K cd16 "_law_long_right" = true)
    (k16 : PySem.W.keepIn K (.ref f16) = true)
    (a17 : PySem.W.nsIn K mainGlobals "_law_forty_right" = some (some (.ref f17)))
    (l17 : K.lookup f17 = some ⟨oc17, od17, .func (PySem.W.fnOf "_law_forty_right" "_law_forty_right" (defArgs sF__law_forty_right) (defBody sF__law_forty_right) (defScope sF__law_forty_right) .none kV17 dc17 pm17 an17 cd17 ct17), sl17⟩)
    (c17 : PySem.W.codeIn K cd17 "_law_forty_right" = true)
    (k17 : PySem.W.keepIn K (.ref f17) = true)
    (a18 : PySem.W.nsIn K mainGlobals "law" = some (some (.ref f18)))
    (l18 : K.lookup f18 = some ⟨oc18, od18, .func (PySem.W.fnOf "law" "law" (defArgs sF_law) (defBody sF_law) (defScope sF_law) .none kV18 dc18 pm18 an18 cd18 ct18), sl18⟩)
    (c18 : PySem.W.codeIn K cd18 "law" = true)
    (k18 : PySem.W.keepIn K (.ref f18) = true)
    (a19 : PySem.W.findIn K (.ref C_Desk) "__init__" = some (some (.ref f19)))
    (b19 : PySem.W.isFn K (.ref f19) = true)
    (l19 : K.lookup f19 = some ⟨oc19, od19, .func (PySem.W.fnOf "__init__" "Desk.__init__" (defArgs sF_Desk___init__) (defBody sF_Desk___init__) (defScope sF_Desk___init__) .none kV19 dc19 pm19 an19 cd19 ct19), sl19⟩)
    (c19 : PySem.W.codeIn K cd19 "Desk.__init__" = true)
    (k19 : PySem.W.keepIn K (.ref f19) = true)
    (a20 : PySem.W.findIn K (.ref C_Desk) "book" = some (some (.ref p20)))
    (pg20 : PySem.W.specialIn K (.ref p20) "__get__" = some (some (.builtin "property.__get__")))
    (pt20 : PySem.W.takesIn K (.ref p20) = some true)
    (pc20 : PySem.W.recIn K p20 "property" = some (.ref f20 :: pr20))
    (l20 : K.lookup f20 = some ⟨oc20, od20, .func (PySem.W.fnOf "book" "Desk.book" (defArgs sF_Desk_book) (defBody sF_Desk_book) (defScope sF_Desk_book) .none kV20 dc20 pm20 an20 cd20 ct20), sl20⟩)
    (c20 : PySem.W.codeIn K cd20 "Desk.book" = true)
    (k20 : PySem.W.keepIn K (.ref f20) = true)
    (a21 : PySem.W.findIn K (.ref C_Desk) "text" = some (some (.ref p21)))
    (pg21 : PySem.W.specialIn K (.ref p21) "__get__" = some (some (.builtin "property.__get__")))
    (pt21 : PySem.W.takesIn K (.ref p21) = some true)
    (pc21 : PySem.W.recIn K p21 "property" = some (.ref f21 :: pr21))
    (l21 : K.lookup f21 = some ⟨oc21, od21, .func (PySem.W.fnOf "text" "Desk.text" (defArgs sF_Desk_text) (defBody sF_Desk_text) (defScope sF_Desk_text) .none kV21 dc21 pm21 an21 cd21 ct21), sl21⟩)
    (c21 : PySem.W.codeIn K cd21 "Desk.text" = true)
    (k21 : PySem.W.keepIn K (.ref f21) = true)
    (a22 : PySem.W.findIn K (.ref C_Desk) "__len__" = some (some (.ref f22)))
    (b22 : PySem.W.isFn K (.ref f22) = true)
    (l22 : K.lookup f22 = some ⟨oc22, od22, .func (PySem.W.fnOf "__len__" "Desk.__len__" (defArgs sF_Desk___len__) (defBody sF_Desk___len__) (defScope sF_Desk___len__) .none kV22 dc22 pm22 an22 cd22 ct22), sl22⟩)
    (c22 : PySem.W.codeIn K cd22 "Desk.__len__" = true)
    (k22 : PySem.W.keepIn K (.ref f22) = true)
    (a23 : PySem.W.findIn K (.ref C_Desk) "put" = some (some (.ref f23)))
    (b23 : PySem.W.isFn K (.ref f23) = true)
    (l23 : K.lookup f23 = some ⟨oc23, od23, .func (PySem.W.fnOf "put" "Desk.put" (defArgs sF_Desk_put) (defBody sF_Desk_put) (defScope sF_Desk_put) .none kV23 dc23 pm23 an23 cd23 ct23), sl23⟩)
    (c23 : PySem.W.codeIn K cd23 "Desk.put" = true)
    (k23 : PySem.W.keepIn K (.ref f23) = true)
    (a24 : PySem.W.findIn K (.ref C_Desk) "strike" = some (some (.ref f24)))
    (b24 : PySem.W.isFn K (.ref f24) = true)
    (l24 : K.lookup f24 = some ⟨oc24, od24, .func (PySem.W.fnOf "strike" "Desk.strike" (defArgs sF_Desk_strike) (defBody sF_Desk_strike) (defScope sF_Desk_strike) .none kV24 dc24 pm24 an24 cd24 ct24), sl24⟩)
    (c24 : PySem.W.codeIn K cd24 "Desk.strike" = true)
    (k24 : PySem.W.keepIn K (.ref f24) = true)
    (a25 : PySem.W.findIn K (.ref C_Desk) "round" = some (some (.ref f25)))
    (b25 : PySem.W.isFn K (.ref f25) = true)
    (l25 : K.lookup f25 = some ⟨oc25, od25, .func (PySem.W.fnOf "round" "Desk.round" (defArgs sF_Desk_round) (defBody sF_Desk_round) (defScope sF_Desk_round) .none kV25 dc25 pm25 an25 cd25 ct25), sl25⟩)
    (c25 : PySem.W.codeIn K cd25 "Desk.round" = true)
    (k25 : PySem.W.keepIn K (.ref f25) = true)
    (a26 : PySem.W.findIn K (.ref C_Desk) "undo" = some (some (.ref f26)))
    (b26 : PySem.W.isFn K (.ref f26) = true)
    (l26 : K.lookup f26 = some ⟨oc26, od26, .func (PySem.W.fnOf "undo" "Desk.undo" (defArgs sF_Desk_undo) (defBody sF_Desk_undo) (defScope sF_Desk_undo) .none kV26 dc26 pm26 an26 cd26 ct26), sl26⟩)
    (c26 : PySem.W.codeIn K cd26 "Desk.undo" = true)
    (k26 : PySem.W.keepIn K (.ref f26) = true)
    (a27 : PySem.W.findIn K (.ref C_Desk) "redo" = some (some (.ref f27)))
    (b27 : PySem.W.isFn K (.ref f27) = true)
    (l27 : K.lookup f27 = some ⟨oc27, od27, .func (PySem.W.fnOf "redo" "Desk.redo" (defArgs sF_Desk_redo) (defBody sF_Desk_redo) (defScope sF_Desk_redo) .none kV27 dc27 pm27 an27 cd27 ct27), sl27⟩)
    (c27 : PySem.W.codeIn K cd27 "Desk.redo" = true)
    (k27 : PySem.W.keepIn K (.ref f27) = true)
    (a28 : PySem.W.findIn K (.ref C_Desk) "_take_stand" = some (some (.ref f28)))
    (b28 : PySem.W.isFn K (.ref f28) = true)
    (l28 : K.lookup f28 = some ⟨oc28, od28, .func (PySem.W.fnOf "_take_stand" "Desk._take_stand" (defArgs sF_Desk__take_stand) (defBody sF_Desk__take_stand) (defScope sF_Desk__take_stand) .none kV28 dc28 pm28 an28 cd28 ct28), sl28⟩)
    (c28 : PySem.W.codeIn K cd28 "Desk._take_stand" = true)
    (k28 : PySem.W.keepIn K (.ref f28) = true)
    (dk1 : PySem.W.plainGet K C_Desk Str.empty = true)
    (dk2 : PySem.W.hasDictIn K C_Desk = true)
    (dk3 : PySem.W.plainOver K C_Desk = true)
    (dk4 : PySem.W.findIn K (.ref C_Desk) "__setattr__" = some (some (.builtin "object.__setattr__")))
    (dk5 : PySem.W.findIn K (.ref C_Desk) "_stands" = some none)
    (dk6 : PySem.W.findIn K (.ref C_Desk) "_at" = some none)
    (dk7 : PySem.W.makesIn K C_Desk = true)
    (dk8 : PySem.W.keepIn K (.ref C_Desk) = true)
    (z_ValueError : PySem.W.nsIn K mainGlobals "ValueError" = some none)
    (z_abs : PySem.W.nsIn K mainGlobals "abs" = some none)
    (z_all : PySem.W.nsIn K mainGlobals "all" = some none)
    (z_bool : PySem.W.nsIn K mainGlobals "bool" = some none)
    (z_enumerate : PySem.W.nsIn K mainGlobals "enumerate" = some none)
    (z_int : PySem.W.nsIn K mainGlobals "int" = some none)
    (z_isinstance : PySem.W.nsIn K mainGlobals "isinstance" = some none)
    (z_len : PySem.W.nsIn K mainGlobals "len" = some none)
    (z_range : PySem.W.nsIn K mainGlobals "range" = some none)
    (z_str : PySem.W.nsIn K mainGlobals "str" = some none)
    (z_tuple : PySem.W.nsIn K mainGlobals "tuple" = some none)
    (v_ALPHABET : PySem.W.nsIn K mainGlobals "ALPHABET" = some (some (.str c_ALPHABET t_ALPHABET)))
    (v_MOST_FIXES : PySem.W.nsIn K mainGlobals "MOST_FIXES" = some (some (.int 5 t_MOST_FIXES)))
    (v_MOST_LETTERS : PySem.W.nsIn K mainGlobals "MOST_LETTERS" = some (some (.int 200 t_MOST_LETTERS)))
    (a_InvalidWord : PySem.W.nsIn K mainGlobals "InvalidWord" = some (some (.ref C_InvalidWord)))
    (p_InvalidWord : PySem.W.keepIn K (.ref C_InvalidWord) = true)
    (s_InvalidWord : PySem.W.subIn K (.ref C_InvalidWord) (.type "BaseException") = some true)
    (y_InvalidWord : PySem.W.typeIn K (.ref C_InvalidWord) = some (.type "type"))
    (x_InvalidWord : PySem.W.excIn K C_InvalidWord [.type "ValueError", .type "Exception", .type "BaseException", .type "object"] "ValueError.__new__" = true)
    (a_InvalidBook : PySem.W.nsIn K mainGlobals "InvalidBook" = some (some (.ref C_InvalidBook)))
    (p_InvalidBook : PySem.W.keepIn K (.ref C_InvalidBook) = true)
    (s_InvalidBook : PySem.W.subIn K (.ref C_InvalidBook) (.type "BaseException") = some true)
    (y_InvalidBook : PySem.W.typeIn K (.ref C_InvalidBook) = some (.type "type"))
    (x_InvalidBook : PySem.W.excIn K C_InvalidBook [.type "ValueError", .type "Exception", .type "BaseException", .type "object"] "ValueError.__new__" = true)
    (a_TooMany : PySem.W.nsIn K mainGlobals "TooMany" = some (some (.ref C_TooMany)))
    (p_TooMany : PySem.W.keepIn K (.ref C_TooMany) = true)
    (s_TooMany : PySem.W.subIn K (.ref C_TooMany) (.type "BaseException") = some true)
    (y_TooMany : PySem.W.typeIn K (.ref C_TooMany) = some (.type "type"))
    (x_TooMany : PySem.W.excIn K C_TooMany [.type "ValueError", .type "Exception", .type "BaseException", .type "object"] "ValueError.__new__" = true)
    (a_InvalidPlace : PySem.W.nsIn K mainGlobals "InvalidPlace" = some (some (.ref C_InvalidPlace)))
    (p_InvalidPlace : PySem.W.keepIn K (.ref C_InvalidPlace) = true)
    (s_InvalidPlace : PySem.W.subIn K (.ref C_InvalidPlace) (.type "BaseException") = some true)
    (y_InvalidPlace : PySem.W.typeIn K (.ref C_InvalidPlace) = some (.type "type"))
    (x_InvalidPlace : PySem.W.excIn K C_InvalidPlace [.type "ValueError", .type "Exception", .type "BaseException", .type "object"] "ValueError.__new__" = true)
    (a_NothingToUndo : PySem.W.nsIn K mainGlobals "NothingToUndo" = some (some (.ref C_NothingToUndo)))
    (p_NothingToUndo : PySem.W.keepIn K (.ref C_NothingToUndo) = true)
    (s_NothingToUndo : PySem.W.subIn K (.ref C_NothingToUndo) (.type "BaseException") = some true)
    (y_NothingToUndo : PySem.W.typeIn K (.ref C_NothingToUndo) = some (.type "type"))
    (x_NothingToUndo : PySem.W.excIn K C_NothingToUndo [.type "ValueError", .type "Exception", .type "BaseException", .type "object"] "ValueError.__new__" = true)
    (a_NothingToRedo : PySem.W.nsIn K mainGlobals "NothingToRedo" = some (some (.ref C_NothingToRedo)))
    (p_NothingToRedo : PySem.W.keepIn K (.ref C_NothingToRedo) = true)
    (s_NothingToRedo : PySem.W.subIn K (.ref C_NothingToRedo) (.type "BaseException") = some true)
    (y_NothingToRedo : PySem.W.typeIn K (.ref C_NothingToRedo) = some (.type "type"))
    (x_NothingToRedo : PySem.W.excIn K C_NothingToRedo [.type "ValueError", .type "Exception", .type "BaseException", .type "object"] "ValueError.__new__" = true)
    (a_FixError : PySem.W.nsIn K mainGlobals "FixError" = some (some (.ref C_FixError)))
    (hs_FixError : PySem.W.subIn K (.ref C_FixError) (.type "BaseException") = some true)
    (hy_FixError : PySem.W.typeIn K (.ref C_FixError) = some (.type "type"))
    (hd_FixError : PySem.W.hasDictIn K C_FixError = true)
    (sb_InvalidWord_FixError : PySem.W.subIn K (.ref C_InvalidWord) (.ref C_FixError) = some true)
    (sb_InvalidBook_FixError : PySem.W.subIn K (.ref C_InvalidBook) (.ref C_FixError) = some true)
    (sb_TooMany_FixError : PySem.W.subIn K (.ref C_TooMany) (.ref C_FixError) = some true)
    (sb_InvalidPlace_FixError : PySem.W.subIn K (.ref C_InvalidPlace) (.ref C_FixError) = some true)
    (sb_NothingToUndo_FixError : PySem.W.subIn K (.ref C_NothingToUndo) (.ref C_FixError) = some true)
    (sb_NothingToRedo_FixError : PySem.W.subIn K (.ref C_NothingToRedo) (.ref C_FixError) = some true)
    (ec1_InvalidWord : PySem.W.findIn K (.ref C_InvalidWord) "__getattribute__" = some (some (.builtin "BaseException.__getattribute__")))
    (ec2_InvalidWord : PySem.W.findIn K (.ref C_InvalidWord) "__getattr__" = some none)
    (ec3_InvalidWord : PySem.W.subIn K (.ref C_InvalidWord) (.type "BaseException") = some true)
    (ec4_InvalidWord : PySem.W.hasDictIn K C_InvalidWord = true)
    (ec5_InvalidWord : PySem.W.findIn K (.ref C_InvalidWord) "__class__" = some (some (.builtin "object.__class__")))
    (ec6_InvalidWord : PySem.W.specialIn K (.builtin "object.__class__") "__get__" = some (some (.builtin "getset_descriptor.__get__")))
    (ec7_InvalidWord : PySem.W.takesIn K (.builtin "object.__class__") = some true)
    (ec8_InvalidWord : PySem.W.mroIn K C_InvalidWord (.type "object") = some true)
    (ec1_InvalidBook : PySem.W.findIn K (.ref C_InvalidBook) "__getattribute__" = some (some (.builtin "BaseException.__getattribute__")))
    (ec2_InvalidBook : PySem.W.findIn K (.ref C_InvalidBook) "__getattr__" = some none)
    (ec3_InvalidBook : PySem.W.subIn K (.ref C_InvalidBook) (.type "BaseException") = some true)
    (ec4_InvalidBook : PySem.W.hasDictIn K C_InvalidBook = true)
    (ec5_InvalidBook : PySem.W.findIn K (.ref C_InvalidBook) "__class__" = some (some (.builtin "object.__class__")))
    (ec6_InvalidBook : PySem.W.specialIn K (.builtin "object.__class__") "__get__" = some (some (.builtin "getset_descriptor.__get__")))
    (ec7_InvalidBook : PySem.W.takesIn K (.builtin "object.__class__") = some true)
    (ec8_InvalidBook : PySem.W.mroIn K C_InvalidBook (.type "object") = some true)
    (ec1_TooMany : PySem.W.findIn K (.ref C_TooMany) "__getattribute__" = some (some (.builtin "BaseException.__getattribute__")))
    (ec2_TooMany : PySem.W.findIn K (.ref C_TooMany) "__getattr__" = some none)
    (ec3_TooMany : PySem.W.subIn K (.ref C_TooMany) (.type "BaseException") = some true)
    (ec4_TooMany : PySem.W.hasDictIn K C_TooMany = true)
    (ec5_TooMany : PySem.W.findIn K (.ref C_TooMany) "__class__" = some (some (.builtin "object.__class__")))
    (ec6_TooMany : PySem.W.specialIn K (.builtin "object.__class__") "__get__" = some (some (.builtin "getset_descriptor.__get__")))
    (ec7_TooMany : PySem.W.takesIn K (.builtin "object.__class__") = some true)
    (ec8_TooMany : PySem.W.mroIn K C_TooMany (.type "object") = some true)
    (ec1_InvalidPlace : PySem.W.findIn K (.ref C_InvalidPlace) "__getattribute__" = some (some (.builtin "BaseException.__getattribute__")))
    (ec2_InvalidPlace : PySem.W.findIn K (.ref C_InvalidPlace) "__getattr__" = some none)
    (ec3_InvalidPlace : PySem.W.subIn K (.ref C_InvalidPlace) (.type "BaseException") = some true)
    (ec4_InvalidPlace : PySem.W.hasDictIn K C_InvalidPlace = true)
    (ec5_InvalidPlace : PySem.W.findIn K (.ref C_InvalidPlace) "__class__" = some (some (.builtin "object.__class__")))
    (ec6_InvalidPlace : PySem.W.specialIn K (.builtin "object.__class__") "__get__" = some (some (.builtin "getset_descriptor.__get__")))
    (ec7_InvalidPlace : PySem.W.takesIn K (.builtin "object.__class__") = some true)
    (ec8_InvalidPlace : PySem.W.mroIn K C_InvalidPlace (.type "object") = some true)
    (ec1_NothingToUndo : PySem.W.findIn K (.ref C_NothingToUndo) "__getattribute__" = some (some (.builtin "BaseException.__getattribute__")))
    (ec2_NothingToUndo : PySem.W.findIn K (.ref C_NothingToUndo) "__getattr__" = some none)
    (ec3_NothingToUndo : PySem.W.subIn K (.ref C_NothingToUndo) (.type "BaseException") = some true)
    (ec4_NothingToUndo : PySem.W.hasDictIn K C_NothingToUndo = true)
    (ec5_NothingToUndo : PySem.W.findIn K (.ref C_NothingToUndo) "__class__" = some (some (.builtin "object.__class__")))
    (ec6_NothingToUndo : PySem.W.specialIn K (.builtin "object.__class__") "__get__" = some (some (.builtin "getset_descriptor.__get__")))
    (ec7_NothingToUndo : PySem.W.takesIn K (.builtin "object.__class__") = some true)
    (ec8_NothingToUndo : PySem.W.mroIn K C_NothingToUndo (.type "object") = some true)
    (ec1_NothingToRedo : PySem.W.findIn K (.ref C_NothingToRedo) "__getattribute__" = some (some (.builtin "BaseException.__getattribute__")))
    (ec2_NothingToRedo : PySem.W.findIn K (.ref C_NothingToRedo) "__getattr__" = some none)
    (ec3_NothingToRedo : PySem.W.subIn K (.ref C_NothingToRedo) (.type "BaseException") = some true)
    (ec4_NothingToRedo : PySem.W.hasDictIn K C_NothingToRedo = true)
    (ec5_NothingToRedo : PySem.W.findIn K (.ref C_NothingToRedo) "__class__" = some (some (.builtin "object.__class__")))
    (ec6_NothingToRedo : PySem.W.specialIn K (.builtin "object.__class__") "__get__" = some (some (.builtin "getset_descriptor.__get__")))
    (ec7_NothingToRedo : PySem.W.takesIn K (.builtin "object.__class__") = some true)
    (ec8_NothingToRedo : PySem.W.mroIn K C_NothingToRedo (.type "object") = some true)
    (ki_InvalidWord_InvalidPlace : PySem.W.kitOne K (.ref C_InvalidWord) (.ref C_InvalidPlace) = some false)
    (ki_InvalidBook_InvalidPlace : PySem.W.kitOne K (.ref C_InvalidBook) (.ref C_InvalidPlace) = some false)
    (ki_TooMany_InvalidPlace : PySem.W.kitOne K (.ref C_TooMany) (.ref C_InvalidPlace) = some false)
    (ki_InvalidPlace_InvalidPlace : PySem.W.kitOne K (.ref C_InvalidPlace) (.ref C_InvalidPlace) = some true)
    (ki_NothingToUndo_InvalidPlace : PySem.W.kitOne K (.ref C_NothingToUndo) (.ref C_InvalidPlace) = some false)
    (ki_NothingToRedo_InvalidPlace : PySem.W.kitOne K (.ref C_NothingToRedo) (.ref C_InvalidPlace) = some false)
    (ki_InvalidWord_InvalidWord : PySem.W.kitOne K (.ref C_InvalidWord) (.ref C_InvalidWord) = some true)
    (ki_InvalidBook_InvalidWord : PySem.W.kitOne K (.ref C_InvalidBook) (.ref C_InvalidWord) = some false)
    (ki_TooMany_InvalidWord : PySem.W.kitOne K (.ref C_TooMany) (.ref C_InvalidWord) = some false)
    (ki_InvalidPlace_InvalidWord : PySem.W.kitOne K (.ref C_InvalidPlace) (.ref C_InvalidWord) = some false)
    (ki_NothingToUndo_InvalidWord : PySem.W.kitOne K (.ref C_NothingToUndo) (.ref C_InvalidWord) = some false)
    (ki_NothingToRedo_InvalidWord : PySem.W.kitOne K (.ref C_NothingToRedo) (.ref C_InvalidWord) = some false)
    (ki_InvalidWord_NothingToRedo : PySem.W.kitOne K (.ref C_InvalidWord) (.ref C_NothingToRedo) = some false)
    (ki_InvalidBook_NothingToRedo : PySem.W.kitOne K (.ref C_InvalidBook) (.ref C_NothingToRedo) = some false)
    (ki_TooMany_NothingToRedo : PySem.W.kitOne K (.ref C_TooMany) (.ref C_NothingToRedo) = some false)
    (ki_InvalidPlace_NothingToRedo : PySem.W.kitOne K (.ref C_InvalidPlace) (.ref C_NothingToRedo) = some false)
    (ki_NothingToUndo_NothingToRedo : PySem.W.kitOne K (.ref C_NothingToUndo) (.ref C_NothingToRedo) = some false)
    (ki_NothingToRedo_NothingToRedo : PySem.W.kitOne K (.ref C_NothingToRedo) (.ref C_NothingToRedo) = some true)
    (ki_InvalidWord_NothingToUndo : PySem.W.kitOne K (.ref C_InvalidWord) (.ref C_NothingToUndo) = some false)
    (ki_InvalidBook_NothingToUndo : PySem.W.kitOne K (.ref C_InvalidBook) (.ref C_NothingToUndo) = some false)
    (ki_TooMany_NothingToUndo : PySem.W.kitOne K (.ref C_TooMany) (.ref C_NothingToUndo) = some false)
    (ki_InvalidPlace_NothingToUndo : PySem.W.kitOne K (.ref C_InvalidPlace) (.ref C_NothingToUndo) = some false)
    (ki_NothingToUndo_NothingToUndo : PySem.W.kitOne K (.ref C_NothingToUndo) (.ref C_NothingToUndo) = some true)
    (ki_NothingToRedo_NothingToUndo : PySem.W.kitOne K (.ref C_NothingToRedo) (.ref C_NothingToUndo) = some false)
    (ki_InvalidWord_TooMany : PySem.W.kitOne K (.ref C_InvalidWord) (.ref C_TooMany) = some false)
    (ki_InvalidBook_TooMany : PySem.W.kitOne K (.ref C_InvalidBook) (.ref C_TooMany) = some false)
    (ki_TooMany_TooMany : PySem.W.kitOne K (.ref C_TooMany) (.ref C_TooMany) = some true)
    (ki_InvalidPlace_TooMany : PySem.W.kitOne K (.ref C_InvalidPlace) (.ref C_TooMany) = some false)
    (ki_NothingToUndo_TooMany : PySem.W.kitOne K (.ref C_NothingToUndo) (.ref C_TooMany) = some false)
    (ki_NothingToRedo_TooMany : PySem.W.kitOne K (.ref C_NothingToRedo) (.ref C_TooMany) = some false)
    (ki_InvalidWord_ValueError : PySem.W.kitOne K (.ref C_InvalidWord) (.type "ValueError") = some true)
    (ki_InvalidBook_ValueError : PySem.W.kitOne K (.ref C_InvalidBook) (.type "ValueError") = some true)
    (ki_TooMany_ValueError : PySem.W.kitOne K (.ref C_TooMany) (.type "ValueError") = some true)
    (ki_InvalidPlace_ValueError : PySem.W.kitOne K (.ref C_InvalidPlace) (.type "ValueError") = some true)
    (ki_NothingToUndo_ValueError : PySem.W.kitOne K (.ref C_NothingToUndo) (.type "ValueError") = some true)
    (ki_NothingToRedo_ValueError : PySem.W.kitOne K (.ref C_NothingToRedo) (.type "ValueError") = some true)
    : ∃ fd : FuncData, (∀ (s : Shared) (v : Value), BindsTo s fd ⟨[v], []⟩ [("script", v)]) ∧ ∀ base : Heap, K.In base → base.Ns mainGlobals mg → FnOk P w K mg base (L2.CX P w) 9 fa fd ["script"] (spLaw K) := by
  have e := hfa.symm.trans (PySem.W.mg_of X G a18)
  cases e
  have F0 := fun_mk (st := sF_check_book) l0 c0 k0
  have F1 := fun_mk (st := sF_check_text) l1 c1 k1
  have F2 := fun_mk (st := sF_is_book) l2 c2 k2
  have F3 := fun_mk (st := sF_is_fix) l3 c3 k3
  have F4 := fun_mk (st := sF_is_word) l4 c4 k4
  have F5 := fun_mk (st := sF_is_number) l5 c5 k5
  have F6 := fun_mk (st := sF_looked_for) l6 c6 k6
  have F7 := fun_mk (st := sF_check_book_and_text) l7 c7 k7
  have F8 := fun_mk (st := sF_round_findings) l8 c8 k8
  have F9 := fun_mk (st := sF_first_at) l9 c9 k9
  have F10 := fun_mk (st := sF_put_in) l10 c10 k10
  have F11 := fun_mk (st := sF_mended) l11 c11 k11
  have F12 := fun_mk (st := sF__law_source) l12 c12 k12
  have F13 := fun_mk (st := sF__law_draw) l13 c13 k13
  have F14 := fun_mk (st := sF__law_pick) l14 c14 k14
  have F15 := fun_mk (st := sF__law_word_of) l15 c15 k15
  have F16 := fun_mk (st := sF__law_long_right) l16 c16 k16
  have F17 := fun_mk (st := sF__law_forty_right) l17 c17 k17
  have F18 := fun_mk (st := sF_law) l18 c18 k18
  have F19 := fun_mk (st := sF_Desk___init__) l19 c19 k19
  have F20 := fun_mk (st := sF_Desk_book) l20 c20 k20
  have F21 := fun_mk (st := sF_Desk_text) l21 c21 k21
  have F22 := fun_mk (st := sF_Desk___len__) l22 c22 k22
  have F23 := fun_mk (st := sF_Desk_put) l23 c23 k23
  have F24 := fun_mk (st := sF_Desk_strike) l24 c24 k24
  have F25 := fun_mk (st := sF_Desk_round) l25 c25 k25
  have F26 := fun_mk (st := sF_Desk_undo) l26 c26 k26
  have F27 := fun_mk (st := sF_Desk_redo) l27 c27 k27
  have F28 := fun_mk (st := sF_Desk__take_stand) l28 c28 k28
  have T : Txt K mg { a_check_book := f0, fd_check_book := PySem.W.fnOf "check_book" "check_book" (defArgs sF_check_book) (defBody sF_check_book) (defScope sF_check_book) .none kV0 dc0 pm0 an0 cd0 ct0, a_check_text := f1, fd_check_text := PySem.W.fnOf "check_text" "check_text" (defArgs sF_check_text) (defBody sF_check_text) (defScope sF_check_text) .none kV1 dc1 pm1 an1 cd1 ct1, a_is_book := f2, fd_is_book := PySem.W.fnOf "is_book" "is_book" (defArgs sF_is_book) (defBody sF_is_book) (defScope sF_is_book) .none kV2 dc2 pm2 an2 cd2 ct2, a_is_fix := f3, fd_is_fix := PySem.W.fnOf "is_fix" "is_fix" (defArgs sF_is_fix) (defBody sF_is_fix) (defScope sF_is_fix) .none kV3 dc3 pm3 an3 cd3 ct3, a_is_word := f4, fd_is_word := PySem.W.fnOf "is_word" "is_word" (defArgs sF_is_word) (defBody sF_is_word) (defScope sF_is_word) .none kV4 dc4 pm4 an4 cd4 ct4, a_is_number := f5, fd_is_number := PySem.W.fnOf "is_number" "is_number" (defArgs sF_is_number) (defBody sF_is_number) (defScope sF_is_number) .none kV5 dc5 pm5 an5 cd5 ct5, a_looked_for := f6, fd_looked_for := PySem.W.fnOf "looked_for" "looked_for" (defArgs sF_looked_for) (defBody sF_looked_for) (defScope sF_looked_for) .none kV6 dc6 pm6 an6 cd6 ct6, a_check_book_and_text := f7, fd_check_book_and_text := PySem.W.fnOf "check_book_and_text" "check_book_and_text" (defArgs sF_check_book_and_text) (defBody sF_check_book_and_text) (defScope sF_check_book_and_text) .none kV7 dc7 pm7 an7 cd7 ct7, a_round_findings := f8, fd_round_findings := PySem.W.fnOf "round_findings" "round_findings" (defArgs sF_round_findings) (defBody sF_round_findings) (defScope sF_round_findings) .none kV8 dc8 pm8 an8 cd8 ct8, a_first_at := f9, fd_first_at := PySem.W.fnOf "first_at" "first_at" (defArgs sF_first_at) (defBody sF_first_at) (defScope sF_first_at) .none kV9 dc9 pm9 an9 cd9 ct9, a_put_in := f10, fd_put_in := PySem.W.fnOf "put_in" "put_in" (defArgs sF_put_in) (defBody sF_put_in) (defScope sF_put_in) .none kV10 dc10 pm10 an10 cd10 ct10, a_mended := f11, fd_mended := PySem.W.fnOf "mended" "mended" (defArgs sF_mended) (defBody sF_mended) (defScope sF_mended) .none kV11 dc11 pm11 an11 cd11 ct11, a__law_source := f12, fd__law_source := PySem.W.fnOf "_law_source" "_law_source" (defArgs sF__law_source) (defBody sF__law_source) (defScope sF__law_source) .none kV12 dc12 pm12 an12 cd12 ct12, a__law_draw := f13, fd__law_draw := PySem.W.fnOf "_law_draw" "_law_draw" (defArgs sF__law_draw) (defBody sF__law_draw) (defScope sF__law_draw) .none kV13 dc13 pm13 an13 cd13 ct13, a__law_pick := f14, fd__law_pick := PySem.W.fnOf "_law_pick" "_law_pick" (defArgs sF__law_pick) (defBody sF__law_pick) (defScope sF__law_pick) .none kV14 dc14 pm14 an14 cd14 ct14, a__law_word_of := f15, fd__law_word_of := PySem.W.fnOf "_law_word_of" "_law_word_of" (defArgs sF__law_word_of) (defBody sF__law_word_of) (defScope sF__law_word_of) .none kV15 dc15 pm15 an15 cd15 ct15, a__law_long_right := f16, fd__law_long_right := PySem.W.fnOf "_law_long_right" "_law_long_right" (defArgs sF__law_long_right) (defBody sF__law_long_right) (defScope sF__law_long_right) .none kV16 dc16 pm16 an16 cd16 ct16, a__law_forty_right := f17, fd__law_forty_right := PySem.W.fnOf "_law_forty_right" "_law_forty_right" (defArgs sF__law_forty_right) (defBody sF__law_forty_right) (defScope sF__law_forty_right) .none kV17 dc17 pm17 an17 cd17 ct17, a_law := fa, fd_law := PySem.W.fnOf "law" "law" (defArgs sF_law) (defBody sF_law) (defScope sF_law) .none kV18 dc18 pm18 an18 cd18 ct18, a_Desk___init__ := f19, fd_Desk___init__ := PySem.W.fnOf "__init__" "Desk.__init__" (defArgs sF_Desk___init__) (defBody sF_Desk___init__) (defScope sF_Desk___init__) .none kV19 dc19 pm19 an19 cd19 ct19, p_Desk_book := p20, a_Desk_book := f20, fd_Desk_book := PySem.W.fnOf "book" "Desk.book" (defArgs sF_Desk_book) (defBody sF_Desk_book) (defScope sF_Desk_book) .none kV20 dc20 pm20 an20 cd20 ct20, p_Desk_text := p21, a_Desk_text := f21, fd_Desk_text := PySem.W.fnOf "text" "Desk.text" (defArgs sF_Desk_text) (defBody sF_Desk_text) (defScope sF_Desk_text) .none kV21 dc21 pm21 an21 cd21 ct21, a_Desk___len__ := f22, fd_Desk___len__ := PySem.W.fnOf "__len__" "Desk.__len__" (defArgs sF_Desk___len__) (defBody sF_Desk___len__) (defScope sF_Desk___len__) .none kV22 dc22 pm22 an22 cd22 ct22, a_Desk_put := f23, fd_Desk_put := PySem.W.fnOf "put" "Desk.put" (defArgs sF_Desk_put) (defBody sF_Desk_put) (defScope sF_Desk_put) .none kV23 dc23 pm23 an23 cd23 ct23, a_Desk_strike := f24, fd_Desk_strike := PySem.W.fnOf "strike" "Desk.strike" (defArgs sF_Desk_strike) (defBody sF_Desk_strike) (defScope sF_Desk_strike) .none kV24 dc24 pm24 an24 cd24 ct24, a_Desk_round := f25, fd_Desk_round := PySem.W.fnOf "round" "Desk.round" (defArgs sF_Desk_round) (defBody sF_Desk_round) (defScope sF_Desk_round) .none kV25 dc25 pm25 an25 cd25 ct25, a_Desk_undo := f26, fd_Desk_undo := PySem.W.fnOf "undo" "Desk.undo" (defArgs sF_Desk_undo) (defBody sF_Desk_undo) (defScope sF_Desk_undo) .none kV26 dc26 pm26 an26 cd26 ct26, a_Desk_redo := f27, fd_Desk_redo := PySem.W.fnOf "redo" "Desk.redo" (defArgs sF_Desk_redo) (defBody sF_Desk_redo) (defScope sF_Desk_redo) .none kV27 dc27 pm27 an27 cd27 ct27, a_Desk__take_stand := f28, fd_Desk__take_stand := PySem.W.fnOf "_take_stand" "Desk._take_stand" (defArgs sF_Desk__take_stand) (defBody sF_Desk__take_stand) (defScope sF_Desk__take_stand) .none kV28 dc28 pm28 an28 cd28 ct28, C_Desk := C_Desk, C_InvalidWord := C_InvalidWord, C_InvalidBook := C_InvalidBook, C_TooMany := C_TooMany, C_InvalidPlace := C_InvalidPlace, C_NothingToUndo := C_NothingToUndo, C_NothingToRedo := C_NothingToRedo, C_FixError := C_FixError } :=
    { F_check_book := F0,
      B_check_book := F0.binds (ps := ["book"]) fun _ _ _ _ _ _ us hl => match us, hl with | [_], _ => rfl,
      G_check_book := PySem.W.mg_of X G a0,
      F_check_text := F1,
      B_check_text := F1.binds (ps := ["text"]) fun _ _ _ _ _ _ us hl => match us, hl with | [_], _ => rfl,
      G_check_text := PySem.W.mg_of X G a1,
      F_is_book := F2,
      B_is_book := F2.binds (ps := ["value"]) fun _ _ _ _ _ _ us hl => match us, hl with | [_], _ => rfl,
      G_is_book := PySem.W.mg_of X G a2,
      F_is_fix := F3,
      B_is_fix := F3.binds (ps := ["value"]) fun _ _ _ _ _ _ us hl => match us, hl with | [_], _ => rfl,
      G_is_fix := PySem.W.mg_of X G a3,
      F_is_word := F4,
      B_is_word := F4.binds (ps := ["value", "least", "most"]) fun _ _ _ _ _ _ us hl => match us, hl with | [_, _, _], _ => rfl,
      G_is_word := PySem.W.mg_of X G a4,
      F_is_number := F5,
      B_is_number := F5.binds (ps := ["value", "least", "most"]) fun _ _ _ _ _ _ us hl => match us, hl with | [_, _, _], _ => rfl,
      G_is_number := PySem.W.mg_of X G a5,
      F_looked_for := F6,
      B_looked_for := F6.binds (ps := ["fix"]) fun _ _ _ _ _ _ us hl => match us, hl with | [_], _ => rfl,
      G_looked_for := PySem.W.mg_of X G a6,
      F_check_book_and_text := F7,
      B_check_book_and_text := F7.binds (ps := ["book", "text"]) fun _ _ _ _ _ _ us hl => match us, hl with | [_, _], _ => rfl,
      G_check_book_and_text := PySem.W.mg_of X G a7,
      F_round_findings := F8,
      B_round_findings := F8.binds (ps := ["book", "text"]) fun _ _ _ _ _ _ us hl => match us, hl with | [_, _], _ => rfl,
      G_round_findings := PySem.W.mg_of X G a8,
      F_first_at := F9,
      B_first_at := F9.binds (ps := ["wanted", "text", "at"]) fun _ _ _ _ _ _ us hl => match us, hl with | [_, _, _], _ => rfl,
      G_first_at := PySem.W.mg_of X G a9,
      F_put_in := F10,
      B_put_in := F10.binds (ps := ["book", "text", "found"]) fun _ _ _ _ _ _ us hl => match us, hl with | [_, _, _], _ => rfl,
      G_put_in := PySem.W.mg_of X G a10,
      F_mended := F11,
      B_mended := F11.binds (ps := ["book", "text"]) fun _ _ _ _ _ _ us hl => match us, hl with | [_, _], _ => rfl,
      G_mended := PySem.W.mg_of X G a11,
      F__law_source := F12,
      B__law_source := F12.binds (ps := ["script"]) fun _ _ _ _ _ _ us hl => match us, hl with | [_], _ => rfl,
      G__law_source := PySem.W.mg_of X G a12,
      F__law_draw := F13,
      B__law_draw := F13.binds (ps := ["source", "limit"]) fun _ _ _ _ _ _ us hl => match us, hl with | [_, _], _ => rfl,
      G__law_draw := PySem.W.mg_of X G a13,
      F__law_pick := F14,
      B__law_pick := F14.binds (ps := ["source", "values"]) fun _ _ _ _ _ _ us hl => match us, hl with | [_, _], _ => rfl,
      G__law_pick := PySem.W.mg_of X G a14,
      F__law_word_of := F15,
      B__law_word_of := F15.binds (ps := ["desk", "deed"]) fun _ _ _ _ _ _ us hl => match us, hl with | [_, _], _ => rfl,
      G__law_word_of := PySem.W.mg_of X G a15,
      F__law_long_right := F16,
      B__law_long_right := F16.binds (ps := ["source"]) fun _ _ _ _ _ _ us hl => match us, hl with | [_], _ => rfl,
      G__law_long_right := PySem.W.mg_of X G a16,
      F__law_forty_right := F17,
      B__law_forty_right := F17.binds (ps := []) fun _ _ _ _ _ _ us hl => match us, hl with | [], _ => rfl,
      G__law_forty_right := PySem.W.mg_of X G a17,
      F_law := F18,
      M_Desk___init__ := ⟨a19, b19, k19⟩,
      F_Desk___init__ := F19,
      B_Desk___init__ := F19.binds (ps := ["self", "book", "text"]) fun _ _ _ _ _ _ us hl => match us, hl with | [_, _, _], _ => rfl,
      PR_Desk_book := ⟨a20, pg20, pt20, _, pc20⟩,
      F_Desk_book := F20,
      B_Desk_book := F20.binds (ps := ["self"]) fun _ _ _ _ _ _ us hl => match us, hl with | [_], _ => rfl,
      PR_Desk_text := ⟨a21, pg21, pt21, _, pc21⟩,
      F_Desk_text := F21,
      B_Desk_text := F21.binds (ps := ["self"]) fun _ _ _ _ _ _ us hl => match us, hl with | [_], _ => rfl,
      M_Desk___len__ := ⟨a22, b22, k22⟩,
      F_Desk___len__ := F22,
      B_Desk___len__ := F22.binds (ps := ["self"]) fun _ _ _ _ _ _ us hl => match us, hl with | [_], _ => rfl,
      M_Desk_put := ⟨a23, b23, k23⟩,
      F_Desk_put := F23,
      B_Desk_put := F23.binds (ps := ["self", "at", "word"]) fun _ _ _ _ _ _ us hl => match us, hl with | [_, _, _], _ => rfl,
      M_Desk_strike := ⟨a24, b24, k24⟩,
      F_Desk_strike := F24,
      B_Desk_strike := F24.binds (ps := ["self", "begin", "end"]) fun _ _ _ _ _ _ us hl => match us, hl with | [_, _, _], _ => rfl,
      M_Desk_round := ⟨a25, b25, k25⟩,
      F_Desk_round := F25,
      B_Desk_round := F25.binds (ps := ["self"]) fun _ _ _ _ _ _ us hl => match us, hl with | [_], _ => rfl,
      M_Desk_undo := ⟨a26, b26, k26⟩,
      F_Desk_undo := F26,
      B_Desk_undo := F26.binds (ps := ["self"]) fun _ _ _ _ _ _ us hl => match us, hl with | [_], _ => rfl,
      M_Desk_redo := ⟨a27, b27, k27⟩,
      F_Desk_redo := F27,
      B_Desk_redo := F27.binds (ps := ["self"]) fun _ _ _ _ _ _ us hl => match us, hl with | [_], _ => rfl,
      M_Desk__take_stand := ⟨a28, b28, k28⟩,
      F_Desk__take_stand := F28,
      B_Desk__take_stand := F28.binds (ps := ["self", "book", "text"]) fun _ _ _ _ _ _ us hl => match us, hl with | [_, _, _], _ => rfl,
      G_Desk := PySem.W.mg_of X G adk,
      DC_Desk := ⟨⟨dk1, dk2, dk3, dk4⟩, dk5, dk6, adk⟩,
      MK_Desk := ⟨dk7, a19, b19, dk8⟩,
      Z_ValueError := PySem.W.mg_none_of X G z_ValueError,
      Z_abs := PySem.W.mg_none_of X G z_abs,
      Z_all := PySem.W.mg_none_of X G z_all,
      Z_bool := PySem.W.mg_none_of X G z_bool,
      Z_enumerate := PySem.W.mg_none_of X G z_enumerate,
      Z_int := PySem.W.mg_none_of X G z_int,
      Z_isinstance := PySem.W.mg_none_of X G z_isinstance,
      Z_len := PySem.W.mg_none_of X G z_len,
      Z_range := PySem.W.mg_none_of X G z_range,
      Z_str := PySem.W.mg_none_of X G z_str,
      Z_tuple := PySem.W.mg_none_of X G z_tuple,
      K_ALPHABET := ⟨_, PySem.W.mg_of X G v_ALPHABET⟩,
      K_MOST_FIXES := ⟨_, PySem.W.mg_of X G v_MOST_FIXES⟩,
      K_MOST_LETTERS := ⟨_, PySem.W.mg_of X G v_MOST_LETTERS⟩,
      G_InvalidWord := PySem.W.mg_of X G a_InvalidWord,
      X_InvalidWord := x_InvalidWord,
      P_InvalidWord := p_InvalidWord,
      S_InvalidWord := s_InvalidWord,
      Y_InvalidWord := y_InvalidWord,
      G_InvalidBook := PySem.W.mg_of X G a_InvalidBook,
      X_InvalidBook := x_InvalidBook,
      P_InvalidBook := p_InvalidBook,
      S_InvalidBook := s_InvalidBook,
      Y_InvalidBook := y_InvalidBook,
      G_TooMany := PySem.W.mg_of X G a_TooMany,
      X_TooMany := x_TooMany,
      P_TooMany := p_TooMany,
      S_TooMany := s_TooMany,
      Y_TooMany := y_TooMany,
      G_InvalidPlace := PySem.W.mg_of X G a_InvalidPlace,
      X_InvalidPlace := x_InvalidPlace,
      P_InvalidPlace := p_InvalidPlace,
      S_InvalidPlace := s_InvalidPlace,
      Y_InvalidPlace := y_InvalidPlace,
      G_NothingToUndo := PySem.W.mg_of X G a_NothingToUndo,
      X_NothingToUndo := x_NothingToUndo,
      P_NothingToUndo := p_NothingToUndo,
      S_NothingToUndo := s_NothingToUndo,
      Y_NothingToUndo := y_NothingToUndo,
      G_NothingToRedo := PySem.W.mg_of X G a_NothingToRedo,
      X_NothingToRedo := x_NothingToRedo,
      P_NothingToRedo := p_NothingToRedo,
      S_NothingToRedo := s_NothingToRedo,
      Y_NothingToRedo := y_NothingToRedo,
      G_FixError := PySem.W.mg_of X G a_FixError,
      HS_FixError := hs_FixError,
      HY_FixError := hy_FixError,
      HD_FixError := hd_FixError,
      SB_InvalidWord_FixError := sb_InvalidWord_FixError,
      SB_InvalidBook_FixError := sb_InvalidBook_FixError,
      SB_TooMany_FixError := sb_TooMany_FixError,
      SB_InvalidPlace_FixError := sb_InvalidPlace_FixError,
      SB_NothingToUndo_FixError := sb_NothingToUndo_FixError,
      SB_NothingToRedo_FixError := sb_NothingToRedo_FixError,
      EC_InvalidWord := ⟨ec1_InvalidWord, ec2_InvalidWord, ec3_InvalidWord, ec4_InvalidWord, ec5_InvalidWord, ec6_InvalidWord, ec7_InvalidWord, ec8_InvalidWord⟩,
      EC_InvalidBook := ⟨ec1_InvalidBook, ec2_InvalidBook, ec3_InvalidBook, ec4_InvalidBook, ec5_InvalidBook, ec6_InvalidBook, ec7_InvalidBook, ec8_InvalidBook⟩,
      EC_TooMany := ⟨ec1_TooMany, ec2_TooMany, ec3_TooMany, ec4_TooMany, ec5_TooMany, ec6_TooMany, ec7_TooMany, ec8_TooMany⟩,
      EC_InvalidPlace := ⟨ec1_InvalidPlace, ec2_InvalidPlace, ec3_InvalidPlace, ec4_InvalidPlace, ec5_InvalidPlace, ec6_InvalidPlace, ec7_InvalidPlace, ec8_InvalidPlace⟩,
      EC_NothingToUndo := ⟨ec1_NothingToUndo, ec2_NothingToUndo, ec3_NothingToUndo, ec4_NothingToUndo, ec5_NothingToUndo, ec6_NothingToUndo, ec7_NothingToUndo, ec8_NothingToUndo⟩,
      EC_NothingToRedo := ⟨ec1_NothingToRedo, ec2_NothingToRedo, ec3_NothingToRedo, ec4_NothingToRedo, ec5_NothingToRedo, ec6_NothingToRedo, ec7_NothingToRedo, ec8_NothingToRedo⟩,
      KI_InvalidWord_InvalidPlace := ki_InvalidWord_InvalidPlace,
      KI_InvalidBook_InvalidPlace := ki_InvalidBook_InvalidPlace,
      KI_TooMany_InvalidPlace := ki_TooMany_InvalidPlace,
      KI_InvalidPlace_InvalidPlace := ki_InvalidPlace_InvalidPlace,
      KI_NothingToUndo_InvalidPlace := ki_NothingToUndo_InvalidPlace,
      KI_NothingToRedo_InvalidPlace := ki_NothingToRedo_InvalidPlace,
      KI_InvalidWord_InvalidWord := ki_InvalidWord_InvalidWord,
      KI_InvalidBook_InvalidWord := ki_InvalidBook_InvalidWord,
      KI_TooMany_InvalidWord := ki_TooMany_InvalidWord,
      KI_InvalidPlace_InvalidWord := ki_InvalidPlace_InvalidWord,
      KI_NothingToUndo_InvalidWord := ki_NothingToUndo_InvalidWord,
      KI_NothingToRedo_InvalidWord := ki_NothingToRedo_InvalidWord,
      KI_InvalidWord_NothingToRedo := ki_InvalidWord_NothingToRedo,
      KI_InvalidBook_NothingToRedo := ki_InvalidBook_NothingToRedo,
      KI_TooMany_NothingToRedo := ki_TooMany_NothingToRedo,
      KI_InvalidPlace_NothingToRedo := ki_InvalidPlace_NothingToRedo,
      KI_NothingToUndo_NothingToRedo := ki_NothingToUndo_NothingToRedo,
      KI_NothingToRedo_NothingToRedo := ki_NothingToRedo_NothingToRedo,
      KI_InvalidWord_NothingToUndo := ki_InvalidWord_NothingToUndo,
      KI_InvalidBook_NothingToUndo := ki_InvalidBook_NothingToUndo,
      KI_TooMany_NothingToUndo := ki_TooMany_NothingToUndo,
      KI_InvalidPlace_NothingToUndo := ki_InvalidPlace_NothingToUndo,
      KI_NothingToUndo_NothingToUndo := ki_NothingToUndo_NothingToUndo,
      KI_NothingToRedo_NothingToUndo := ki_NothingToRedo_NothingToUndo,
      KI_InvalidWord_TooMany := ki_InvalidWord_TooMany,
      KI_InvalidBook_TooMany := ki_InvalidBook_TooMany,
      KI_TooMany_TooMany := ki_TooMany_TooMany,
      KI_InvalidPlace_TooMany := ki_InvalidPlace_TooMany,
      KI_NothingToUndo_TooMany := ki_NothingToUndo_TooMany,
      KI_NothingToRedo_TooMany := ki_NothingToRedo_TooMany,
      KI_InvalidWord_ValueError := ki_InvalidWord_ValueError,
      KI_InvalidBook_ValueError := ki_InvalidBook_ValueError,
      KI_TooMany_ValueError := ki_TooMany_ValueError,
      KI_InvalidPlace_ValueError := ki_InvalidPlace_ValueError,
      KI_NothingToUndo_ValueError := ki_NothingToUndo_ValueError,
      KI_NothingToRedo_ValueError := ki_NothingToRedo_ValueError }
  exact ⟨PySem.W.fnOf "law" "law" (defArgs sF_law) (defBody sF_law) (defScope sF_law) .none kV18 dc18 pm18 an18 cd18 ct18, fun s v => .of_eq rfl, fun base _ _ => all_ok T pure⟩
end PL.RF
open PySem PySem.W PyProof.Rows
set_option maxRecDepth 100000 in
set_option maxHeartbeats 0 in
theorem PySem.Challenge.cw_restingfixes_k35_bounds_of_desks_holds : PySem.Challenge.rw_restingfixes_k35_bounds_of_desks.Holds := by
  w_on; o_law; k_head; (case hw => w_witness2)
  k_fill
  refine L2.walk_of (l := PySem.Challenge.rw_restingfixes_k35_bounds_of_desks) (n := 63) (k := 9) (x := "script") (CX := fun w => L2.CX PySem.Challenge.rw_restingfixes_k35_bounds_of_desks.prog w) (sp := fun w => PL.spLaw _) rfl (by decide) rfl ⟨rfl, by decide, by decide⟩ (fun w h Y => PySem.W.kIn_of Y) ?F (fun _ _ a ns hl _ hS => ⟨a, ns, rfl, hS, hl, fun _ => rfl⟩) (fun _ _ _ _ _ h => PL.noCX h)
  case F =>
    intro w mg fa h KX G hmg
    refine' PL.RF.all_mk PL.RF.pure KX G hmg ?adk ?a0 ?l0 ?c0 ?k0 ?a1 ?l1 ?c1 ?k1 ?a2 ?l2 ?c2 ?k2 ?a3 ?l3 ?c3 ?k3 ?a4 ?l4 ?c4 ?k4 ?a5 ?l5 ?c5 ?k5 ?a6 ?l6 ?c6 ?k6 ?a7 ?l7 ?c7 ?k7 ?a8 ?l8 ?c8 ?k8 ?a9 ?l9 ?c9 ?k9 ?a10 ?l10 ?c10 ?k10 ?a11 ?l11 ?c11 ?k11 ?a12 ?l12 ?c12 ?k12 ?a13 ?l13 ?c13 ?k13 ?a14 ?l14 ?c14 ?k14 ?a15 ?l15 ?c15 ?k15 ?a16 ?l16 ?c16 ?k16 ?a17 ?l17 ?c17 ?k17 ?a18 ?l18 ?c18 ?k18 ?a19 ?b19 ?l19 ?c19 ?k19 ?a20 ?pg20 ?pt20 ?pc20 ?l20 ?c20 ?k20 ?a21 ?pg21 ?pt21 ?pc21 ?l21 ?c21 ?k21 ?a22 ?b22 ?l22 ?c22 ?k22 ?a23 ?b23 ?l23 ?c23 ?k23 ?a24 ?b24 ?l24 ?c24 ?k24 ?a25 ?b25 ?l25 ?c25 ?k25 ?a26 ?b26 ?l26 ?c26 ?k26 ?a27 ?b27 ?l27 ?c27 ?k27 ?a28 ?b28 ?l28 ?c28 ?k28 ?dk1 ?dk2 ?dk3 ?dk4 ?dk5 ?dk6 ?dk7 ?dk8 ?z_ValueError ?z_abs ?z_all ?z_bool ?z_enumerate ?z_int ?z_isinstance ?z_len ?z_range ?z_str ?z_tuple ?v_ALPHABET ?v_MOST_FIXES ?v_MOST_LETTERS ?a_InvalidWord ?p_InvalidWord ?s_InvalidWord ?y_InvalidWord ?x_InvalidWord ?a_InvalidBook ?p_InvalidBook ?s_InvalidBook ?y_InvalidBook ?x_InvalidBook ?a_TooMany ?p_TooMany ?s_TooMany ?y_TooMany ?x_TooMany ?a_InvalidPlace ?p_InvalidPlace ?s_InvalidPlace ?y_InvalidPlace ?x_InvalidPlace ?a_NothingToUndo ?p_NothingToUndo ?s_NothingToUndo ?y_NothingToUndo ?x_NothingToUndo ?a_NothingToRedo ?p_NothingToRedo ?s_NothingToRedo ?y_NothingToRedo ?x_NothingToRedo ?a_FixError ?hs_FixError ?hy_FixError ?hd_FixError ?sb_InvalidWord_FixError ?sb_InvalidBook_FixError ?sb_TooMany_FixError ?sb_InvalidPlace_FixError ?sb_NothingToUndo_FixError ?sb_NothingToRedo_FixError ?ec1_InvalidWord ?ec2_InvalidWord ?ec3_InvalidWord ?ec4_InvalidWord ?ec5_InvalidWord ?ec6_InvalidWord ?ec7_InvalidWord ?ec8_InvalidWord ?ec1_InvalidBook ?ec2_InvalidBook ?ec3_InvalidBook ?ec4_InvalidBook ?ec5_InvalidBook ?ec6_InvalidBook ?ec7_InvalidBook ?ec8_InvalidBook ?ec1_TooMany ?ec2_TooMany ?ec3_TooMany ?ec4_TooMany ?ec5_TooMany ?ec6_TooMany ?ec7_TooMany ?ec8_TooMany ?ec1_InvalidPlace ?ec2_InvalidPlace ?ec3_InvalidPlace ?ec4_InvalidPlace ?ec5_InvalidPlace ?ec6_InvalidPlace ?ec7_InvalidPlace ?ec8_InvalidPlace ?ec1_NothingToUndo ?ec2_NothingToUndo ?ec3_NothingToUndo ?ec4_NothingToUndo ?ec5_NothingToUndo ?ec6_NothingToUndo ?ec7_NothingToUndo ?ec8_NothingToUndo ?ec1_NothingToRedo ?ec2_NothingToRedo ?ec3_NothingToRedo ?ec4_NothingToRedo ?ec5_NothingToRedo ?ec6_NothingToRedo ?ec7_NothingToRedo ?ec8_NothingToRedo ?ki_InvalidWord_InvalidPlace ?ki_InvalidBook_InvalidPlace ?ki_TooMany_InvalidPlace ?ki_InvalidPlace_InvalidPlace ?ki_NothingToUndo_InvalidPlace ?ki_NothingToRedo_InvalidPlace ?ki_InvalidWord_InvalidWord ?ki_InvalidBook_InvalidWord ?ki_TooMany_InvalidWord ?ki_InvalidPlace_InvalidWord ?ki_NothingToUndo_InvalidWord ?ki_NothingToRedo_InvalidWord ?ki_InvalidWord_NothingToRedo ?ki_InvalidBook_NothingToRedo ?ki_TooMany_NothingToRedo ?ki_InvalidPlace_NothingToRedo ?ki_NothingToUndo_NothingToRedo ?ki_NothingToRedo_NothingToRedo ?ki_InvalidWord_NothingToUndo ?ki_InvalidBook_NothingToUndo ?ki_TooMany_NothingToUndo ?ki_InvalidPlace_NothingToUndo ?ki_NothingToUndo_NothingToUndo ?ki_NothingToRedo_NothingToUndo ?ki_InvalidWord_TooMany ?ki_InvalidBook_TooMany ?ki_TooMany_TooMany ?ki_InvalidPlace_TooMany ?ki_NothingToUndo_TooMany ?ki_NothingToRedo_TooMany ?ki_InvalidWord_ValueError ?ki_InvalidBook_ValueError ?ki_TooMany_ValueError ?ki_InvalidPlace_ValueError ?ki_NothingToUndo_ValueError ?ki_NothingToRedo_ValueError
    (case adk => k_is)
    (case a0 => k_is)
    (case l0 => k_is)
    (case c0 => k_is)
    (case k0 => k_is)
    (case a1 => k_is)
    (case l1 => k_is)
    (case c1 => k_is)
    (case k1 => k_is)
    (case a2 => k_is)
    (case l2 => k_is)
    (case c2 => k_is)
    (case k2 => k_is)
    (case a3 => k_is)
    (case l3 => k_is)
    (case c3 => k_is)
    (case k3 => k_is)
    (case a4 => k_is)
    (case l4 => k_is)
    (case c4 => k_is)
    (case k4 => k_is)
    (case a5 => k_is)
    (case l5 => k_is)
    (case c5 => k_is)
    (case k5 => k_is)
    (case a6 => k_is)
    (case l6 => k_is)
    (case c6 => k_is)
    (case k6 => k_is)
    (case a7 => k_is)
    (case l7 => k_is)
    (case c7 => k_is)
    (case k7 => k_is)
    (case a8 => k_is)
    (case l8 => k_is)
    (case c8 => k_is)
    (case k8 => k_is)
    (case a9 => k_is)
    (case l9 => k_is)
    (case c9 => k_is)
    (case k9 => k_is)
    (case a10 => k_is)
    (case l10 => k_is)
    (case c10 => k_is)
    (case k10 => k_is)
    (case a11 => k_is)
    (case l11 => k_is)
    (case c11 => k_is)
    (case k11 => k_is)
    (case a12 => k_is)
    (case l12 => k_is)
    (case c12 => k_is)
    (case k12 => k_is)
    (case a13 => k_is)
    (case l13 => k_is)
    (case c13 => k_is)
    (case k13 => k_is)
    (case a14 => k_is)
    (case l14 => k_is)
    (case c14 => k_is)
    (case k14 => k_is)
    (case a15 => k_is)
    (case l15 => k_is)
    (case c15 => k_is)
    (case k15 => k_is)
    (case a16 => k_is)
    (case l16 => k_is)
    (case c16 => k_is)
    (case k16 => k_is)
    (case a17 => k_is)
    (case l17 => k_is)
    (case c17 => k_is)
    (case k17 => k_is)
    (case a18 => k_is)
    (case l18 => k_is)
    (case c18 => k_is)
    (case k18 => k_is)
    (case a19 => k_is)
    (case b19 => k_is)
    (case l19 => k_is)
    (case c19 => k_is)
    (case k19 => k_is)
    (case a20 => k_is)
    (case pg20 => k_is)
    (case pt20 => k_is)
    (case pc20 => k_is)
    (case l20 => k_is)
    (case c20 => k_is)
    (case k20 => k_is)
    (case a21 => k_is)
    (case pg21 => k_is)
    (case pt21 => k_is)
    (case pc21 => k_is)
    (case l21 => k_is)
    (case c21 => k_is)
    (case k21 => k_is)
    (case a22 => k_is)
    (case b22 => k_is)
    (case l22 => k_is)
    (case c22 => k_is)
    (case k22 => k_is)
    (case a23 => k_is)
    (case b23 => k_is)
    (case l23 => k_is)
    (case c23 => k_is)
    (case k23 => k_is)
    (case a24 => k_is)
    (case b24 => k_is)
    (case l24 => k_is)
    (case c24 => k_is)
    (case k24 => k_is)
    (case a25 => k_is)
    (case b25 => k_is)
    (case l25 => k_is)
    (case c25 => k_is)
    (case k25 => k_is)
    (case a26 => k_is)
    (case b26 => k_is)
    (case l26 => k_is)
    (case c26 => k_is)
    (case k26 => k_is)
    (case a27 => k_is)
    (case b27 => k_is)
    (case l27 => k_is)
    (case c27 => k_is)
    (case k27 => k_is)
    (case a28 => k_is)
    (case b28 => k_is)
    (case l28 => k_is)
    (case c28 => k_is)
    (case k28 => k_is)
    (case dk1 => k_is)
    (case dk2 => k_is)
    (case dk3 => k_is)
    (case dk4 => k_is)
    (case dk5 => k_is)
    (case dk6 => k_is)
    (case dk7 => k_is)
    (case dk8 => k_is)
    (case z_ValueError => k_is)
    (case z_abs => k_is)
    (case z_all => k_is)
    (case z_bool => k_is)
    (case z_enumerate => k_is)
    (case z_int => k_is)
    (case z_isinstance => k_is)
    (case z_len => k_is)
    (case z_range => k_is)
    (case z_str => k_is)
    (case z_tuple => k_is)
    (case v_ALPHABET => k_is)
    (case v_MOST_FIXES => k_is)
    (case v_MOST_LETTERS => k_is)
    (case a_InvalidWord => k_is)
    (case p_InvalidWord => k_is)
    (case s_InvalidWord => k_is)
    (case y_InvalidWord => k_is)
    (case x_InvalidWord => k_exc)
    (case a_InvalidBook => k_is)
    (case p_InvalidBook => k_is)
    (case s_InvalidBook => k_is)
    (case y_InvalidBook => k_is)
    (case x_InvalidBook => k_exc)
    (case a_TooMany => k_is)
    (case p_TooMany => k_is)
    (case s_TooMany => k_is)
    (case y_TooMany => k_is)
    (case x_TooMany => k_exc)
    (case a_InvalidPlace => k_is)
    (case p_InvalidPlace => k_is)
    (case s_InvalidPlace => k_is)
    (case y_InvalidPlace => k_is)
    (case x_InvalidPlace => k_exc)
    (case a_NothingToUndo => k_is)
    (case p_NothingToUndo => k_is)
    (case s_NothingToUndo => k_is)
    (case y_NothingToUndo => k_is)
    (case x_NothingToUndo => k_exc)
    (case a_NothingToRedo => k_is)
    (case p_NothingToRedo => k_is)
    (case s_NothingToRedo => k_is)
    (case y_NothingToRedo => k_is)
    (case x_NothingToRedo => k_exc)
    (case a_FixError => k_is)
    (case hs_FixError => k_is)
    (case hy_FixError => k_is)
    (case hd_FixError => k_is)
    (case sb_InvalidWord_FixError => k_is)
    (case sb_InvalidBook_FixError => k_is)
    (case sb_TooMany_FixError => k_is)
    (case sb_InvalidPlace_FixError => k_is)
    (case sb_NothingToUndo_FixError => k_is)
    (case sb_NothingToRedo_FixError => k_is)
    (case ec1_InvalidWord => k_is)
    (case ec2_InvalidWord => k_is)
    (case ec3_InvalidWord => k_is)
    (case ec4_InvalidWord => k_is)
    (case ec5_InvalidWord => k_is)
    (case ec6_InvalidWord => k_is)
    (case ec7_InvalidWord => k_is)
    (case ec8_InvalidWord => k_is)
    (case ec1_InvalidBook => k_is)
    (case ec2_InvalidBook => k_is)
    (case ec3_InvalidBook => k_is)
    (case ec4_InvalidBook => k_is)
    (case ec5_InvalidBook => k_is)
    (case ec6_InvalidBook => k_is)
    (case ec7_InvalidBook => k_is)
    (case ec8_InvalidBook => k_is)
    (case ec1_TooMany => k_is)
    (case ec2_TooMany => k_is)
    (case ec3_TooMany => k_is)
    (case ec4_TooMany => k_is)
    (case ec5_TooMany => k_is)
    (case ec6_TooMany => k_is)
    (case ec7_TooMany => k_is)
    (case ec8_TooMany => k_is)
    (case ec1_InvalidPlace => k_is)
    (case ec2_InvalidPlace => k_is)
    (case ec3_InvalidPlace => k_is)
    (case ec4_InvalidPlace => k_is)
    (case ec5_InvalidPlace => k_is)
    (case ec6_InvalidPlace => k_is)
    (case ec7_InvalidPlace => k_is)
    (case ec8_InvalidPlace => k_is)
    (case ec1_NothingToUndo => k_is)
    (case ec2_NothingToUndo => k_is)
    (case ec3_NothingToUndo => k_is)
    (case ec4_NothingToUndo => k_is)
    (case ec5_NothingToUndo => k_is)
    (case ec6_NothingToUndo => k_is)
    (case ec7_NothingToUndo => k_is)
    (case ec8_NothingToUndo => k_is)
    (case ec1_NothingToRedo => k_is)
    (case ec2_NothingToRedo => k_is)
    (case ec3_NothingToRedo => k_is)
    (case ec4_NothingToRedo => k_is)
    (case ec5_NothingToRedo => k_is)
    (case ec6_NothingToRedo => k_is)
    (case ec7_NothingToRedo => k_is)
    (case ec8_NothingToRedo => k_is)
    (case ki_InvalidWord_InvalidPlace => kit_is)
    (case ki_InvalidBook_InvalidPlace => kit_is)
    (case ki_TooMany_InvalidPlace => kit_is)
    (case ki_InvalidPlace_InvalidPlace => kit_is)
    (case ki_NothingToUndo_InvalidPlace => kit_is)
    (case ki_NothingToRedo_InvalidPlace => kit_is)
    (case ki_InvalidWord_InvalidWord => kit_is)
    (case ki_InvalidBook_InvalidWord => kit_is)
    (case ki_TooMany_InvalidWord => kit_is)
    (case ki_InvalidPlace_InvalidWord => kit_is)
    (case ki_NothingToUndo_InvalidWord => kit_is)
    (case ki_NothingToRedo_InvalidWord => kit_is)
    (case ki_InvalidWord_NothingToRedo => kit_is)
    (case ki_InvalidBook_NothingToRedo => kit_is)
    (case ki_TooMany_NothingToRedo => kit_is)
    (case ki_InvalidPlace_NothingToRedo => kit_is)
    (case ki_NothingToUndo_NothingToRedo => kit_is)
    (case ki_NothingToRedo_NothingToRedo => kit_is)
    (case ki_InvalidWord_NothingToUndo => kit_is)
    (case ki_InvalidBook_NothingToUndo => kit_is)
    (case ki_TooMany_NothingToUndo => kit_is)
    (case ki_InvalidPlace_NothingToUndo => kit_is)
    (case ki_NothingToUndo_NothingToUndo => kit_is)
    (case ki_NothingToRedo_NothingToUndo => kit_is)
    (case ki_InvalidWord_TooMany => kit_is)
    (case ki_InvalidBook_TooMany => kit_is)
    (case ki_TooMany_TooMany => kit_is)
    (case ki_InvalidPlace_TooMany => kit_is)
    (case ki_NothingToUndo_TooMany => kit_is)
    (case ki_NothingToRedo_TooMany => kit_is)
    (case ki_InvalidWord_ValueError => kit_is)
    (case ki_InvalidBook_ValueError => kit_is)
    (case ki_TooMany_ValueError => kit_is)
    (case ki_InvalidPlace_ValueError => kit_is)
    (case ki_NothingToUndo_ValueError => kit_is)
    (case ki_NothingToRedo_ValueError => kit_is)
