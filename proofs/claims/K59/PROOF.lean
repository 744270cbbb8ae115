import PyProof.Rows.All
import Wide.All
import OpenK.AllK
import Wide.FinOn
import HandS.ForMost
import HandS.Exc
import HandS.TryOnly
import HandS.ExcOwn
import HandS.WordsExc
import HandS.IsInst
import HandS.Zip
import HandS.Rev
import HandS.Wide
import HandS.TupAny
import HandS.Flow
import HandS.Deep
import HandS.Ends
import HandS.Strs
import HandS.SetFor
import HandS.Style
import HandS.StrMore
import HandS.Steps
import HandS.SortInts
import HandS.Dict
import HandS.TupLe
import PySem.Challenge.RW_heardhouse_k59_long_calendars
set_option Elab.async false
set_option linter.all false
set_option maxRecDepth 100000
set_option maxHeartbeats 1000000
namespace Hh
set_option autoImplicit false
open PySem PySem.Spec PyProof.Rows L2
abbrev Sl := L2.St

/-! ### data over the abstract heap -/
def kD : Key → PyData
  | .inl i => .int i
  | .inr x => .str x
mutual
inductive Rp (K : PySem.W.Frag) (I : Hp) : V → PyData → Prop
  | non : Rp K I .non .none
  | bl (b : Bool) : Rp K I (.bl b) (.bool b)
  | int (i : Int) : Rp K I (.int i) (.int i)
  | str (x : Str) : Rp K I (.str x) (.str x)
  | lst {a : Addr} {xs : List V} {ds : List PyData} : I a = some (.lst xs) → RpAll K I xs ds → Rp K I (.ref a) (.list ds)
  | tup {a : Addr} {xs : List V} {ds : List PyData} : SqT K I a xs → RpAll K I xs ds → Rp K I (.ref a) (.tuple ds)
  | dic {a : Addr} {kvs : List (Key × V)} {es : List (PyData × PyData)} : I a = some (.dK kvs) → RpKv K I kvs es → Rp K I (.ref a) (.dict es)
inductive RpAll (K : PySem.W.Frag) (I : Hp) : List V → List PyData → Prop
  | nil : RpAll K I [] []
  | cons {v : V} {vs : List V} {d : PyData} {ds : List PyData} : Rp K I v d → RpAll K I vs ds → RpAll K I (v :: vs) (d :: ds)
inductive RpKv (K : PySem.W.Frag) (I : Hp) : List (Key × V) → List (PyData × PyData) → Prop
  | nil : RpKv K I [] []
  | cons {k : Key} {v : V} {d : PyData} {kvs : List (Key × V)} {es : List (PyData × PyData)} : Rp K I v d → RpKv K I kvs es → RpKv K I ((k, v) :: kvs) ((kD k, d) :: es)
end
theorem seqT_mono {K : PySem.W.Frag} {H H' : Hp} {a : Addr} {xs : List V} (e : Same H H') (h : SqT K H a xs) : SqT K H' a xs := by
  rcases h with (h | ⟨o, h⟩) | h
  · exact .inl (.inl (e _ _ h))
  · exact .inl (.inr ⟨o, e _ _ h⟩)
  · exact .inr h
section
variable {K : PySem.W.Frag} {I J : Hp}
mutual
theorem Rp.mono (e : Same I J) : ∀ {d : PyData} {v : V}, Rp K I v d → Rp K J v d
  | .none, _, .non => .non
  | .bool _, _, .bl b => .bl b
  | .int _, _, .int i => .int i
  | .str _, _, .str x => .str x
  | .list _, _, .lst h r => .lst (e _ _ h) (RpAll.mono e r)
  | .tuple _, _, .tup h r => .tup (seqT_mono e h) (RpAll.mono e r)
  | .dict _, _, .dic h r => .dic (e _ _ h) (RpKv.mono e r)
theorem RpAll.mono (e : Same I J) : ∀ {ds : List PyData} {vs : List V}, RpAll K I vs ds → RpAll K J vs ds
  | [], _, .nil => .nil
  | _ :: _, _, .cons h r => .cons (Rp.mono e h) (RpAll.mono e r)
theorem RpKv.mono (e : Same I J) : ∀ {es : List (PyData × PyData)} {kvs : List (Key × V)}, RpKv K I kvs es → RpKv K J kvs es
  | [], _, .nil => .nil
  | _ :: _, _, .cons h r => .cons (Rp.mono e h) (RpKv.mono e r)
end
theorem RpAll.length : ∀ {ds : List PyData} {vs : List V}, RpAll K I vs ds → vs.length = ds.length
  | [], _, .nil => rfl
  | _ :: _, _, .cons _ r => congrArg (· + 1) (RpAll.length r)
theorem RpAll.get : ∀ {ds : List PyData} {vs : List V} {i : Nat} {d : PyData}, RpAll K I vs ds → ds[i]? = some d → ∃ v, vs[i]? = some v ∧ Rp K I v d
  | _ :: _, _, 0, d, .cons h _, e => by
    simp only [List.getElem?_cons_zero, Option.some.injEq] at e
    subst e
    exact ⟨_, rfl, h⟩
  | _ :: ds, _, i + 1, d, .cons _ r, e => by
    simp only [List.getElem?_cons_succ] at e
    obtain ⟨v, h1, h2⟩ := RpAll.get r e
    exact ⟨v, by simpa using h1, h2⟩
  | [], _, _, _, .nil, e => by simp at e
theorem RpAll.get' : ∀ {ds : List PyData} {vs : List V} {i : Nat} {v : V}, RpAll K I vs ds → vs[i]? = some v → ∃ d, ds[i]? = some d ∧ Rp K I v d
  | _ :: _, _, 0, d, .cons h _, e => by
    simp only [List.getElem?_cons_zero, Option.some.injEq] at e
    subst e
    exact ⟨_, rfl, h⟩
  | _ :: ds, _, i + 1, d, .cons _ r, e => by
    simp only [List.getElem?_cons_succ] at e
    obtain ⟨v, h1, h2⟩ := RpAll.get' r e
    exact ⟨v, by simpa using h1, h2⟩
  | [], _, _, _, .nil, e => by simp at e
theorem RpAll.append : ∀ {ds es : List PyData} {vs ws : List V}, RpAll K I vs ds → RpAll K I ws es → RpAll K I (vs ++ ws) (ds ++ es)
  | _, _, _, _, .nil, s => s
  | _, _, _, _, .cons h r, s => .cons h (RpAll.append r s)
theorem RpAll.one {v : V} {d : PyData} (h : Rp K I v d) : RpAll K I [v] [d] := .cons h .nil
theorem RpAll.drop : ∀ {ds : List PyData} {vs : List V} (n : Nat), RpAll K I vs ds → RpAll K I (vs.drop n) (ds.drop n)
  | _, _, 0, h => h
  | _, _, _ + 1, .nil => .nil
  | _, _, n + 1, .cons _ r => RpAll.drop n r
theorem RpAll.take : ∀ {ds : List PyData} {vs : List V} (n : Nat), RpAll K I vs ds → RpAll K I (vs.take n) (ds.take n)
  | _, _, 0, _ => .nil
  | _, _, _ + 1, .nil => .nil
  | _, _, n + 1, .cons h r => .cons h (RpAll.take n r)
theorem RpAll.rev {ds : List PyData} {vs : List V} (h : RpAll K I vs ds) : RpAll K I vs.reverse ds.reverse := by
  induction ds generalizing vs with
  | nil => cases h; exact .nil
  | cons d ds ih =>
    cases h with
    | cons a r =>
      rw [List.reverse_cons, List.reverse_cons]
      exact (ih r).append (.one a)
theorem Rp.int_inv {v : V} {i : Int} (h : Rp K I v (.int i)) : v = .int i := by cases h; rfl
theorem Rp.bl_inv {v : V} {i : Bool} (h : Rp K I v (.bool i)) : v = .bl i := by cases h; rfl
theorem Rp.str_inv {v : V} {i : Str} (h : Rp K I v (.str i)) : v = .str i := by cases h; rfl
theorem Rp.non_inv {v : V} (h : Rp K I v .none) : v = .non := by cases h; rfl
theorem Rp.lst_inv {v : V} {ds : List PyData} (h : Rp K I v (.list ds)) : ∃ a xs, v = .ref a ∧ I a = some (.lst xs) ∧ RpAll K I xs ds := by
  cases h with
  | lst h r => exact ⟨_, _, rfl, h, r⟩
theorem Rp.tup_inv {v : V} {ds : List PyData} (h : Rp K I v (.tuple ds)) : ∃ a xs, v = .ref a ∧ SqT K I a xs ∧ RpAll K I xs ds := by
  cases h with
  | tup h r => exact ⟨_, _, rfl, h, r⟩
theorem RpAll.ints : ∀ {is : List Int} {vs : List V}, RpAll K I vs (is.map PyData.int) → vs = is.map V.int
  | [], _, .nil => rfl
  | i :: is, _, .cons h r => by rw [h.int_inv, RpAll.ints r]; rfl
theorem RpAll.bls : ∀ {is : List Bool} {vs : List V}, RpAll K I vs (is.map PyData.bool) → vs = is.map V.bl
  | [], _, .nil => rfl
  | i :: is, _, .cons h r => by rw [h.bl_inv, RpAll.bls r]; rfl
theorem RpAll.strs' : ∀ {is : List Str} {vs : List V}, RpAll K I vs (is.map PyData.str) → vs = is.map V.str
  | [], _, .nil => rfl
  | i :: is, _, .cons h r => by rw [h.str_inv, RpAll.strs' r]; rfl
end

/-! ### the bag, the world, the slots -/
def NMAX : Nat := 2 ^ 40
def BagAt (H : Hp) (p : Addr) (n : Nat) : Prop := ∃ x y z : Int, H p = some (.lst [.int x, .int y, .int z]) ∧ 0 ≤ x ∧ 0 ≤ y ∧ y < 2 ^ 200 ∧ 0 ≤ z ∧ z ≤ n
theorem BagAt.mono {H : Hp} {p : Addr} {n m : Nat} (h : BagAt H p n) (e : n ≤ m) : BagAt H p m := by
  obtain ⟨x, y, z, h, a, b, c, d, f⟩ := h
  exact ⟨x, y, z, h, a, b, c, d, by omega⟩
structure Ctx where
  K : PySem.W.Frag
  b : Option Addr
  H0 : Hp
  I0 : Hp
/-- data; a list of one's own, still growing; the bag; the script -/
inductive Ent where
  | any
  | scr (ns : List Int)
  | dat (d : PyData)
  | own (ds : List PyData)
  | bag
  | raw (v : V)
structure Wd (c : Ctx) (I H : Hp) (n : Nat) : Prop where
  ih : Same I H
  i0 : Same c.I0 I
  h0 : ∀ q o, some q ≠ c.b → c.H0 q = some o → H q = some o
  nw : ∀ q, c.H0 q ≠ none → I q = c.I0 q
  bg : ∀ p, c.b = some p → c.I0 p = none ∧ c.H0 p ≠ none ∧ BagAt H p n
/-- what an expression may do -/
structure Gx (b : Option Addr) (I H I2 H2 : Hp) : Prop where
  ii : Same I I2
  hh : ∀ q o, some q ≠ b → H q = some o → H2 q = some o
  nw : ∀ q, H q ≠ none → I2 q = I q
  th : ∀ q, H q ≠ none → H2 q ≠ none
theorem Gx.refl {c : Option Addr} {I H : Hp} : Gx c I H I H := ⟨Same.refl _, fun _ _ _ h => h, fun _ _ => rfl, fun _ h => h⟩
theorem Gx.trans {c : Option Addr} {I H I1 H1 I2 H2 : Hp} (a : Gx c I H I1 H1) (b : Gx c I1 H1 I2 H2) : Gx c I H I2 H2 :=
  ⟨a.ii.trans b.ii, fun q o n h => b.hh q o n (a.hh q o n h), fun q h => (b.nw q (a.th q h)).trans (a.nw q h), fun q h => b.th q (a.th q h)⟩
def EntR (c : Ctx) (I H : Hp) : Option V → Ent → Prop
  | _, .any => True
  | some v, .dat d => Rp c.K I v d
  | some v, .own ds => ∃ p xs, v = .ref p ∧ H p = some (.lst xs) ∧ c.H0 p = none ∧ some p ≠ c.b ∧ I p = none ∧ RpAll c.K I xs ds
  | some v, .bag => ∃ p, v = .ref p ∧ c.b = some p
  | some v, .scr ns => ∃ a, v = .ref a ∧ SqL c.K I a (ns.map V.int)
  | some v, .raw u => v = u
  | none, _ => False
structure EnvR (c : Ctx) (I H : Hp) (σ : Sl) (ρ : List Ent) : Prop where
  st : Paired (EntR c I H) σ ρ
  ap : ∀ (i j : Nat) (p : Addr) (ds es : List PyData), ρ[i]? = some (.own ds) → ρ[j]? = some (.own es) → σ[i]? = some (some (.ref p)) → σ[j]? = some (some (.ref p)) → i = j
theorem EntR.go {c : Ctx} {I H I2 H2 : Hp} (g : Gx c.b I H I2 H2) : ∀ {o : Option V} {e : Ent}, EntR c I H o e → EntR c I2 H2 o e
  | o, .any, _ => by cases o <;> exact True.intro
  | some v, .dat d, h => Rp.mono g.ii h
  | some v, .own ds, h => by
    obtain ⟨p, xs, e, h1, h2, h3, h4, h5⟩ := h
    refine ⟨p, xs, e, g.hh _ _ h3 h1, h2, h3, ?_, h5.mono g.ii⟩
    rw [g.nw p (by rw [h1]; exact fun z => nomatch z)]
    exact h4
  | some v, .bag, h => h
  | some v, .raw _, h => h
  | none, .raw _, h => h.elim
  | some v, .scr _, h => by obtain ⟨a, e, q⟩ := h; exact ⟨a, e, g.ii.seq q⟩
  | none, .scr _, h => h.elim
  | none, .dat _, h => h.elim
  | none, .own _, h => h.elim
  | none, .bag, h => h.elim
theorem EnvR.go {c : Ctx} {I H I2 H2 : Hp} {σ : Sl} {ρ : List Ent} (h : EnvR c I H σ ρ) (g : Gx c.b I H I2 H2) : EnvR c I2 H2 σ ρ :=
  ⟨Paired.mapP h.st fun _ _ x => x.go g, h.ap⟩
theorem Paired.getP {α β : Type} {F : α → β → Prop} : ∀ {l : List α} {m : List β} {i : Nat} {b : β}, Paired F l m → m[i]? = some b → ∃ a, l[i]? = some a ∧ F a b
  | _, _, 0, b, .cons h _, e => by
    simp only [List.getElem?_cons_zero, Option.some.injEq] at e
    subst e
    exact ⟨_, rfl, h⟩
  | _, _, i + 1, b, .cons _ r, e => by
    simp only [List.getElem?_cons_succ] at e
    obtain ⟨a, h1, h2⟩ := Paired.getP r e
    exact ⟨a, by simpa using h1, h2⟩
  | _, _, _, _, .nil, e => by simp at e
theorem Paired.getL {α β : Type} {F : α → β → Prop} : ∀ {l : List α} {m : List β} {i : Nat} {a : α}, Paired F l m → l[i]? = some a → ∃ b, m[i]? = some b ∧ F a b
  | _, _, 0, b, .cons h _, e => by
    simp only [List.getElem?_cons_zero, Option.some.injEq] at e
    subst e
    exact ⟨_, rfl, h⟩
  | _, _, i + 1, b, .cons _ r, e => by
    simp only [List.getElem?_cons_succ] at e
    obtain ⟨a, h1, h2⟩ := Paired.getL r e
    exact ⟨a, by simpa using h1, h2⟩
  | _, _, _, _, .nil, e => by simp at e
theorem Paired.setP {α β : Type} {F : α → β → Prop} {a : α} {b : β} (r : F a b) : ∀ {l : List α} {m : List β} (i : Nat), Paired F l m → Paired F (l.set i a) (m.set i b)
  | _, _, _, .nil => .nil
  | _, _, 0, .cons _ t => .cons r t
  | _, _, i + 1, .cons q t => .cons q (Paired.setP r i t)
theorem Paired.len {α β : Type} {F : α → β → Prop} : ∀ {l : List α} {m : List β}, Paired F l m → l.length = m.length
  | _, _, .nil => rfl
  | _, _, .cons _ t => congrArg (· + 1) (Paired.len t)
/-- a slot gets something that is no list of one's own -/
theorem EnvR.set {c : Ctx} {I H : Hp} {σ : Sl} {ρ : List Ent} (h : EnvR c I H σ ρ) (i : Nat) {o : Option V} {e : Ent} (r : EntR c I H o e) (ne : ∀ ds, e ≠ .own ds) : EnvR c I H (σ.set i o) (ρ.set i e) := by
  refine ⟨Paired.setP r i h.st, fun j k p ds es h1 h2 h3 h4 => ?_⟩
  have nj : j ≠ i := fun z => by
    subst z
    rw [List.getElem?_set] at h1
    simp only [if_true] at h1
    split at h1
    · exact ne _ (Option.some.inj h1)
    · cases h1
  have nk : k ≠ i := fun z => by
    subst z
    rw [List.getElem?_set] at h2
    simp only [if_true] at h2
    split at h2
    · exact ne _ (Option.some.inj h2)
    · cases h2
  rw [List.getElem?_set_ne (Ne.symm nj)] at h1 h3
  rw [List.getElem?_set_ne (Ne.symm nk)] at h2 h4
  exact h.ap j k p ds es h1 h2 h3 h4
/-- an expression goes on: the world stays one -/
theorem Wd.bgN {c : Ctx} {I H : Hp} {n m : Nat} (w : Wd c I H n) (e : n ≤ m) : Wd c I H m :=
  ⟨w.ih, w.i0, w.h0, w.nw, fun p q => let ⟨a, b, z⟩ := w.bg p q; ⟨a, b, z.mono e⟩⟩
theorem Wd.noI {c : Ctx} {I H : Hp} {n : Nat} (w : Wd c I H n) {p : Addr} (h : H p = none) : I p = none := w.ih.free h

/-! ### judgements over data -/
def Ev (c : Ctx) (t : TE) (ρ : List Ent) (C : Nat) (P : PyData → Prop) : Prop :=
  ∀ (σ : Sl) (I H : Hp) (n : Nat) (Q : VK), Wd c I H n → EnvR c I H σ ρ → n + C ≤ NMAX →
    (∀ v d I2 H2, Gx c.b I H I2 H2 → Wd c I2 H2 (n + C) → Rp c.K I2 v d → P d → Q v H2) → t σ H Q
def Et (c : Ctx) (t : TT) (ρ : List Ent) (C : Nat) (P : Bool → Prop) : Prop :=
  ∀ (σ : Sl) (I H : Hp) (n : Nat) (Q : Bool → Hp → Prop), Wd c I H n → EnvR c I H σ ρ → n + C ≤ NMAX →
    (∀ k I2 H2, Gx c.b I H I2 H2 → Wd c I2 H2 (n + C) → P k → Q k H2) → t σ H Q
def ArgR (K : PySem.W.Frag) (b : Option Addr) (I : Hp) : V → Ent → Prop
  | v, .dat d => Rp K I v d
  | v, .bag => ∃ p, v = .ref p ∧ b = some p
  | v, .scr ns => ∃ a, v = .ref a ∧ SqL K I a (ns.map V.int)
  | v, .raw u => v = u
  | _, _ => False
def Ea (c : Ctx) (t : TA) (ρ : List Ent) (C : Nat) (P : List Ent → Prop) : Prop :=
  ∀ (σ : Sl) (I H : Hp) (n : Nat) (Q : List V → Hp → Prop), Wd c I H n → EnvR c I H σ ρ → n + C ≤ NMAX →
    (∀ vs es I2 H2, Gx c.b I H I2 H2 → Wd c I2 H2 (n + C) → Paired (ArgR c.K c.b I2) vs es → P es → Q vs H2) → t σ H Q
/-- deterministic, no draw -/
abbrev Pv (c : Ctx) (t : TE) (ρ : List Ent) (d : PyData) : Prop := Ev c t ρ 0 (fun x => x = d)
abbrev Pt (c : Ctx) (t : TT) (ρ : List Ent) (b : Bool) : Prop := Et c t ρ 0 (fun x => x = b)
abbrev Pa (c : Ctx) (t : TA) (ρ : List Ent) (es : List Ent) : Prop := Ea c t ρ 0 (fun x => x = es)
theorem Ev.imp {c : Ctx} {t : TE} {ρ : List Ent} {C C' : Nat} {P P' : PyData → Prop} (h : Ev c t ρ C P) (hC : C ≤ C') (hP : ∀ d, P d → P' d) : Ev c t ρ C' P' :=
  fun σ I H n Q w e l k => h σ I H n Q w e (by omega) fun v d I2 H2 g w2 r p => k v d I2 H2 g (w2.bgN (by omega)) r (hP d p)
theorem Et.imp {c : Ctx} {t : TT} {ρ : List Ent} {C C' : Nat} {P P' : Bool → Prop} (h : Et c t ρ C P) (hC : C ≤ C') (hP : ∀ d, P d → P' d) : Et c t ρ C' P' :=
  fun σ I H n Q w e l k => h σ I H n Q w e (by omega) fun v I2 H2 g w2 p => k v I2 H2 g (w2.bgN (by omega)) (hP v p)
theorem Ea.imp {c : Ctx} {t : TA} {ρ : List Ent} {C C' : Nat} {P P' : List Ent → Prop} (h : Ea c t ρ C P) (hC : C ≤ C') (hP : ∀ d, P d → P' d) : Ea c t ρ C' P' :=
  fun σ I H n Q w e l k => h σ I H n Q w e (by omega) fun v d I2 H2 g w2 r p => k v d I2 H2 g (w2.bgN (by omega)) r (hP d p)
end Hh

set_option Elab.async false
set_option linter.all false
set_option maxRecDepth 100000
set_option maxHeartbeats 1000000
namespace Hh
set_option autoImplicit false
open PySem PySem.Spec PyProof.Rows L2
section
variable {c : Ctx} {ρ : List Ent} {ta tb te : TE} {C C1 C2 : Nat} {P P1 : PyData → Prop} {P2 : PyData → PyData → Prop}

/-! ### names, constants -/
theorem ev_var {i : Nat} {d : PyData} (h : ρ[i]? = some (.dat d)) : Pv c (tVar i) ρ d := fun σ I H n Q w e l k => by
  obtain ⟨o, h1, h2⟩ := Paired.getP e.st h
  cases o with
  | none => exact h2.elim
  | some v => exact ⟨v, h1, k v d I H Gx.refl w h2 rfl⟩
theorem ev_int {i : Int} : Pv c (tC (.int i)) ρ (.int i) := fun σ I H n Q w e l k => k _ _ I H Gx.refl w (.int i) rfl
theorem ev_str {i : Str} : Pv c (tC (.str i)) ρ (.str i) := fun σ I H n Q w e l k => k _ _ I H Gx.refl w (.str i) rfl
theorem ev_bl {i : Bool} : Pv c (tC (.bl i)) ρ (.bool i) := fun σ I H n Q w e l k => k _ _ I H Gx.refl w (.bl i) rfl
theorem ev_non : Pv c (tC .non) ρ .none := fun σ I H n Q w e l k => k _ _ I H Gx.refl w .non rfl
/-- a constant of the written part -/
theorem ev_kc {v : V} {d : PyData} (h : ∀ I, Rp c.K I v d) : Pv c (tC v) ρ d := fun σ I H n Q w e l k => k _ _ I H Gx.refl w (h I) rfl

/-! ### a two-place operation -/
def Rd2 (c : Ctx) (r : R2) (d1 d2 : PyData) (P : PyData → Prop) : Prop := ∀ (I H : Hp) (n : Nat) (x y : V) (Q : VK), Wd c I H n → Rp c.K I x d1 → Rp c.K I y d2 →
  (∀ v d I2 H2, Gx c.b I H I2 H2 → Wd c I2 H2 n → Rp c.K I2 v d → P d → Q v H2) → r x y H Q
theorem ev_op {r : R2} (ha : Ev c ta ρ C1 P1) (hb : ∀ d, P1 d → Ev c tb ρ C2 (P2 d)) (hr : ∀ d1 d2, P1 d1 → P2 d1 d2 → Rd2 c r d1 d2 P) (hC : C1 + C2 ≤ C) : Ev c (tOp r ta tb) ρ C P := fun σ I H n Q w e l k => by
  refine ha σ I H n _ w e (by omega) fun v d I2 H2 g2 w2 r2 p2 => ?_
  refine hb d p2 σ I2 H2 (n + C1) _ w2 (e.go g2) (by omega) fun v3 d3 I3 H3 g3 w3 r3 p3 => ?_
  exact hr d d3 p2 p3 I3 H3 _ v v3 Q w3 (r2.mono g3.ii) r3 fun v4 d4 I4 H4 g4 w4 r4 p4 => k v4 d4 I4 H4 ((g2.trans g3).trans g4) (w4.bgN (by omega)) r4 p4
theorem pv_op {r : R2} {d1 d2 d : PyData} (ha : Pv c ta ρ d1) (hb : Pv c tb ρ d2) (hr : Rd2 c r d1 d2 (fun x => x = d)) : Pv c (tOp r ta tb) ρ d :=
  ev_op ha (P2 := fun _ x => x = d2) (fun _ _ => hb) (fun _ _ e1 e2 => by subst e1; subst e2; exact hr) (Nat.le_refl _)
/-- scalars in, a scalar out -/
theorem rd_sc {r : R2} {d1 d2 d : PyData} {x y z : V} (h : ∀ (H : Hp) (Q : VK), Q z H → r x y H Q) (hx : ∀ I v, Rp c.K I v d1 → v = x) (hy : ∀ I v, Rp c.K I v d2 → v = y) (hz : ∀ I, Rp c.K I z d) : Rd2 c r d1 d2 (fun x => x = d) :=
  fun I H n u v Q w r1 r2 k => by
    rw [hx I u r1, hy I v r2]
    exact h H Q (k z d I H Gx.refl w (hz I) rfl)
theorem rd_ii {g : Int → Int → Int} {i j : Int} : Rd2 c (rI0 fun i j => .int (g i j)) (.int i) (.int j) (fun x => x = .int (g i j)) :=
  rd_sc (x := .int i) (y := .int j) (fun H Q q => ⟨i, j, rfl, rfl, q⟩) (fun _ _ h => h.int_inv) (fun _ _ h => h.int_inv) fun _ => .int _
theorem rd_iiC {g : Int → Int → Int} {D : Int → Int → Prop} {i j : Int} (hD : D i j) : Rd2 c (rI D fun i j => .int (g i j)) (.int i) (.int j) (fun x => x = .int (g i j)) :=
  rd_sc (x := .int i) (y := .int j) (fun H Q q => ⟨i, j, rfl, rfl, hD, q⟩) (fun _ _ h => h.int_inv) (fun _ _ h => h.int_inv) fun _ => .int _
theorem rd_ib {g : Int → Int → Bool} {i j : Int} : Rd2 c (rI0 fun i j => .bl (g i j)) (.int i) (.int j) (fun x => x = .bool (g i j)) :=
  rd_sc (x := .int i) (y := .int j) (fun H Q q => ⟨i, j, rfl, rfl, q⟩) (fun _ _ h => h.int_inv) (fun _ _ h => h.int_inv) fun _ => .bl _
theorem pv_ii {g : Int → Int → Int} {i j : Int} (ha : Pv c ta ρ (.int i)) (hb : Pv c tb ρ (.int j)) : Pv c (tOp (rI0 fun i j => .int (g i j)) ta tb) ρ (.int (g i j)) := pv_op ha hb rd_ii
theorem pv_iiC {g : Int → Int → Int} {D : Int → Int → Prop} {i j : Int} (ha : Pv c ta ρ (.int i)) (hb : Pv c tb ρ (.int j)) (hD : D i j) : Pv c (tOp (rI D fun i j => .int (g i j)) ta tb) ρ (.int (g i j)) := pv_op ha hb (rd_iiC hD)
theorem pv_ib {g : Int → Int → Bool} {i j : Int} (ha : Pv c ta ρ (.int i)) (hb : Pv c tb ρ (.int j)) : Pv c (tOp (rI0 fun i j => .bl (g i j)) ta tb) ρ (.bool (g i j)) := pv_op ha hb rd_ib

/-! ### == over data without dicts -/
mutual
def noDic : PyData → Bool
  | .dict _ => false
  | .list ds => noDics ds
  | .tuple ds => noDics ds
  | _ => true
def noDics : List PyData → Bool
  | [] => true
  | d :: ds => noDic d && noDics ds
end
mutual
theorem Rp.dp {K : PySem.W.Frag} {I : Hp} : ∀ {d : PyData} {v : V}, noDic d = true → Rp K I v d → Dp K I v d
  | .none, _, _, .non => .non
  | .bool _, _, _, .bl b => .bl b
  | .int _, _, _, .int i => .int i
  | .str _, _, _, .str x => .str x
  | .list _, _, e, .lst h r => .lst (.inl (.inl h)) (RpAll.dp (by simpa [noDic] using e) r)
  | .tuple _, _, e, .tup h r => .tup h (RpAll.dp (by simpa [noDic] using e) r)
  | .dict _, _, e, _ => by simp [noDic] at e
theorem RpAll.dp {K : PySem.W.Frag} {I : Hp} : ∀ {ds : List PyData} {vs : List V}, noDics ds = true → RpAll K I vs ds → DpAll K I vs ds
  | [], _, _, .nil => .nil
  | d :: ds, _, e, .cons h r => by
    simp only [noDics, Bool.and_eq_true] at e
    exact .cons (Rp.dp e.1 h) (RpAll.dp e.2 r)
end
/-- == of data, or of scalars as they are -/
def rEqX (K : PySem.W.Frag) : R2 := fun x y H Q => rEqD K x y H Q ∨ rEq x y H Q
def rNeX (K : PySem.W.Frag) : R2 := fun x y H Q => rNeD K x y H Q ∨ rNe x y H Q
def okD (d : PyData) : Bool := noDic d && SeqAt.shaped d
theorem rd_eq {d1 d2 : PyData} (h1 : okD d1 = true) (h2 : okD d2 = true) : Rd2 c (rEqX c.K) d1 d2 (fun x => x = .bool (PyData.eqv d1 d2)) := fun I H n x y Q w r1 r2 k => by
  unfold okD at h1 h2
  rw [Bool.and_eq_true] at h1 h2
  exact .inl ⟨d1, d2, (r1.mono w.ih).dp h1.1, (r2.mono w.ih).dp h2.1, h1.2, h2.2, k _ _ I H Gx.refl w (.bl _) rfl⟩
theorem rd_ne {d1 d2 : PyData} (h1 : okD d1 = true) (h2 : okD d2 = true) : Rd2 c (rNeX c.K) d1 d2 (fun x => x = .bool (!PyData.eqv d1 d2)) := fun I H n x y Q w r1 r2 k => by
  unfold okD at h1 h2
  rw [Bool.and_eq_true] at h1 h2
  exact .inl ⟨d1, d2, (r1.mono w.ih).dp h1.1, (r2.mono w.ih).dp h2.1, h1.2, h2.2, k _ _ I H Gx.refl w (.bl _) rfl⟩
theorem pv_eq {d1 d2 : PyData} (ha : Pv c ta ρ d1) (hb : Pv c tb ρ d2) (h1 : okD d1 = true) (h2 : okD d2 = true) : Pv c (tOp (rEqX c.K) ta tb) ρ (.bool (PyData.eqv d1 d2)) := pv_op ha hb (rd_eq h1 h2)
theorem pv_ne {d1 d2 : PyData} (ha : Pv c ta ρ d1) (hb : Pv c tb ρ d2) (h1 : okD d1 = true) (h2 : okD d2 = true) : Pv c (tOp (rNeX c.K) ta tb) ρ (.bool (!PyData.eqv d1 d2)) := pv_op ha hb (rd_ne h1 h2)

theorem pv_eqS {x y : Str} (ha : Pv c ta ρ (.str x)) (hb : Pv c tb ρ (.str y)) : Pv c (tOp (rEqX c.K) ta tb) ρ (.bool (decide (x = y))) := pv_op ha hb fun I H n u v Q w r1 r2 k => by
  obtain rfl := r1.str_inv
  obtain rfl := r2.str_inv
  refine .inr ⟨rfl, ?_⟩
  rw [show decide (V.str x = V.str y) = decide (x = y) by by_cases h : x = y <;> simp [h]]
  exact k _ _ I H Gx.refl w (.bl _) rfl
theorem pv_neS {x y : Str} (ha : Pv c ta ρ (.str x)) (hb : Pv c tb ρ (.str y)) : Pv c (tOp (rNeX c.K) ta tb) ρ (.bool (!decide (x = y))) := pv_op ha hb fun I H n u v Q w r1 r2 k => by
  obtain rfl := r1.str_inv
  obtain rfl := r2.str_inv
  refine .inr ⟨rfl, ?_⟩
  rw [show decide (V.str x = V.str y) = decide (x = y) by by_cases h : x = y <;> simp [h]]
  exact k _ _ I H Gx.refl w (.bl _) rfl
/-! ### is None -/
def isNo : PyData → Bool
  | .none => true
  | _ => false
theorem Rp.isNo {K : PySem.W.Frag} {I : Hp} {v : V} {d : PyData} (r : Rp K I v d) : decide (v = V.non) = isNo d := by
  cases r <;> simp [Hh.isNo]
theorem pv_isN {d : PyData} (ha : Pv c ta ρ d) : Pv c (tIsN ta) ρ (.bool (isNo d)) := fun σ I H n Q w e l k => by
  refine ha σ I H n _ w e l fun v d' I2 H2 g2 w2 r2 p2 => ?_
  subst p2
  rw [r2.isNo]
  exact k _ _ I2 H2 g2 w2 (.bl _) rfl
theorem pv_notN {d : PyData} (ha : Pv c ta ρ d) : Pv c (tNotN ta) ρ (.bool (!isNo d)) := fun σ I H n Q w e l k => by
  refine ha σ I H n _ w e l fun v d' I2 H2 g2 w2 r2 p2 => ?_
  subst p2
  rw [r2.isNo]
  exact k _ _ I2 H2 g2 w2 (.bl _) rfl

/-! ### and, or, not; tests -/
theorem pv_and {a b : Bool} (ha : Pv c ta ρ (.bool a)) (hb : a = true → Pv c tb ρ (.bool b)) : Pv c (tAndV ta tb) ρ (.bool (a && b)) := fun σ I H n Q w e l k => by
  refine ha σ I H n _ w e l fun v d I2 H2 g2 w2 r2 p2 => ?_
  subst p2
  refine ⟨a, r2.bl_inv, ?_⟩
  cases a with
  | true =>
    rw [if_pos rfl]
    exact hb rfl σ I2 H2 n _ w2 (e.go g2) l fun v d I3 H3 g3 w3 r3 p3 => k v d I3 H3 (g2.trans g3) w3 r3 (by rw [p3]; rfl)
  | false =>
    rw [if_neg Bool.false_ne_true]
    exact k _ _ I2 H2 g2 w2 (.bl _) rfl
theorem pv_or {a b : Bool} (ha : Pv c ta ρ (.bool a)) (hb : a = false → Pv c tb ρ (.bool b)) : Pv c (tOrV ta tb) ρ (.bool (a || b)) := fun σ I H n Q w e l k => by
  refine ha σ I H n _ w e l fun v d I2 H2 g2 w2 r2 p2 => ?_
  subst p2
  refine ⟨a, r2.bl_inv, ?_⟩
  cases a with
  | false =>
    rw [if_neg Bool.false_ne_true]
    exact hb rfl σ I2 H2 n _ w2 (e.go g2) l fun v d I3 H3 g3 w3 r3 p3 => k v d I3 H3 (g2.trans g3) w3 r3 (by rw [p3]; rfl)
  | true =>
    rw [if_pos rfl]
    exact k _ _ I2 H2 g2 w2 (.bl _) rfl
theorem pv_not {a : Bool} (ha : Pv c ta ρ (.bool a)) : Pv c (tNotV ta) ρ (.bool (!a)) := fun σ I H n Q w e l k =>
  ha σ I H n _ w e l fun v d I2 H2 g2 w2 r2 p2 => by
    subst p2
    exact ⟨a, r2.bl_inv, k _ _ I2 H2 g2 w2 (.bl _) rfl⟩
variable {tt tu : TT}
theorem pt_and {a b : Bool} (ha : Pt c tt ρ a) (hb : a = true → Pt c tu ρ b) : Pt c (tAnd tt tu) ρ (a && b) := fun σ I H n Q w e l k => by
  refine ha σ I H n _ w e l fun v I2 H2 g2 w2 p2 => ?_
  subst p2
  cases v with
  | true =>
    rw [if_pos rfl]
    exact hb rfl σ I2 H2 n _ w2 (e.go g2) l fun v I3 H3 g3 w3 p3 => k v I3 H3 (g2.trans g3) w3 (by rw [p3]; rfl)
  | false =>
    rw [if_neg Bool.false_ne_true]
    exact k _ I2 H2 g2 w2 rfl
theorem pt_or {a b : Bool} (ha : Pt c tt ρ a) (hb : a = false → Pt c tu ρ b) : Pt c (tOr tt tu) ρ (a || b) := fun σ I H n Q w e l k => by
  refine ha σ I H n _ w e l fun v I2 H2 g2 w2 p2 => ?_
  subst p2
  cases v with
  | false =>
    rw [if_neg Bool.false_ne_true]
    exact hb rfl σ I2 H2 n _ w2 (e.go g2) l fun v I3 H3 g3 w3 p3 => k v I3 H3 (g2.trans g3) w3 (by rw [p3]; rfl)
  | true =>
    rw [if_pos rfl]
    exact k _ I2 H2 g2 w2 rfl
theorem pt_notD {a : Bool} (ha : Pt c tt ρ a) : Pt c (tNot tt) ρ (!a) := fun σ I H n Q w e l k =>
  ha σ I H n _ w e l fun v I2 H2 g2 w2 p2 => by
    subst p2
    exact k _ I2 H2 g2 w2 rfl
theorem pt_B {a : Bool} (ha : Pv c te ρ (.bool a)) : Pt c (tB te) ρ a := fun σ I H n Q w e l k =>
  ha σ I H n _ w e l fun v d I2 H2 g2 w2 r2 p2 => by
    subst p2
    exact ⟨a, r2.bl_inv, k _ I2 H2 g2 w2 rfl⟩
theorem pt_T {a : Bool} (ha : Pv c te ρ (.bool a)) : Pt c (tTest te) ρ a := pt_B ha
theorem pv_if {a : Bool} {d1 d2 : PyData} (hc : Pt c tt ρ a) (h1 : a = true → Pv c ta ρ d1) (h2 : a = false → Pv c tb ρ d2) : Pv c (tIf tt ta tb) ρ (if a then d1 else d2) := fun σ I H n Q w e l k => by
  refine hc σ I H n _ w e l fun v I2 H2 g2 w2 p2 => ?_
  subst p2
  cases v with
  | true =>
    rw [if_pos rfl]
    exact h1 rfl σ I2 H2 n _ w2 (e.go g2) l fun v d I3 H3 g3 w3 r3 p3 => k v d I3 H3 (g2.trans g3) w3 r3 (by rw [p3]; rfl)
  | false =>
    rw [if_neg Bool.false_ne_true]
    exact h2 rfl σ I2 H2 n _ w2 (e.go g2) l fun v d I3 H3 g3 w3 r3 p3 => k v d I3 H3 (g2.trans g3) w3 r3 (by rw [p3]; rfl)
/-- a chain a < b < c over ints -/
theorem pv_chain {g g' : Int → Int → Bool} {tc : TE} {i j k : Int} (ha : Pv c ta ρ (.int i)) (hb : Pv c tb ρ (.int j)) (hc : g i j = true → Pv c tc ρ (.int k)) :
    Pv c (tChain (rI0 fun i j => .bl (g i j)) (rI0 fun i j => .bl (g' i j)) ta tb tc) ρ (.bool (g i j && g' j k)) := fun σ I H n Q w e l kk => by
  refine ha σ I H n _ w e l fun v d I2 H2 g2 w2 r2 p2 => ?_
  subst p2
  refine hb σ I2 H2 n _ w2 (e.go g2) l fun v3 d3 I3 H3 g3 w3 r3 p3 => ?_
  subst p3
  refine ⟨i, j, r2.int_inv, r3.int_inv, g i j, rfl, ?_⟩
  cases hg : g i j with
  | true =>
    rw [if_pos rfl]
    refine hc hg σ I3 H3 n _ w3 (e.go (g2.trans g3)) l fun v4 d4 I4 H4 g4 w4 r4 p4 => ?_
    subst p4
    exact ⟨j, k, r3.int_inv, r4.int_inv, kk _ _ I4 H4 ((g2.trans g3).trans g4) w4 (.bl _) (by rw [hg]; rfl)⟩
  | false =>
    rw [if_neg Bool.false_ne_true]
    exact kk _ _ I3 H3 (g2.trans g3) w3 (.bl _) (by rw [hg]; rfl)

/-! ### arguments, displays, calls -/
variable {tr : TA}
theorem ea_nil : Pa c tNil ρ [] := fun σ I H n Q w e l k => k [] [] I H Gx.refl w .nil rfl
theorem ArgR.mono {K : PySem.W.Frag} {b : Option Addr} {I J : Hp} (e : Same I J) : ∀ {v : V} {x : Ent}, ArgR K b I v x → ArgR K b J v x
  | _, .dat _, h => Rp.mono e h
  | _, .bag, h => h
  | _, .raw _, h => h
  | _, .scr _, h => by obtain ⟨a, e1, q⟩ := h; exact ⟨a, e1, e.seq q⟩
  | _, .any, h => h.elim
  | _, .own _, h => h.elim
theorem ea_cons {P1 : PyData → Prop} {P2 : PyData → List Ent → Prop} {P : List Ent → Prop} (ha : Ev c ta ρ C1 P1) (hr : ∀ d, P1 d → Ea c tr ρ C2 (P2 d)) (hP : ∀ d es, P1 d → P2 d es → P (.dat d :: es)) (hC : C1 + C2 ≤ C) : Ea c (tCons ta tr) ρ C P := fun σ I H n Q w e l k => by
  refine ha σ I H n _ w e (by omega) fun v d I2 H2 g2 w2 r2 p2 => ?_
  refine hr d p2 σ I2 H2 (n + C1) _ w2 (e.go g2) (by omega) fun vs es I3 H3 g3 w3 r3 p3 => ?_
  exact k (v :: vs) (.dat d :: es) I3 H3 (g2.trans g3) (w3.bgN (by omega)) (.cons (show Rp c.K I3 v d from r2.mono g3.ii) r3) (hP _ _ p2 p3)
theorem pa_consD {d : PyData} {es : List Ent} (ha : Pv c ta ρ d) (hr : Pa c tr ρ es) : Pa c (tCons ta tr) ρ (.dat d :: es) :=
  ea_cons ha (P2 := fun _ x => x = es) (fun _ _ => hr) (fun _ _ e1 e2 => by subst e1; subst e2; rfl) (Nat.le_refl _)
theorem pa_bag {i : Nat} {es : List Ent} (h : ρ[i]? = some .bag) (hr : Pa c tr ρ es) : Pa c (tCons (tVar i) tr) ρ (.bag :: es) := fun σ I H n Q w e l k => by
  obtain ⟨o, h1, h2⟩ := Paired.getP e.st h
  cases o with
  | none => exact h2.elim
  | some v =>
    refine ⟨v, h1, hr σ I H n _ w e l fun vs es' I3 H3 g3 w3 r3 p3 => ?_⟩
    subst p3
    exact k (v :: vs) (.bag :: es') I3 H3 g3 w3 (.cons h2 r3) rfl
theorem pa_scr {i : Nat} {ns : List Int} {es : List Ent} (h : ρ[i]? = some (.scr ns)) (hr : Pa c tr ρ es) : Pa c (tCons (tVar i) tr) ρ (.scr ns :: es) := fun σ I H n Q w e l k => by
  obtain ⟨o, h1, h2⟩ := Paired.getP e.st h
  cases o with
  | none => exact h2.elim
  | some v =>
    refine ⟨v, h1, hr σ I H n _ w e l fun vs es' I3 H3 g3 w3 r3 p3 => ?_⟩
    subst p3
    obtain ⟨a, e1, q⟩ := h2
    exact k (v :: vs) (.scr ns :: es') I3 H3 g3 w3 (.cons ⟨a, e1, g3.ii.seq q⟩ r3) rfl
/-- the bag ahead of other arguments that may draw -/
theorem ea_bag {i : Nat} {P2 : List Ent → Prop} {P : List Ent → Prop} (h : ρ[i]? = some .bag) (hr : Ea c tr ρ C P2) (hP : ∀ es, P2 es → P (.bag :: es)) : Ea c (tCons (tVar i) tr) ρ C P := fun σ I H n Q w e l k => by
  obtain ⟨o, h1, h2⟩ := Paired.getP e.st h
  cases o with
  | none => exact h2.elim
  | some v =>
    exact ⟨v, h1, hr σ I H n _ w e l fun vs es' I3 H3 g3 w3 r3 p3 => k (v :: vs) (.bag :: es') I3 H3 g3 w3 (.cons h2 r3) (hP _ p3)⟩
def dats : List PyData → List Ent := List.map .dat
theorem args_all {K : PySem.W.Frag} {b : Option Addr} {I : Hp} : ∀ {ds : List PyData} {vs : List V}, Paired (ArgR K b I) vs (dats ds) → RpAll K I vs ds
  | [], _, .nil => .nil
  | _ :: _, _, .cons h r => .cons h (args_all r)
/-- a new object -/
theorem new_go {b : Option Addr} {I H : Hp} {p : Addr} {o : HO} (ih : Same I H) (h : H p = none) : Gx b I H (upd I p o) (upd H p o) := by
  refine ⟨fun q x e => ?_, fun q x _ e => ?_, fun q e => ?_, fun q e => ?_⟩
  · rw [upd_ne (ne_of_none e (ih.free h))]; exact e
  · rw [upd_ne (ne_of_none e h)]; exact e
  · rw [upd_ne (fun z => e (by rw [z]; exact h))]
  · rw [upd_ne (fun z => e (by rw [z]; exact h))]; exact e
theorem Wd.go {I H I2 H2 : Hp} {n : Nat} (w : Wd c I H n) (g : Gx c.b I H I2 H2) (ih : Same I2 H2) (hb : ∀ p, c.b = some p → BagAt H2 p (n + C)) : Wd c I2 H2 (n + C) := by
  refine ⟨ih, w.i0.trans g.ii, fun q o ne e => g.hh q o ne (w.h0 q o ne e), fun q e => ?_, fun p e => ⟨(w.bg p e).1, (w.bg p e).2.1, hb p e⟩⟩
  have hq : H q ≠ none := by
    by_cases hb : c.b = some q
    · obtain ⟨_, _, _, _, _, h, _⟩ := w.bg q hb
      rw [h]; exact fun z => nomatch z
    · cases h : c.H0 q with
      | none => exact absurd h e
      | some o => rw [w.h0 q o (fun z => hb z.symm) h]; exact fun z => nomatch z
  rw [g.nw q hq]
  exact w.nw q e
theorem Wd.new {I H : Hp} {n : Nat} {p : Addr} {o : HO} (w : Wd c I H n) (h : H p = none) : Wd c (upd I p o) (upd H p o) n := by
  refine Wd.go (C := 0) w (new_go w.ih h) (fun q x e => ?_) fun q e => ?_
  · by_cases z : q = p
    · subst z; rw [upd_same] at e ⊢; exact e
    · rw [upd_ne z] at e ⊢; exact w.ih q x e
  · obtain ⟨_, _, x, y, z, hh, r⟩ := w.bg q e
    exact ⟨x, y, z, by rw [upd_ne (ne_of_none hh h)]; exact hh, r⟩
theorem ev_tup {Pe : List Ent → Prop} (ha : Ea c tr ρ C Pe) (hP : ∀ es, Pe es → ∃ ds, es = dats ds ∧ P (.tuple ds) ∧ ds.length ≤ 1000) : Ev c (tTup tr) ρ C P := fun σ I H n Q w e l k =>
  ha σ I H n _ w e l fun vs es I2 H2 g2 w2 r2 p2 => by
    obtain ⟨ds, rfl, hp, hl⟩ := hP es p2
    have r := args_all r2
    refine ⟨by rw [r.length]; exact Nat.le_of_lt (small1000 hl), fun p np => ?_⟩
    exact k _ _ (upd I2 p (.tup vs)) (upd H2 p (.tup vs)) (g2.trans (new_go w2.ih np)) (w2.new np) (.tup (.inl (.inl upd_same)) (r.mono (new_go (b := none) w2.ih np).ii)) hp
theorem ev_lst {Pe : List Ent → Prop} (ha : Ea c tr ρ C Pe) (hP : ∀ es, Pe es → ∃ ds, es = dats ds ∧ P (.list ds) ∧ ds.length ≤ 1000) : Ev c (tLst tr) ρ C P := fun σ I H n Q w e l k =>
  ha σ I H n _ w e l fun vs es I2 H2 g2 w2 r2 p2 => by
    obtain ⟨ds, rfl, hp, hl⟩ := hP es p2
    have r := args_all r2
    refine ⟨by rw [r.length]; exact Nat.le_of_lt (small1000 hl), fun p np => ?_⟩
    exact k _ _ (upd I2 p (.lst vs)) (upd H2 p (.lst vs)) (g2.trans (new_go w2.ih np)) (w2.new np) (.lst upd_same (r.mono (new_go (b := none) w2.ih np).ii)) hp
theorem pv_tup {ds : List PyData} (ha : Pa c tr ρ (dats ds)) (hl : ds.length ≤ 1000 := by first | decide | simp) : Pv c (tTup tr) ρ (.tuple ds) := ev_tup ha fun es e => ⟨ds, e, rfl, hl⟩
theorem pv_lst {ds : List PyData} (ha : Pa c tr ρ (dats ds)) (hl : ds.length ≤ 1000 := by first | decide | simp) : Pv c (tLst tr) ρ (.list ds) := ev_lst ha fun es e => ⟨ds, e, rfl, hl⟩

/-- a def's promise over data -/
def spD (K : PySem.W.Frag) (ar : Nat) (C : Nat) (pre : List Ent → Prop) (post : List Ent → PyData → Prop) : Sp := fun vs H Q _ => ∃ (b : Option Addr) (I : Hp) (n : Nat) (es : List Ent), vs.length = ar ∧ Paired (ArgR K b I) vs es ∧ Same I H ∧
  (∀ p, b = some p → I p = none ∧ BagAt H p n) ∧ n + C ≤ NMAX ∧ pre es ∧
  ∀ v d I2 H2, Gx b I H I2 H2 → Same I2 H2 → (∀ p, b = some p → BagAt H2 p (n + C)) → Rp K I2 v d → post es d → Q v H2
theorem Wd.noB {I H : Hp} {n : Nat} (w : Wd c I H n) {p : Addr} (e : c.b = some p) : I p = none := by
  obtain ⟨h1, h2, _⟩ := w.bg p e
  rw [w.nw p h2]
  exact h1
theorem ev_call {ar : Nat} {pre : List Ent → Prop} {post : List Ent → PyData → Prop} {Pe : List Ent → Prop} {E : XK} (ha : Ea c tr ρ C1 Pe) (hp : ∀ es, Pe es → es.length = ar ∧ pre es) (hP : ∀ es d, Pe es → post es d → P d) (hC : C1 + C2 ≤ C) :
    Ev c (tCall (spD c.K ar C2 pre post) [] E tr) ρ C P := fun σ I H n Q w e l k =>
  ha σ I H n _ w e (by omega) fun vs es I2 H2 g2 w2 r2 p2 => by
    rw [List.append_nil]
    obtain ⟨h1, h2⟩ := hp es p2
    refine ⟨c.b, I2, n + C1, es, by rw [Paired.len r2]; exact h1, r2, w2.ih, fun p e => ⟨w2.noB e, (w2.bg p e).2.2⟩, by omega, h2, fun v d I3 H3 g3 ih3 hb r3 p3 => ?_⟩
    exact k v d I3 H3 (g2.trans g3) ((w2.go g3 ih3 hb).bgN (by omega)) r3 (hP _ _ p2 p3)
theorem pv_call {ar : Nat} {pre : List Ent → Prop} {g : List Ent → PyData} {es : List Ent} {E : XK} (ha : Pa c tr ρ es) (hl : es.length = ar) (hp : pre es) :
    Pv c (tCall (spD c.K ar 0 pre (fun es d => d = g es)) [] E tr) ρ (g es) :=
  ev_call ha (fun _ e => by subst e; exact ⟨hl, hp⟩) (fun _ _ e q => by subst e; exact q) (Nat.le_refl _)
end
end Hh

set_option Elab.async false
set_option linter.all false
set_option maxRecDepth 100000
set_option maxHeartbeats 1000000
namespace Hh
set_option autoImplicit false
open PySem PySem.Spec PyProof.Rows L2
section
variable {c : Ctx} {ρ : List Ent} {ta tb te : TE} {tr : TA} {C C1 C2 : Nat} {P P1 : PyData → Prop} {P2 : PyData → PyData → Prop}

/-! ### built-ins -/
def RdA (c : Ctx) (r : List V → Hp → VK → Prop) (es : List Ent) (P : PyData → Prop) : Prop := ∀ (I H : Hp) (n : Nat) (vs : List V) (Q : VK), Wd c I H n → Paired (ArgR c.K c.b I) vs es →
  (∀ v d I2 H2, Gx c.b I H I2 H2 → Wd c I2 H2 n → Rp c.K I2 v d → P d → Q v H2) → r vs H Q
theorem ev_cb {r : List V → Hp → VK → Prop} {Pe : List Ent → Prop} (ha : Ea c tr ρ C Pe) (hr : ∀ es, Pe es → RdA c r es P) : Ev c (tCB r tr) ρ C P := fun σ I H n Q w e l k =>
  ha σ I H n _ w e l fun vs es I2 H2 g2 w2 r2 p2 => hr es p2 I2 H2 _ vs Q w2 r2 fun v d I3 H3 g3 w3 r3 p3 => k v d I3 H3 (g2.trans g3) w3 r3 p3
theorem pv_cb {r : List V → Hp → VK → Prop} {es : List Ent} {d : PyData} (ha : Pa c tr ρ es) (hr : RdA c r es (fun x => x = d)) : Pv c (tCB r tr) ρ d := ev_cb ha fun _ e => by subst e; exact hr
theorem pair1 {α β : Type} {F : α → β → Prop} {l : List α} {b : β} (h : Paired F l [b]) : ∃ a, l = [a] ∧ F a b := by
  cases h with
  | cons x r => cases r; exact ⟨_, rfl, x⟩
theorem pair2 {α β : Type} {F : α → β → Prop} {l : List α} {b b' : β} (h : Paired F l [b, b']) : ∃ a a', l = [a, a'] ∧ F a b ∧ F a' b' := by
  cases h with
  | cons x r => obtain ⟨a, rfl, y⟩ := pair1 r; exact ⟨_, _, rfl, x, y⟩
theorem rda_max {i j : Int} : RdA c (fun xs H Q => ∃ i j, xs = [.int i, .int j] ∧ Q (.int (if j > i then j else i)) H) [.dat (.int i), .dat (.int j)] (fun x => x = .int (if j > i then j else i)) := fun I H n vs Q w r k => by
  obtain ⟨x, y, rfl, h1, h2⟩ := pair2 r
  have e1 : x = .int i := Rp.int_inv h1
  have e2 : y = .int j := Rp.int_inv h2
  subst e1 e2
  exact ⟨i, j, rfl, k _ _ I H Gx.refl w (.int _) rfl⟩
theorem rda_min {i j : Int} : RdA c (fun xs H Q => ∃ i j, xs = [.int i, .int j] ∧ Q (.int (if j < i then j else i)) H) [.dat (.int i), .dat (.int j)] (fun x => x = .int (if j < i then j else i)) := fun I H n vs Q w r k => by
  obtain ⟨x, y, rfl, h1, h2⟩ := pair2 r
  have e1 : x = .int i := Rp.int_inv h1
  have e2 : y = .int j := Rp.int_inv h2
  subst e1 e2
  exact ⟨i, j, rfl, k _ _ I H Gx.refl w (.int _) rfl⟩
def lenD : PyData → Nat
  | .list ds => ds.length
  | .tuple ds => ds.length
  | .str x => x.length
  | _ => 0
theorem rda_lenL {ds : List PyData} : RdA c (fun xs H Q => ∃ x n, xs = [x] ∧ LenV c.K x H n ∧ Q (.int n) H) [.dat (.list ds)] (fun x => x = .int ds.length) := fun I H n vs Q w r k => by
  obtain ⟨x, rfl, h1⟩ := pair1 r
  obtain ⟨a, xs, rfl, hs, hr⟩ := Rp.lst_inv h1
  exact ⟨_, ds.length, rfl, .inl ⟨xs, (SqL.of (w.ih _ _ hs)), hr.length.symm⟩, k _ _ I H Gx.refl w (.int _) rfl⟩
theorem rda_lenK {ns : List Int} : RdA c (fun xs H Q => ∃ x n, xs = [x] ∧ LenV c.K x H n ∧ Q (.int n) H) [.scr ns] (fun x => x = .int ns.length) := fun I H n vs Q w r k => by
  obtain ⟨x, rfl, h1⟩ := pair1 r
  obtain ⟨a, rfl, hs⟩ := h1
  exact ⟨_, ns.length, rfl, .inl ⟨_, w.ih.seq hs, by rw [List.length_map]⟩, k _ _ I H Gx.refl w (.int _) rfl⟩
theorem rda_lenT {ds : List PyData} : RdA c (fun xs H Q => ∃ x n, xs = [x] ∧ LenV c.K x H n ∧ Q (.int n) H) [.dat (.tuple ds)] (fun x => x = .int ds.length) := fun I H n vs Q w r k => by
  obtain ⟨x, rfl, h1⟩ := pair1 r
  obtain ⟨a, xs, rfl, hs, hr⟩ := Rp.tup_inv h1
  exact ⟨_, ds.length, rfl, .inr ⟨xs, seqT_mono w.ih hs, hr.length.symm⟩, k _ _ I H Gx.refl w (.int _) rfl⟩
theorem rda_lenS {x : Str} (hx : x.length ≤ sizeLine) : RdA c (fun xs H Q => ∃ x n, xs = [x] ∧ LenV c.K x H n ∧ Q (.int n) H) [.dat (.str x)] (fun y => y = .int x.length) := fun I H n vs Q w r k => by
  obtain ⟨v, rfl, h1⟩ := pair1 r
  have e1 : v = .str x := Rp.str_inv h1
  subst e1
  exact ⟨_, x.length, rfl, ⟨hx, rfl⟩, k _ _ I H Gx.refl w (.int _) rfl⟩
theorem rda_all {bs : List Bool} : RdA c (rAll c.K) [.dat (.list (bs.map .bool))] (fun x => x = .bool (bs.all id)) := fun I H n vs Q w r k => by
  obtain ⟨x, rfl, h1⟩ := pair1 r
  obtain ⟨a, xs, rfl, hs, hr⟩ := Rp.lst_inv h1
  have e := hr.bls
  subst e
  exact ⟨a, bs, rfl, (SqL.of (w.ih _ _ hs)), k _ _ I H Gx.refl w (.bl _) rfl⟩
theorem rda_any {bs : List Bool} : RdA c (rAny c.K) [.dat (.list (bs.map .bool))] (fun x => x = .bool (bs.any id)) := fun I H n vs Q w r k => by
  obtain ⟨x, rfl, h1⟩ := pair1 r
  obtain ⟨a, xs, rfl, hs, hr⟩ := Rp.lst_inv h1
  have e := hr.bls
  subst e
  exact ⟨a, bs, rfl, (SqL.of (w.ih _ _ hs)), k _ _ I H Gx.refl w (.bl _) rfl⟩
theorem rda_tupL {ds : List PyData} : RdA c (fun xs H Q => ∃ p ys, xs = [.ref p] ∧ ((SqL c.K H p ys ∧ ∀ l, H l = none → Q (.ref l) (upd H l (.tup ys))) ∨ (SqT c.K H p ys ∧ Q (.ref p) H))) [.dat (.list ds)] (fun x => x = .tuple ds) := fun I H n vs Q w r k => by
  obtain ⟨x, rfl, h1⟩ := pair1 r
  obtain ⟨a, xs, rfl, hs, hr⟩ := Rp.lst_inv h1
  refine ⟨a, xs, rfl, .inl ⟨(SqL.of (w.ih _ _ hs)), fun p np => ?_⟩⟩
  exact k _ _ (upd I p (.tup xs)) (upd H p (.tup xs)) (new_go w.ih np) (w.new np) (.tup (.inl (.inl upd_same)) (hr.mono (new_go (b := none) w.ih np).ii)) rfl

/-! ### isinstance -/
def tyD : PyData → String
  | .none => "NoneType"
  | .bool _ => "bool"
  | .int _ => "int"
  | .str _ => "str"
  | .list _ => "list"
  | .tuple _ => "tuple"
  | .dict _ => "dict"
theorem Rp.ty {K : PySem.W.Frag} {I H : Hp} (ih : Same I H) {v : V} {d : PyData} (r : Rp K I v d) : TyX K H v (.type (tyD d)) := by
  cases r with
  | non => exact .base .non
  | bl b => exact .base (.bl b)
  | int i => exact .base (.int i)
  | str x => exact .base (.str x)
  | lst h _ => exact .base (.lst (ih _ _ h))
  | tup h _ =>
    rcases h with (h | ⟨o, h⟩) | ⟨o, _, _, h, hc, _⟩
    · exact .base (.tup (ih _ _ h))
    · exact .fTuple (ih _ _ h)
    · exact .kTuple h hc
  | dic h _ => exact .base (.dK (ih _ _ h))
def isIntD : PyData → Bool
  | .bool _ => true
  | .int _ => true
  | _ => false
def isBoolD : PyData → Bool
  | .bool _ => true
  | _ => false
def isStrD : PyData → Bool
  | .str _ => true
  | _ => false
def isListD : PyData → Bool
  | .list _ => true
  | _ => false
def isTupD : PyData → Bool
  | .tuple _ => true
  | _ => false
def isDicD : PyData → Bool
  | .dict _ => true
  | _ => false
theorem pv_isi {n : String} {d : PyData} {b : Bool} (ha : Pv c ta ρ d) (hn : kitB (tyD d) n = some b) : Pv c (tCB (rIsi c.K) (tCons ta (tCons (tC (.ty n)) tNil))) ρ (.bool b) := fun σ I H m Q w e l k =>
  ha σ I H m _ w e l fun v d' I2 H2 g2 w2 r2 p2 => by
    subst p2
    exact ⟨v, .ty n, .type (tyD d'), .type n, b, rfl, .ty n, r2.ty w2.ih, kit_ty hn, k _ _ I2 H2 g2 w2 (.bl _) rfl⟩
theorem kit_int : ∀ d : PyData, kitB (tyD d) "int" = some (isIntD d)
  | .none => (by decide +kernel : kitB "NoneType" "int" = some false)
  | .bool _ => (by decide +kernel : kitB "bool" "int" = some true)
  | .int _ => (by decide +kernel : kitB "int" "int" = some true)
  | .str _ => (by decide +kernel : kitB "str" "int" = some false)
  | .list _ => (by decide +kernel : kitB "list" "int" = some false)
  | .tuple _ => (by decide +kernel : kitB "tuple" "int" = some false)
  | .dict _ => (by decide +kernel : kitB "dict" "int" = some false)
theorem pv_is_int {d : PyData} (ha : Pv c ta ρ d) : Pv c (tCB (rIsi c.K) (tCons ta (tCons (tC (.ty "int")) tNil))) ρ (.bool (isIntD d)) := pv_isi ha (kit_int d)
theorem kit_bool : ∀ d : PyData, kitB (tyD d) "bool" = some (isBoolD d)
  | .none => (by decide +kernel : kitB "NoneType" "bool" = some false)
  | .bool _ => (by decide +kernel : kitB "bool" "bool" = some true)
  | .int _ => (by decide +kernel : kitB "int" "bool" = some false)
  | .str _ => (by decide +kernel : kitB "str" "bool" = some false)
  | .list _ => (by decide +kernel : kitB "list" "bool" = some false)
  | .tuple _ => (by decide +kernel : kitB "tuple" "bool" = some false)
  | .dict _ => (by decide +kernel : kitB "dict" "bool" = some false)
theorem pv_is_bool {d : PyData} (ha : Pv c ta ρ d) : Pv c (tCB (rIsi c.K) (tCons ta (tCons (tC (.ty "bool")) tNil))) ρ (.bool (isBoolD d)) := pv_isi ha (kit_bool d)
theorem kit_str : ∀ d : PyData, kitB (tyD d) "str" = some (isStrD d)
  | .none => (by decide +kernel : kitB "NoneType" "str" = some false)
  | .bool _ => (by decide +kernel : kitB "bool" "str" = some false)
  | .int _ => (by decide +kernel : kitB "int" "str" = some false)
  | .str _ => (by decide +kernel : kitB "str" "str" = some true)
  | .list _ => (by decide +kernel : kitB "list" "str" = some false)
  | .tuple _ => (by decide +kernel : kitB "tuple" "str" = some false)
  | .dict _ => (by decide +kernel : kitB "dict" "str" = some false)
theorem pv_is_str {d : PyData} (ha : Pv c ta ρ d) : Pv c (tCB (rIsi c.K) (tCons ta (tCons (tC (.ty "str")) tNil))) ρ (.bool (isStrD d)) := pv_isi ha (kit_str d)
theorem kit_list : ∀ d : PyData, kitB (tyD d) "list" = some (isListD d)
  | .none => (by decide +kernel : kitB "NoneType" "list" = some false)
  | .bool _ => (by decide +kernel : kitB "bool" "list" = some false)
  | .int _ => (by decide +kernel : kitB "int" "list" = some false)
  | .str _ => (by decide +kernel : kitB "str" "list" = some false)
  | .list _ => (by decide +kernel : kitB "list" "list" = some true)
  | .tuple _ => (by decide +kernel : kitB "tuple" "list" = some false)
  | .dict _ => (by decide +kernel : kitB "dict" "list" = some false)
theorem pv_is_list {d : PyData} (ha : Pv c ta ρ d) : Pv c (tCB (rIsi c.K) (tCons ta (tCons (tC (.ty "list")) tNil))) ρ (.bool (isListD d)) := pv_isi ha (kit_list d)
theorem kit_tuple : ∀ d : PyData, kitB (tyD d) "tuple" = some (isTupD d)
  | .none => (by decide +kernel : kitB "NoneType" "tuple" = some false)
  | .bool _ => (by decide +kernel : kitB "bool" "tuple" = some false)
  | .int _ => (by decide +kernel : kitB "int" "tuple" = some false)
  | .str _ => (by decide +kernel : kitB "str" "tuple" = some false)
  | .list _ => (by decide +kernel : kitB "list" "tuple" = some false)
  | .tuple _ => (by decide +kernel : kitB "tuple" "tuple" = some true)
  | .dict _ => (by decide +kernel : kitB "dict" "tuple" = some false)
theorem pv_is_tuple {d : PyData} (ha : Pv c ta ρ d) : Pv c (tCB (rIsi c.K) (tCons ta (tCons (tC (.ty "tuple")) tNil))) ρ (.bool (isTupD d)) := pv_isi ha (kit_tuple d)
theorem kit_dict : ∀ d : PyData, kitB (tyD d) "dict" = some (isDicD d)
  | .none => (by decide +kernel : kitB "NoneType" "dict" = some false)
  | .bool _ => (by decide +kernel : kitB "bool" "dict" = some false)
  | .int _ => (by decide +kernel : kitB "int" "dict" = some false)
  | .str _ => (by decide +kernel : kitB "str" "dict" = some false)
  | .list _ => (by decide +kernel : kitB "list" "dict" = some false)
  | .tuple _ => (by decide +kernel : kitB "tuple" "dict" = some false)
  | .dict _ => (by decide +kernel : kitB "dict" "dict" = some true)
theorem pv_is_dict {d : PyData} (ha : Pv c ta ρ d) : Pv c (tCB (rIsi c.K) (tCons ta (tCons (tC (.ty "dict")) tNil))) ρ (.bool (isDicD d)) := pv_isi ha (kit_dict d)

/-! ### an item -/
theorem at_rp {K : PySem.W.Frag} {I : Hp} {xs : List V} {ds : List PyData} {i : Int} {d : PyData} (r : RpAll K I xs ds) (h : atI ds i = some d) : ∃ v, atI xs i = some v ∧ Rp K I v d := by
  unfold atI at h ⊢
  rw [r.length]
  cases e : ixN ds.length i with
  | none => rw [e] at h; cases h
  | some j =>
    rw [e] at h
    exact r.get h
theorem rd_ixL {ds : List PyData} {i : Int} {d : PyData} (h : atI ds i = some d) : Rd2 c (rIxL c.K) (.list ds) (.int i) (fun x => x = d) := fun I H n x y Q w r1 r2 k => by
  obtain ⟨a, xs, rfl, hs, hr⟩ := r1.lst_inv
  obtain ⟨v, h1, h2⟩ := at_rp hr h
  exact ⟨a, xs, i, v, rfl, r2.int_inv, (SqL.of (w.ih _ _ hs)), h1, k v d I H Gx.refl w h2 rfl⟩
theorem rd_ixT {ds : List PyData} {i : Int} {d : PyData} (h : atI ds i = some d) : Rd2 c (rIxT c.K) (.tuple ds) (.int i) (fun x => x = d) := fun I H n x y Q w r1 r2 k => by
  obtain ⟨a, xs, rfl, hs, hr⟩ := r1.tup_inv
  obtain ⟨v, h1, h2⟩ := at_rp hr h
  exact ⟨a, xs, i, v, rfl, r2.int_inv, seqT_mono w.ih hs, h1, k v d I H Gx.refl w h2 rfl⟩
theorem rd_ixLs {ds : List PyData} {i : Int} {d : PyData} (h : atI ds i = some d) : Rd2 c (rIx c.K) (.list ds) (.int i) (fun x => x = d) := fun I H n x y Q w r1 r2 k => .inl (rd_ixL h I H n x y Q w r1 r2 k)
theorem rd_ixTs {ds : List PyData} {i : Int} {d : PyData} (h : atI ds i = some d) : Rd2 c (rIx c.K) (.tuple ds) (.int i) (fun x => x = d) := fun I H n x y Q w r1 r2 k => .inr (.inl (rd_ixT h I H n x y Q w r1 r2 k))
theorem pv_scr {i : Nat} {ns : List Int} {j : Nat} {x : Int} (h : ρ[i]? = some (.scr ns)) (hb : Pv c tb ρ (.int j)) (hj : ns[j]? = some x) : Pv c (tOp (rIx c.K) (tVar i) tb) ρ (.int x) := fun σ I H n Q w e l k => by
  obtain ⟨o, h1, h2⟩ := Paired.getP e.st h
  cases o with
  | none => exact h2.elim
  | some v =>
    obtain ⟨a, rfl, q⟩ := h2
    refine ⟨_, h1, hb σ I H n _ w e l fun v d I2 H2 g2 w2 r2 p2 => ?_⟩
    subst p2
    have hx : (ns.map V.int)[j]? = some (.int x) := by rw [List.getElem?_map, hj]; rfl
    exact .inl ⟨a, _, j, .int x, rfl, r2.int_inv, w2.ih.seq (g2.ii.seq q), atI_nat hx, k _ _ I2 H2 g2 w2 (.int _) rfl⟩
theorem atI_of {ds : List PyData} {i : Int} (h0 : 0 ≤ i) (h1 : i < ds.length) : ∃ d, atI ds i = some d ∧ d ∈ ds := by
  have hj : i.toNat < ds.length := by omega
  refine ⟨ds[i.toNat], ?_, List.getElem_mem hj⟩
  have := atI_nat (xs := ds) (j := i.toNat) (List.getElem?_eq_getElem hj)
  rwa [show ((i.toNat : Nat) : Int) = i by omega] at this
/-- one of a list, at a drawn place -/
theorem ev_pick {m : Nat} (ha : Ev c ta ρ C1 (fun d => ∃ ds, d = .list ds ∧ ds.length = m ∧ ∀ x ∈ ds, P x)) (hb : Ev c tb ρ C2 (fun d => ∃ i : Int, d = .int i ∧ 0 ≤ i ∧ i < m)) (hC : C1 + C2 ≤ C) : Ev c (tOp (rIx c.K) ta tb) ρ C P :=
  ev_op ha (P2 := fun _ d => ∃ i : Int, d = .int i ∧ 0 ≤ i ∧ i < m) (fun _ _ => hb) (fun d1 d2 p1 p2 => by
    obtain ⟨ds, rfl, hl, hP⟩ := p1
    obtain ⟨i, rfl, h0, h1⟩ := p2
    obtain ⟨d, hd, hm⟩ := atI_of (ds := ds) h0 (by omega)
    exact fun I H n x y Q w r1 r2 k => rd_ixLs hd I H n x y Q w r1 r2 fun v d' I2 H2 g2 w2 r2 p2 => k v d' I2 H2 g2 w2 r2 (by rw [p2]; exact hP d hm)) hC

/-! ### in -/
def flatD : PyData → Bool
  | .none => true
  | .bool _ => true
  | .int _ => true
  | .str _ => true
  | _ => false
theorem Rp.flat {K : PySem.W.Frag} {I : Hp} {v : V} {d : PyData} (r : Rp K I v d) (h : flatD d = true) : flatV v = true := by
  cases r <;> first | rfl | exact absurd h (by decide) | (simp [flatD] at h)
theorem eqV_eqv {K : PySem.W.Frag} {I : Hp} {v w : V} {d e : PyData} (r : Rp K I v d) (q : Rp K I w e) (h : flatD d = true) (h' : flatD e = true) : eqV v w = PyData.eqv d e := by
  cases r <;> first | (simp [flatD] at h; done) | (cases q <;> first | (simp [flatD] at h'; done) | (simp [eqV, PyData.eqv]))
theorem RpAll.flat {K : PySem.W.Frag} {I : Hp} : ∀ {ds : List PyData} {vs : List V}, RpAll K I vs ds → ds.all flatD = true → vs.all flatV = true
  | [], _, .nil, _ => rfl
  | d :: ds, _, .cons h r, e => by
    rw [List.all_cons, Bool.and_eq_true] at e
    rw [List.all_cons, h.flat e.1, RpAll.flat r e.2]
    rfl
theorem inV_any {K : PySem.W.Frag} {I : Hp} {w : V} {e : PyData} (q : Rp K I w e) (h' : flatD e = true) : ∀ {ds : List PyData} {vs : List V}, RpAll K I vs ds → ds.all flatD = true → inV w vs = ds.any fun y => PyData.eqv y e
  | [], _, .nil, _ => rfl
  | d :: ds, _, .cons h r, f => by
    rw [List.all_cons, Bool.and_eq_true] at f
    unfold inV
    rw [List.any_cons, List.any_cons, eqV_eqv h q f.1 h']
    have := inV_any q h' r f.2
    unfold inV at this
    rw [this]
def itemsD : PyData → Option (List PyData)
  | .list ds => some ds
  | .tuple ds => some ds
  | _ => none
theorem Rp.items {K : PySem.W.Frag} {I : Hp} {v : V} {d : PyData} {ds : List PyData} (r : Rp K I v d) (h : itemsD d = some ds) : ∃ a xs, v = .ref a ∧ (SqL K I a xs ∨ SqT K I a xs) ∧ RpAll K I xs ds := by
  cases r with
  | lst h1 h2 => cases h; exact ⟨_, _, rfl, .inl (SqL.of h1), h2⟩
  | tup h1 h2 => cases h; exact ⟨_, _, rfl, .inr h1, h2⟩
  | _ => cases h
theorem rd_in {neg : Bool} {d e : PyData} {ds : List PyData} (h : itemsD e = some ds) (hd : flatD d = true) (hs : ds.all flatD = true) : Rd2 c (rIn c.K neg) d e (fun x => x = .bool (if neg then !(ds.any fun y => PyData.eqv y d) else ds.any fun y => PyData.eqv y d)) := fun I H n x y Q w r1 r2 k => by
  obtain ⟨a, xs, rfl, hq, hr⟩ := r2.items h
  refine ⟨a, xs, rfl, hq.elim (fun z => .inl (w.ih.seq z)) (fun z => .inr (seqT_mono w.ih z)), r1.flat hd, hr.flat hs, ?_⟩
  rw [inV_any r1 hd hr hs]
  exact k _ _ I H Gx.refl w (.bl _) rfl

/-! ### slices -/
def cutD (xs : List PyData) (lo hi : Option Int) : List PyData := (xs.drop (HT.sIx xs.length 0 lo)).take (HT.sIx xs.length xs.length hi - HT.sIx xs.length 0 lo)
theorem cut_rp {K : PySem.W.Frag} {I : Hp} {xs : List V} {ds : List PyData} (r : RpAll K I xs ds) (lo hi : Option Int) : RpAll K I (cutV xs lo hi) (cutD ds lo hi) := by
  unfold cutV cutD
  rw [r.length]
  exact (r.drop _).take _
def Pp (c : Ctx) (t : TO) (ρ : List Ent) (o : Option Int) : Prop := ∀ (σ : Sl) (I H : Hp) (n : Nat) (Q : Option Int → Hp → Prop), Wd c I H n → EnvR c I H σ ρ → n ≤ NMAX →
    (∀ I2 H2, Gx c.b I H I2 H2 → Wd c I2 H2 n → Q o H2) → t σ H Q
theorem pp_no : Pp c tNoPart ρ none := fun σ I H n Q w e l k => k I H Gx.refl w
theorem pp_some {i : Int} (h : Pv c te ρ (.int i)) : Pp c (tPart te) ρ (some i) := fun σ I H n Q w e l k =>
  h σ I H n _ w e (by omega) fun v d I2 H2 g2 w2 r2 p2 => by
    subst p2
    exact ⟨i, r2.int_inv, k I2 H2 g2 w2⟩
theorem pv_slL {tl th : TO} {ds : List PyData} {lo hi : Option Int} (ha : Pv c te ρ (.list ds)) (hl : Pp c tl ρ lo) (hh : Pp c th ρ hi) : Pv c (tSl (rSlL c.K) te tl th) ρ (.list (cutD ds lo hi)) := fun σ I H n Q w e l k => by
  refine ha σ I H n _ w e l fun v d I2 H2 g2 w2 r2 p2 => ?_
  subst p2
  refine hl σ I2 H2 n _ w2 (e.go g2) (by omega) fun I3 H3 g3 w3 => hh σ I3 H3 n _ w3 (e.go (g2.trans g3)) (by omega) fun I4 H4 g4 w4 => ?_
  obtain ⟨a, xs, rfl, hs, hr⟩ := (r2.mono (g3.ii.trans g4.ii)).lst_inv
  refine ⟨a, xs, rfl, (SqL.of (w4.ih _ _ hs)), fun p np => ?_⟩
  exact k _ _ _ _ (((g2.trans g3).trans g4).trans (new_go w4.ih np)) (w4.new np) (.lst upd_same ((cut_rp hr lo hi).mono (new_go (b := none) w4.ih np).ii)) rfl
theorem sIx_whole {α : Type} (xs : List α) (lo hi : Option Int) (h : HT.sIx xs.length 0 lo = 0 ∧ HT.sIx xs.length xs.length hi = xs.length) : (xs.drop (HT.sIx xs.length 0 lo)).take (HT.sIx xs.length xs.length hi - HT.sIx xs.length 0 lo) = xs := by
  rw [h.1, h.2]
  simp
theorem pv_slT {tl th : TO} {ds : List PyData} {lo hi : Option Int} (ha : Pv c te ρ (.tuple ds)) (hl : Pp c tl ρ lo) (hh : Pp c th ρ hi) : Pv c (tSl (rSlA c.K) te tl th) ρ (.tuple (cutD ds lo hi)) := fun σ I H n Q w e l k => by
  refine ha σ I H n _ w e l fun v d I2 H2 g2 w2 r2 p2 => ?_
  subst p2
  refine hl σ I2 H2 n _ w2 (e.go g2) (by omega) fun I3 H3 g3 w3 => hh σ I3 H3 n _ w3 (e.go (g2.trans g3)) (by omega) fun I4 H4 g4 w4 => ?_
  have rr := r2.mono (g3.ii.trans g4.ii)
  obtain ⟨a, xs, rfl, hs, hr⟩ := rr.tup_inv
  refine ⟨a, xs, rfl, seqT_mono w4.ih hs, fun hw => ?_, fun hw p np => ?_⟩
  · have e1 : cutD ds lo hi = ds := by
      unfold cutD
      exact sIx_whole ds lo hi (by rw [← hr.length]; exact hw)
    rw [e1] at k
    exact k _ _ _ _ ((g2.trans g3).trans g4) w4 rr rfl
  · exact k _ _ _ _ (((g2.trans g3).trans g4).trans (new_go w4.ih np)) (w4.new np) (.tup (.inl (.inl upd_same)) ((cut_rp hr lo hi).mono (new_go (b := none) w4.ih np).ii)) rfl
theorem rd_catL {ds es : List PyData} (h : ds.length + es.length ≤ 1000) : True := trivial
end
end Hh

set_option Elab.async false
set_option linter.all false
set_option maxRecDepth 100000
set_option maxHeartbeats 1000000
namespace Hh
set_option autoImplicit false
open PySem PySem.Spec PyProof.Rows L2
section
variable {c : Ctx} {ρ : List Ent} {ta tb te : TE} {tr : TA} {C C0 C1 C2 : Nat} {P P1 : PyData → Prop}

/-! ### wiped slots -/
theorem wipe_get (σ : Sl) (j : Nat) : ∀ vs : List Nat, (wipe σ vs)[j]? = if j ∈ vs then σ[j]?.map (fun _ => none) else σ[j]?
  | [] => by simp [wipe]
  | v :: vs => by
    unfold wipe
    by_cases e : j = v
    · subst e
      rw [if_pos List.mem_cons_self, List.getElem?_set_self', wipe_get σ j vs]
      split <;> cases σ[j]? <;> rfl
    · rw [List.getElem?_set_ne (Ne.symm e), wipe_get σ j vs]
      by_cases h : j ∈ vs
      · rw [if_pos h, if_pos (List.mem_cons_of_mem _ h)]
      · rw [if_neg h, if_neg (fun z => (List.mem_cons.mp z).elim e h)]
theorem wipe_set {σ : Sl} {i : Nat} {x : Option V} {vs : List Nat} (h : i ∈ vs) : wipe (σ.set i x) vs = wipe σ vs := by
  apply List.ext_getElem?
  intro j
  rw [wipe_get, wipe_get]
  by_cases e : j ∈ vs
  · rw [if_pos e, if_pos e]
    by_cases z : i = j
    · subst z
      rw [List.getElem?_set_self']
      cases σ[i]? <;> rfl
    · rw [List.getElem?_set_ne z]
  · rw [if_neg e, if_neg e, List.getElem?_set_ne (fun z : i = j => e (by rw [← z]; exact h))]
def wipeE (ρ : List Ent) : List Nat → List Ent
  | [] => ρ
  | v :: vs => (wipeE ρ vs).set v .any
theorem EnvR.wipe {I H : Hp} {σ : Sl} (h : EnvR c I H σ ρ) : ∀ vs : List Nat, EnvR c I H (L2.wipe σ vs) (wipeE ρ vs)
  | [] => h
  | v :: vs => by
    unfold L2.wipe wipeE
    exact (EnvR.wipe h vs).set v True.intro (fun _ z => nomatch z)

/-! ### targets -/
def Tg (c : Ctx) (g : TG) (tgs : List Nat) (d : PyData) (f : List Ent → List Ent) : Prop := ∀ (σ : Sl) (ρ : List Ent) (I H : Hp) (n : Nat) (x : V) (Q : L2.St → Hp → Prop), Wd c I H n → EnvR c I H σ ρ → Rp c.K I x d →
  (∀ σ2, EnvR c I H σ2 (f ρ) → (∀ vs, (∀ t ∈ tgs, t ∈ vs) → wipe σ2 vs = wipe σ vs) → Q σ2 H) → g x σ H Q
def TgL (c : Ctx) (g : TGs) (tgs : List Nat) (ds : List PyData) (f : List Ent → List Ent) : Prop := ∀ (σ : Sl) (ρ : List Ent) (I H : Hp) (n : Nat) (xs : List V) (Q : L2.St → Hp → Prop), Wd c I H n → EnvR c I H σ ρ → RpAll c.K I xs ds →
  (∀ σ2, EnvR c I H σ2 (f ρ) → (∀ vs, (∀ t ∈ tgs, t ∈ vs) → wipe σ2 vs = wipe σ vs) → Q σ2 H) → g xs σ H Q
theorem tg_name {i : Nat} {d : PyData} : Tg c (gName i) [i] d (fun ρ => ρ.set i (.dat d)) := fun σ ρ I H n x Q w e r k =>
  k _ (e.set i (show Rp c.K I x d from r) (fun _ z => nomatch z)) fun vs h => wipe_set (h i List.mem_cons_self)
theorem tgl_nil : TgL c gNil [] [] id := fun σ ρ I H n xs Q w e r k => by
  cases r
  exact ⟨rfl, k σ e fun _ _ => rfl⟩
theorem tgl_cons {g : TG} {gs : TGs} {t1 t2 : List Nat} {d : PyData} {ds : List PyData} {f1 f2 : List Ent → List Ent} (h1 : Tg c g t1 d f1) (h2 : TgL c gs t2 ds f2) : TgL c (gCons g gs) (t1 ++ t2) (d :: ds) (fun ρ => f2 (f1 ρ)) := fun σ ρ I H n xs Q w e r k => by
  cases r with
  | cons a b =>
    refine ⟨_, _, rfl, h1 σ ρ I H n _ _ w e a fun σ2 e2 s2 => h2 σ2 _ I H n _ _ w e2 b fun σ3 e3 s3 => k σ3 e3 fun vs hv => ?_⟩
    exact (s3 vs fun t ht => hv t (List.mem_append_right _ ht)).trans (s2 vs fun t ht => hv t (List.mem_append_left _ ht))
theorem tg_tup {gs : TGs} {tgs : List Nat} {m : Nat} {ds : List PyData} {f : List Ent → List Ent} (h : TgL c gs tgs ds f) (hm : ds.length = m) : Tg c (gTup c.K m gs) tgs (.tuple ds) f := fun σ ρ I H n x Q w e r k => by
  obtain ⟨a, xs, rfl, hs, hr⟩ := r.tup_inv
  exact ⟨a, xs, rfl, seqT_mono w.ih hs, hr.length.trans hm, h σ ρ I H n xs Q w e hr k⟩
theorem tg_two {i j : Nat} {a b : PyData} : Tg c (gTup c.K 2 (gCons (gName i) (gCons (gName j) gNil))) [i, j] (.tuple [a, b]) (fun ρ => (ρ.set i (.dat a)).set j (.dat b)) := tg_tup (tgl_cons tg_name (tgl_cons tg_name tgl_nil)) rfl
theorem tg_three {i j k : Nat} {a b d : PyData} : Tg c (gTup c.K 3 (gCons (gName i) (gCons (gName j) (gCons (gName k) gNil)))) [i, j, k] (.tuple [a, b, d]) (fun ρ => ((ρ.set i (.dat a)).set j (.dat b)).set k (.dat d)) := tg_tup (tgl_cons tg_name (tgl_cons tg_name (tgl_cons tg_name tgl_nil))) rfl

/-! ### what is walked -/
structure IterOk (c : Ctx) (I1 : Hp) (J : It) (g : TG) (tgs : List Nat) (f : PyData → List Ent → List Ent) (items : List PyData) : Prop where
  go : ∀ i I H n, Same I1 I → Wd c I H n → i < items.length → J.go i H
  yl : ∀ i d I H n x H' σ ρ Q, Same I1 I → Wd c I H n → EnvR c I H σ ρ → items[i]? = some d → J.yld i H x H' →
    (∀ σ2 I2 H2, Gx c.b I H I2 H2 → Wd c I2 H2 n → EnvR c I2 H2 σ2 (f d ρ) → (∀ vs, (∀ t ∈ tgs, t ∈ vs) → wipe σ2 vs = wipe σ vs) → Q σ2 H2) → g x σ H' Q
  st : ∀ i I H n, Same I1 I → Wd c I H n → items.length ≤ i → J.stop i H
def Iw (c : Ctx) (wi : TI) (g : TG) (ρ : List Ent) (C : Nat) (tgs : List Nat) (f : PyData → List Ent → List Ent) (Pi : List PyData → Prop) : Prop :=
  ∀ (σ : Sl) (I H : Hp) (n : Nat) (R : It → Hp → Prop), Wd c I H n → EnvR c I H σ ρ → n + C ≤ NMAX →
    (∀ J I1 H1 items, Gx c.b I H I1 H1 → Wd c I1 H1 (n + C) → IterOk c I1 J g tgs f items → Pi items → R J H1) → wi σ H R
variable {g : TG} {tgs : List Nat} {f : PyData → List Ent → List Ent} {Pi : List PyData → Prop}
theorem iw_list (ha : Ev c ta ρ C (fun d => ∃ ds, d = .list ds ∧ Pi ds)) (ht : ∀ ds, Pi ds → ∀ d ∈ ds, Tg c g tgs d (f d)) : Iw c (iList c.K ta) g ρ C tgs f Pi := fun σ I H n R w e l k =>
  ha σ I H n _ w e l fun v d I2 H2 g2 w2 r2 p2 => by
    obtain ⟨ds, rfl, hp⟩ := p2
    obtain ⟨a, xs, rfl, hs, hr⟩ := r2.lst_inv
    refine ⟨a, rfl, ⟨xs, SqL.of (w2.ih _ _ hs)⟩, k _ I2 H2 ds g2 w2 ⟨fun i I H n s w h => ?_, fun i d I H n x H' σ ρ Q s w e hd hy kk => ?_, fun i I H n s w h => ?_⟩ hp⟩
    · have hi : i < xs.length := by rw [hr.length]; exact h
      exact ⟨xs, xs[i], SqL.of (s.trans w.ih _ _ hs), List.getElem?_eq_getElem hi⟩
    · obtain ⟨rfl, hy⟩ := hy
      obtain ⟨v, hv, rv⟩ := hr.get hd
      have ex : x = v := Option.some.inj ((hy xs (SqL.of (s.trans w.ih _ _ hs))).symm.trans hv)
      subst ex
      exact ht ds hp d (List.mem_of_getElem? hd) σ ρ I H' n x Q w e (rv.mono s) fun σ2 e2 s2 => kk σ2 I H' Gx.refl w e2 s2
    · exact ⟨xs, SqL.of (s.trans w.ih _ _ hs), by rw [hr.length]; exact h⟩
theorem iw_tup (ha : Ev c ta ρ C (fun d => ∃ ds, d = .tuple ds ∧ Pi ds)) (ht : ∀ ds, Pi ds → ∀ d ∈ ds, Tg c g tgs d (f d)) : Iw c (iTup c.K ta) g ρ C tgs f Pi := fun σ I H n R w e l k =>
  ha σ I H n _ w e l fun v d I2 H2 g2 w2 r2 p2 => by
    obtain ⟨ds, rfl, hp⟩ := p2
    obtain ⟨a, xs, rfl, hs, hr⟩ := r2.tup_inv
    refine ⟨a, rfl, ⟨xs, seqT_mono w2.ih hs⟩, k _ I2 H2 ds g2 w2 ⟨fun i I H n s w h => ?_, fun i d I H n x H' σ ρ Q s w e hd hy kk => ?_, fun i I H n s w h => ?_⟩ hp⟩
    · have hi : i < xs.length := by rw [hr.length]; exact h
      exact ⟨xs, xs[i], seqT_mono (s.trans w.ih) hs, List.getElem?_eq_getElem hi⟩
    · obtain ⟨rfl, hy⟩ := hy
      obtain ⟨v, hv, rv⟩ := hr.get hd
      have ex : x = v := Option.some.inj ((hy xs (seqT_mono (s.trans w.ih) hs)).symm.trans hv)
      subst ex
      exact ht ds hp d (List.mem_of_getElem? hd) σ ρ I H' n x Q w e (rv.mono s) fun σ2 e2 s2 => kk σ2 I H' Gx.refl w e2 s2
    · exact ⟨xs, seqT_mono (s.trans w.ih) hs, by rw [hr.length]; exact h⟩
def rngD (lo : Int) (m : Nat) : List PyData := (List.range m).map fun k => .int (lo + (k : Nat))
theorem rngD_len (lo : Int) (m : Nat) : (rngD lo m).length = m := by simp [rngD]
theorem rngD_get {lo : Int} {m i : Nat} {d : PyData} (h : (rngD lo m)[i]? = some d) : i < m ∧ d = .int (lo + (i : Nat)) := by
  unfold rngD at h
  rw [List.getElem?_map] at h
  by_cases hi : i < m
  · rw [List.getElem?_range hi] at h
    exact ⟨hi, (Option.some.inj h).symm⟩
  · rw [List.getElem?_eq_none (by simp; omega)] at h
    cases h
theorem iter_range {lo : Int} {m : Nat} {I1 : Hp} (ht : ∀ d ∈ rngD lo m, Tg c g tgs d (f d)) : IterOk c I1 (Itr lo m) g tgs f (rngD lo m) := by
  refine ⟨fun i I H n s w h => ?_, fun i d I H n x H' σ ρ Q s w e hd hy kk => ?_, fun i I H n s w h => ?_⟩
  · rw [rngD_len] at h; exact h
  · obtain ⟨rfl, rfl⟩ := hy
    obtain ⟨hi, rfl⟩ := rngD_get hd
    exact ht _ (List.mem_of_getElem? hd) σ ρ I H' n _ Q w e (.int _) fun σ2 e2 s2 => kk σ2 I H' Gx.refl w e2 s2
  · rw [rngD_len] at h; exact h
theorem iw_range1 {Pn : Int → Prop} (ha : Ev c ta ρ C (fun d => ∃ i : Int, d = .int i ∧ Pn i)) (hb : ∀ i, Pn i → -(2 ^ 62) ≤ i ∧ i < 2 ^ 62) (ht : ∀ i, Pn i → ∀ d ∈ rngD 0 i.toNat, Tg c g tgs d (f d)) :
    Iw c (iRng1 (tCons ta tNil)) g ρ C tgs f (fun items => ∃ i : Int, Pn i ∧ items = rngD 0 i.toNat) := fun σ I H n R w e l k =>
  ha σ I H n _ w e l fun v d I2 H2 g2 w2 r2 p2 => by
    obtain ⟨i, rfl, hp⟩ := p2
    exact ⟨i, by rw [r2.int_inv], (hb i hp).1, (hb i hp).2, k _ I2 H2 _ g2 w2 (iter_range (ht i hp)) ⟨i, hp, rfl⟩⟩
theorem iw_range2 {i j : Int} (ha : Pv c ta ρ (.int i)) (hb : Pv c tb ρ (.int j)) (h : -(2 ^ 62) ≤ i ∧ i < 2 ^ 62 ∧ -(2 ^ 62) ≤ j ∧ j < 2 ^ 62) (ht : ∀ d ∈ rngD i (j - i).toNat, Tg c g tgs d (f d)) :
    Iw c (iRng2 (tCons ta (tCons tb tNil))) g ρ 0 tgs f (fun items => items = rngD i (j - i).toNat) := fun σ I H n R w e l k =>
  ha σ I H n _ w e l fun v d I2 H2 g2 w2 r2 p2 => by
    subst p2
    refine hb σ I2 H2 n _ w2 (e.go g2) l fun v3 d3 I3 H3 g3 w3 r3 p3 => ?_
    subst p3
    exact ⟨i, j, by rw [r2.int_inv, r3.int_inv], h, k _ I3 H3 _ (g2.trans g3) w3 (iter_range ht) rfl⟩
/-- zip of two lists or two tuples -/
def zipD (xs ys : List PyData) : List PyData := (xs.zip ys).map fun p => .tuple [p.1, p.2]
theorem zipD_len (xs ys : List PyData) : (zipD xs ys).length = min xs.length ys.length := by simp [zipD]
theorem zipD_get {xs ys : List PyData} {i : Nat} {d : PyData} (h : (zipD xs ys)[i]? = some d) : ∃ x y, xs[i]? = some x ∧ ys[i]? = some y ∧ d = .tuple [x, y] := by
  unfold zipD at h
  rw [List.getElem?_map] at h
  cases e : (xs.zip ys)[i]? with
  | none => rw [e] at h; cases h
  | some p =>
    rw [e] at h
    obtain ⟨h1, h2⟩ := List.getElem?_zip_eq_some.mp e
    exact ⟨p.1, p.2, h1, h2, (Option.some.inj h).symm⟩
theorem iw_zipT {xs ys : List PyData} (ha : Pv c ta ρ (.tuple xs)) (hb : Pv c tb ρ (.tuple ys)) (ht : ∀ d ∈ zipD xs ys, Tg c g tgs d (f d)) :
    Iw c (RZ.iZipA c.K (tCons ta (tCons tb tNil))) g ρ 0 tgs f (fun items => items = zipD xs ys) := fun σ I H n R w e l k =>
  ha σ I H n _ w e l fun v d I2 H2 g2 w2 r2 p2 => by
    subst p2
    refine hb σ I2 H2 n _ w2 (e.go g2) l fun v3 d3 I3 H3 g3 w3 r3 p3 => ?_
    subst p3
    obtain ⟨a, us, rfl, hs, hr⟩ := (r2.mono g3.ii).tup_inv
    obtain ⟨b, ws, rfl, hs', hr'⟩ := r3.tup_inv
    refine ⟨a, b, us, ws, rfl, .inr ⟨seqT_mono w3.ih hs, seqT_mono w3.ih hs', k _ I3 H3 _ (g2.trans g3) w3 ⟨fun i I H n s w h => ?_, fun i d I H n x H' σ ρ Q s w e hd hy kk => ?_, fun i I H n s w h => ?_⟩ rfl⟩⟩
    · rw [zipD_len] at h
      have h1 : i < us.length := by rw [hr.length]; omega
      have h2 : i < ws.length := by rw [hr'.length]; omega
      exact ⟨us, ws, us[i], ws[i], seqT_mono (s.trans w.ih) hs, seqT_mono (s.trans w.ih) hs', List.getElem?_eq_getElem h1, List.getElem?_eq_getElem h2⟩
    · obtain ⟨T, x1, x2, rfl, nT, rfl, f1, f2⟩ := hy
      obtain ⟨d1, d2, e1, e2, rfl⟩ := zipD_get hd
      obtain ⟨v1, hv1, q1⟩ := hr.get e1
      obtain ⟨v2, hv2, q2⟩ := hr'.get e2
      have ex1 : x1 = v1 := Option.some.inj ((f1 us (seqT_mono (s.trans w.ih) hs)).symm.trans hv1)
      have ex2 : x2 = v2 := Option.some.inj ((f2 ws (seqT_mono (s.trans w.ih) hs')).symm.trans hv2)
      subst ex1 ex2
      have gn : Gx c.b I H (upd I T (.tup [x1, x2])) (upd H T (.tup [x1, x2])) := new_go w.ih nT
      exact ht _ (List.mem_of_getElem? hd) σ ρ (upd I T (.tup [x1, x2])) (upd H T (.tup [x1, x2])) n _ Q (w.new nT) (e.go gn) (.tup (.inl (.inl upd_same)) (.cons ((q1.mono s).mono gn.ii) (.cons ((q2.mono s).mono gn.ii) .nil)))
        fun σ2 e2 s2 => kk σ2 _ _ gn (w.new nT) e2 s2
    · rw [zipD_len] at h
      exact ⟨us, ws, seqT_mono (s.trans w.ih) hs, seqT_mono (s.trans w.ih) hs', by rw [hr.length, hr'.length]; omega⟩
/-- reversed of a list or a tuple -/
theorem iw_rev {d0 : PyData} {ds : List PyData} (ha : Pv c ta ρ d0) (hd : itemsD d0 = some ds) (ht : ∀ d ∈ ds, Tg c g tgs d (f d)) : Iw c (RT.iRevA c.K ta) g ρ 0 tgs f (fun items => items = ds.reverse) := fun σ I H n R w e l k =>
  ha σ I H n _ w e l fun v d I2 H2 g2 w2 r2 p2 => by
    subst p2
    obtain ⟨a, xs, rfl, hs, hr⟩ := r2.items hd
    have hl := hr.length
    rcases hs with hs | hs
    · refine ⟨a, xs, rfl, .inl ⟨w2.ih.seq hs, k _ I2 H2 _ g2 w2 ⟨fun i I H n s w h => ?_, fun i d I H n x H' σ ρ Q s w e hd hy kk => ?_, fun i I H n s w h => ?_⟩ rfl⟩⟩
      · rw [List.length_reverse, ← hl] at h
        exact ⟨h, xs, xs[xs.length - 1 - i], (s.trans w.ih).seq hs, List.getElem?_eq_getElem (by omega)⟩
      · obtain ⟨rfl, hy⟩ := hy
        obtain ⟨v, hv, rv⟩ := hr.rev.get hd
        have hi := (List.getElem?_eq_some_iff.mp hd).1
        rw [List.length_reverse, ← hl] at hi
        rw [List.getElem?_reverse hi] at hv
        have ex : x = v := Option.some.inj ((hy xs ((s.trans w.ih).seq hs)).symm.trans hv)
        subst ex
        exact ht d (List.mem_reverse.mp (List.mem_of_getElem? hd)) σ ρ I H' n x Q w e (rv.mono s) fun σ2 e2 s2 => kk σ2 I H' Gx.refl w e2 s2
      · rw [List.length_reverse, ← hl] at h
        exact h
    · refine ⟨a, xs, rfl, .inr ⟨seqT_mono w2.ih hs, k _ I2 H2 _ g2 w2 ⟨fun i I H n s w h => ?_, fun i d I H n x H' σ ρ Q s w e hd hy kk => ?_, fun i I H n s w h => ?_⟩ rfl⟩⟩
      · rw [List.length_reverse, ← hl] at h
        exact ⟨h, xs, xs[xs.length - 1 - i], seqT_mono (s.trans w.ih) hs, List.getElem?_eq_getElem (by omega)⟩
      · obtain ⟨rfl, hy⟩ := hy
        obtain ⟨v, hv, rv⟩ := hr.rev.get hd
        have hi := (List.getElem?_eq_some_iff.mp hd).1
        rw [List.length_reverse, ← hl] at hi
        rw [List.getElem?_reverse hi] at hv
        have ex : x = v := Option.some.inj ((hy xs (seqT_mono (s.trans w.ih) hs)).symm.trans hv)
        subst ex
        exact ht d (List.mem_reverse.mp (List.mem_of_getElem? hd)) σ ρ I H' n x Q w e (rv.mono s) fun σ2 e2 s2 => kk σ2 I H' Gx.refl w e2 s2
      · rw [List.length_reverse, ← hl] at h
        exact h

/-! ### comprehensions -/
inductive Bt (Pt : PyData → Bool → Prop) (Pe : PyData → PyData → Prop) : List PyData → List PyData → Prop
  | nil : Bt Pt Pe [] []
  | keep {is os : List PyData} {d x : PyData} : Bt Pt Pe is os → Pt d true → Pe d x → Bt Pt Pe (is ++ [d]) (os ++ [x])
  | drop {is os : List PyData} {d : PyData} : Bt Pt Pe is os → Pt d false → Bt Pt Pe (is ++ [d]) os
theorem Bt.len {Pt : PyData → Bool → Prop} {Pe : PyData → PyData → Prop} {is os : List PyData} (h : Bt Pt Pe is os) : os.length ≤ is.length := by
  induction h with
  | nil => exact Nat.le_refl _
  | keep _ _ _ ih => simp only [List.length_append, List.length_cons, List.length_nil]; omega
  | drop _ _ ih => simp only [List.length_append, List.length_cons, List.length_nil]; omega
theorem Wd.own {I H : Hp} {n : Nat} {D : Addr} {xs : List V} (w : Wd c I H n) (h0 : c.H0 D = none) (hI : I D = none) (hb : some D ≠ c.b) : Wd c I (upd H D (.lst xs)) n := by
  refine ⟨fun q o e => ?_, w.i0, fun q o ne e => ?_, w.nw, fun p e => ?_⟩
  · rw [upd_ne (ne_of_none e hI)]; exact w.ih q o e
  · rw [upd_ne (ne_of_none e h0)]; exact w.h0 q o ne e
  · obtain ⟨h1, h2, x, y, z, h3, r⟩ := w.bg p e
    exact ⟨h1, h2, x, y, z, by rw [upd_ne (fun q : p = D => hb (by rw [← q]; exact e.symm))]; exact h3, r⟩
theorem EnvR.own {I H : Hp} {σ : Sl} {D : Addr} {xs : List V} (e : EnvR c I H σ ρ) (hD : ∀ (i : Nat) (ds : List PyData), ρ[i]? = some (Ent.own ds) → σ[i]? ≠ some (some (V.ref D))) : EnvR c I (upd H D (.lst xs)) σ ρ := by
  refine ⟨?_, e.ap⟩
  have gen : ∀ (σ : Sl) (ρ : List Ent), Paired (EntR c I H) σ ρ → (∀ (i : Nat) (ds : List PyData), ρ[i]? = some (Ent.own ds) → σ[i]? ≠ some (some (V.ref D))) → Paired (EntR c I (upd H D (.lst xs))) σ ρ := by
    intro σ ρ h
    induction h with
    | nil => exact fun _ => .nil
    | @cons a b l m x r ih =>
      intro hh
      refine .cons ?_ (ih fun i ds h1 => hh (i + 1) ds (by simpa using h1))
      cases b with
      | any => cases a <;> exact True.intro
      | dat d => cases a with
        | none => exact x
        | some v => exact x
      | bag => cases a with
        | none => exact x
        | some v => exact x
      | raw u => cases a with
        | none => exact x
        | some v => exact x
      | scr ns => cases a with
        | none => exact x
        | some v => exact x
      | own ds => cases a with
        | none => exact x
        | some v =>
          obtain ⟨p, ys, rfl, h1, r⟩ := x
          have ne : p ≠ D := fun z => hh 0 ds rfl (by rw [z]; rfl)
          exact ⟨p, ys, rfl, by rw [upd_ne ne]; exact h1, r⟩
  exact gen σ ρ e.st hD
theorem EnvR.noD {I H : Hp} {σ : Sl} {D : Addr} (e : EnvR c I H σ ρ) (h : H D = none) : ∀ (i : Nat) (ds : List PyData), ρ[i]? = some (Ent.own ds) → σ[i]? ≠ some (some (V.ref D)) := fun i ds h1 h2 => by
  obtain ⟨o, h3, h4⟩ := Paired.getP e.st h1
  rw [h2] at h3
  cases h3
  obtain ⟨p, xs, e1, h5, _⟩ := h4
  cases e1
  rw [h] at h5
  cases h5
theorem Wd.h0n {I H : Hp} {n : Nat} {D : Addr} (w : Wd c I H n) (h : H D = none) : c.H0 D = none := by
  cases e : c.H0 D with
  | none => rfl
  | some o =>
    by_cases hb : c.b = some D
    · obtain ⟨_, _, x, y, z, h3, _⟩ := w.bg D hb
      rw [h] at h3; cases h3
    · rw [w.h0 D o (fun z => hb z.symm) e] at h; cases h
theorem Wd.bne {I H : Hp} {n : Nat} {D : Addr} (w : Wd c I H n) (h : H D = none) : some D ≠ c.b := fun e => by
  obtain ⟨_, _, x, y, z, h3, _⟩ := w.bg D e.symm
  rw [h] at h3; cases h3
theorem ev_lc {wi : TI} {tt : TT} {vs : List Nat} {Pt : PyData → Bool → Prop} {Pe : PyData → PyData → Prop} {Ct Ce : Nat} (hi : Iw c wi g ρ C0 tgs f Pi) (hC : C0 ≤ C) (hv : ∀ t ∈ tgs, t ∈ vs)
    (hb : ∀ items, Pi items → items.length < sizeLine ∧ C0 + items.length * (Ct + Ce) ≤ C)
    (ht : ∀ items, Pi items → ∀ d ∈ items, Et c tt (f d (wipeE ρ vs)) Ct (Pt d)) (he : ∀ items, Pi items → ∀ d ∈ items, Pt d true → Ev c te (f d (wipeE ρ vs)) Ce (Pe d))
    (hP : ∀ items out, Pi items → Bt Pt Pe items out → P (.list out)) : Ev c (tLc wi g tt te vs) ρ C P := fun σ I H n Q w e l k => by
  refine hi σ I H n _ w e (by omega) fun J I1 H1 items g1 w1 it hpi => ?_
  obtain ⟨hlen, hcost⟩ := hb items hpi
  intro D nD
  have d0 : c.H0 D = none := w1.h0n nD
  have dI : I1 D = none := w1.ih.free nD
  have db : some D ≠ c.b := w1.bne nD
  have e1 : EnvR c I1 H1 (wipe σ vs) (wipeE ρ vs) := (e.go g1).wipe vs
  have nD1 := e1.noD nD
  refine ⟨fun i m H' => m = items.length - i ∧ i ≤ items.length ∧ ∃ I' xs out, H' D = some (.lst xs) ∧ I' D = none ∧ RpAll c.K I' xs out ∧ Bt Pt Pe (items.take i) out ∧ Wd c I' H' (n + C0 + i * (Ct + Ce)) ∧
      (∀ q o, q ≠ D → some q ≠ c.b → H1 q = some o → H' q = some o) ∧ (∀ q, H1 q ≠ none → I' q = I1 q) ∧ (∀ q, H1 q ≠ none → H' q ≠ none) ∧ Same I1 I' ∧ EnvR c I' H' (wipe σ vs) (wipeE ρ vs),
    ⟨items.length, by simp, Nat.zero_le _, I1, [], [], upd_same, dI, .nil, by rw [List.take_zero]; exact .nil, by rw [Nat.zero_mul]; exact w1.own d0 dI db, fun q o n1 _ h => by rw [upd_ne n1]; exact h, fun _ _ => rfl, fun q h => by
        by_cases z : q = D
        · subst z; exact absurd nD h
        · rw [upd_ne z]; exact h, Same.refl _, e1.own nD1⟩, ?_⟩
  rintro i m H' ⟨rfl, hi', I', xs, out, hD, hI, hr, bt, w', hk, hn, hth, hs, e'⟩
  by_cases hlt : i < items.length
  · refine .inr ⟨it.go i I' H' _ hs w' hlt, fun H'' => (i + 1 ≤ items.length ∧ ∃ I' xs out, H'' D = some (.lst xs) ∧ I' D = none ∧ RpAll c.K I' xs out ∧ Bt Pt Pe (items.take (i + 1)) out ∧ Wd c I' H'' (n + C0 + (i + 1) * (Ct + Ce)) ∧
      (∀ q o, q ≠ D → some q ≠ c.b → H1 q = some o → H'' q = some o) ∧ (∀ q, H1 q ≠ none → I' q = I1 q) ∧ (∀ q, H1 q ≠ none → H'' q ≠ none) ∧ Same I1 I' ∧ EnvR c I' H'' (wipe σ vs) (wipeE ρ vs)), fun H'' h => ⟨items.length - (i + 1), by omega, rfl, h.1, h.2⟩, fun x H'' hy => ?_⟩
    have hget : items[i]? = some items[i] := List.getElem?_eq_getElem hlt
    have hmem : items[i] ∈ items := List.getElem_mem hlt
    have hmul : (i + 1) * (Ct + Ce) ≤ items.length * (Ct + Ce) := Nat.mul_le_mul_right _ (by omega)
    have hadd : (i + 1) * (Ct + Ce) = i * (Ct + Ce) + (Ct + Ce) := by rw [Nat.add_mul, Nat.one_mul]
    refine it.yl i items[i] I' H' _ x H'' (wipe σ vs) (wipeE ρ vs) _ hs w' e' hget hy fun σ2 I2 H2 g2 w2 e2 s2 => ?_
    have hw : wipe σ2 vs = wipe σ vs := by
      rw [s2 vs hv]
      apply List.ext_getElem?
      intro j
      rw [wipe_get, wipe_get]
      split <;> cases σ[j]? <;> rfl
    refine ⟨hw, ht items hpi _ hmem σ2 I2 H2 _ _ w2 e2 (by omega) fun b I3 H3 g3 w3 pb => ?_⟩
    have bs : ∀ {I4 H4 : Hp}, Gx c.b I' H' I4 H4 → H4 D = some (.lst xs) ∧ I4 D = none ∧ RpAll c.K I4 xs out ∧ (∀ q o, q ≠ D → some q ≠ c.b → H1 q = some o → H4 q = some o) ∧ (∀ q, H1 q ≠ none → I4 q = I1 q) ∧ (∀ q, H1 q ≠ none → H4 q ≠ none) ∧ Same I1 I4 ∧ EnvR c I4 H4 (wipe σ vs) (wipeE ρ vs) := fun {I4 H4} g4 =>
      ⟨g4.hh _ _ db hD, by rw [g4.nw D (by rw [hD]; exact fun z => nomatch z)]; exact hI, hr.mono g4.ii, fun q o n1 n2 h => g4.hh q o n2 (hk q o n1 n2 h), fun q h => (g4.nw q (hth q h)).trans (hn q h), fun q h => g4.th q (hth q h), hs.trans g4.ii, e'.go g4⟩
    have htk : items.take (i + 1) = items.take i ++ [items[i]] := by rw [List.take_add_one, hget]; rfl
    cases b with
    | true =>
      rw [if_pos rfl]
      refine he items hpi _ hmem pb σ2 I3 H3 _ _ w3 (e2.go g3) (by omega) fun v d I4 H4 g4 w4 r4 p4 => ?_
      obtain ⟨b1, b2, b3, b4, b5, b6, b7, b8⟩ := bs ((g2.trans g3).trans g4)
      have hle := bt.len
      rw [List.length_take] at hle
      have hxl : xs.length < sizeLine := by rw [hr.length]; omega
      have nD4 := nD1
      refine ⟨xs, b1, hxl, hlt, I4, xs ++ [v], out ++ [d], upd_same, b2, b3.append (.one r4), by rw [htk]; exact .keep bt pb p4, (w4.own d0 b2 db).bgN (by omega), fun q o n1 n2 h => by rw [upd_ne n1]; exact b4 q o n1 n2 h, b5, fun q h => ?_, b7, b8.own nD4⟩
      by_cases z : q = D
      · subst z; rw [upd_same]; exact fun z => nomatch z
      · rw [upd_ne z]; exact b6 q h
    | false =>
      rw [if_neg Bool.false_ne_true]
      obtain ⟨b1, b2, b3, b4, b5, b6, b7, b8⟩ := bs (g2.trans g3)
      exact ⟨hlt, I3, xs, out, b1, b2, b3, by rw [htk]; exact .drop bt pb, w3.bgN (by omega), b4, b5, b6, b7, b8⟩
  · have ei : i = items.length := by omega
    subst ei
    refine .inl ⟨it.st _ I' H' _ hs w' (Nat.le_refl _), ?_⟩
    rw [List.take_length] at bt
    have s1 : Same I' (upd I' D (.lst xs)) := fun q o h => by rw [upd_ne (ne_of_none h hI)]; exact h
    refine k (.ref D) (.list out) (upd I' D (.lst xs)) H' (g1.trans ⟨hs.trans s1, fun q o n1 h => ?_, fun q h => ?_, hth⟩) ?_ (.lst upd_same (hr.mono s1)) (hP items out hpi bt)
    · exact hk q o (ne_of_none h nD) n1 h
    · rw [upd_ne (fun z => h (by rw [z]; exact nD))]; exact hn q h
    · refine Wd.bgN (n := n + C0 + items.length * (Ct + Ce)) ⟨fun q o h => ?_, w'.i0.trans s1, w'.h0, fun q h => ?_, w'.bg⟩ (by omega)
      · by_cases z : q = D
        · subst z; rw [upd_same] at h; cases h; exact hD
        · rw [upd_ne z] at h; exact w'.ih q o h
      · rw [upd_ne (fun z => h (by rw [z]; exact d0))]; exact w'.nw q h
end
end Hh

set_option Elab.async false
set_option linter.all false
set_option maxRecDepth 100000
set_option maxHeartbeats 1000000
namespace Hh
set_option autoImplicit false
open PySem PySem.Spec PyProof.Rows L2
section
variable {c : Ctx} {ρ : List Ent} {ta tb te : TE} {tr : TA} {C C0 C1 C2 : Nat} {P P1 : PyData → Prop} {g : TG} {tgs : List Nat} {f : PyData → List Ent → List Ent} {Pi : List PyData → Prop}
/-! ### comprehensions, simple forms -/
theorem et_yes : Pt c tYes ρ true := fun σ I H n Q w e l k => k _ I H Gx.refl w rfl
theorem Bt.map {F : PyData → PyData} {is os : List PyData} (h : Bt (fun _ b => b = true) (fun d x => x = F d) is os) : os = is.map F := by
  induction h with
  | nil => rfl
  | keep _ _ e ih => rw [e, ih, List.map_append]; rfl
  | drop _ e _ => cases e
theorem Bt.filt {p : PyData → Bool} {F : PyData → PyData} {is os : List PyData} (h : Bt (fun d b => b = p d) (fun d x => x = F d) is os) : os = (is.filter p).map F := by
  induction h with
  | nil => rfl
  | keep _ a e ih => rw [e, ih, List.filter_append, List.map_append, List.filter_cons, ← a]; rfl
  | drop _ a ih => rw [ih, List.filter_append, List.filter_cons, ← a]; simp
theorem pv_map {wi : TI} {vs : List Nat} {items : List PyData} (F : PyData → PyData) (hi : Iw c wi g ρ 0 tgs f (fun x => x = items)) (he : ∀ d ∈ items, Pv c te (f d (wipeE ρ vs)) (F d)) (hl : items.length < sizeLine) (hv : ∀ t ∈ tgs, t ∈ vs := by decide) :
    Pv c (tLc wi g tYes te vs) ρ (.list (items.map F)) :=
  ev_lc (Ct := 0) (Ce := 0) (Pt := fun _ b => b = true) (Pe := fun d x => x = F d) hi (Nat.le_refl _) hv (fun is e => by subst e; exact ⟨hl, by simp⟩) (fun is e d hd => et_yes) (fun is e d hd _ => by subst e; exact he d hd) fun is out e b => by subst e; rw [b.map]
theorem pv_filt {wi : TI} {vs : List Nat} {tt : TT} {items : List PyData} (p : PyData → Bool) (F : PyData → PyData) (hi : Iw c wi g ρ 0 tgs f (fun x => x = items)) (ht : ∀ d ∈ items, Pt c tt (f d (wipeE ρ vs)) (p d)) (he : ∀ d ∈ items, p d = true → Pv c te (f d (wipeE ρ vs)) (F d)) (hl : items.length < sizeLine) (hv : ∀ t ∈ tgs, t ∈ vs := by decide) :
    Pv c (tLc wi g tt te vs) ρ (.list ((items.filter p).map F)) :=
  ev_lc (Ct := 0) (Ce := 0) (Pt := fun d b => b = p d) (Pe := fun d x => x = F d) hi (Nat.le_refl _) hv (fun is e => by subst e; exact ⟨hl, by simp⟩) (fun is e d hd => by subst e; exact ht d hd) (fun is e d hd q => by subst e; exact he d hd q.symm) fun is out e b => by subst e; rw [b.filt]
theorem Bt.all {Pe : PyData → Prop} {is os : List PyData} (h : Bt (fun _ b => b = true) (fun _ x => Pe x) is os) : os.length = is.length ∧ ∀ x ∈ os, Pe x := by
  induction h with
  | nil => exact ⟨rfl, fun _ h => nomatch h⟩
  | keep _ _ e ih =>
    refine ⟨by rw [List.length_append, List.length_append, ih.1]; rfl, fun x hx => ?_⟩
    rcases List.mem_append.mp hx with h | h
    · exact ih.2 x h
    · rw [List.mem_singleton.mp h]; exact e
  | drop _ e _ => cases e
/-- each element drawn -/
theorem ev_draws {wi : TI} {vs : List Nat} {Pe : PyData → Prop} {Ce m : Nat} (hi : Iw c wi g ρ C0 tgs f Pi) (hm : ∀ is, Pi is → is.length ≤ m) (hl : m < sizeLine) (he : ∀ is, Pi is → ∀ d ∈ is, Ev c te (f d (wipeE ρ vs)) Ce Pe) (hC : C0 + m * Ce ≤ C)
    (hP : ∀ is os, Pi is → os.length = is.length → (∀ x ∈ os, Pe x) → P (.list os)) (hv : ∀ t ∈ tgs, t ∈ vs := by decide) : Ev c (tLc wi g tYes te vs) ρ C P :=
  ev_lc (Ct := 0) (Ce := Ce) (Pt := fun _ b => b = true) (Pe := fun _ x => Pe x) hi (by omega) hv (fun is e => ⟨by have := hm is e; omega, by
    have h1 := Nat.mul_le_mul_right Ce (hm is e)
    rw [Nat.zero_add]; omega⟩) (fun is e d hd => et_yes) (fun is e d hd _ => he is e d hd) fun is out e b => hP is out e b.all.1 b.all.2

/-! ### statements -/
structure Out where
  nx : List Ent → Prop := fun _ => False
  rt : PyData → Prop := fun _ => False
  bk : List Ent → Prop := fun _ => False
  ct : List Ent → Prop := fun _ => False
def Go1 (c : Ctx) (I : Hp) (m : Nat) (N : List Ent → Prop) (D : L2.St → Hp → Prop) : Prop := ∀ σ' ρ' I' H', Same I I' → Wd c I' H' m → EnvR c I' H' σ' ρ' → N ρ' → D σ' H'
def Bk (c : Ctx) (t : TS) (ρ : List Ent) (C : Nat) (O : Out) : Prop := ∀ (σ : Sl) (I H : Hp) (n : Nat) (D : Ends), Wd c I H n → EnvR c I H σ ρ → n + C ≤ NMAX →
  Go1 c I (n + C) O.nx D.nx → (∀ v d I' H', Same I I' → Wd c I' H' (n + C) → Rp c.K I' v d → O.rt d → D.rt v H') → Go1 c I (n + C) O.bk D.bk → Go1 c I (n + C) O.ct D.ct → t D σ H
theorem Bk.imp {t : TS} {O O' : Out} (h : Bk c t ρ C O) (hC : C ≤ C1) (h1 : ∀ x, O.nx x → O'.nx x) (h2 : ∀ x, O.rt x → O'.rt x) (h3 : ∀ x, O.bk x → O'.bk x := by intro _ z; exact z) (h4 : ∀ x, O.ct x → O'.ct x := by intro _ z; exact z) : Bk c t ρ C1 O' :=
  fun σ I H n D w e l k1 k2 k3 k4 => h σ I H n D w e (by omega) (fun a b i j s w r p => k1 a b i j s (w.bgN (by omega)) r (h1 _ p)) (fun a b i j s w r p => k2 a b i j s (w.bgN (by omega)) r (h2 _ p))
    (fun a b i j s w r p => k3 a b i j s (w.bgN (by omega)) r (h3 _ p)) (fun a b i j s w r p => k4 a b i j s (w.bgN (by omega)) r (h4 _ p))
theorem bk_next {O : Out} (h : O.nx ρ) : Bk c tNext ρ C O := fun σ I H n D w e l k1 k2 k3 k4 => k1 σ ρ I H (Same.refl _) (w.bgN (by omega)) e h
theorem bk_seq {t u : TS} {O : Out} {N : List Ent → Prop} (h1 : Bk c t ρ C1 { O with nx := N }) (h2 : ∀ ρ', N ρ' → Bk c u ρ' C2 O) (hC : C1 + C2 ≤ C) : Bk c (tSeq t u) ρ C O := fun σ I H n D w e l k1 k2 k3 k4 => by
  refine h1 σ I H n { D with nx := u D } w e (by omega) (fun σ' ρ' I' H' s w' e' hn => ?_) (fun a b i j s w r p => k2 a b i j s (w.bgN (by omega)) r p) (fun a b i j s w r p => k3 a b i j s (w.bgN (by omega)) r p) (fun a b i j s w r p => k4 a b i j s (w.bgN (by omega)) r p)
  exact h2 ρ' hn σ' I' H' (n + C1) D w' e' (by omega) (fun a b i j s2 w r p => k1 a b i j (s.trans s2) (w.bgN (by omega)) r p) (fun a b i j s2 w r p => k2 a b i j (s.trans s2) (w.bgN (by omega)) r p) (fun a b i j s2 w r p => k3 a b i j (s.trans s2) (w.bgN (by omega)) r p) (fun a b i j s2 w r p => k4 a b i j (s.trans s2) (w.bgN (by omega)) r p)
theorem bk_asg {O : Out} (ha : Ev c te ρ C P) (ht : ∀ d, P d → Tg c g tgs d (f d)) (hn : ∀ d, P d → O.nx (f d ρ)) : Bk c (tAsg te g) ρ C O := fun σ I H n D w e l k1 k2 k3 k4 =>
  ha σ I H n _ w e l fun v d I2 H2 g2 w2 r2 p2 => ht d p2 σ ρ I2 H2 _ v _ w2 (e.go g2) r2 fun σ2 e2 _ => k1 σ2 _ I2 H2 g2.ii w2 e2 (hn d p2)
theorem bk_set {i : Nat} {O : Out} (ha : Ev c te ρ C P) (hn : ∀ d, P d → O.nx (ρ.set i (.dat d))) : Bk c (tAsg te (gName i)) ρ C O := bk_asg (f := fun d ρ => ρ.set i (.dat d)) ha (fun d _ => tg_name) hn
theorem bk_ret {O : Out} (ha : Ev c te ρ C P) (hn : ∀ d, P d → O.rt d) : Bk c (tRet te) ρ C O := fun σ I H n D w e l k1 k2 k3 k4 =>
  ha σ I H n _ w e l fun v d I2 H2 g2 w2 r2 p2 => k2 v d I2 H2 g2.ii w2 r2 (hn d p2)
theorem bk_retN {O : Out} (hn : O.rt .none) : Bk c tRetN ρ C O := fun σ I H n D w e l k1 k2 k3 k4 => k2 _ _ I H (Same.refl _) (w.bgN (by omega)) .non hn
theorem bk_if {tc : TT} {t u : TS} {O : Out} {Pb : Bool → Prop} (hc : Et c tc ρ C1 Pb) (h1 : Pb true → Bk c t ρ C2 O) (h2 : Pb false → Bk c u ρ C2 O) (hC : C1 + C2 ≤ C) : Bk c (tIfS tc t u) ρ C O := fun σ I H n D w e l k1 k2 k3 k4 => by
  refine hc σ I H n _ w e (by omega) fun b I2 H2 g2 w2 p2 => ?_
  have go : ∀ {t : TS}, Bk c t ρ C2 O → t D σ H2 := fun {t} h => h σ I2 H2 (n + C1) D w2 (e.go g2) (by omega) (fun a b i j s2 w r p => k1 a b i j (g2.ii.trans s2) (w.bgN (by omega)) r p) (fun a b i j s2 w r p => k2 a b i j (g2.ii.trans s2) (w.bgN (by omega)) r p) (fun a b i j s2 w r p => k3 a b i j (g2.ii.trans s2) (w.bgN (by omega)) r p) (fun a b i j s2 w r p => k4 a b i j (g2.ii.trans s2) (w.bgN (by omega)) r p)
  cases b with
  | true => rw [if_pos rfl]; exact go (h1 p2)
  | false => rw [if_neg Bool.false_ne_true]; exact go (h2 p2)
theorem bk_ifP {tc : TT} {t u : TS} {O : Out} {b : Bool} (hc : Pt c tc ρ b) (h1 : b = true → Bk c t ρ C O) (h2 : b = false → Bk c u ρ C O) : Bk c (tIfS tc t u) ρ C O :=
  bk_if hc (fun e => h1 e.symm) (fun e => h2 e.symm) (by omega)
theorem bk_drop {O : Out} (ha : Ev c te ρ C P) (hn : O.nx ρ) : Bk c (tDrop te) ρ C O := fun σ I H n D w e l k1 k2 k3 k4 =>
  ha σ I H n _ w e l fun v d I2 H2 g2 w2 r2 p2 => k1 σ ρ I2 H2 g2.ii w2 (e.go g2) hn
theorem bk_never {O : Out} (h : False) : Bk c tNever ρ C O := h.elim
theorem bk_break {O : Out} (h : O.bk ρ) : Bk c tBreak ρ C O := fun σ I H n D w e l k1 k2 k3 k4 => k3 σ ρ I H (Same.refl _) (w.bgN (by omega)) e h
theorem bk_cont {O : Out} (h : O.ct ρ) : Bk c tCont ρ C O := fun σ I H n D w e l k1 k2 k3 k4 => k4 σ ρ I H (Same.refl _) (w.bgN (by omega)) e h
theorem bk_for {wi : TI} {tb : TS} {O : Out} {m : Nat} (Nv : List PyData → Nat → List Ent → Prop) (hi : Iw c wi g ρ C0 tgs f Pi) (hm : ∀ is, Pi is → is.length ≤ m) (h0 : ∀ is, Pi is → Nv is 0 ρ)
    (hs : ∀ is k d ρ', Pi is → is[k]? = some d → Nv is k ρ' → Bk c tb (f d ρ') C1 { nx := Nv is (k + 1), ct := Nv is (k + 1), bk := O.nx, rt := O.rt }) (hd : ∀ is ρ', Pi is → Nv is is.length ρ' → O.nx ρ') (hC : C0 + m * C1 ≤ C) : Bk c (tFor wi g tb) ρ C O := fun σ I H n D w e l k1 k2 k3 k4 => by
  refine hi σ I H n _ w e (by omega) fun J I1 H1 items g1 w1 it hpi => ?_
  have hml := Nat.mul_le_mul_right C1 (hm items hpi)
  refine ⟨fun i mm σ' H' => mm = items.length - i ∧ i ≤ items.length ∧ ∃ ρ' I', Same I1 I' ∧ Wd c I' H' (n + C0 + i * C1) ∧ EnvR c I' H' σ' ρ' ∧ Nv items i ρ', ⟨items.length, by simp, Nat.zero_le _, ρ, I1, Same.refl _, by rw [Nat.zero_mul]; exact w1, e.go g1, h0 items hpi⟩, ?_⟩
  rintro i mm σ' H' ⟨rfl, hi', ρ', I', s', w', e', nv⟩
  by_cases hlt : i < items.length
  · have hadd : (i + 1) * C1 = i * C1 + C1 := by rw [Nat.add_mul, Nat.one_mul]
    have hmul : (i + 1) * C1 ≤ items.length * C1 := Nat.mul_le_mul_right _ (by omega)
    refine .inr ⟨it.go i I' H' _ s' w' hlt, fun σ2 H2 => ∃ ρ2 I2, Same I1 I2 ∧ Wd c I2 H2 (n + C0 + (i + 1) * C1) ∧ EnvR c I2 H2 σ2 ρ2 ∧ Nv items (i + 1) ρ2, fun σ2 H2 h => ⟨items.length - (i + 1), by omega, rfl, hlt, h⟩, fun x H2 hy => ?_⟩
    have hget : items[i]? = some items[i] := List.getElem?_eq_getElem hlt
    refine it.yl i items[i] I' H' _ x H2 σ' ρ' _ s' w' e' hget hy fun σ3 I3 H3 g3 w3 e3 _ => ?_
    have s3 : Same I I3 := (g1.ii.trans s').trans g3.ii
    refine hs items i _ ρ' hpi hget nv σ3 I3 H3 _ _ w3 e3 (by omega) (fun a b i2 j s w r p => ?_) (fun a b i2 j s w r p => k2 a b i2 j (s3.trans s) (w.bgN (by omega)) r p) (fun a b i2 j s w r p => k1 a b i2 j (s3.trans s) (w.bgN (by omega)) r p) (fun a b i2 j s w r p => ?_)
    · exact ⟨b, i2, (s'.trans g3.ii).trans s, w.bgN (by omega), r, p⟩
    · exact ⟨b, i2, (s'.trans g3.ii).trans s, w.bgN (by omega), r, p⟩
  · have ei : i = items.length := by omega
    subst ei
    exact .inl ⟨it.st _ I' H' _ s' w' (Nat.le_refl _), k1 σ' ρ' I' H' (g1.ii.trans s') (w'.bgN (by omega)) e' (hd items ρ' hpi nv)⟩
theorem ip_i {op : Int → Int → Int} {i : Nat} {x y : Int} {O : Out} (hx : ρ[i]? = some (.dat (.int x))) (ha : Pv c te ρ (.int y)) (hn : O.nx (ρ.set i (.dat (.int (op x y))))) : Bk c (tAug i te (ipI op)) ρ C O := fun σ I H n D w e l k1 k2 k3 k4 => by
  obtain ⟨o, h1, h2⟩ := Paired.getP e.st hx
  cases o with
  | none => exact h2.elim
  | some v =>
    have ev : v = .int x := Rp.int_inv h2
    subst ev
    refine ⟨_, h1, ha σ I H n _ w e (by omega) fun v d I2 H2 g2 w2 r2 p2 => ?_⟩
    subst p2
    exact ⟨x, y, rfl, r2.int_inv, k1 _ _ I2 H2 g2.ii (w2.bgN (by omega)) ((e.go g2).set i (o := some (.int (op x y))) (e := .dat (.int (op x y))) (show Rp c.K I2 (.int (op x y)) (.int (op x y)) from .int _) (fun _ z => nomatch z)) hn⟩

/-! ### a list of one's own -/
theorem bk_own {i : Nat} {ds : List PyData} {O : Out} (ha : Pa c tr ρ (dats ds)) (hl : ds.length ≤ 1000) (hn : O.nx (ρ.set i (.own ds))) : Bk c (tAsg (tLst tr) (gName i)) ρ C O := fun σ I H n D w e l k1 k2 k3 k4 =>
  ha σ I H n _ w e (by omega) fun vs es I2 H2 g2 w2 r2 p2 => by
    subst p2
    have r := args_all r2
    refine ⟨by rw [r.length]; exact Nat.le_of_lt (small1000 hl), fun p np => ?_⟩
    have d0 := w2.h0n np
    have dI := w2.ih.free np
    have db := w2.bne np
    have e2 := e.go g2
    refine k1 _ (ρ.set i (.own ds)) I2 (upd H2 p (.lst vs)) g2.ii ((w2.own d0 dI db).bgN (by omega)) ?_ hn
    have e3 : EnvR c I2 (upd H2 p (.lst vs)) σ ρ := e2.own (e2.noD np)
    refine ⟨Paired.setP (show EntR c I2 (upd H2 p (.lst vs)) (some (.ref p)) (.own ds) from ⟨p, vs, rfl, upd_same, d0, db, dI, r⟩) i e3.st, fun j k q as bs h1 h2 h3 h4 => ?_⟩
    have key : ∀ (j : Nat) (as : List PyData), (ρ.set i (.own ds))[j]? = some (.own as) → (σ.set i (some (V.ref p)))[j]? = some (some (V.ref q)) → (j = i ∧ q = p) ∨ (j ≠ i ∧ q ≠ p ∧ ρ[j]? = some (.own as) ∧ σ[j]? = some (some (V.ref q))) := fun j as h1 h2 => by
      by_cases z : j = i
      · subst z
        left
        rw [List.getElem?_set_self'] at h2
        cases q2 : σ[j]? with
        | none => rw [q2] at h2; cases h2
        | some o => rw [q2] at h2; cases h2; exact ⟨rfl, rfl⟩
      · right
        rw [List.getElem?_set_ne (Ne.symm z)] at h1 h2
        exact ⟨z, fun zz => e2.noD np j as h1 (by rw [← zz]; exact h2), h1, h2⟩
    rcases key j as h1 h3 with ⟨a1, a2⟩ | ⟨a1, a2, a3, a4⟩
    · rcases key k bs h2 h4 with ⟨b1, b2⟩ | ⟨b1, b2, b3, b4⟩
      · rw [a1, b1]
      · exact absurd a2 b2
    · rcases key k bs h2 h4 with ⟨b1, b2⟩ | ⟨b1, b2, b3, b4⟩
      · exact absurd b2 a2
      · exact e.ap j k q as bs a3 b3 a4 b4
theorem bk_ownE {i : Nat} {O : Out} {Pd : List PyData → Prop} (ha : Ea c tr ρ C (fun es => ∃ ds, es = dats ds ∧ Pd ds)) (hl : ∀ ds, Pd ds → ds.length ≤ 1000) (hn : ∀ ds, Pd ds → O.nx (ρ.set i (.own ds))) : Bk c (tAsg (tLst tr) (gName i)) ρ C O := fun σ I H n D w e l k1 k2 k3 k4 =>
  ha σ I H n _ w e l fun vs es I2 H2 g2 w2 r2 ⟨ds, ep, pd⟩ => by
    subst ep
    have hl := hl ds pd
    have hn := hn ds pd
    have r := args_all r2
    refine ⟨by rw [r.length]; exact Nat.le_of_lt (small1000 hl), fun p np => ?_⟩
    have d0 := w2.h0n np
    have dI := w2.ih.free np
    have db := w2.bne np
    have e2 := e.go g2
    refine k1 _ (ρ.set i (.own ds)) I2 (upd H2 p (.lst vs)) g2.ii (w2.own d0 dI db) ?_ hn
    have e3 : EnvR c I2 (upd H2 p (.lst vs)) σ ρ := e2.own (e2.noD np)
    refine ⟨Paired.setP (show EntR c I2 (upd H2 p (.lst vs)) (some (.ref p)) (.own ds) from ⟨p, vs, rfl, upd_same, d0, db, dI, r⟩) i e3.st, fun j k q as bs h1 h2 h3 h4 => ?_⟩
    have key : ∀ (j : Nat) (as : List PyData), (ρ.set i (.own ds))[j]? = some (.own as) → (σ.set i (some (V.ref p)))[j]? = some (some (V.ref q)) → (j = i ∧ q = p) ∨ (j ≠ i ∧ q ≠ p ∧ ρ[j]? = some (.own as) ∧ σ[j]? = some (some (V.ref q))) := fun j as h1 h2 => by
      by_cases z : j = i
      · subst z
        left
        rw [List.getElem?_set_self'] at h2
        cases q2 : σ[j]? with
        | none => rw [q2] at h2; cases h2
        | some o => rw [q2] at h2; cases h2; exact ⟨rfl, rfl⟩
      · right
        rw [List.getElem?_set_ne (Ne.symm z)] at h1 h2
        exact ⟨z, fun zz => e2.noD np j as h1 (by rw [← zz]; exact h2), h1, h2⟩
    rcases key j as h1 h3 with ⟨a1, a2⟩ | ⟨a1, a2, a3, a4⟩
    · rcases key k bs h2 h4 with ⟨b1, b2⟩ | ⟨b1, b2, b3, b4⟩
      · rw [a1, b1]
      · exact absurd a2 b2
    · rcases key k bs h2 h4 with ⟨b1, b2⟩ | ⟨b1, b2, b3, b4⟩
      · exact absurd b2 a2
      · exact e.ap j k q as bs a3 b3 a4 b4
theorem bk_append {i : Nat} {ds : List PyData} {O : Out} (hi : ρ[i]? = some (.own ds)) (ha : Ev c te ρ C P) (hl : ds.length ≤ 1000) (hn : ∀ d, P d → O.nx (ρ.set i (.own (ds ++ [d])))) : Bk c (tDrop (tBM c.K "list" rAppend (tVar i) (tCons te tNil))) ρ C O := fun σ I H n D w e l k1 k2 k3 k4 => by
  obtain ⟨o, h1, h2⟩ := Paired.getP e.st hi
  cases o with
  | none => exact h2.elim
  | some v =>
    obtain ⟨p, xs, rfl, a1, a2, a3, a4, a5⟩ := h2
    refine ⟨.ref p, h1, .inl ⟨rfl, xs, .inl (.inl a1)⟩, ha σ I H n _ w e l fun v d I2 H2 g2 w2 r2 p2 => ?_⟩
    have hp2 : H2 p = some (.lst xs) := g2.hh _ _ a3 a1
    have ip2 : I2 p = none := by rw [g2.nw p (by rw [a1]; exact fun z => nomatch z)]; exact a4
    refine ⟨p, xs, v, rfl, rfl, hp2, by rw [a5.length]; exact small1000 hl, ?_⟩
    refine k1 σ (ρ.set i (.own (ds ++ [d]))) I2 (upd H2 p (.lst (xs ++ [v]))) g2.ii (w2.own a2 ip2 a3) ?_ (hn d p2)
    have e2 := e.go g2
    have hσ : σ.set i (some (V.ref p)) = σ := by
      apply List.ext_getElem?
      intro j
      by_cases z : i = j
      · subst z
        rw [List.getElem?_set_self', h1]
        rfl
      · rw [List.getElem?_set_ne z]
    refine ⟨?_, fun j k q as bs b1 b2 b3 b4 => ?_⟩
    · have gen : ∀ (σ : Sl) (ρ : List Ent), Paired (EntR c I2 H2) σ ρ → ∀ i, σ[i]? = some (some (V.ref p)) → (∀ (j : Nat) (es : List PyData), j ≠ i → ρ[j]? = some (Ent.own es) → σ[j]? ≠ some (some (V.ref p))) → Paired (EntR c I2 (upd H2 p (.lst (xs ++ [v])))) σ (ρ.set i (.own (ds ++ [d]))) := by
        intro σ ρ h
        induction h with
        | nil => intro i hi; cases hi
        | @cons a b l m x r ih =>
          intro i hi hne
          have upx : ∀ {a : Option V} {b : Ent}, EntR c I2 H2 a b → (∀ es, b = .own es → a ≠ some (V.ref p)) → EntR c I2 (upd H2 p (.lst (xs ++ [v]))) a b := fun {a b} x hx => by
            cases b with
            | any => cases a <;> exact True.intro
            | dat d => cases a with
              | none => exact x
              | some v => exact x
            | bag => cases a with
              | none => exact x
              | some v => exact x
            | raw u => cases a with
              | none => exact x
              | some v => exact x
            | scr ns => cases a with
              | none => exact x
              | some v => exact x
            | own ds => cases a with
              | none => exact x
              | some v =>
                obtain ⟨q, ys, rfl, h1, r⟩ := x
                have ne : q ≠ p := fun z => hx ds rfl (by rw [z])
                exact ⟨q, ys, rfl, by rw [upd_ne ne]; exact h1, r⟩
          cases i with
          | zero =>
            have ea : a = some (V.ref p) := Option.some.inj hi
            subst ea
            refine .cons ⟨p, xs ++ [v], rfl, upd_same, a2, a3, ip2, (a5.mono g2.ii).append (.one r2)⟩ ?_
            have tl : ∀ (l : Sl) (m : List Ent), Paired (EntR c I2 H2) l m → (∀ (j : Nat) (es : List PyData), m[j]? = some (Ent.own es) → l[j]? ≠ some (some (V.ref p))) → Paired (EntR c I2 (upd H2 p (.lst (xs ++ [v])))) l m := by
              intro l m h
              induction h with
              | nil => exact fun _ => .nil
              | @cons a b l m x r ih =>
                intro hh
                exact .cons (upx x fun es eb => by subst eb; exact fun z => hh 0 es rfl (by rw [z]; rfl)) (ih fun j es h => hh (j + 1) es (by simpa using h))
            exact tl l m r fun j es h => hne (j + 1) es (by omega) (by simpa using h)
          | succ i =>
            refine .cons (upx x fun es eb => by subst eb; exact fun z => hne 0 es (by omega) rfl (by rw [z]; rfl)) (ih i (by simpa using hi) fun j es nj h => ?_)
            have := hne (j + 1) es (by omega) (by simpa using h)
            simpa using this
      exact gen σ ρ e2.st i h1 fun j es nj h z => nj (e.ap j i p es ds h hi z h1)
    · have key : ∀ (j : Nat) (as : List PyData), (ρ.set i (.own (ds ++ [d])))[j]? = some (.own as) → ∃ as', ρ[j]? = some (.own as') := fun j as h1 => by
        by_cases z : j = i
        · subst z; exact ⟨ds, hi⟩
        · rw [List.getElem?_set_ne (Ne.symm z)] at h1; exact ⟨as, h1⟩
      obtain ⟨as', b1'⟩ := key j as b1
      obtain ⟨bs', b2'⟩ := key k bs b2
      exact e.ap j k q as' bs' b1' b2' b3 b4
/-- from here on it is data -/
theorem bk_freeze {i : Nat} {ds : List PyData} {t : TS} {O : Out} (hi : ρ[i]? = some (.own ds)) (h : Bk c t (ρ.set i (.dat (.list ds))) C O) : Bk c t ρ C O := fun σ I H n D w e l k1 k2 k3 k4 => by
  obtain ⟨o, h1, h2⟩ := Paired.getP e.st hi
  cases o with
  | none => exact h2.elim
  | some v =>
    obtain ⟨p, xs, rfl, a1, a2, a3, a4, a5⟩ := h2
    have s1 : Same I (upd I p (.lst xs)) := fun q o h => by rw [upd_ne (ne_of_none h a4)]; exact h
    have hσ : σ.set i (some (V.ref p)) = σ := by
      apply List.ext_getElem?
      intro j
      by_cases z : i = j
      · subst z
        rw [List.getElem?_set_self', h1]
        rfl
      · rw [List.getElem?_set_ne z]
    have w1 : Wd c (upd I p (.lst xs)) H n := by
      refine ⟨fun q o h => ?_, w.i0.trans s1, w.h0, fun q h => ?_, w.bg⟩
      · by_cases z : q = p
        · subst z; rw [upd_same] at h; cases h; exact a1
        · rw [upd_ne z] at h; exact w.ih q o h
      · rw [upd_ne (fun z => h (by rw [z]; exact a2))]; exact w.nw q h
    have e1 : EnvR c (upd I p (.lst xs)) H σ (ρ.set i (.dat (.list ds))) := by
      refine ⟨?_, fun j k q as bs b1 b2 b3 b4 => ?_⟩
      · have gen : ∀ (σ : Sl) (ρ : List Ent), Paired (EntR c I H) σ ρ → ∀ i, σ[i]? = some (some (V.ref p)) → (∀ (j : Nat) (es : List PyData), j ≠ i → ρ[j]? = some (Ent.own es) → σ[j]? ≠ some (some (V.ref p))) → Paired (EntR c (upd I p (.lst xs)) H) σ (ρ.set i (.dat (.list ds))) := by
          intro σ ρ h
          induction h with
          | nil => intro i hi; cases hi
          | @cons a b l m x r ih =>
            intro i hi hne
            have upx : ∀ {a : Option V} {b : Ent}, EntR c I H a b → (∀ es, b = .own es → a ≠ some (V.ref p)) → EntR c (upd I p (.lst xs)) H a b := fun {a b} x hx => by
              cases b with
              | any => cases a <;> exact True.intro
              | dat d => cases a with
                | none => exact x
                | some v => exact Rp.mono s1 x
              | bag => cases a with
                | none => exact x
                | some v => exact x
              | raw u => cases a with
                | none => exact x
                | some v => exact x
              | scr ns => cases a with
                | none => exact x
                | some v => obtain ⟨z, e1, q⟩ := x; exact ⟨z, e1, s1.seq q⟩
              | own ds => cases a with
                | none => exact x
                | some v =>
                  obtain ⟨q, ys, rfl, h1, r1, r2, r3, r4⟩ := x
                  have ne : q ≠ p := fun z => hx ds rfl (by rw [z])
                  exact ⟨q, ys, rfl, h1, r1, r2, by rw [upd_ne ne]; exact r3, r4.mono s1⟩
            cases i with
            | zero =>
              have ea : a = some (V.ref p) := Option.some.inj hi
              subst ea
              refine .cons (show Rp c.K (upd I p (.lst xs)) (.ref p) (.list ds) from .lst upd_same (a5.mono s1)) ?_
              have tl : ∀ (l : Sl) (m : List Ent), Paired (EntR c I H) l m → (∀ (j : Nat) (es : List PyData), m[j]? = some (Ent.own es) → l[j]? ≠ some (some (V.ref p))) → Paired (EntR c (upd I p (.lst xs)) H) l m := by
                intro l m h
                induction h with
                | nil => exact fun _ => .nil
                | @cons a b l m x r ih =>
                  intro hh
                  exact .cons (upx x fun es eb => by subst eb; exact fun z => hh 0 es rfl (by rw [z]; rfl)) (ih fun j es h => hh (j + 1) es (by simpa using h))
              exact tl l m r fun j es h => hne (j + 1) es (by omega) (by simpa using h)
            | succ i =>
              refine .cons (upx x fun es eb => by subst eb; exact fun z => hne 0 es (by omega) rfl (by rw [z]; rfl)) (ih i (by simpa using hi) fun j es nj h => ?_)
              have := hne (j + 1) es (by omega) (by simpa using h)
              simpa using this
        exact gen σ ρ e.st i h1 fun j es nj h z => nj (e.ap j i p es ds h hi z h1)
      · have key : ∀ (j : Nat) (as : List PyData), (ρ.set i (.dat (.list ds)))[j]? = some (.own as) → ρ[j]? = some (.own as) := fun j as h1 => by
          by_cases z : j = i
          · subst z
            rw [List.getElem?_set_self'] at h1
            cases q2 : ρ[j]? with
            | none => rw [q2] at h1; cases h1
            | some o => rw [q2] at h1; cases h1
          · rw [List.getElem?_set_ne (Ne.symm z)] at h1; exact h1
        exact e.ap j k q as bs (key j as b1) (key k bs b2) b3 b4
    exact h σ _ H n D w1 e1 l (fun a b i2 j s w r p => k1 a b i2 j (s1.trans s) w r p) (fun a b i2 j s w r p => k2 a b i2 j (s1.trans s) w r p) (fun a b i2 j s w r p => k3 a b i2 j (s1.trans s) w r p) (fun a b i2 j s w r p => k4 a b i2 j (s1.trans s) w r p)

/-! ### a def's body -/
theorem start_env {K : PySem.W.Frag} {b : Option Addr} {I H : Hp} {vs : List V} {es : List Ent} {N : List Str} (r : Paired (ArgR K b I) vs es) : EnvR ⟨K, b, H, I⟩ I H (L2.start N vs) (es ++ List.replicate (N.length - es.length) .any) := by
  have no : ∀ (j : Nat) (as : List PyData), (es ++ List.replicate (N.length - es.length) Ent.any)[j]? ≠ some (.own as) := fun j as h => by
    by_cases hj : j < es.length
    · rw [List.getElem?_append_left hj] at h
      obtain ⟨v, _, hv⟩ := Paired.getP r h
      exact hv
    · rw [List.getElem?_append_right (by omega)] at h
      have := List.mem_of_getElem? h
      rw [List.mem_replicate] at this
      exact nomatch this.2
  refine ⟨?_, fun j k q as bs b1 _ _ _ => (no j as b1).elim⟩
  unfold L2.start
  rw [Paired.len r]
  have h1 : ∀ {vs : List V} {es : List Ent}, Paired (ArgR K b I) vs es → ∀ m, Paired (EntR ⟨K, b, H, I⟩ I H) (vs.map some ++ List.replicate m none) (es ++ List.replicate m .any) := by
    intro vs es h
    induction h with
    | nil =>
      intro m
      induction m with
      | zero => exact .nil
      | succ m ih =>
        simp only [List.map_nil, List.nil_append, List.replicate_succ]
        exact .cons True.intro ih
    | @cons v e l m x r ih =>
      intro m
      refine .cons ?_ (ih m)
      cases e with
      | any => exact True.intro
      | dat d => exact x
      | bag => exact x
      | raw u => exact x
      | scr ns => exact x
      | own d => exact x.elim
  exact h1 r _
theorem fn_ok {P : Program} {w : World} {K : PySem.W.Frag} {mg : Str → Option Value} {base : Heap} {x qual : Str} {st : Stmt} {f : Addr} {fd : FuncData} {N ps : List Str} {k C : Nat} {pre : List Ent → Prop} {post : List Ent → PyData → Prop} (F : Fun K x qual st f fd) (S : FnScope N ps (defScope st))
    (hbody : ∀ (cdv : Value) (A : Around) (outer : List Env) (s : Shared) (H : Hp) (E : XK), Room k (A.deeper (envOfC qual (defScope st) s.heap.objs.size f cdv)) →
      ∃ t, PSs (cxOf CX0 P w K mg base N qual (defScope st) f cdv A outer s H E).nox (defBody st) t ∧ ∀ (b : Option Addr) (I : Hp) (es : List Ent), es.length = ps.length → pre es → Bk ⟨K, b, H, I⟩ t (es ++ List.replicate (N.length - es.length) .any) C { nx := fun _ => post es .none, rt := post es }) :
    FnOk P w K mg base CX0 (k + 1) f fd ps (spD K ps.length C pre post) := by
  refine F.ok S (fun vs H Q E h => ?_) (fun cdv A outer s H vs Q E hr h => ?_)
  · obtain ⟨b, I, n, es, h, _⟩ := h
    exact h
  · obtain ⟨b, I, n, es, h1, h2, h3, h4, h5, h6, h7⟩ := h
    obtain ⟨t, ht, hb⟩ := hbody cdv A outer s H E hr
    refine ⟨t, ht, ?_⟩
    have w0 : Wd ⟨K, b, H, I⟩ I H n := ⟨h3, Same.refl _, fun _ _ _ h => h, fun _ _ => rfl, fun p e => ⟨(h4 p e).1, (by
      obtain ⟨x, y, z, hh, _⟩ := (h4 p e).2
      show H p ≠ none
      rw [hh]; exact fun z => nomatch z), (h4 p e).2⟩⟩
    have fin : ∀ v d I' H', Same I I' → Wd ⟨K, b, H, I⟩ I' H' (n + C) → Rp K I' v d → post es d → Q v H' := fun v d I' H' s w r p => by
      refine h7 v d I' H' ⟨s, fun q o ne e => w.h0 q o ne e, fun q e => w.nw q e, fun q e => ?_⟩ w.ih (fun p e => (w.bg p e).2.2) r p
      by_cases hb : b = some q
      · obtain ⟨_, _, x, y, z, h3, _⟩ := w.bg q hb
        rw [h3]; exact fun z => nomatch z
      · cases h : H q with
        | none => exact absurd h e
        | some o => rw [w.h0 q o (fun z => hb z.symm) h]; exact fun z => nomatch z
    exact hb b I es (by rw [← Paired.len h2]; exact h1) h6 (L2.start N vs) I H n _ w0 (start_env h2) h5 (fun σ' ρ' I' H' s w e p => fin .non .none I' H' s w .non p) (fun v d I' H' s w r p => fin v d I' H' s w r p) (fun _ _ _ _ _ _ _ z => z.elim) (fun _ _ _ _ _ _ _ z => z.elim)
end
end Hh

set_option Elab.async false
set_option linter.all false
set_option maxRecDepth 100000
set_option maxHeartbeats 1000000
namespace Hh
set_option autoImplicit false
open PySem PySem.Spec PyProof.Rows L2

/-! ### defs that are called where no repr is under way -/
def Calm (A : Around) : Prop := A.guards = some []
theorem Calm.deep {A : Around} (h : Calm A) (env : Env) : Calm (A.deeper env) := h
structure FnG (P : Program) (w : World) (K : PySem.W.Frag) (mg : Str → Option Value) (base : Heap) (k : Nat) (f : Addr) (fd : FuncData) (ps : List Str) (sp : Sp) : Prop where
  many : ∀ vs H Q E, sp vs H Q E → vs.length = ps.length
  go : ∀ (A : Around) (fr : List Env) (s : Shared) (H : Hp) (ar : Args) (us : List Value) (vs : List V) (Q : VK) (E : XK), Room k A → Calm A → Env0 P w K mg base A fr s H →
    BindsTo s fd ar (ps.zip us) → Vals vs us → sp vs H Q E → codeAny (model P w) A (.call (.ref f) ar) (CR CX0 fr P w H s Q E) s
theorem FnG.of {P : Program} {w : World} {K : PySem.W.Frag} {mg : Str → Option Value} {base : Heap} {k : Nat} {f : Addr} {fd : FuncData} {ps : List Str} {sp : Sp} (F : FnOk P w K mg base CX0 k f fd ps sp) : FnG P w K mg base k f fd ps sp :=
  ⟨F.len, fun A fr s H ar us vs Q E r _ e b v h => F.run A fr s H ar us vs Q E r e b v h⟩
section
variable {X : Cx} {k : Nat} {f : Addr} {fd : FuncData} {ps : List Str} {sp : Sp} {x : Str} {p pos : Pos} {e : Expr} {es : List Expr} {t : TA}
theorem runG {pins : List (Addr × Obj)} {σ : Sl} {H : Hp} {s : Shared} {Q : VK} {us : List Value} {vs : List V} {E : XK} (F : FnG X.prog X.w X.K X.mg X.base k f fd ps sp)
    (hr : Room k X.A) (hc : Calm X.A) (hb : Binds X.K fd ps []) (I : Inv X pins σ H s) (r : Vals vs us) (h : sp vs H Q E) :
    wpAny (model X.prog X.w) X.A (call (.ref f) us) (EP X pins σ Q) X.xe s := by
  have lu : (us ++ []).length = ps.length := by rw [List.append_nil, ← r.length]; exact F.many _ _ _ _ h
  have bb := hb s us I.kIn lu
  rw [List.append_nil] at bb
  refine wpAny_call (codeAny_mono (F.go X.A X.stack s H ⟨us, []⟩ us vs Q E hr hc I.env0 bb r h) ?_)
  intro rr s' q
  match rr, q with
  | .error _, q => exact False.elim q
  | .ok (.ret u), q => exact I.after q
  | .ok .next, q => exact False.elim q
  | .ok .brk, q => exact False.elim q
  | .ok .cont, q => exact False.elim q
theorem pe_callG (F : FnG X.prog X.w X.K X.mg X.base k f fd ps sp) (hr : Room k X.A) (hc : Calm X.A) (hg : Gl X x) (hm : X.mg x = some (.ref f)) (hk : PySem.W.keepIn X.K (.ref f) = true) (hb : Binds X.K fd ps []) (ha : PA X (e :: es) t)
    (hdb : (x == ("__debug__" : Str)) = false := by decide) (he : starEach (e :: es) X.env = (false, eval e X.env) :: starEach es X.env := by rfl) (hpl : (backTo pos (starEach es X.env)).any (·.1) = false := by rfl) :
    PE X (.Call (.Name x p) (e :: es) [] pos) (tCall sp [] E0 t) := by
  constructor
  intro pins s σ H Q I h
  refine wpAny_Call_Name_kw (ld_glob I hg hm ?_ hdb)
  refine PySem.W.callWith_K (h₀ := X.base) I.ok.mod.kin hk ?_ he hpl
  refine thn (ha.run pos pins s σ H _ I h) ?_
  rintro us s1 ⟨vs, H1, I1, r, q⟩
  rw [List.append_nil] at q
  exact ⟨I1.kIn, runG F hr hc hb I1 r q⟩
end
/-- a def of the text by its body, where no repr is under way -/
theorem fnG_of {P : Program} {w : World} {K : PySem.W.Frag} {mg : Str → Option Value} {base : Heap} {k : Nat} {f : Addr} {nm qual : Str} {pa : Arguments} {bd : List Stmt} {sc : Scope} {dV kV dc pm cv ct oc : Value} {an od : Option Addr} {sl : Array (Option Value)} {N ps : List Str} {sp : Sp}
    (lk : K.lookup f = some ⟨oc, od, .func (PySem.W.fnOf nm qual pa bd sc dV kV dc pm an cv ct), sl⟩) (hcd : PySem.W.codeIn K cv qual = true) (S : FnScope N ps sc) (many : ∀ vs H Q E, sp vs H Q E → vs.length = ps.length)
    (body : ∀ (A : Around) (fr : List Env) (s : Shared) (H : Hp) (vs : List V) (Q : VK) (E : XK), Room k (A.deeper (envOfC qual sc s.heap.objs.size f cv)) → Calm (A.deeper (envOfC qual sc s.heap.objs.size f cv)) → sp vs H Q E →
      ∃ t, PSs (cxOf CX0 P w K mg base N qual sc f cv A fr s H E) bd t ∧ t { nx := fun _ H' => Q .non H', rt := Q } (L2.start N vs) H) :
    FnG P w K mg base (k + 1) f (PySem.W.fnOf nm qual pa bd sc dV kV dc pm an cv ct) ps sp := by
  constructor
  · exact many
  intro A fr s H ar us vs Q E room calm e0 bnd rv h
  have nv := many _ _ _ _ h
  have kin : K.In s.heap := e0.mod.kin.keeps fun b o q => (e0.bs b o q).1
  have lim : s.heap.NoLimit := e0.mod.nolimit.keeps fun b o q => (e0.bs b o q).1
  have kinds : ∀ y ∈ ps.zip us, sc.names.lookup y.1 = some .local ∨
      (sc.names.lookup y.1 = some .cell ∧ ((cellsFrom (s.heap.objs.size + 1) sc.names []).lookup y.1).isSome = true) := by
    rintro ⟨n, v⟩ hy
    rcases S.par n (List.of_mem_zip hy).1 with q | q
    · left; exact q
    · right; exact ⟨q, PySem.W.cellsFrom_some _ _ _ (Or.inl q)⟩
  refine codeAny_call_function room.depth (kin _ _ lk) rfl S.co S.gen rfl (PySem.W.codeRec_of kin hcd) (bnd _ _ _ _ ?_)
  refine wpAny_newFunctionEnv_cells S.kind kinds ?_
  intro env he s1 x
  subst he
  refine ⟨lim.keeps x.toInCall.keep, codeAny_func ?_⟩
  obtain ⟨t, ht, hq⟩ := body A fr s H vs Q E (room.deeper _) (calm.deep _) h
  have inv := inv_start (CX := CX0) (E := E) (N := N) S room.hd e0 nv rv x
  refine wpAny_mono (ht.run [] s1 (L2.start N vs) H _ inv hq) ?_ ?_
  · intro fl s' hs
    match fl, hs with
    | .ret u, ⟨v, σ', H', J, r', q⟩ => exact ⟨v, H', J.os, J.bare, J.base, J.hok, r', q⟩
    | .next, ⟨σ', H', J, q⟩ => exact ⟨V.non, H', J.os, J.bare, J.base, J.hok, rfl, q⟩
    | .brk, ⟨_, _, _, q⟩ => exact False.elim q
    | .cont, ⟨_, _, _, q⟩ => exact False.elim q
  · intro e s' hs
    exact hs
theorem Fun.okG {P : Program} {w : World} {K : PySem.W.Frag} {mg : Str → Option Value} {base : Heap} {x qual : Str} {st : Stmt} {f : Addr} {fd : FuncData} {N ps : List Str} {k : Nat} {sp : Sp} (F : Fun K x qual st f fd) (S : FnScope N ps (defScope st)) (many : ∀ vs H Q E, sp vs H Q E → vs.length = ps.length)
    (body : ∀ (cv : Value) (A : Around) (fr : List Env) (s : Shared) (H : Hp) (vs : List V) (Q : VK) (E : XK), Room k (A.deeper (envOfC qual (defScope st) s.heap.objs.size f cv)) → Calm (A.deeper (envOfC qual (defScope st) s.heap.objs.size f cv)) → sp vs H Q E →
      ∃ t, PSs (cxOf CX0 P w K mg base N qual (defScope st) f cv A fr s H E).nox (defBody st) t ∧ t { nx := fun _ H' => Q .non H', rt := Q } (L2.start N vs) H) : FnG P w K mg base (k + 1) f fd ps sp := by
  obtain ⟨oc, od, kV, doc, pm, an, cv, ct, sl, rfl, lk, hcd⟩ := F.ex
  refine fnG_of lk hcd S many ?_
  intro A fr s H vs Q E hr hc h
  obtain ⟨t, h1, h2⟩ := body cv A fr s H vs Q E hr hc h
  exact ⟨t, h1.nox, h2⟩
/-- the law's def is called at the top -/
theorem topG {P : Program} {w : World} {K : PySem.W.Frag} {mg mb : Str → Option Value} {k : Nat} {fa a : Addr} {fd : FuncData} {x : Str} {sp : Sp} {s₁ : Shared} {vs : List Value} {ns : List Int}
    (KX : K.In s₁.heap) (n1 : s₁.heap.Ns mainGlobals mg) (n2 : s₁.heap.Ns builtinsNs mb) (n3 : ∀ x : Str, x ≠ "__name__" → mb x = bootBuiltins x) (lim : s₁.heap.NoLimit) (gn : s₁.gens = #[])
    (ha : s₁.heap.get? a = some { cls := .type "list", data := .seq vs.toArray }) (hi : IntsAre vs ns) (hl : ns.length ≤ sizeLine) (hr : Room k callerA)
    (F : ∀ base : Heap, K.In base → base.Ns mainGlobals mg → FnG P w K mg base k fa fd [x] sp) (bind : ∀ (s : Shared) (u : Value), BindsTo s fd ⟨[u], []⟩ [(x, u)])
    (hsp : ∀ H : Hp, Only H → SqL K H a (ns.map V.int) → sp [.ref a] H (fun v _ => v = .bl true) fun _ _ _ => False) :
    codeAny (model P w) callerA (.call (.ref fa) ⟨[.ref a], []⟩) (fun r s' => r = .ok (.ret (.bool true)) ∧ OldK s₁.heap s'.heap ∧ s'.os = s₁.os ∧ AllBare s'.gens) s₁ := by
  have rv := vals_ints hi
  have lv := hi.length
  suffices core : ∀ H : Hp, Only H → SqL K H a (ns.map V.int) → HOk P w H s₁.heap → (∀ b, H b ≠ none → b = a) → (H a ≠ none → K.lookup a = none) →
      codeAny (model P w) callerA (.call (.ref fa) ⟨[.ref a], []⟩) (fun r s' => r = .ok (.ret (.bool true)) ∧ OldK s₁.heap s'.heap ∧ s'.os = s₁.os ∧ AllBare s'.gens) s₁ by
    by_cases hk : K.lookup a = none
    · refine core (fun b => if b = a then some (.frz { cls := .type "list", data := .seq vs.toArray } (.lst (ns.map V.int))) else none) ?_ (Or.inl (Or.inr ⟨_, if_pos rfl⟩)) ?_ ?_ fun _ => hk
      · intro b
        by_cases hb : b = a
        · right; exact ⟨_, _, if_pos hb⟩
        · left; exact if_neg hb
      · intro b u z
        by_cases hb : b = a
        · cases (if_pos hb).symm.trans z
          subst hb
          exact ⟨ha, by rw [List.length_map]; exact hl, vs, _, rv, ha⟩
        · cases (if_neg hb).symm.trans z
      · intro b z
        by_cases hb : b = a
        · exact hb
        · exact absurd (if_neg hb) z
    · obtain ⟨o, ho⟩ := Option.ne_none_iff_exists'.mp hk
      have e := KX a o ho
      rw [ha] at e
      cases e
      refine core (fun _ => none) (fun _ => Or.inl rfl) (Or.inr ⟨_, vs.toArray, _, ho, rfl, rfl, rfl, ?_, ?_⟩) ?_ (fun b z => absurd rfl z) (fun z => absurd rfl z)
      · rw [List.size_toArray, lv]; exact hl
      · simpa using rv
      · intro b u z
        have z' : (none : Option HO) = some u := z
        cases z'
  intro H hO hS hok hA hK
  have nodict : ∀ {b : Addr} {o : Obj} {es : Array DictEntry} {ep : Nat}, s₁.heap.get? b = some o → o.data = .dict es ep → H b = none := by
    intro b o es ep e d
    by_cases q : H b = none
    · exact q
    · obtain rfl := hA b q
      rw [ha] at e
      cases e
      have d' : Data.seq vs.toArray _ = Data.dict es ep := d
      cases d'
  have ns' : ∀ {b : Addr} {m : Str → Option Value}, s₁.heap.Ns b m → (hidT s₁.heap H).Ns b m := by
    rintro b m ⟨o, es, ep, e, d, r⟩
    exact ⟨o, es, ep, hidT_get e (nodict e d), d, r⟩
  have kb : K.In (hidT s₁.heap H) := by
    intro b o e
    refine hidT_get (KX b o e) ?_
    by_cases q : H b = none
    · exact q
    · obtain rfl := hA b q
      rw [hK q] at e
      cases e
  have hM : Mod K mg (hidT s₁.heap H) := by
    obtain ⟨mc, h1, h2⟩ := lim
    exact ⟨kb, ns' n1, ⟨mb, ns' n2, n3⟩, mc, ns' h1, h2⟩
  have e0 : Env0 P w K mg (hidT s₁.heap H) callerA [] s₁ H := by
    refine ⟨rfl, hM, fun b o e => of_hidT e, Nat.le_of_eq (hidT_size _ _), trivial, ?_, hok, .of_eq gn⟩
    intro b hb
    exact absurd (show b ∈ ([] : List Addr) from hb) List.not_mem_nil
  refine codeAny_mono ((F _ kb (ns' n1)).go callerA [] s₁ H ⟨[.ref a], []⟩ [.ref a] [.ref a] _ _ hr rfl e0 (bind s₁ (.ref a)) (.cons rfl .nil) (hsp H hO hS)) ?_
  intro r s' h
  match r, h with
  | .error e, h => exact False.elim h
  | .ok .next, h => exact False.elim h
  | .ok .brk, h => exact False.elim h
  | .ok .cont, h => exact False.elim h
  | .ok (.ret u), ⟨v, H', os, bare, un, hok', r', q⟩ =>
    have q' : v = .bl true := q
    subst q'
    obtain rfl : u = Value.bool true := r'
    refine ⟨rfl, OldK.of_keep ?_, os, bare⟩
    intro b o e
    cases q : H b with
    | none => exact un.keep b o e q (fun z => List.not_mem_nil z) List.not_mem_nil
    | some u =>
      rcases hO b with z | ⟨ob, xs, z⟩
      · rw [q] at z; cases z
      · have y := un.frzs b ob _ z
        obtain ⟨e1, _⟩ := hok b _ z
        obtain ⟨e2, _⟩ := hok' b _ y
        rw [e] at e1
        cases e1
        exact e2
theorem walkG {l : PySem.W.OpenLaw} {n k : Nat} {q : Program} {loose : List Str} {XP : (Str → Option Value) → Heap → Prop} {YP : World → Heap → Prop} {d : DefRec} {K : Params → PySem.W.Frag} {sp : World → Sp} {x : Str}
    (hn : l.most = some n) (hz : n ≤ sizeLine) (hdf : d.params.defaults = []) (hr : Room k callerA) (hY : ∀ (w : World) (h : Heap), YP w h → (K w.params).In h)
    (F : ∀ (w : World) (mg : Str → Option Value) (fa : Addr) (h : Heap), (K w.params).In h → h.Ns mainGlobals mg → mg d.name = some (.ref fa) →
      ∃ fd : FuncData, (∀ (s : Shared) (u : Value), BindsTo s fd ⟨[u], []⟩ [(x, u)]) ∧ ∀ base : Heap, (K w.params).In base → base.Ns mainGlobals mg → FnG l.prog w (K w.params) mg base k fa fd [x] (sp w))
    (hsp : ∀ (w : World) (H : Hp) (a : Addr) (ns : List Int), ns.length ≤ n → Only H → SqL (K w.params) H a (ns.map V.int) → sp w [.ref a] H (fun v _ => v = .bl true) fun _ _ _ => False) :
    PySem.W.WalkO q loose XP YP l.row.toRowW d [] (fun f vs => PySem.call f vs) := by
  refine Att.attach_call hn hdf ?_
  intro w s₀ s₁ mg mb fa o pm cd doc a vs ns G Y _ _ _ hmg hobj hints hlen hg
  have KX := hY w _ Y
  obtain ⟨fd, hb, hF⟩ := F w mg fa _ KX G.T.g hmg
  exact topG KX G.T.g G.T.b G.T.builtins G.T.nolimit hg hobj hints (Nat.le_trans hlen hz) hr hF hb fun H hO hS => hsp w H a ns hlen hO hS
end Hh

set_option Elab.async false
set_option linter.all false
set_option maxRecDepth 100000
set_option maxHeartbeats 1000000
namespace Hh
set_option autoImplicit false
open PySem PySem.Spec PyProof.Rows L2

/-! ### wide powers -/
def CPowB (i j : Int) : Prop := 0 ≤ j ∧ (Builtin.Int.intBits i : Int) * j ≤ 2 ^ 27
theorem op_powB {X : Cx} : OpR X (binaryOp .Pow) (rI CPowB fun i j => .int (i ^ j.toNat)) := opI fun _ _ _ _ _ _ _ hc q => pow_int hc.1 hc.2 q
theorem cpowB {i j : Int} {n : Nat} (hi : i.natAbs < 2 ^ n) (h0 : 0 ≤ j) (hj : (n : Int) * j ≤ 2 ^ 27) : CPowB i j := by
  refine ⟨h0, ?_⟩
  have h1 : Builtin.Int.intBits i ≤ n := intBits_le hi
  have h2 : (Builtin.Int.intBits i : Int) ≤ (n : Int) := by omega
  exact Int.le_trans (Int.mul_le_mul_of_nonneg_right h2 h0) hj

/-! ### one rule for several kinds -/
def rAddA (K : PySem.W.Frag) : R2 := fun x y H Q => rI0 (fun i j => .int (i + j)) x y H Q ∨ (rCat x y H Q ∨ (rCatA K x y H Q ∨ (∃ i j, x = .str i ∧ y = .str j ∧ i.length + j.length ≤ sizeLine ∧ Q (.str (i ++ j)) H)))
theorem op_addA {X : Cx} : OpR X (binaryOp .Add) (rAddA X.K) := op_add.or (op_cat.or (op_catA.or op_add_str))
def rLtA : R2 := fun x y H Q => rI0 (fun i j => .bl (decide (i < j))) x y H Q ∨ (∃ i j, x = .str i ∧ y = .str j ∧ Q (.bl (decide (i.cps.toList < j.cps.toList))) H)
theorem op_ltA {X : Cx} : OpR X (compareOp .Lt) rLtA := op_lt.or op_lt_str
def rSlAny (K : PySem.W.Frag) : V → Option Int → Option Int → Hp → VK → Prop := fun x lo hi H Q => rSlL K x lo hi H Q ∨ (rSlA K x lo hi H Q ∨ rSlS x lo hi H Q)
theorem sl_any {X : Cx} : SlR X (rSlAny X.K) := sl_list.or (sl_tupA.or sl_str)
theorem PI.or {X : Cx} {tg it : Expr} {w1 w2 : TI} (h1 : PI X tg it w1) (h2 : PI X tg it w2) : PI X tg it (fun σ H R => w1 σ H R ∨ w2 σ H R) :=
  ⟨fun pins s σ H R I h => h.elim (h1.run pins s σ H R I) (h2.run pins s σ H R I)⟩
def iSeq (K : PySem.W.Frag) (t : TE) : TI := fun σ H R => iList K t σ H R ∨ iTup K t σ H R
theorem pi_seq {X : Cx} {tg l : Expr} {tl : TE} (h : PE X l tl) : PI X tg l (iSeq X.K tl) := PI.or (pi_list h) (pi_tup h)

/-! ### a def of one's own by keywords alone -/
structure KwB (K : PySem.W.Frag) (fd : FuncData) (ps ks : List Str) (pi : List Nat) : Prop where
  to : ∀ (s : Shared) (ws : List Value), ws.length = ks.length → BindsTo s fd ⟨[], ks.zip ws⟩ (ps.zip (pi.filterMap fun i => ws[i]?))
  ln : pi.length = ps.length
  lt : ∀ i ∈ pi, i < ks.length
theorem Fun.kw {K : PySem.W.Frag} {x qual : Str} {st : Stmt} {f : Addr} {fd : FuncData} {ps ks : List Str} {pi : List Nat} (F : Fun K x qual st f fd)
    (h : ∀ (kV doc pm : Value) (an : Option Addr) (cdv ct : Value) (ws : List Value), ws.length = ks.length → bindArgs (PySem.W.fnOf x qual (defArgs st) (defBody st) (defScope st) .none kV doc pm an cdv ct) ⟨[], ks.zip ws⟩ = pure (ps.zip (pi.filterMap fun i => ws[i]?)))
    (ln : pi.length = ps.length) (lt : ∀ i ∈ pi, i < ks.length) : KwB K fd ps ks pi := by
  obtain ⟨oc, od, kV, doc, pm, an, cdv, ct, osl, rfl, lk, hcd⟩ := F.ex
  exact ⟨fun s ws hl => .of_eq (h kV doc pm an cdv ct ws hl), ln, lt⟩
def permV (pi : List Nat) (zs : List V) : List V := pi.filterMap fun i => zs[i]?
def tCallKw (sp : Sp) (pi : List Nat) (n : Nat) (E : XK) (t : TA) : TE := fun σ H Q => t σ H fun zs H1 => zs.length = n ∧ sp (permV pi zs) H1 Q E
theorem vals_perm {zs : List V} {ws : List Value} (r : Vals zs ws) : ∀ (pi : List Nat), (∀ i ∈ pi, i < zs.length) → Vals (permV pi zs) (pi.filterMap fun i => ws[i]?)
  | [], _ => .nil
  | i :: pi, h => by
    have hi := h i List.mem_cons_self
    obtain ⟨u, hu, ru⟩ := r.get (List.getElem?_eq_getElem hi)
    unfold permV
    rw [List.filterMap_cons, List.filterMap_cons, List.getElem?_eq_getElem hi, hu]
    exact .cons ru (vals_perm r pi fun j hj => h j (List.mem_cons_of_mem _ hj))
theorem pe_callKw {X : Cx} {k : Nat} {f : Addr} {fd : FuncData} {ps ks : List Str} {sp : Sp} {x : Str} {p pos : Pos} {kws : List Keyword} {tk : TA} {pi : List Nat} (F : FnG X.prog X.w X.K X.mg X.base k f fd ps sp) (hr : Room k X.A) (hc : Calm X.A)
    (hg : Gl X x) (hm : X.mg x = some (.ref f)) (hk : PySem.W.keepIn X.K (.ref f) = true) (hb : KwB X.K fd ps ks pi) (hkw : PK X kws tk)
    (hall : (backToKw pos (keywordEach kws X.env)).all (·.1.isSome) = true := by rfl) (hks : (backToKw pos (keywordEach kws X.env)).filterMap (·.1) = ks := by rfl) (hdb : (x == ("__debug__" : Str)) = false := by decide)
    (hpl : ((backTo pos (starEach [] X.env)).any (·.1) || (backToKw pos (keywordEach kws X.env)).any (·.1.isNone)) = false := by rfl) : PE X (.Call (.Name x p) [] kws pos) (tCallKw sp pi ks.length E0 tk) := by
  constructor
  intro pins s σ H Q I h
  refine wpAny_Call_Name_kw (ld_glob I hg hm ?_ hdb)
  refine PySem.W.callWith_KW0 (h₀ := X.base) I.ok.mod.kin hk hall ?_ hpl
  refine thn (hkw.run pos pins s σ H _ I h) ?_
  rintro ws s1 ⟨zs, H1, I1, rz, hz, q⟩
  refine ⟨I1.kIn, ?_⟩
  rw [hks]
  have rv := vals_perm rz pi fun i hi => by rw [hz]; exact hb.lt i hi
  refine wpAny_call (codeAny_mono (F.go X.A X.stack s1 H1 ⟨[], ks.zip ws⟩ _ _ Q E0 hr hc I1.env0 (hb.to s1 ws (by rw [← rz.length]; exact hz)) rv q) ?_)
  intro rr s' q
  match rr, q with
  | .error _, q => exact False.elim q
  | .ok (.ret u), q => exact I1.after q
  | .ok .next, q => exact False.elim q
  | .ok .brk, q => exact False.elim q
  | .ok .cont, q => exact False.elim q

/-! ### the same rules with the written part told -/
section
variable {X : Cx} {K : PySem.W.Frag}
theorem op_eqK (e : X.K = K) (hu : X.A.units + 64 < cLine) : OpR X (compareOp .Eq) (rEqX K) := by subst e; exact (op_eqD hu).or op_eq
theorem op_neK (e : X.K = K) (hu : X.A.units + 64 < cLine) : OpR X (compareOp .NotEq) (rNeX K) := by subst e; exact (op_neD hu).or op_ne
theorem op_addK (e : X.K = K) : OpR X (binaryOp .Add) (rAddA K) := by subst e; exact op_addA
theorem ix_K (e : X.K = K) : IxR X (rIx K) := by subst e; exact ix_seq
theorem sl_K (e : X.K = K) : SlR X (rSlAny K) := by subst e; exact sl_any
theorem op_inK (e : X.K = K) : OpR X (compareOp .In) (rIn K false) := by subst e; exact op_in_seq
theorem op_notInK (e : X.K = K) : OpR X (compareOp .NotIn) (rIn K true) := by subst e; exact op_notIn_seq
theorem call_isiK' (e : X.K = K) : CallR X (.builtin "isinstance") (rIsi K) := by subst e; exact call_isi
theorem call_lenK (e : X.K = K) : CallR X (.builtin "len") (fun xs H Q => ∃ x n, xs = [x] ∧ LenV K x H n ∧ Q (.int n) H) := by subst e; exact call_len
theorem cr_allK (e : X.K = K) (hc : X.calm = true) : CallR X (.builtin "all") (rAll K) := by subst e; exact cr_all hc
theorem cr_anyK (e : X.K = K) (hc : X.calm = true) : CallR X (.builtin "any") (rAny K) := by subst e; exact cr_any hc
theorem call_tupK (e : X.K = K) : CallR X (.type "tuple") (fun xs H Q => ∃ p ys, xs = [.ref p] ∧ ((SqL K H p ys ∧ ∀ l, H l = none → Q (.ref l) (upd H l (.tup ys))) ∨ (SqT K H p ys ∧ Q (.ref p) H))) := by subst e; exact call_tuple_of
theorem pi_seqK {tg l : Expr} {tl : TE} (e : X.K = K) (h : PE X l tl) : PI X tg l (iSeq K tl) := by subst e; exact pi_seq h
theorem pi_zipK {a b : Expr} {ta : TA} {p pos tpos : Pos} {elts : List Expr} {kk : Nat} (e : X.K = K) (hg : Gl X "zip") (hm : X.mg "zip" = none) (ha : PA X [a, b] ta)
    (hs : starEach [a, b] X.env = (false, eval a X.env) :: starEach [b] X.env := by rfl) (hpl : (backTo pos (starEach [b] X.env)).any (·.1) = false := by rfl) : PI X (.Tuple elts kk tpos) (.Call (.Name "zip" p) [a, b] [] pos) (RZ.iZipA K ta) := by
  subst e; exact RZ.pi_zipA hg hm ha hs hpl
theorem pi_revK {tg a : Expr} {te : TE} {p pos : Pos} (e : X.K = K) (hg : Gl X "reversed") (hm : X.mg "reversed" = none) (ha : PE X a te) (hs : starEach [a] X.env = (false, eval a X.env) :: starEach [] X.env := by rfl) :
    PI X tg (.Call (.Name "reversed" p) [a] [] pos) (RT.iRevA K te) := by subst e; exact RT.pi_revA hg hm ha hs
end

/-! ### repr of data -/
mutual
def noLst : PyData → Bool
  | .list _ => false
  | .tuple ds => noLsts ds
  | _ => true
def noLsts : List PyData → Bool
  | [] => true
  | d :: ds => noLst d && noLsts ds
end
mutual
def goodS : PyData → Bool
  | .none => true
  | .bool _ => true
  | .int i => decide (i.natAbs.log2 < 1920)
  | .str x => x.cps.toList.all fun c => decide (c < 16 ^ 8)
  | .list ds => noDics ds && goodSs ds
  | .tuple ds => goodSs ds && (noDics ds || noLsts ds)
  | .dict es => es.isEmpty
def goodSs : List PyData → Bool
  | [] => true
  | d :: ds => goodS d && goodSs ds
end
mutual
def szD : PyData → Nat
  | .none => 4
  | .bool _ => 5
  | .int _ => 1921
  | .str x => 10 * x.length + 2
  | .list ds => szDs ds + 2 * ds.length + 3
  | .tuple ds => szDs ds + 2 * ds.length + 3
  | .dict _ => 2
def szDs : List PyData → Nat
  | [] => 0
  | d :: ds => szD d + szDs ds
end
theorem shownAll_len : ∀ ds : List PyData, (PyData.shownAll ds).length = ds.length
  | [] => by simp [PyData.shownAll]
  | d :: ds => by simp [PyData.shownAll, shownAll_len ds]
mutual
theorem shown_len : ∀ d : PyData, goodS d = true → d.shown.length ≤ szD d
  | .none, _ => by simp only [PyData.shown, szD]; decide +kernel
  | .bool b, _ => by
    cases b <;> (simp only [PyData.shown, szD]; decide +kernel)
  | .int i, h => by
    simp only [goodS, decide_eq_true_eq] at h
    simp only [PyData.shown, szD]
    exact int_text_len_1921 h
  | .str x, h => by
    simp only [goodS, List.all_eq_true, decide_eq_true_eq] at h
    simp only [PyData.shown, szD]
    exact StrLaws.reprText_len x h
  | .list ds, h => by
    simp only [goodS, Bool.and_eq_true] at h
    have h1 := shownAll_sum ds h.2
    have h2 := listText_len_le (PyData.shownAll ds)
    rw [shownAll_len] at h2
    simp only [PyData.shown, szD]
    omega
  | .tuple ds, h => by
    simp only [goodS, Bool.and_eq_true] at h
    have h1 := shownAll_sum ds h.1
    have h2 := tupleText_len_le (PyData.shownAll ds)
    rw [shownAll_len] at h2
    simp only [PyData.shown, szD]
    omega
  | .dict es, h => by
    simp only [goodS, List.isEmpty_iff] at h
    subst h
    simp only [PyData.shown, PyData.shownKv, szD]
    decide +kernel
theorem shownAll_sum : ∀ ds : List PyData, goodSs ds = true → ((PyData.shownAll ds).map (·.length)).sum ≤ szDs ds
  | [], _ => by simp [PyData.shownAll, szDs]
  | d :: ds, h => by
    simp only [goodSs, Bool.and_eq_true] at h
    have h1 := shown_len d h.1
    have h2 := shownAll_sum ds h.2
    simp only [PyData.shownAll, szDs, List.map_cons, List.sum_cons]
    omega
end
mutual
theorem good_show : ∀ d : PyData, goodS d = true → d.showable = true
  | .none, _ => rfl
  | .bool _, _ => rfl
  | .int i, h => by simpa [goodS, PyData.showable] using h
  | .str _, _ => rfl
  | .list ds, h => by
    simp only [goodS, Bool.and_eq_true] at h
    simpa [PyData.showable] using goods_show ds h.2
  | .tuple ds, h => by
    simp only [goodS, Bool.and_eq_true] at h
    simpa [PyData.showable] using goods_show ds h.1
  | .dict es, h => by
    simp only [goodS, List.isEmpty_iff] at h
    subst h
    simp [PyData.showable, PyData.showableKv]
theorem goods_show : ∀ ds : List PyData, goodSs ds = true → PyData.showableAll ds = true
  | [], _ => by simp [PyData.showableAll]
  | d :: ds, h => by
    simp only [goodSs, Bool.and_eq_true] at h
    simp [PyData.showableAll, good_show d h.1, goods_show ds h.2]
end
mutual
theorem noDic_has : ∀ d : PyData, noDic d = true → d.hasDict = false
  | .none, _ => by simp [PyData.hasDict]
  | .bool _, _ => by simp [PyData.hasDict]
  | .int i, h => by simp [PyData.hasDict]
  | .str _, _ => by simp [PyData.hasDict]
  | .list ds, h => by
    simp only [noDic] at h
    simpa [PyData.hasDict] using noDics_has ds h
  | .tuple ds, h => by
    simp only [noDic] at h
    simpa [PyData.hasDict] using noDics_has ds h
  | .dict es, h => by simp [noDic] at h
theorem noDics_has : ∀ ds : List PyData, noDics ds = true → PyData.hasDictAll ds = false
  | [], _ => by simp [PyData.hasDictAll]
  | d :: ds, h => by
    simp only [noDics, Bool.and_eq_true] at h
    simp [PyData.hasDictAll, noDic_has d h.1, noDics_has ds h.2]
end
section
variable {X : Cx} {pins : List (Addr × Obj)} {σ : Sl} {H : Hp} {s : Shared}
mutual
theorem Rp.reads (I : Inv X pins σ H s) : ∀ {d : PyData} {v : V} {u : Value}, goodS d = true → Rp X.K H v d → RelV v u → ∃ as, Reads s.heap u d as ∧ (d.hasDict = true → sysModules ∉ as) ∧ (noLst d = true → sysModules ∉ as)
  | .none, _, _, _, .non, r => by cases r; exact ⟨_, .none, by simp⟩
  | .bool _, _, _, _, .bl b, r => by cases r; exact ⟨_, .bool b, by simp⟩
  | .int _, _, _, _, .int i, r => by obtain ⟨t, rfl⟩ := r; exact ⟨_, .int i t, by simp⟩
  | .str _, _, _, _, .str x, r => by obtain ⟨t, rfl⟩ := r; exact ⟨_, .str x t, by simp⟩
  | .list ds, _, _, e, @Rp.lst _ _ a xs _ h rr, r => by
    cases r
    simp only [goodS, Bool.and_eq_true] at e
    obtain ⟨z, its, n, rv, eo⟩ := (show ObjOk X.prog X.w H s.heap a (.lst xs) from I.hok a _ h)
    obtain ⟨as, h1, _⟩ := RpAll.reads I e.2 rr rv
    refine ⟨a :: as, .list eo rfl rfl (by simpa using h1), fun hd => ?_, fun hd => ?_⟩
    · have := noDics_has ds e.1
      simp [PyData.hasDict, this] at hd
    · simp [noLst] at hd
  | .tuple ds, _, _, e, @Rp.tup _ _ a xs _ h rr, r => by
    cases r
    simp only [goodS, Bool.and_eq_true, Bool.or_eq_true] at e
    obtain ⟨its, rv, ⟨o, eo, hc, n, hd⟩, _⟩ := I.tuple h
    obtain ⟨as, h1, h2⟩ := RpAll.reads I e.1 rr rv
    refine ⟨as, .tuple eo hc hd (by simpa using h1), fun z => ?_, fun z => h2 (by simpa [noLst] using z)⟩
    rcases e.2 with q | q
    · have := noDics_has ds q
      simp [PyData.hasDict, this] at z
    · exact h2 q
  | .dict es, _, _, e, @Rp.dic _ _ a kvs _ h rr, r => by
    cases r
    simp only [goodS, List.isEmpty_iff] at e
    subst e
    cases rr
    obtain ⟨_, hs, vs, kv, o, es, ep, eo, he, hd, _, hl, _⟩ := (show ObjOk X.prog X.w H s.heap a (.dK []) from I.hok a _ h)
    cases kv
    have hes : es.toList = [] := by
      cases q : es.toList with
      | nil => rfl
      | cons x r => rw [q] at hl; cases hl
    have ha : sysModules ∉ [a] ++ [] ++ [] := by
      simp only [List.append_nil, List.mem_singleton]
      exact fun z => by rw [← z] at hs; simp at hs
    exact ⟨[a] ++ [] ++ [], .dict (n := ep) eo he.1 hd (by rw [hes]; exact .nil) (by rw [hes]; exact .nil), fun _ => ha, fun _ => ha⟩
theorem RpAll.reads (I : Inv X pins σ H s) : ∀ {ds : List PyData} {vs : List V} {us : List Value}, goodSs ds = true → RpAll X.K H vs ds → Vals vs us → ∃ as, ReadsAll s.heap us ds as ∧ (noLsts ds = true → sysModules ∉ as)
  | [], _, _, _, .nil, .nil => ⟨[], .nil, by simp⟩
  | d :: ds, _, _, e, .cons h rr, .cons r r' => by
    simp only [goodSs, Bool.and_eq_true] at e
    obtain ⟨as, h1, _, h2⟩ := Rp.reads I e.1 h r
    obtain ⟨bs, h3, h4⟩ := RpAll.reads I e.2 rr r'
    refine ⟨as ++ bs, .cons h1 h3, fun hd hm => ?_⟩
    simp only [noLsts, Bool.and_eq_true] at hd
    rcases List.mem_append.mp hm with z | z
    · exact h2 hd.1 z
    · exact h4 hd.2 z
end
def rReprD (K : PySem.W.Frag) : List V → Hp → VK → Prop := fun xs H Q => ∃ x d, xs = [x] ∧ Rp K H x d ∧ goodS d = true ∧ szD d ≤ 2 ^ 23 ∧ PyData.depth d ≤ 60 ∧ Q (.str d.shown) H
theorem call_reprD {K : PySem.W.Frag} (e : X.K = K) (hu : X.A.units + 64 < cLine) (hc : Calm X.A) : CallR X (.builtin "repr") (rReprD K) := by
  subst e
  intro pins s σ H xs us Q I r h
  obtain ⟨x, d, rfl, hd, hg, hz, hp, q⟩ := h
  obtain ⟨u, rfl, ru⟩ := r.one
  have hl := shown_len d hg
  have sl : (2 : Nat) ^ 23 ≤ sizeLine := by decide
  have fits : d.shown.length ≤ sizeLine := Nat.le_trans hl (Nat.le_trans hz sl)
  obtain ⟨as, h1, h2, _⟩ := Rp.reads I hg hd ru
  cases h1 with
  | none => exact PySem.P.repr_of_none ⟨.str _, H, I.tok _, ⟨_, rfl⟩, q⟩
  | bool b => exact PySem.P.repr_of_bool ⟨.str _, H, I.tok _, ⟨_, rfl⟩, q⟩
  | int i t => exact PySem.P.repr_of_int (by simpa [goodS] using hg) ⟨.str _, H, I.tok _, ⟨_, rfl⟩, q⟩
  | str y t => exact PySem.P.repr_of_str ⟨.str _, H, I.tok _, ⟨_, rfl⟩, q⟩ fits
  | list a1 a2 a3 a4 => exact repr_of_reads' (.list a1 a2 a3 a4) (good_show _ hg) h2 hc (by omega) (fun _ _ e => e) (fun h' u tk hk => ⟨.str _, H, I.kept hk, ⟨u, rfl⟩, q⟩) fits
  | tuple a1 a2 a3 a4 => exact repr_of_reads' (.tuple a1 a2 a3 a4) (good_show _ hg) h2 hc (by omega) (fun _ _ e => e) (fun h' u tk hk => ⟨.str _, H, I.kept hk, ⟨u, rfl⟩, q⟩) fits
  | dict a1 a2 a3 a4 a5 => exact repr_of_reads' (.dict a1 a2 a3 a4 a5) (good_show _ hg) h2 hc (by omega) (fun _ _ e => e) (fun h' u tk hk => ⟨.str _, H, I.kept hk, ⟨u, rfl⟩, q⟩) fits
end
section
variable {c : Ctx} {ρ : List Ent} {ta tb te : TE} {tr : TA} {C C0 C1 C2 : Nat} {P P1 : PyData → Prop}
theorem pv_repr {d : PyData} (ha : Pv c ta ρ d) (hg : goodS d = true) (hz : szD d ≤ 2 ^ 23) (hp : PyData.depth d ≤ 60) : Pv c (tCB (rReprD c.K) (tCons ta tNil)) ρ (.str d.shown) := fun σ I H n Q w e l k =>
  ha σ I H n _ w e l fun v d' I2 H2 g2 w2 r2 p2 => by
    subst p2
    exact ⟨v, d', rfl, r2.mono w2.ih, hg, hz, hp, k _ _ I2 H2 g2 w2 (.str _) rfl⟩

theorem pv_isN2 {d : PyData} (ha : Pv c ta ρ d) : Pv c (tOp (fun x y H Q => y = .non ∧ Q (.bl (decide (x = .non))) H) ta (tC .non)) ρ (.bool (isNo d)) := fun σ I H n Q w e l k => by
  refine ha σ I H n _ w e l fun v d' I2 H2 g2 w2 r2 p2 => ?_
  subst p2
  refine ⟨rfl, ?_⟩
  rw [r2.isNo]
  exact k _ _ I2 H2 g2 w2 (.bl _) rfl
theorem pv_notN2 {d : PyData} (ha : Pv c ta ρ d) : Pv c (tOp (fun x y H Q => y = .non ∧ Q (.bl (!decide (x = .non))) H) ta (tC .non)) ρ (.bool (!isNo d)) := fun σ I H n Q w e l k => by
  refine ha σ I H n _ w e l fun v d' I2 H2 g2 w2 r2 p2 => ?_
  subst p2
  refine ⟨rfl, ?_⟩
  rw [r2.isNo]
  exact k _ _ I2 H2 g2 w2 (.bl _) rfl
/-! ### the kinds of + and < -/
theorem pv_addI {i j : Int} (ha : Pv c ta ρ (.int i)) (hb : Pv c tb ρ (.int j)) : Pv c (tOp (rAddA c.K) ta tb) ρ (.int (i + j)) :=
  pv_op ha hb fun I H n x y Q w r1 r2 k => .inl (rd_ii (g := fun i j => i + j) I H n x y Q w r1 r2 k)
theorem pv_addL {ds es : List PyData} (ha : Pv c ta ρ (.list ds)) (hb : Pv c tb ρ (.list es)) (h : ds.length + es.length ≤ sizeLine) : Pv c (tOp (rAddA c.K) ta tb) ρ (.list (ds ++ es)) :=
  pv_op ha hb fun I H n x y Q w r1 r2 k => by
    obtain ⟨a, xs, rfl, h1, q1⟩ := r1.lst_inv
    obtain ⟨b, ys, rfl, h2, q2⟩ := r2.lst_inv
    refine .inr (.inl ⟨a, b, xs, ys, rfl, rfl, w.ih _ _ h1, w.ih _ _ h2, by rw [q1.length, q2.length]; exact h, fun p np => ?_⟩)
    exact k _ _ (upd I p (.lst (xs ++ ys))) (upd H p (.lst (xs ++ ys))) (new_go w.ih np) (w.new np) (.lst upd_same ((q1.append q2).mono (new_go (b := none) w.ih np).ii)) rfl
theorem pv_addT {ds es : List PyData} (ha : Pv c ta ρ (.tuple ds)) (hb : Pv c tb ρ (.tuple es)) (h : ds.length + es.length ≤ sizeLine) : Pv c (tOp (rAddA c.K) ta tb) ρ (.tuple (ds ++ es)) :=
  pv_op ha hb fun I H n x y Q w r1 r2 k => by
    obtain ⟨a, xs, rfl, h1, q1⟩ := id r1.tup_inv
    obtain ⟨b, ys, rfl, h2, q2⟩ := id r2.tup_inv
    refine .inr (.inr (.inl ⟨a, b, xs, ys, rfl, rfl, seqT_mono w.ih h1, seqT_mono w.ih h2, by rw [q1.length, q2.length]; exact h, fun e => ?_, fun _ e => ?_, fun _ _ p np => ?_⟩))
    · subst e
      cases q1
      exact k _ _ I H Gx.refl w r2 rfl
    · subst e
      cases q2
      exact k _ _ I H Gx.refl w r1 (by rw [List.append_nil])
    · exact k _ _ (upd I p (.tup (xs ++ ys))) (upd H p (.tup (xs ++ ys))) (new_go w.ih np) (w.new np) (.tup (.inl (.inl upd_same)) ((q1.append q2).mono (new_go (b := none) w.ih np).ii)) rfl
theorem pv_addS {x y : Str} (ha : Pv c ta ρ (.str x)) (hb : Pv c tb ρ (.str y)) (h : x.length + y.length ≤ sizeLine) : Pv c (tOp (rAddA c.K) ta tb) ρ (.str (x ++ y)) :=
  pv_op ha hb fun I H n u v Q w r1 r2 k => .inr (.inr (.inr ⟨x, y, r1.str_inv, r2.str_inv, h, k _ _ I H Gx.refl w (.str _) rfl⟩))
theorem pv_ltI {i j : Int} (ha : Pv c ta ρ (.int i)) (hb : Pv c tb ρ (.int j)) : Pv c (tOp rLtA ta tb) ρ (.bool (decide (i < j))) :=
  pv_op ha hb fun I H n x y Q w r1 r2 k => .inl (rd_ib (g := fun i j => decide (i < j)) I H n x y Q w r1 r2 k)
theorem pv_ltS {i j : Str} (ha : Pv c ta ρ (.str i)) (hb : Pv c tb ρ (.str j)) : Pv c (tOp rLtA ta tb) ρ (.bool (decide (i.cps.toList < j.cps.toList))) :=
  pv_op ha hb fun I H n x y Q w r1 r2 k => .inr ⟨i, j, r1.str_inv, r2.str_inv, k _ _ I H Gx.refl w (.bl _) rfl⟩
theorem pv_cutL {tl th : TO} {ds : List PyData} {lo hi : Option Int} (ha : Pv c te ρ (.list ds)) (hl : Pp c tl ρ lo) (hh : Pp c th ρ hi) : Pv c (tSl (rSlAny c.K) te tl th) ρ (.list (cutD ds lo hi)) := fun σ I H n Q w e l k => by
  have := pv_slL ha hl hh σ I H n Q w e l k
  refine ha σ I H n _ w e l fun v d I2 H2 g2 w2 r2 p2 => ?_
  subst p2
  refine hl σ I2 H2 n _ w2 (e.go g2) (by omega) fun I3 H3 g3 w3 => hh σ I3 H3 n _ w3 (e.go (g2.trans g3)) (by omega) fun I4 H4 g4 w4 => ?_
  obtain ⟨a, xs, rfl, hs, hr⟩ := (r2.mono (g3.ii.trans g4.ii)).lst_inv
  refine .inl ⟨a, xs, rfl, SqL.of (w4.ih _ _ hs), fun p np => ?_⟩
  exact k _ _ _ _ (((g2.trans g3).trans g4).trans (new_go w4.ih np)) (w4.new np) (.lst upd_same ((cut_rp hr lo hi).mono (new_go (b := none) w4.ih np).ii)) rfl
theorem pv_cutT {tl th : TO} {ds : List PyData} {lo hi : Option Int} (ha : Pv c te ρ (.tuple ds)) (hl : Pp c tl ρ lo) (hh : Pp c th ρ hi) : Pv c (tSl (rSlAny c.K) te tl th) ρ (.tuple (cutD ds lo hi)) := fun σ I H n Q w e l k => by
  refine ha σ I H n _ w e l fun v d I2 H2 g2 w2 r2 p2 => ?_
  subst p2
  refine hl σ I2 H2 n _ w2 (e.go g2) (by omega) fun I3 H3 g3 w3 => hh σ I3 H3 n _ w3 (e.go (g2.trans g3)) (by omega) fun I4 H4 g4 w4 => ?_
  have rr := r2.mono (g3.ii.trans g4.ii)
  obtain ⟨a, xs, rfl, hs, hr⟩ := rr.tup_inv
  refine .inr (.inl ⟨a, xs, rfl, seqT_mono w4.ih hs, fun hw => ?_, fun hw p np => ?_⟩)
  · have e1 : cutD ds lo hi = ds := by
      unfold cutD
      exact sIx_whole ds lo hi (by rw [← hr.length]; exact hw)
    rw [e1] at k
    exact k _ _ _ _ ((g2.trans g3).trans g4) w4 rr rfl
  · exact k _ _ _ _ (((g2.trans g3).trans g4).trans (new_go w4.ih np)) (w4.new np) (.tup (.inl (.inl upd_same)) ((cut_rp hr lo hi).mono (new_go (b := none) w4.ih np).ii)) rfl
variable {g : TG} {tgs : List Nat} {f : PyData → List Ent → List Ent} {Pi : List PyData → Prop}
theorem iw_sl (ha : Ev c ta ρ C (fun d => ∃ ds, d = .list ds ∧ Pi ds)) (ht : ∀ ds, Pi ds → ∀ d ∈ ds, Tg c g tgs d (f d)) : Iw c (iSeq c.K ta) g ρ C tgs f Pi := fun σ I H n R w e l k => .inl (iw_list ha ht σ I H n R w e l k)
theorem iw_st (ha : Ev c ta ρ C (fun d => ∃ ds, d = .tuple ds ∧ Pi ds)) (ht : ∀ ds, Pi ds → ∀ d ∈ ds, Tg c g tgs d (f d)) : Iw c (iSeq c.K ta) g ρ C tgs f Pi := fun σ I H n R w e l k => .inr (iw_tup ha ht σ I H n R w e l k)

/-! ### keywords -/
theorem ev_callKw {ar m : Nat} {pi : List Nat} {pre : List Ent → Prop} {post : List Ent → PyData → Prop} {Pe : List Ent → Prop} {E : XK} (ha : Ea c tr ρ C1 Pe) (hm : ∀ es, Pe es → es.length = m) (hpi : ∀ i ∈ pi, i < m) (hl : pi.length = ar)
    (hp : ∀ es, Pe es → pre (pi.filterMap fun i => es[i]?)) (hP : ∀ es d, Pe es → post (pi.filterMap fun i => es[i]?) d → P d) (hC : C1 + C2 ≤ C) : Ev c (tCallKw (spD c.K ar C2 pre post) pi m E tr) ρ C P := fun σ I H n Q w e l k =>
  ha σ I H n _ w e (by omega) fun vs es I2 H2 g2 w2 r2 p2 => by
    have hlen := hm es p2
    have lv := Paired.len r2
    have rp : ∀ (pi : List Nat), (∀ i ∈ pi, i < m) → Paired (ArgR c.K c.b I2) (permV pi vs) (pi.filterMap fun i => es[i]?) ∧ (permV pi vs).length = pi.length := by
      intro pi
      induction pi with
      | nil => exact fun _ => ⟨.nil, rfl⟩
      | cons i pi ih =>
        intro h
        have hi := h i List.mem_cons_self
        obtain ⟨ih1, ih2⟩ := ih fun j hj => h j (List.mem_cons_of_mem _ hj)
        have he : es[i]? = some (es[i]'(by omega)) := List.getElem?_eq_getElem (by omega)
        obtain ⟨v, hv, rv⟩ := Paired.getP r2 he
        unfold permV at ih1 ih2 ⊢
        rw [List.filterMap_cons, List.filterMap_cons, hv, he]
        exact ⟨.cons rv ih1, by rw [List.length_cons, ih2]; rfl⟩
    obtain ⟨q1, q2⟩ := rp pi hpi
    refine ⟨by omega, c.b, I2, n + C1, _, by rw [q2]; exact hl, q1, w2.ih, fun p e => ⟨w2.noB e, (w2.bg p e).2.2⟩, by omega, hp es p2, fun v d I3 H3 g3 ih3 hb r3 p3 => ?_⟩
    exact k v d I3 H3 (g2.trans g3) ((w2.go g3 ih3 hb).bgN (by omega)) r3 (hP _ _ p2 p3)
theorem fnG_ok {P : Program} {w : World} {K : PySem.W.Frag} {mg : Str → Option Value} {base : Heap} {x qual : Str} {st : Stmt} {f : Addr} {fd : FuncData} {N ps : List Str} {k C : Nat} {pre : List Ent → Prop} {post : List Ent → PyData → Prop} (F : Fun K x qual st f fd) (S : FnScope N ps (defScope st))
    (hbody : ∀ (cdv : Value) (A : Around) (outer : List Env) (s : Shared) (H : Hp) (E : XK), Room k (A.deeper (envOfC qual (defScope st) s.heap.objs.size f cdv)) → Calm (A.deeper (envOfC qual (defScope st) s.heap.objs.size f cdv)) →
      ∃ t, PSs (cxOf CX0 P w K mg base N qual (defScope st) f cdv A outer s H E).nox (defBody st) t ∧ ∀ (b : Option Addr) (I : Hp) (es : List Ent), es.length = ps.length → pre es → Bk ⟨K, b, H, I⟩ t (es ++ List.replicate (N.length - es.length) .any) C { nx := fun _ => post es .none, rt := post es }) :
    FnG P w K mg base (k + 1) f fd ps (spD K ps.length C pre post) := by
  refine Fun.okG F S (fun vs H Q E h => ?_) (fun cdv A outer s H vs Q E hr hc h => ?_)
  · obtain ⟨b, I, n, es, h, _⟩ := h
    exact h
  · obtain ⟨b, I, n, es, h1, h2, h3, h4, h5, h6, h7⟩ := h
    obtain ⟨t, ht, hb⟩ := hbody cdv A outer s H E hr hc
    refine ⟨t, ht, ?_⟩
    have w0 : Wd ⟨K, b, H, I⟩ I H n := ⟨h3, Same.refl _, fun _ _ _ h => h, fun _ _ => rfl, fun p e => ⟨(h4 p e).1, (by
      obtain ⟨x, y, z, hh, _⟩ := (h4 p e).2
      show H p ≠ none
      rw [hh]; exact fun z => nomatch z), (h4 p e).2⟩⟩
    have fin : ∀ v d I' H', Same I I' → Wd ⟨K, b, H, I⟩ I' H' (n + C) → Rp K I' v d → post es d → Q v H' := fun v d I' H' s w r p => by
      refine h7 v d I' H' ⟨s, fun q o ne e => w.h0 q o ne e, fun q e => w.nw q e, fun q e => ?_⟩ w.ih (fun p e => (w.bg p e).2.2) r p
      by_cases hb : b = some q
      · obtain ⟨_, _, x, y, z, h3, _⟩ := w.bg q hb
        rw [h3]; exact fun z => nomatch z
      · cases h : H q with
        | none => exact absurd h e
        | some o => rw [w.h0 q o (fun z => hb z.symm) h]; exact fun z => nomatch z
    exact hb b I es (by rw [← Paired.len h2]; exact h1) h6 (L2.start N vs) I H n _ w0 (start_env h2) h5 (fun σ' ρ' I' H' s w e p => fin .non .none I' H' s w .non p) (fun v d I' H' s w r p => fin v d I' H' s w r p) (fun _ _ _ _ _ _ _ z => z.elim) (fun _ _ _ _ _ _ _ z => z.elim)
end
end Hh

set_option Elab.async false
set_option linter.all false
set_option maxHeartbeats 1000000
namespace Hh
set_option autoImplicit false
def risingI (ns : List Int) : Bool := (ns.zip (ns.drop 1)).all fun p => decide (p.1 < p.2)
def wd (r : Int) : Int := (r - 1) / 5 * 7 + (r - 1) % 5
def rk (d : Int) : Int := d / 7 * 5 + (if 5 < d % 7 + 1 then 5 else d % 7 + 1)
def wkB (n : Int) : Bool := decide (n % 7 < 5)
def openB (ns : List Int) (n : Int) : Bool := wkB n && !(ns.any fun h => h == n)
def obF (day r h : Int) : Int := if (decide (day < h) && (wkB h && decide (h ≤ wd r))) = true then r + 1 else r
def obR (day : Int) (ns : List Int) (r : Int) : Int := ns.foldl (obF day) r
def nextO (ns : List Int) (n : Int) : Int := wd (obR (n - 1) ns (rk (n - 1) + 1))
def loF (r h : Int) : Int := if (h == wd r) = true then r - 1 else r
def loR (ns : List Int) (r : Int) : Int := ns.reverse.foldl loF r
theorem rising_pw : ∀ {ns : List Int}, risingI ns = true → ns.Pairwise (· < ·)
  | [], _ => .nil
  | [_], _ => List.pairwise_singleton _ _
  | x :: y :: r, h => by
    have h' : (decide (x < y) && risingI (y :: r)) = true := h
    rw [Bool.and_eq_true, decide_eq_true_eq] at h'
    have ih := rising_pw h'.2
    refine List.pairwise_cons.mpr ⟨fun z hz => ?_, ih⟩
    rcases List.mem_cons.mp hz with rfl | hz
    · exact h'.1
    · have := (List.pairwise_cons.mp ih).1 z hz
      omega
theorem pw_rising : ∀ {ns : List Int}, ns.Pairwise (· < ·) → risingI ns = true
  | [], _ => rfl
  | [_], _ => rfl
  | x :: y :: r, h => by
    have h1 := List.pairwise_cons.mp h
    show (decide (x < y) && risingI (y :: r)) = true
    rw [decide_eq_true (h1.1 y List.mem_cons_self), pw_rising h1.2]
    rfl
theorem wkB_iff {n : Int} : wkB n = true ↔ n % 7 < 5 := by unfold wkB; exact decide_eq_true_iff
theorem rk_wd (r : Int) : rk (wd r) = r := by unfold rk wd; split <;> omega
theorem wd_wk (r : Int) : wkB (wd r) = true := by rw [wkB_iff]; unfold wd; omega
theorem wd_lt {r s : Int} (h : r < s) : wd r < wd s := by unfold wd; omega
theorem wd_rk {d : Int} (h : wkB d = true) : wd (rk d) = d := by
  rw [wkB_iff] at h
  unfold rk wd
  split <;> omega
theorem wd_behind (d : Int) : d < wd (rk d + 1) := by unfold rk wd; split <;> omega
theorem wd_upto (d : Int) : wd (rk d) ≤ d := by unfold rk wd; split <;> omega
theorem rk_succ (d : Int) : rk (d + 1) = rk d + (if wkB (d + 1) = true then 1 else 0) := by
  unfold wkB rk
  simp only [decide_eq_true_eq]
  split <;> split <;> split <;> omega
theorem rk_le {a b : Int} (h : a ≤ b) : rk a ≤ rk b := by unfold rk; split <;> split <;> omega
theorem rk_nn {d : Int} (h : 0 ≤ d) : 1 ≤ rk d := by unfold rk; split <;> omega
theorem wd_nn {r : Int} (h : 1 ≤ r) : 0 ≤ wd r := by unfold wd; omega
theorem wd_neg {r : Int} (h : r ≤ 0) : wd r < 0 := by unfold wd; omega
/-- how many of the holidays are workdays behind a and up to b -/
def cR (ns : List Int) (a b : Int) : Nat := ns.countP fun h => decide (a < h) && (wkB h && decide (h ≤ b))
theorem cR_nil (a b : Int) : cR [] a b = 0 := rfl
theorem cR_append (xs ys : List Int) (a b : Int) : cR (xs ++ ys) a b = cR xs a b + cR ys a b := by unfold cR; rw [List.countP_append]
theorem cR_le (ns : List Int) (a b : Int) : cR ns a b ≤ ns.length := List.countP_le_length
theorem cR_same {ns : List Int} {a b b' : Int} (h : ∀ x ∈ ns, x ≤ b ∧ x ≤ b') : cR ns a b = cR ns a b' := by
  unfold cR
  refine List.countP_congr fun x hx => ?_
  obtain ⟨h1, h2⟩ := h x hx
  simp [h1, h2]
/-- how many open days there are in the m days behind a -/
def cnt (ns : List Int) (a : Int) : Nat → Nat
  | 0 => 0
  | m + 1 => cnt ns a m + (if openB ns (a + (m + 1 : Nat)) = true then 1 else 0)
theorem cR_succ {ns : List Int} {a b : Int} (hp : ns.Pairwise (· < ·)) (hab : a ≤ b) : cR ns a (b + 1) = cR ns a b + (if (wkB (b + 1) && ns.any fun h => h == b + 1) = true then 1 else 0) := by
  induction ns with
  | nil => simp [cR]
  | cons x r ih =>
    have hx := List.pairwise_cons.mp hp
    have ih' := ih hx.2
    have e1 : ∀ c, cR (x :: r) a c = cR r a c + (if (decide (a < x) && (wkB x && decide (x ≤ c))) = true then 1 else 0) := fun c => by
      unfold cR
      rw [List.countP_cons]
    rw [e1, e1, ih', List.any_cons]
    by_cases hxb : x = b + 1
    · have hr : (r.any fun h => h == b + 1) = false := by
        rw [List.any_eq_false]
        intro y hy
        have := hx.1 y hy
        simp only [beq_iff_eq]
        omega
      have q1 : decide (a < x) = true := decide_eq_true (by omega)
      have q2 : decide (x ≤ b) = false := decide_eq_false (by omega)
      have q3 : decide (x ≤ b + 1) = true := decide_eq_true (by omega)
      have q4 : (x == b + 1) = true := by rw [beq_iff_eq]; exact hxb
      rw [hr, q1, q2, q3, q4, ← hxb]
      cases wkB x <;> simp
    · have q4 : (x == b + 1) = false := by
        rw [beq_eq_false_iff_ne]; exact hxb
      have q5 : decide (x ≤ b + 1) = decide (x ≤ b) := by
        by_cases hle : x ≤ b
        · rw [decide_eq_true hle, decide_eq_true (by omega)]
        · rw [decide_eq_false hle, decide_eq_false (by omega)]
      rw [q4, q5, Bool.false_or]
      omega
theorem cnt_eq {ns : List Int} {a : Int} (hp : ns.Pairwise (· < ·)) : ∀ m : Nat, (cnt ns a m : Int) = rk (a + m) - rk a - cR ns a (a + m)
  | 0 => by
    have : cR ns a (a + (0 : Nat)) = 0 := by
      unfold cR
      rw [List.countP_eq_zero]
      intro x _
      simp only [Int.natCast_zero, Int.add_zero, Bool.and_eq_true, decide_eq_true_eq]
      omega
    rw [this]
    simp [cnt]
  | m + 1 => by
    have ih := cnt_eq (a := a) hp m
    have h1 := rk_succ (a + m)
    have h2 := cR_succ (a := a) (b := a + m) hp (by omega)
    have e : a + ((m + 1 : Nat) : Int) = a + m + 1 := by omega
    unfold cnt
    rw [e, h1, h2]
    unfold openB
    cases wkB (a + m + 1) <;> cases (ns.any fun h => h == a + m + 1) <;> simp <;> omega
def Jb (a r0 : Int) (l : List Int) (r : Int) : Prop := r = r0 + cR l a (wd r) ∧ ∀ h ∈ l, h ≠ wd r
theorem ob_inv {a r0 : Int} (hr : rk a < r0) : ∀ (rest l : List Int) (r : Int), (l ++ rest).Pairwise (· < ·) → Jb a r0 l r → Jb a r0 (l ++ rest) (rest.foldl (obF a) r)
  | [], l, r, _, j => by rw [List.append_nil]; exact j
  | h :: rest, l, r, hp, ⟨j1, j2⟩ => by
    have hp' : ((l ++ [h]) ++ rest).Pairwise (· < ·) := by rwa [List.append_assoc]
    have hlt : ∀ x ∈ l, x < h := fun x hx => (List.pairwise_append.mp hp).2.2 x hx h List.mem_cons_self
    have goal : Jb a r0 (l ++ [h]) (obF a r h) := by
      unfold obF
      by_cases hc : (decide (a < h) && (wkB h && decide (h ≤ wd r))) = true
      · rw [if_pos hc]
        simp only [Bool.and_eq_true, decide_eq_true_eq] at hc
        have hs : wd r < wd (r + 1) := wd_lt (by omega)
        refine ⟨?_, fun x hx => ?_⟩
        · rw [cR_append, cR_same (b := wd (r + 1)) (b' := wd r) fun x hx => by have := hlt x hx; omega]
          have : cR [h] a (wd (r + 1)) = 1 := by
            unfold cR
            rw [List.countP_cons, List.countP_nil, if_pos]
            simp only [Bool.and_eq_true, decide_eq_true_eq]
            exact ⟨hc.1, hc.2.1, by omega⟩
          rw [this]
          omega
        · rcases List.mem_append.mp hx with hx | hx
          · have := hlt x hx; omega
          · rw [List.mem_singleton.mp hx]; omega
      · rw [if_neg hc]
        refine ⟨?_, fun x hx => ?_⟩
        · rw [cR_append]
          have : cR [h] a (wd r) = 0 := by
            unfold cR
            rw [List.countP_cons, List.countP_nil, if_neg hc]
          rw [this]
          omega
        · rcases List.mem_append.mp hx with hx | hx
          · exact j2 x hx
          · rw [List.mem_singleton.mp hx]
            intro e
            apply hc
            have h3 : a < wd r := by
              have h1 := wd_behind a
              have h2 : rk a + 1 ≤ r := by omega
              by_cases h4 : rk a + 1 = r
              · rw [← h4]; exact h1
              · have := wd_lt (r := rk a + 1) (s := r) (by omega); omega
            rw [e, wd_wk, decide_eq_true h3, decide_eq_true (Int.le_refl _)]
            rfl
    have := ob_inv hr rest (l ++ [h]) (obF a r h) hp' goal
    rw [List.append_assoc] at this
    exact this
/-- the count-th open day behind a -/
theorem ob_spec {ns : List Int} {a : Int} {n : Nat} (hp : ns.Pairwise (· < ·)) (hn : 1 ≤ n) : ∃ m : Nat, wd (obR a ns (rk a + n)) = a + m ∧ openB ns (a + m) = true ∧ cnt ns a m = n ∧ 1 ≤ m ∧ wd (obR a ns (rk a + n)) ≤ wd (rk a + n + ns.length) := by
  obtain ⟨j1, j2⟩ := ob_inv (a := a) (r0 := rk a + n) (by omega) ns [] (rk a + n) (by simpa using hp) ⟨by rw [cR_nil]; omega, fun _ h => nomatch h⟩
  rw [List.nil_append] at j1 j2
  have er : ns.foldl (obF a) (rk a + n) = obR a ns (rk a + n) := rfl
  rw [er] at j1 j2
  have hR : rk a + 1 ≤ obR a ns (rk a + n) := by omega
  have hx : a < wd (obR a ns (rk a + n)) := by
    have h1 := wd_behind a
    by_cases h4 : rk a + 1 = obR a ns (rk a + n)
    · rw [← h4]; exact h1
    · have := wd_lt (r := rk a + 1) (s := obR a ns (rk a + n)) (by omega); omega
  refine ⟨(wd (obR a ns (rk a + n)) - a).toNat, ?_, ?_, ?_, by omega, ?_⟩
  · omega
  · have e : a + ((wd (obR a ns (rk a + n)) - a).toNat : Int) = wd (obR a ns (rk a + n)) := by omega
    rw [e]
    unfold openB
    rw [wd_wk, Bool.true_and, Bool.not_eq_true', List.any_eq_false]
    intro y hy
    simp only [beq_iff_eq]
    exact j2 y hy
  · have e : a + ((wd (obR a ns (rk a + n)) - a).toNat : Int) = wd (obR a ns (rk a + n)) := by omega
    have := cnt_eq (a := a) hp (wd (obR a ns (rk a + n)) - a).toNat
    rw [e, rk_wd] at this
    omega
  · have hle := cR_le ns a (wd (obR a ns (rk a + n)))
    by_cases h4 : obR a ns (rk a + n) = rk a + n + ns.length
    · rw [h4]; omega
    · have := wd_lt (r := obR a ns (rk a + n)) (s := rk a + n + ns.length) (by omega); omega
theorem cnt_mono (ns : List Int) (a : Int) : ∀ {m k : Nat}, m ≤ k → cnt ns a m ≤ cnt ns a k := by
  intro m k h
  induction h with
  | refl => exact Nat.le_refl _
  | @step k _ ih =>
    have e : cnt ns a (k + 1) = cnt ns a k + (if openB ns (a + ((k + 1 : Nat) : Int)) = true then 1 else 0) := rfl
    show cnt ns a m ≤ cnt ns a (k + 1)
    omega
def First (ns : List Int) (n x : Int) : Prop := n ≤ x ∧ openB ns x = true ∧ ∀ y, n ≤ y → y < x → openB ns y = false
theorem First.uniq {ns : List Int} {n x y : Int} (h : First ns n x) (k : First ns n y) : x = y := by
  obtain ⟨h1, h2, h3⟩ := h
  obtain ⟨k1, k2, k3⟩ := k
  by_cases e : x < y
  · have := k3 x h1 e; rw [h2] at this; cases this
  · by_cases e' : y < x
    · have := h3 y k1 e'; rw [k2] at this; cases this
    · omega
theorem next_first {ns : List Int} {n : Int} (hp : ns.Pairwise (· < ·)) : First ns n (nextO ns n) := by
  obtain ⟨m, e1, e2, e3, e4, _⟩ := ob_spec (a := n - 1) (n := 1) hp (Nat.le_refl 1)
  have e1' : nextO ns n = n - 1 + m := e1
  rw [e1']
  refine ⟨by omega, e2, fun y h1 h2 => ?_⟩
  cases q : openB ns y with
  | false => rfl
  | true =>
    exfalso
    have hk : ∃ k : Nat, y = n - 1 + ((k + 1 : Nat) : Int) ∧ k + 1 < m := ⟨(y - n).toNat, by omega, by omega⟩
    obtain ⟨k, ek, hkm⟩ := hk
    have c1 : cnt ns (n - 1) (k + 1) = cnt ns (n - 1) k + 1 := by
      show cnt ns (n - 1) k + (if openB ns (n - 1 + ((k + 1 : Nat) : Int)) = true then 1 else 0) = _
      rw [← ek, q]
      rfl
    obtain ⟨j, rfl⟩ : ∃ j, m = j + 1 := ⟨m - 1, by omega⟩
    have c2 : cnt ns (n - 1) (j + 1) = cnt ns (n - 1) j + 1 := by
      show cnt ns (n - 1) j + (if openB ns (n - 1 + ((j + 1 : Nat) : Int)) = true then 1 else 0) = _
      rw [e2]
      rfl
    have := cnt_mono ns (n - 1) (m := k + 1) (k := j) (by omega)
    omega
theorem next_near {ns : List Int} {n : Int} (hp : ns.Pairwise (· < ·)) (hl : ns.length ≤ 14) : nextO ns n < n + 30 := by
  obtain ⟨m, e1, e2, e3, e4, e5⟩ := ob_spec (a := n - 1) (n := 1) hp (Nat.le_refl 1)
  have h1 : nextO ns n ≤ wd (rk (n - 1) + 1 + ns.length) := e5
  have h2 : wd (rk (n - 1) + 1 + ns.length) < n + 30 := by
    unfold wd rk
    split <;> omega
  omega
theorem next_near2 {ns : List Int} {n : Int} (hp : ns.Pairwise (· < ·)) (hl : ns.length ≤ 28) : nextO ns n < n + 50 := by
  obtain ⟨m, e1, e2, e3, e4, e5⟩ := ob_spec (a := n - 1) (n := 1) hp (Nat.le_refl 1)
  have h1 : nextO ns n ≤ wd (rk (n - 1) + 1 + ns.length) := e5
  have h2 : wd (rk (n - 1) + 1 + ns.length) < n + 50 := by
    unfold wd rk
    split <;> omega
  omega
theorem cnt_below {ns : List Int} {a : Int} {m k : Nat} (h : openB ns (a + m) = true) (h1 : 1 ≤ m) (hk : k < m) : cnt ns a k < cnt ns a m := by
  obtain ⟨j, rfl⟩ : ∃ j, m = j + 1 := ⟨m - 1, by omega⟩
  have c2 : cnt ns a (j + 1) = cnt ns a j + 1 := by
    show cnt ns a j + (if openB ns (a + ((j + 1 : Nat) : Int)) = true then 1 else 0) = _
    rw [h]
    rfl
  have := cnt_mono ns a (m := k) (k := j) (by omega)
  omega
def Jl (a : Int) (l : List Int) (r : Int) : Prop := 0 ≤ r ∧ rk a ≤ r + l.length ∧ r ≤ rk a ∧ (∀ y, wkB y = true → wd r < y → y ≤ a → y ∈ l) ∧ wd r ∉ l
theorem lo_inv {a : Int} : ∀ (rest l : List Int) (r : Int), (l ++ rest).Pairwise (· > ·) → (∀ h ∈ rest, 0 ≤ h) → Jl a l r → Jl a (l ++ rest) (rest.foldl loF r)
  | [], l, r, _, _, j => by rw [List.append_nil]; exact j
  | h :: rest, l, r, hp, hn, ⟨j0, j1, j2, j3, j4⟩ => by
    have hp' : ((l ++ [h]) ++ rest).Pairwise (· > ·) := by rwa [List.append_assoc]
    have hlt : ∀ x ∈ l, x > h := fun x hx => (List.pairwise_append.mp hp).2.2 x hx h List.mem_cons_self
    have h0 := hn h List.mem_cons_self
    have goal : Jl a (l ++ [h]) (loF r h) := by
      unfold loF
      by_cases hc : (h == wd r) = true
      · rw [if_pos hc]
        rw [beq_iff_eq] at hc
        have hr1 : 1 ≤ r := by
          by_cases q : 1 ≤ r
          · exact q
          · have := wd_neg (r := r) (by omega); omega
        have hs := wd_lt (r := r - 1) (s := r) (by omega)
        refine ⟨by omega, by rw [List.length_append, List.length_singleton]; omega, by omega, fun y hy h1 h2 => ?_, fun hm => ?_⟩
        · by_cases h3 : wd r < y
          · exact List.mem_append_left _ (j3 y hy h3 h2)
          · have h4 : y = wd r := by
              rw [wkB_iff] at hy
              unfold wd at h1 h3 ⊢
              omega
            rw [h4, ← hc]
            exact List.mem_append_right _ (List.mem_singleton.mpr rfl)
        · rcases List.mem_append.mp hm with hm | hm
          · have := hlt _ hm; omega
          · have := List.mem_singleton.mp hm; omega
      · rw [if_neg hc]
        rw [beq_iff_eq] at hc
        refine ⟨j0, by rw [List.length_append, List.length_singleton]; omega, j2, fun y hy h1 h2 => List.mem_append_left _ (j3 y hy h1 h2), fun hm => ?_⟩
        rcases List.mem_append.mp hm with hm | hm
        · exact j4 hm
        · exact hc (List.mem_singleton.mp hm).symm
    have := lo_inv rest (l ++ [h]) (loF r h) hp' (fun x hx => hn x (List.mem_cons_of_mem _ hx)) goal
    rw [List.append_assoc] at this
    exact this
theorem openB_of {ns : List Int} {x : Int} (h1 : wkB x = true) (h2 : x ∉ ns) : openB ns x = true := by
  unfold openB
  rw [h1, Bool.true_and, Bool.not_eq_true', List.any_eq_false]
  intro y hy
  simp only [beq_iff_eq]
  intro e
  exact h2 (e ▸ hy)
theorem openB_not {ns : List Int} {x : Int} (h : wkB x = true → x ∈ ns) : openB ns x = false := by
  unfold openB
  cases q : wkB x with
  | false => rfl
  | true =>
    have : (ns.any fun h => h == x) = true := List.any_eq_true.mpr ⟨x, h q, by simp⟩
    rw [this]
    rfl
theorem last_spec {ns : List Int} {n : Int} (hp : ns.Pairwise (· < ·)) (h0 : ∀ x ∈ ns, 0 ≤ x) (hn : 0 ≤ n) :
    0 ≤ loR ns (rk n) ∧ rk n ≤ loR ns (rk n) + ns.length ∧ wd (loR ns (rk n)) ≤ n ∧ openB ns (wd (loR ns (rk n))) = true ∧ ∀ y, wd (loR ns (rk n)) < y → y ≤ n → openB ns y = false := by
  have hp' : ([] ++ ns.reverse).Pairwise (· > ·) := by
    rw [List.nil_append, List.pairwise_reverse]
    exact hp
  obtain ⟨j0, j1, j2, j3, j4⟩ := lo_inv (a := n) ns.reverse [] (rk n) hp' (fun x hx => h0 x (List.mem_reverse.mp hx)) ⟨by have := rk_nn hn; omega, by simp, Int.le_refl _, fun y hy h1 h2 => by
      exfalso
      have := rk_le h2
      have h4 := wd_rk hy
      by_cases q : rk y = rk n
      · rw [q] at h4; omega
      · have := wd_lt (r := rk y) (s := rk n) (by omega); omega, List.not_mem_nil⟩
  rw [List.nil_append] at j1 j3 j4
  have er : ns.reverse.foldl loF (rk n) = loR ns (rk n) := rfl
  rw [er] at j0 j1 j2 j3 j4
  rw [List.length_reverse] at j1
  refine ⟨j0, j1, ?_, openB_of (wd_wk _) fun h => j4 (List.mem_reverse.mpr h), fun y h1 h2 => openB_not fun hw => List.mem_reverse.mp (j3 y hw h1 h2)⟩
  have h1 := wd_upto n
  by_cases q : loR ns (rk n) = rk n
  · rw [q]; exact h1
  · have := wd_lt (r := loR ns (rk n)) (s := rk n) (by omega); omega
theorem last_near2 {ns : List Int} {n : Int} {r : Int} (h : rk n ≤ r + ns.length) (hl : ns.length ≤ 28) : n - 50 < wd r := by
  unfold rk at h
  unfold wd
  split at h <;> omega
theorem cnt_add (ns : List Int) (a : Int) (m : Nat) : ∀ k : Nat, cnt ns a (m + k) = cnt ns a m + cnt ns (a + m) k
  | 0 => by simp [cnt]
  | k + 1 => by
    have ih := cnt_add ns a m k
    have e1 : cnt ns a (m + (k + 1)) = cnt ns a (m + k) + (if openB ns (a + ((m + k + 1 : Nat) : Int)) = true then 1 else 0) := rfl
    have e2 : cnt ns (a + m) (k + 1) = cnt ns (a + m) k + (if openB ns (a + m + ((k + 1 : Nat) : Int)) = true then 1 else 0) := rfl
    rw [e1, e2, ih, show a + ((m + k + 1 : Nat) : Int) = a + m + ((k + 1 : Nat) : Int) by omega]
    omega
theorem cnt_uniq {ns : List Int} {a : Int} {m k : Nat} (h1 : openB ns (a + m) = true) (h2 : openB ns (a + k) = true) (m1 : 1 ≤ m) (k1 : 1 ≤ k) (e : cnt ns a m = cnt ns a k) : m = k := by
  by_cases p : m < k
  · have := cnt_below h2 k1 p; omega
  · by_cases q : k < m
    · have := cnt_below h1 m1 q; omega
    · omega
theorem wd_move (r w : Int) : wd (r + 5 * w) = wd r + 7 * w := by unfold wd; omega
theorem rk_move (d w : Int) : rk (d + 7 * w) = rk d + 5 * w := by unfold rk; split <;> split <;> omega
theorem wkB_move (d w : Int) : wkB (d + 7 * w) = wkB d := by
  unfold wkB
  rw [show (d + 7 * w) % 7 = d % 7 by omega]
theorem ob_move (a w : Int) : ∀ (ns : List Int) (r : Int), obR (a + 7 * w) (ns.map fun h => h + 7 * w) (r + 5 * w) = obR a ns r + 5 * w
  | [], r => rfl
  | h :: ns, r => by
    have st : obF (a + 7 * w) (r + 5 * w) (h + 7 * w) = obF a r h + 5 * w := by
      unfold obF
      rw [wkB_move, wd_move, show decide (a + 7 * w < h + 7 * w) = decide (a < h) by by_cases q : a < h <;> simp [q] <;> omega, show decide (h + 7 * w ≤ wd r + 7 * w) = decide (h ≤ wd r) by by_cases q : h ≤ wd r <;> simp [q] <;> omega]
      split <;> omega
    show obR (a + 7 * w) (ns.map fun h => h + 7 * w) (obF (a + 7 * w) (r + 5 * w) (h + 7 * w)) = obR a ns (obF a r h) + 5 * w
    rw [st]
    exact ob_move a w ns _
theorem last_near {ns : List Int} {n : Int} {r : Int} (h : rk n ≤ r + ns.length) (hl : ns.length ≤ 14) : n - 30 < wd r := by
  unfold rk at h
  unfold wd
  split at h <;> omega
end Hh

set_option Elab.async false
set_option linter.all false
set_option maxRecDepth 100000
set_option maxHeartbeats 1000000
namespace Hh
set_option autoImplicit false
open PySem PySem.Spec PyProof.Rows L2

/-! ### the bag: made, handed on, drawn from -/
def spNew : Sp := fun vs H Q _ => ∃ (I : Hp) (cell k : Int), vs = [.int cell, .int k] ∧ 0 ≤ k ∧ k ≤ 1000 ∧ Same I H ∧
  ∀ (p : Addr) (x y : Int) (I2 H2 : Hp), Gx none I H I2 H2 → Same I2 H2 → H2 p = none → 0 ≤ x → 0 ≤ y → y < 2 ^ 200 → Q (.ref p) (upd H2 p (.lst [.int x, .int y, .int 0]))
section
variable {c : Ctx} {ρ : List Ent} {ta tb te : TE} {tr : TA} {C C0 C1 C2 : Nat} {P P1 : PyData → Prop}
theorem ev_callBag {pre : List Ent → Prop} {post : List Ent → PyData → Prop} {E E' : XK} (ha : Ea c tr ρ 0 (fun es => ∃ cell k : Int, es = [.dat (.int cell), .dat (.int k)] ∧ 0 ≤ k ∧ k ≤ 1000)) (hp : pre [.bag]) (hP : ∀ d, post [.bag] d → P d) (hC : C ≤ NMAX) :
    Ev c (tCall (spD c.K 1 C pre post) [] E (tCons (tCall spNew [] E' tr) tNil)) ρ 0 P := fun σ I H n Q w e l kk => by
  refine ha σ I H n _ w e l fun vs es I2 H2 g2 w2 r2 ⟨cell, k, p2, h0, h1⟩ => ?_
  subst p2
  rw [List.append_nil]
  obtain ⟨v1, v2, rfl, q1, q2⟩ := pair2 r2
  have e1 : v1 = .int cell := Rp.int_inv q1
  have e2 : v2 = .int k := Rp.int_inv q2
  subst e1 e2
  refine ⟨I2, cell, k, rfl, h0, h1, w2.ih, fun p x y I2' H2' ga iha np hx hy hy2 => ?_⟩
  have ip := iha.free np
  have s1 : Same H2' (upd H2' p (.lst [.int x, .int y, .int 0])) := fun q o h => by rw [upd_ne (ne_of_none h np)]; exact h
  refine ⟨some p, I2', 0, [.bag], rfl, .cons ⟨p, rfl, rfl⟩ .nil, iha.trans s1, fun q hq => ?_, by omega, hp, fun v d I3 H3 g3 ih3 hb r3 p3 => ?_⟩
  · cases hq
    exact ⟨ip, x, y, 0, upd_same, hx, hy, hy2, Int.le_refl _, Int.le_refl _⟩
  · have gg : Gx none I2 H2 I3 H3 := by
      refine ga.trans ⟨g3.ii, fun q o _ h => ?_, fun q h => ?_, fun q h => ?_⟩
      · have ne : q ≠ p := ne_of_none h np
        exact g3.hh q o (fun z => ne (Option.some.inj z)) (by rw [upd_ne ne]; exact h)
      · exact g3.nw q (by rw [upd_ne (fun z => h (by rw [z]; exact np))]; exact h)
      · exact g3.th q (by rw [upd_ne (fun z => h (by rw [z]; exact np))]; exact h)
    have gc : Gx c.b I2 H2 I3 H3 := ⟨gg.ii, fun q o _ h => gg.hh q o (fun z => nomatch z) h, gg.nw, gg.th⟩
    refine kk v d I3 H3 (g2.trans gc) (w2.go (C := 0) gc ih3 fun q hq => ?_) r3 (hP d p3)
    obtain ⟨_, _, x', y', z', hh, rr⟩ := w2.bg q hq
    exact ⟨x', y', z', gg.hh q _ (fun z => nomatch z) hh, rr⟩
/-- ints with what is known of them -/
abbrev EvI (c : Ctx) (t : TE) (ρ : List Ent) (C : Nat) (R : Int → Prop) : Prop := Ev c t ρ C (fun d => ∃ x : Int, d = .int x ∧ R x)
variable {R R1 R2 : Int → Prop}
theorem evI_of {x : Int} (h : Pv c te ρ (.int x)) (hr : R x) : EvI c te ρ C R := h.imp (Nat.zero_le _) fun d e => ⟨x, e, hr⟩
theorem evI_op {g : Int → Int → Int} {D : Int → Int → Prop} (ha : EvI c ta ρ C1 R1) (hb : EvI c tb ρ C2 R2) (h : ∀ i j, R1 i → R2 j → D i j ∧ R (g i j)) (hC : C1 + C2 ≤ C) : EvI c (tOp (rI D fun i j => .int (g i j)) ta tb) ρ C R :=
  ev_op ha (P2 := fun _ d => ∃ x : Int, d = .int x ∧ R2 x) (fun _ _ => hb) (fun d1 d2 ⟨i, e1, h1⟩ ⟨j, e2, h2⟩ => by
    subst e1 e2
    obtain ⟨hD, hr⟩ := h i j h1 h2
    exact fun I H n x y Q w r1 r2 k => rd_iiC hD I H n x y Q w r1 r2 fun v d I2 H2 g w r e => k v d I2 H2 g w r ⟨_, e, hr⟩) hC
theorem evI_op0 {g : Int → Int → Int} (ha : EvI c ta ρ C1 R1) (hb : EvI c tb ρ C2 R2) (h : ∀ i j, R1 i → R2 j → R (g i j)) (hC : C1 + C2 ≤ C) : EvI c (tOp (rI0 fun i j => .int (g i j)) ta tb) ρ C R :=
  ev_op ha (P2 := fun _ d => ∃ x : Int, d = .int x ∧ R2 x) (fun _ _ => hb) (fun d1 d2 ⟨i, e1, h1⟩ ⟨j, e2, h2⟩ => by
    subst e1 e2
    exact fun I H n x y Q w r1 r2 k => rd_ii (g := g) I H n x y Q w r1 r2 fun v d I2 H2 g w r e => k v d I2 H2 g w r ⟨_, e, h i j h1 h2⟩) hC
theorem evI_add (ha : EvI c ta ρ C1 R1) (hb : EvI c tb ρ C2 R2) (h : ∀ i j, R1 i → R2 j → R (i + j)) (hC : C1 + C2 ≤ C) : EvI c (tOp (rAddA c.K) ta tb) ρ C R :=
  ev_op ha (P2 := fun _ d => ∃ x : Int, d = .int x ∧ R2 x) (fun _ _ => hb) (fun d1 d2 ⟨i, e1, h1⟩ ⟨j, e2, h2⟩ => by
    subst e1 e2
    exact fun I H n x y Q w r1 r2 k => .inl (rd_ii (g := fun i j => i + j) I H n x y Q w r1 r2 fun v d I2 H2 g w r e => k v d I2 H2 g w r ⟨_, e, h i j h1 h2⟩)) hC
theorem evI_max (ha : EvI c ta ρ C1 R1) (hb : EvI c tb ρ C2 R2) (h : ∀ i j, R1 i → R2 j → R (if j > i then j else i)) (hC : C1 + C2 ≤ C) :
    EvI c (tCB (fun xs H Q => ∃ i j, xs = [.int i, .int j] ∧ Q (.int (if j > i then j else i)) H) (tCons ta (tCons tb tNil))) ρ C R :=
  ev_cb (Pe := fun es => ∃ i j : Int, es = [.dat (.int i), .dat (.int j)] ∧ R1 i ∧ R2 j)
    (ea_cons ha (C2 := C2) (P2 := fun _ es => ∃ j : Int, es = [.dat (.int j)] ∧ R2 j) (fun _ _ => ea_cons hb (P2 := fun _ es => es = []) (fun _ _ => ea_nil) (fun d es ⟨j, e, hj⟩ e2 => ⟨j, by rw [e, e2], hj⟩) (by omega))
      (fun d es ⟨i, e, hi⟩ ⟨j, e2, hj⟩ => ⟨i, j, by rw [e, e2], hi, hj⟩) hC)
    fun es ⟨i, j, e, h1, h2⟩ => by
      subst e
      exact fun I H n vs Q w r k => rda_max I H n vs Q w r fun v d I2 H2 g w r e => k v d I2 H2 g w r ⟨_, e, h i j h1 h2⟩
/-- the bag's own numbers -/
theorem bag_at {i : Nat} (h : ρ[i]? = some .bag) {σ : Sl} {I H : Hp} {n : Nat} (w : Wd c I H n) (e : EnvR c I H σ ρ) (hn : n ≤ NMAX) : ∃ p x y z, σ[i]? = some (some (V.ref p)) ∧ c.b = some p ∧ H p = some (.lst [.int x, .int y, .int z]) ∧ 0 ≤ x ∧ 0 ≤ y ∧ y < 2 ^ 200 ∧ 0 ≤ z ∧ z ≤ n := by
  obtain ⟨o, h1, h2⟩ := Paired.getP e.st h
  cases o with
  | none => exact h2.elim
  | some v =>
    obtain ⟨p, rfl, hb⟩ := h2
    obtain ⟨_, _, x, y, z, hp, r⟩ := w.bg p hb
    exact ⟨p, x, y, z, h1, hb, hp, r⟩
theorem evI_bag0 {i : Nat} (h : ρ[i]? = some .bag) : EvI c (tOp (rIx c.K) (tVar i) (tC (.int 0))) ρ 0 (fun x => 0 ≤ x) := fun σ I H n Q w e l k => by
  obtain ⟨p, x, y, z, h1, hb, hp, hx, _⟩ := bag_at h w e l
  exact ⟨_, h1, .inl ⟨p, _, 0, .int x, rfl, rfl, SqL.of hp, rfl, k _ _ I H Gx.refl w (.int _) ⟨x, rfl, hx⟩⟩⟩
theorem evI_bag1 {i : Nat} (h : ρ[i]? = some .bag) : EvI c (tOp (rIx c.K) (tVar i) (tC (.int 1))) ρ 0 (fun x => 0 ≤ x ∧ x < 2 ^ 200) := fun σ I H n Q w e l k => by
  obtain ⟨p, x, y, z, h1, hb, hp, hx, hy, hy2, _⟩ := bag_at h w e l
  exact ⟨_, h1, .inl ⟨p, _, 1, .int y, rfl, rfl, SqL.of hp, rfl, k _ _ I H Gx.refl w (.int _) ⟨y, rfl, hy, hy2⟩⟩⟩
theorem evI_bag2 {i : Nat} (h : ρ[i]? = some .bag) : EvI c (tOp (rIx c.K) (tVar i) (tC (.int 2))) ρ 0 (fun x => 0 ≤ x ∧ x ≤ NMAX) := fun σ I H n Q w e l k => by
  obtain ⟨p, x, y, z, h1, hb, hp, hx, hy, hy2, hz, hz2⟩ := bag_at h w e l
  exact ⟨_, h1, .inl ⟨p, _, 2, .int z, rfl, rfl, SqL.of hp, rfl, k _ _ I H Gx.refl w (.int _) ⟨z, rfl, hz, by omega⟩⟩⟩
theorem Wd.bagSet {I H : Hp} {n m : Nat} {p : Addr} {x y z : Int} (w : Wd c I H n) (hb : c.b = some p) (hx : 0 ≤ x) (hy : 0 ≤ y) (hy2 : y < 2 ^ 200) (hz : 0 ≤ z) (hz2 : z ≤ m) : Wd c I (upd H p (.lst [.int x, .int y, .int z])) m := by
  refine ⟨fun q o h => ?_, w.i0, fun q o ne h => ?_, w.nw, fun q hq => ?_⟩
  · have := w.noB hb
    rw [upd_ne (ne_of_none h this)]; exact w.ih q o h
  · rw [upd_ne (fun e => ne (by rw [e]; exact hb.symm))]; exact w.h0 q o ne h
  · have : q = p := Option.some.inj (hq.symm.trans hb)
    subst this
    exact ⟨(w.bg q hq).1, (w.bg q hq).2.1, x, y, z, upd_same, hx, hy, hy2, hz, hz2⟩
theorem EnvR.bagSet {I H : Hp} {σ : Sl} {p : Addr} {xs : List V} (e : EnvR c I H σ ρ) (hb : c.b = some p) : EnvR c I (upd H p (.lst xs)) σ ρ :=
  e.own fun i ds h1 h2 => by
    obtain ⟨o, h3, h4⟩ := Paired.getP e.st h1
    rw [h2] at h3
    cases h3
    obtain ⟨q, ys, e1, _, _, hne, _⟩ := h4
    cases e1
    exact hne hb.symm
theorem bk_bag0 {i : Nat} {O : Out} (h : ρ[i]? = some .bag) (ha : EvI c te ρ C (fun x => 0 ≤ x)) (hn : O.nx ρ) : Bk c (tAsg te (gSub (tVar i) (tC (.int 0)) rSetL)) ρ C O := fun σ I H n D w e l k1 k2 k3 k4 =>
  ha σ I H n _ w e l fun v d I2 H2 g2 w2 r2 ⟨x', e2, hx'⟩ => by
    subst e2
    obtain rfl := r2.int_inv
    have e2 := e.go g2
    obtain ⟨p, x, y, z, h1, hb, hp, hx, hy, hy2, hz, hz2⟩ := bag_at h w2 e2 l
    refine ⟨_, h1, p, _, 0, 0, rfl, rfl, hp, rfl, ?_⟩
    exact k1 σ ρ I2 _ g2.ii (w2.bagSet hb hx' hy hy2 hz hz2) (e2.bagSet hb) hn
/-- bag[2] = bag[2] + 1 -/
theorem bk_bag2 {i : Nat} {O : Out} (h : ρ[i]? = some .bag) (hn : O.nx ρ) : Bk c (tAsg (tOp (rAddA c.K) (tOp (rIx c.K) (tVar i) (tC (.int 2))) (tC (.int 1))) (gSub (tVar i) (tC (.int 2)) rSetL)) ρ 1 O := fun σ I H n D w e l k1 k2 k3 k4 => by
  obtain ⟨p, x, y, z, h1, hb, hp, hx, hy, hy2, hz, hz2⟩ := bag_at h w e (Nat.le_trans (Nat.le_succ n) l)
  refine ⟨_, h1, .inl ⟨p, _, 2, .int z, rfl, rfl, SqL.of hp, rfl, .inl ⟨z, 1, rfl, rfl, _, h1, p, _, 2, 2, rfl, rfl, hp, rfl, ?_⟩⟩⟩
  exact k1 σ ρ I _ (Same.refl _) (w.bagSet hb hx hy hy2 (by omega) (by omega)) (e.bagSet hb) hn
end
theorem natAbs_lt {x : Int} {n : Nat} (h0 : 0 ≤ x) (h : x < 2 ^ n) : x.natAbs < 2 ^ n := by
  have e : (2 : Int) ^ n = ((2 ^ n : Nat) : Int) := by simp
  rw [e] at h
  omega
section
variable {P : Program} {w : World} {K : PySem.W.Frag}
theorem lst_raw {c : Ctx} {ρ : List Ent} {tr : TA} {Pe : List Ent → Prop} {σ : Sl} {I H : Hp} {Q : VK} (h : Ea c tr ρ 0 Pe) (w : Wd c I H 0) (e : EnvR c I H σ ρ)
    (k : ∀ vs es I2 H2, Gx c.b I H I2 H2 → Same I2 H2 → Paired (ArgR c.K c.b I2) vs es → Pe es → vs.length ≤ sizeLine ∧ ∀ p, H2 p = none → Q (.ref p) (upd H2 p (.lst vs))) : tLst tr σ H Q :=
  h σ I H 0 _ w e (Nat.zero_le _) fun vs es I2 H2 g w2 r p => k vs es I2 H2 g w2.ih r p
end
section
variable {K : PySem.W.Frag} {H : Hp} {p : Addr} {a b d : V} {Q : VK}
theorem bag0 (h : H p = some (.lst [a, b, d])) (q : Q a H) : rIx K (.ref p) (.int 0) H Q := .inl ⟨p, _, 0, a, rfl, rfl, SqL.of h, rfl, q⟩
theorem bag1 (h : H p = some (.lst [a, b, d])) (q : Q b H) : rIx K (.ref p) (.int 1) H Q := .inl ⟨p, _, 1, b, rfl, rfl, SqL.of h, rfl, q⟩
theorem bag2 (h : H p = some (.lst [a, b, d])) (q : Q d H) : rIx K (.ref p) (.int 2) H Q := .inl ⟨p, _, 2, d, rfl, rfl, SqL.of h, rfl, q⟩
end
def dipPre (es : List Ent) : Prop := ∃ m : Int, es = [.bag, .dat (.int m)] ∧ 0 < m ∧ m < 2 ^ 60
def dipPost (es : List Ent) (d : PyData) : Prop := ∃ m : Int, es = [.bag, .dat (.int m)] ∧ ∃ r : Int, d = .int r ∧ 0 ≤ r ∧ r < m
abbrev sp_dip (K : PySem.W.Frag) : Sp := spD K 2 1 dipPre dipPost
theorem cdivW {i j : Int} (h : 0 < j) (h2 : j < 2 ^ 60) : CDivW i j := wide_div (b := 60) h (by omega) (by decide) (by decide)
theorem rq_add {K : PySem.W.Frag} {H : Hp} {Q : VK} {i j : Int} (q : Q (.int (i + j)) H) : rAddA K (.int i) (.int j) H Q := .inl ⟨i, j, rfl, rfl, q⟩
section
variable {c : Ctx} {ρ : List Ent} {ta tb te : TE} {tr : TA} {C C0 C1 C2 : Nat} {P P1 : PyData → Prop}
/-- a draw -/
theorem ev_dip {i : Nat} {m : Int} {E : XK} (h : ρ[i]? = some .bag) (ha : Pv c ta ρ (.int m)) (h0 : 0 < m) (h1 : m < 2 ^ 60) : Ev c (tCall (sp_dip c.K) [] E (tCons (tVar i) (tCons ta tNil))) ρ 1 (fun d => ∃ r : Int, d = .int r ∧ 0 ≤ r ∧ r < m) :=
  ev_call (C1 := 0) (Pe := fun es => es = [.bag, .dat (.int m)]) (ea_bag h (pa_consD ha ea_nil) fun es e => by rw [e]) (fun es e => by subst e; exact ⟨rfl, m, rfl, h0, h1⟩)
    (fun es d e q => by
      subst e
      obtain ⟨m', e, r⟩ := q
      cases e
      exact r) (by omega)
end
theorem Pv.to {c : Ctx} {t : TE} {ρ : List Ent} {d d' : PyData} (h : Pv c t ρ d') (e : d' = d) : Pv c t ρ d := by subst e; exact h
theorem Pt.to {c : Ctx} {t : TT} {ρ : List Ent} {d d' : Bool} (h : Pt c t ρ d') (e : d' = d) : Pt c t ρ d := by subst e; exact h
section
variable {c : Ctx} {ρ : List Ent} {ta tb te : TE} {tr : TA} {C C0 C1 C2 : Nat} {P P1 : PyData → Prop} {tc : TT} {t u r : TS} {O : Out}
theorem bk_ifret {b : Bool} (hc : Pt c tc ρ b) (h1 : b = true → Bk c t ρ C { O with nx := fun _ => False }) (h2 : b = false → Bk c r ρ C O) : Bk c (tSeq (tIfS tc t tNext) r) ρ C O := by
  cases b with
  | true => exact bk_seq (N := fun _ => False) (C2 := 0) (bk_ifP hc (fun _ => h1 rfl) (fun e => nomatch e)) (fun _ z => z.elim) (by omega)
  | false => exact bk_seq (N := fun ρ' => ρ' = ρ) (C1 := 0) (C2 := C) (bk_ifP hc (fun e => nomatch e) (fun _ => bk_next rfl)) (fun x e => by rw [show x = ρ from e]; exact h2 rfl) (by omega)
theorem bk_let {i : Nat} (ha : Ev c te ρ C1 P) (h : ∀ d, P d → Bk c r (ρ.set i (.dat d)) C2 O) (hC : C1 + C2 ≤ C) : Bk c (tSeq (tAsg te (gName i)) r) ρ C O :=
  bk_seq (N := fun ρ' => ∃ d, P d ∧ ρ' = ρ.set i (.dat d)) (bk_set ha fun d p => ⟨d, p, rfl⟩) (fun ρ' ⟨d, p, e⟩ => by subst e; exact h d p) hC
theorem bk_letP {i : Nat} {d : PyData} (ha : Pv c te ρ d) (h : Bk c r (ρ.set i (.dat d)) C O) : Bk c (tSeq (tAsg te (gName i)) r) ρ C O :=
  bk_let ha (fun d' e => by subst e; exact h) (by omega)
theorem bk_do (ha : Ev c te ρ C1 P) (h : Bk c r ρ C2 O) (hC : C1 + C2 ≤ C) : Bk c (tSeq (tDrop te) r) ρ C O :=
  bk_seq (N := fun ρ' => ρ' = ρ) (bk_drop ha rfl) (fun ρ' e => by subst e; exact h) hC
theorem bk_retP {d : PyData} (ha : Pv c te ρ d) (h : O.rt d) : Bk c (tRet te) ρ C O := (bk_ret (O := { O with nx := fun _ => False }) ha fun d' e => by subst e; exact h).imp (by omega) (fun _ z => z.elim) (fun _ z => z)
/-- a call whose promise tells one value -/
theorem pv_callE {ar : Nat} {pre : List Ent → Prop} {post : List Ent → PyData → Prop} {es : List Ent} {E : XK} {d : PyData} (ha : Pa c tr ρ es) (hl : es.length = ar) (hp : pre es) (hq : ∀ x, post es x → x = d) : Pv c (tCall (spD c.K ar 0 pre post) [] E tr) ρ d :=
  ev_call ha (fun _ e => by subst e; exact ⟨hl, hp⟩) (fun _ _ e q => by subst e; exact hq _ q) (Nat.le_refl _)
end
section
variable {c : Ctx} {ρ : List Ent} {ta tb te : TE}
theorem pv_neg {i : Int} (ha : Pv c ta ρ (.int i)) : Pv c (tUn (rU fun i => .int (-i)) ta) ρ (.int (-i)) := fun σ I H n Q w e l k =>
  ha σ I H n _ w e l fun v d I2 H2 g2 w2 r2 p2 => by
    subst p2
    exact ⟨i, r2.int_inv, k _ _ I2 H2 g2 w2 (.int _) rfl⟩
theorem okD_int (i : Int) : okD (.int i) = true := by simp [okD, noDic, SeqAt.shaped, PyData.canLay0, PyData.depth]
theorem okD_bool (i : Bool) : okD (.bool i) = true := by simp [okD, noDic, SeqAt.shaped, PyData.canLay0, PyData.depth]
theorem okD_none : okD .none = true := by simp [okD, noDic, SeqAt.shaped, PyData.canLay0, PyData.depth]
theorem pv_eqI {i j : Int} (ha : Pv c ta ρ (.int i)) (hb : Pv c tb ρ (.int j)) : Pv c (tOp (rEqX c.K) ta tb) ρ (.bool (i == j)) := Pv.to (pv_eq ha hb (okD_int _) (okD_int _)) (by simp [PyData.eqv])
theorem pv_neI {i j : Int} (ha : Pv c ta ρ (.int i)) (hb : Pv c tb ρ (.int j)) : Pv c (tOp (rNeX c.K) ta tb) ρ (.bool (!(i == j))) := Pv.to (pv_ne ha hb (okD_int _) (okD_int _)) (by simp [PyData.eqv])
theorem pv_eqB {i j : Bool} (ha : Pv c ta ρ (.bool i)) (hb : Pv c tb ρ (.bool j)) : Pv c (tOp (rEqX c.K) ta tb) ρ (.bool (i == j)) := Pv.to (pv_eq ha hb (okD_bool _) (okD_bool _)) (by simp [PyData.eqv])
theorem pv_neB {i j : Bool} (ha : Pv c ta ρ (.bool i)) (hb : Pv c tb ρ (.bool j)) : Pv c (tOp (rNeX c.K) ta tb) ρ (.bool (!(i == j))) := Pv.to (pv_ne ha hb (okD_bool _) (okD_bool _)) (by simp [PyData.eqv])
end
/-- the law's own promise, at the top -/
abbrev spTop (K : PySem.W.Frag) : Sp := spD K 1 0 (fun es => ∃ ns : List Int, es = [.scr ns] ∧ ns.length ≤ 63) (fun _ d => d = .bool true)
theorem top_fits {K : PySem.W.Frag} {H : Hp} {a : Addr} {ns : List Int} (hl : ns.length ≤ 63) (hS : SqL K H a (ns.map V.int)) : spTop K [.ref a] H (fun v _ => v = .bl true) fun _ _ _ => False :=
  ⟨none, H, 0, [.scr ns], rfl, .cons ⟨a, rfl, hS⟩ .nil, Same.refl _, (fun _ h => (nomatch h)), Nat.zero_le _, ⟨ns, rfl, hl⟩, fun v d I2 H2 _ _ _ r e => by subst e; exact r.bl_inv⟩
end Hh

set_option Elab.async false
set_option linter.all false
set_option maxRecDepth 100000
set_option maxHeartbeats 2000000
namespace Hh
set_option autoImplicit false
open PySem PySem.Spec PyProof.Rows L2
/-! ### sorted(set(a tuple of ints)) -/
def rSetI (K : PySem.W.Frag) (w : World) : List V → Hp → VK → Prop := fun xs H Q => ∃ (l : Addr) (ns : List Int), xs = [.ref l] ∧ SqT K H l (ns.map V.int) ∧ ns.length ≤ 1000 ∧
  ∀ (p : Addr) (c : Nat), H p = none → c ≤ ns.length → Q (.ref p) (upd H p (SetO w p (fun j => decide (j ∈ ns)) c))
theorem call_setI {X : Cx} {K : PySem.W.Frag} (e : X.K = K) (hc : X.calm = true) : CallR X (.type "set") (rSetI K X.w) := by
  subst e
  intro pins s σ H xs us Q I r h
  obtain ⟨l, ns, rfl, hl, hz, q⟩ := h
  obtain ⟨u, rfl, ru⟩ := r.one
  cases ru
  obtain ⟨its, rv, pt, _⟩ := I.tuple hl
  refine call_set_tupI ns (I.ok.hd hc) (show s.heap.IsTuple l its.toArray from pt) (ints_of_vals rv) (by unfold scanBound; omega) ?_
  intro h' tk c R hcn k
  refine ⟨.ref _, upd H s.heap.objs.size (SetO X.w s.heap.objs.size (fun j => decide (j ∈ ns)) c), I.laid (t' := tk) k (Nat.le_refl _) (setO_new R), rfl, q _ c (I.hok.fresh (Nat.le_refl _)) hcn⟩
theorem upd_flip {H : Hp} {p q : Addr} {o u : HO} : True := trivial
section
variable {c : Ctx} {ρ : List Ent} {te : TE} {C : Nat} {w : World}
theorem ev_sortedSet {Pn : List Int → Prop} (ha : Ev c te ρ C (fun d => ∃ ns : List Int, d = .tuple (ns.map .int) ∧ Pn ns)) (hl : ∀ ns, Pn ns → ns.length < 64) :
    Ev c (tCB (rSortedSet w) (tCons (tCB (rSetI c.K w) (tCons te tNil)) tNil)) ρ C (fun d => ∃ ms ns : List Int, d = .list (ms.map .int) ∧ Pn ns ∧ ms.Pairwise (· < ·) ∧ (∀ k, k ∈ ms ↔ k ∈ ns) ∧ ms.length ≤ ns.length) := fun σ I H n Q wd e l k => by
  refine ha σ I H n _ wd e l fun v d I2 H2 g2 w2 r2 ⟨ns, ed, hn⟩ => ?_
  subst ed
  obtain ⟨a, xs, rfl, hs, hr⟩ := r2.tup_inv
  have ex := hr.ints
  subst ex
  have hlen := hl ns hn
  refine ⟨a, ns, rfl, seqT_mono w2.ih hs, by omega, fun p c1 np hc1 => ?_⟩
  -- the set is a thing that nobody keeps
  have s2 : Same H2 (upd H2 p (SetO w p (fun j => decide (j ∈ ns)) c1)) := fun q o h => by rw [upd_ne (ne_of_none h np)]; exact h
  refine ⟨p, _, c1, rfl, upd_same, by omega, fun ms q hp hm hml nq => ?_⟩
  have nqp : q ≠ p := fun z => by rw [z, upd_same] at nq; cases nq
  have nq2 : H2 q = none := by rw [upd_ne nqp] at nq; exact nq
  have iq : I2 q = none := w2.ih.free nq2
  have gx : Gx c.b I2 H2 (upd I2 q (.lst (ms.map V.int))) (upd (upd H2 p (SetO w p (fun j => decide (j ∈ ns)) c1)) q (.lst (ms.map V.int))) := by
    refine ⟨fun r o h => ?_, fun r o _ h => ?_, fun r h => ?_, fun r h => ?_⟩
    · rw [upd_ne (ne_of_none h iq)]; exact h
    · rw [upd_ne (ne_of_none h nq2)]; exact s2 r o h
    · rw [upd_ne (fun z => h (by rw [z]; exact nq2))]
    · rw [upd_ne (fun z => h (by rw [z]; exact nq2)), upd_ne (fun z => h (by rw [z]; exact np))]; exact h
  have ih3 : Same (upd I2 q (.lst (ms.map V.int))) (upd (upd H2 p (SetO w p (fun j => decide (j ∈ ns)) c1)) q (.lst (ms.map V.int))) := fun r o h => by
    by_cases z : r = q
    · subst z; rw [upd_same] at h ⊢; exact h
    · rw [upd_ne z] at h ⊢; exact s2 r o (w2.ih r o h)
  have w3 := w2.go (C := 0) gx ih3 fun b hb => by
    obtain ⟨_, _, x, y, z, hh, rr⟩ := w2.bg b hb
    exact ⟨x, y, z, by rw [upd_ne (ne_of_none hh nq2)]; exact s2 b _ hh, rr⟩
  have rp : ∀ ks : List Int, RpAll c.K (upd I2 q (.lst (ms.map V.int))) (ks.map V.int) (ks.map .int) := fun ks => by
    induction ks with
    | nil => exact .nil
    | cons x r ih => exact .cons (.int x) ih
  exact k _ (.list (ms.map .int)) _ _ (g2.trans gx) w3 (.lst upd_same (rp ms)) ⟨ms, ns, rfl, hn, hp, fun k => (hm k).trans (by rw [decide_eq_true_eq]), by omega⟩
/-- tuples of ints put together -/
theorem ev_catI {ta tb : TE} {C1 C2 : Nat} {P1 P2 : List Int → Prop} (ha : Ev c ta ρ C1 (fun d => ∃ ns : List Int, d = .tuple (ns.map .int) ∧ P1 ns)) (hb : Ev c tb ρ C2 (fun d => ∃ ns : List Int, d = .tuple (ns.map .int) ∧ P2 ns)) (h1 : ∀ ns, P1 ns → ns.length ≤ 1000) (h2 : ∀ ns, P2 ns → ns.length ≤ 1000) (hC : C1 + C2 ≤ C) :
    Ev c (tOp (rAddA c.K) ta tb) ρ C (fun d => ∃ ns : List Int, d = .tuple (ns.map .int) ∧ ∃ xs ys, ns = xs ++ ys ∧ P1 xs ∧ P2 ys) :=
  ev_op ha (P2 := fun _ d => ∃ ns : List Int, d = .tuple (ns.map .int) ∧ P2 ns) (fun _ _ => hb) (fun d1 d2 ⟨xs, e1, p1⟩ ⟨ys, e2, p2⟩ => by
    subst e1 e2
    have l1 := h1 xs p1
    have l2 := h2 ys p2
    have hs : (2000 : Nat) ≤ sizeLine := by decide
    intro I H n x y Q w r1 r2 k
    obtain ⟨a, us, rfl, q1, s1⟩ := id r1.tup_inv
    obtain ⟨b, vs, rfl, q2, s2⟩ := id r2.tup_inv
    have lu := s1.length
    have lv := s2.length
    rw [List.length_map] at lu lv
    refine .inr (.inr (.inl ⟨a, b, us, vs, rfl, rfl, seqT_mono w.ih q1, seqT_mono w.ih q2, by omega, fun e => ?_, fun _ e => ?_, fun _ _ p np => ?_⟩))
    · subst e
      have : xs = [] := List.length_eq_zero_iff.mp (by simpa using lu.symm)
      subst this
      exact k _ _ I H Gx.refl w r2 ⟨ys, rfl, [], ys, rfl, p1, p2⟩
    · subst e
      have : ys = [] := List.length_eq_zero_iff.mp (by simpa using lv.symm)
      subst this
      exact k _ _ I H Gx.refl w r1 ⟨xs, rfl, xs, [], by rw [List.append_nil], p1, p2⟩
    · exact k _ (.tuple ((xs ++ ys).map .int)) (upd I p (.tup (us ++ vs))) (upd H p (.tup (us ++ vs))) (new_go w.ih np) (w.new np) (.tup (.inl (.inl upd_same)) (by rw [List.map_append]; exact (s1.append s2).mono (new_go (b := none) w.ih np).ii)) ⟨xs ++ ys, rfl, xs, ys, rfl, p1, p2⟩) hC
theorem ev_tupL {Pd : List PyData → Prop} (ha : Ev c te ρ C (fun d => ∃ ds, d = .list ds ∧ Pd ds)) : Ev c (tCB (fun xs H Q => ∃ p ys, xs = [.ref p] ∧ ((SqL c.K H p ys ∧ ∀ l, H l = none → Q (.ref l) (upd H l (.tup ys))) ∨ (SqT c.K H p ys ∧ Q (.ref p) H))) (tCons te tNil)) ρ C (fun d => ∃ ds, d = .tuple ds ∧ Pd ds) :=
  ev_cb (Pe := fun es => ∃ ds, es = [.dat (.list ds)] ∧ Pd ds) (ea_cons ha (C2 := 0) (P2 := fun _ es => es = []) (fun _ _ => ea_nil) (fun d es ⟨ds, e, p⟩ e2 => ⟨ds, by rw [e, e2], p⟩) (by omega)) fun es ⟨ds, e, p⟩ => by
    subst e
    exact fun I H n vs Q w r k => rda_tupL I H n vs Q w r fun v d I2 H2 g w r e => k v d I2 H2 g w r ⟨ds, e, p⟩
theorem pv_isnotB {ta tb : TE} {a b : Bool} (ha : Pv c ta ρ (.bool a)) (hb : Pv c tb ρ (.bool b)) : Pv c (tOp (fun x y H Q => ∃ a b, x = .bl a ∧ y = .bl b ∧ Q (.bl (!decide (a = b))) H) ta tb) ρ (.bool (!decide (a = b))) :=
  pv_op ha hb fun I H n x y Q w r1 r2 k => ⟨a, b, r1.bl_inv, r2.bl_inv, k _ _ I H Gx.refl w (.bl _) rfl⟩
theorem pv_isB {ta tb : TE} {a b : Bool} (ha : Pv c ta ρ (.bool a)) (hb : Pv c tb ρ (.bool b)) : Pv c (tOp (fun x y H Q => ∃ a b, x = .bl a ∧ y = .bl b ∧ Q (.bl (decide (a = b))) H) ta tb) ρ (.bool (decide (a = b))) :=
  pv_op ha hb fun I H n x y Q w r1 r2 k => ⟨a, b, r1.bl_inv, r2.bl_inv, k _ _ I H Gx.refl w (.bl _) rfl⟩
/-- int of a truth -/
theorem pv_intB {b : Bool} (ha : Pv c te ρ (.bool b)) : Pv c (tCB (fun xs H Q => (∃ i, xs = [.int i] ∧ Q (.int i) H) ∨ ∃ k, xs = [.bl k] ∧ Q (.int (if k then 1 else 0)) H) (tCons te tNil)) ρ (.int (if b then 1 else 0)) := fun σ I H n Q wd e l k =>
  ha σ I H n _ wd e l fun v d I2 H2 g2 w2 r2 p2 => by
    subst p2
    exact .inr ⟨b, by rw [r2.bl_inv], k _ _ I2 H2 g2 w2 (.int _) rfl⟩
end
section
variable {c : Ctx} {ρ : List Ent} {te ta tb tc : TE} {C : Nat}
theorem et_notB {a : Bool} (ha : Ev c te ρ C (fun d => d = .bool a)) : Et c (tNot (tB te)) ρ C (fun b => b = !a) := fun σ I H n Q w e l k =>
  ha σ I H n _ w e l fun v d I2 H2 g2 w2 r2 p2 => by
    subst p2
    exact ⟨a, r2.bl_inv, k _ I2 H2 g2 w2 rfl⟩
theorem pv_ixL {ds : List PyData} {i : Int} {d : PyData} (ha : Pv c ta ρ (.list ds)) (hb : Pv c tb ρ (.int i)) (h : atI ds i = some d) : Pv c (tOp (rIx c.K) ta tb) ρ d := pv_op ha hb (rd_ixLs h)
theorem pv_l2a {x y : PyData} (ha : Pv c ta ρ (.list [x, y])) : Pv c (tOp (rIx c.K) ta (tC (.int 0))) ρ x := pv_ixL ha ev_int (atI_nat (j := 0) rfl)
theorem pv_l2b {x y : PyData} (ha : Pv c ta ρ (.list [x, y])) : Pv c (tOp (rIx c.K) ta (tC (.int 1))) ρ y := pv_ixL ha ev_int (atI_nat (j := 1) rfl)
theorem rd_eqI {i j : Int} {b : Bool} (h : (i == j) = b) : Rd2 c (rEqX c.K) (.int i) (.int j) (fun x => x = .bool b) := by
  have e : PyData.eqv (.int i) (.int j) = b := by rw [← h]; simp [PyData.eqv]
  rw [← e]
  exact rd_eq (okD_int _) (okD_int _)
/-- a chain of two comparisons -/
theorem pv_chainX {r r' : R2} {d1 d2 d3 : PyData} {b1 b2 : Bool} (ha : Pv c ta ρ d1) (hb : Pv c tb ρ d2) (hc : b1 = true → Pv c tc ρ d3) (h1 : Rd2 c r d1 d2 (fun x => x = .bool b1)) (h2 : Rd2 c r' d2 d3 (fun x => x = .bool b2)) :
    Pv c (tChain r r' ta tb tc) ρ (.bool (b1 && b2)) := fun σ I H n Q w e l kk => by
  refine ha σ I H n _ w e l fun v d I2 H2 g2 w2 r2 p2 => ?_
  subst p2
  refine hb σ I2 H2 n _ w2 (e.go g2) l fun v3 d3 I3 H3 g3 w3 r3 p3 => ?_
  subst p3
  refine h1 I3 H3 n v v3 _ w3 (r2.mono g3.ii) r3 fun v4 d4 I4 H4 g4 w4 r4 p4 => ?_
  subst p4
  refine ⟨b1, r4.bl_inv, ?_⟩
  cases b1 with
  | true =>
    rw [if_pos rfl]
    refine hc rfl σ I4 H4 n _ w4 (e.go ((g2.trans g3).trans g4)) l fun v5 d5 I5 H5 g5 w5 r5 p5 => ?_
    subst p5
    exact h2 I5 H5 n v3 v5 _ w5 ((r3.mono g4.ii).mono g5.ii) r5 fun v6 d6 I6 H6 g6 w6 r6 p6 => kk v6 d6 I6 H6 ((((g2.trans g3).trans g4).trans g5).trans g6) w6 r6 (by rw [p6]; rfl)
  | false =>
    rw [if_neg Bool.false_ne_true]
    exact kk _ _ I4 H4 ((g2.trans g3).trans g4) w4 (.bl _) rfl
end
end Hh

set_option Elab.async false
set_option linter.all false
set_option maxRecDepth 100000
set_option maxHeartbeats 2000000
namespace Hh
set_option autoImplicit false
open PySem PySem.Spec PyProof.Rows L2
section
variable {c : Ctx} {ρ : List Ent} {te ta tb tf : TE} {tr : TA} {C C1 C2 Ci : Nat} {P : PyData → Prop}
/-- a fresh list becomes a local's own -/
theorem own_env {I H : Hp} {σ : Sl} {p : Addr} {vs : List V} {ds : List PyData} {n : Nat} (i : Nat) (w : Wd c I H n) (e : EnvR c I H σ ρ) (np : H p = none) (r : RpAll c.K I vs ds) :
    Wd c I (upd H p (.lst vs)) n ∧ EnvR c I (upd H p (.lst vs)) (σ.set i (some (.ref p))) (ρ.set i (.own ds)) := by
  have d0 := w.h0n np
  have dI := w.ih.free np
  have db := w.bne np
  refine ⟨w.own d0 dI db, ?_⟩
  have e3 : EnvR c I (upd H p (.lst vs)) σ ρ := e.own (e.noD np)
  refine ⟨Paired.setP (show EntR c I (upd H p (.lst vs)) (some (.ref p)) (.own ds) from ⟨p, vs, rfl, upd_same, d0, db, dI, r⟩) i e3.st, fun j k q as bs h1 h2 h3 h4 => ?_⟩
  have key : ∀ (j : Nat) (as : List PyData), (ρ.set i (.own ds))[j]? = some (.own as) → (σ.set i (some (V.ref p)))[j]? = some (some (V.ref q)) → (j = i ∧ q = p) ∨ (j ≠ i ∧ q ≠ p ∧ ρ[j]? = some (.own as) ∧ σ[j]? = some (some (V.ref q))) := fun j as h1 h2 => by
    by_cases z : j = i
    · subst z
      left
      rw [List.getElem?_set_self'] at h2
      cases q2 : σ[j]? with
      | none => rw [q2] at h2; cases h2
      | some o => rw [q2] at h2; cases h2; exact ⟨rfl, rfl⟩
    · right
      rw [List.getElem?_set_ne (Ne.symm z)] at h1 h2
      exact ⟨z, fun zz => e.noD np j as h1 (by rw [← zz]; exact h2), h1, h2⟩
  rcases key j as h1 h3 with ⟨a1, a2⟩ | ⟨a1, a2, a3, a4⟩
  · rcases key k bs h2 h4 with ⟨b1, b2⟩ | ⟨b1, b2, b3, b4⟩
    · rw [a1, b1]
    · exact absurd a2 b2
  · rcases key k bs h2 h4 with ⟨b1, b2⟩ | ⟨b1, b2, b3, b4⟩
    · exact absurd b2 a2
    · exact e.ap j k q as bs a3 b3 a4 b4
/-- xs = ys + zs, to be written on -/
theorem bk_ownAdd {i : Nat} {ds es : List PyData} {O : Out} (ha : Pv c ta ρ (.list ds)) (hb : Pv c tb ρ (.list es)) (hl : ds.length + es.length ≤ 1000) (hn : O.nx (ρ.set i (.own (ds ++ es)))) : Bk c (tAsg (tOp (rAddA c.K) ta tb) (gName i)) ρ C O := fun σ I H n D w e l k1 k2 k3 k4 =>
  ha σ I H n _ w e (by omega) fun v1 d1 I2 H2 g2 w2 r1 p1 => by
    subst p1
    refine hb σ I2 H2 n _ w2 (e.go g2) (by omega) fun v2 d2 I3 H3 g3 w3 r2 p2 => ?_
    subst p2
    have r1' := r1.mono g3.ii
    obtain ⟨a, xs, rfl, h1, q1⟩ := r1'.lst_inv
    obtain ⟨b, ys, rfl, h2, q2⟩ := r2.lst_inv
    refine .inr (.inl ⟨a, b, xs, ys, rfl, rfl, w3.ih _ _ h1, w3.ih _ _ h2, by rw [q1.length, q2.length]; exact Nat.le_trans hl (by decide), fun p np => ?_⟩)
    obtain ⟨a1, a2⟩ := own_env i (w3.bgN (m := n + C) (by omega)) ((e.go g2).go g3) np (q1.append q2)
    exact k1 _ _ I3 _ (g2.trans g3).ii a1 a2 hn
/-- a new object that nobody keeps -/
theorem lost_go {b : Option Addr} {I H : Hp} {p : Addr} {o : HO} (h : H p = none) : Gx b I H I (upd H p o) :=
  ⟨Same.refl _, fun q x _ e => by rw [upd_ne (ne_of_none e h)]; exact e, fun _ _ => rfl, fun q e => by rw [upd_ne (fun z => e (by rw [z]; exact h))]; exact e⟩
theorem Wd.lost {I H : Hp} {n : Nat} {p : Addr} {xs : List V} (w : Wd c I H n) (h : H p = none) : Wd c I (upd H p (.lst xs)) n := w.own (w.h0n h) (w.ih.free h) (w.bne h)
theorem pv_revL {ds : List PyData} (ha : Pv c ta ρ (.list ds)) : Pv c (tRevL c.K ta) ρ (.list ds.reverse) := fun σ I H n Q w e l k =>
  ha σ I H n _ w e l fun v d I2 H2 g2 w2 r2 p2 => by
    subst p2
    obtain ⟨a, xs, rfl, h1, q1⟩ := r2.lst_inv
    refine ⟨a, xs, rfl, SqL.of (w2.ih _ _ h1), fun p np => ?_⟩
    exact k _ _ (upd I2 p (.lst xs.reverse)) (upd H2 p (.lst xs.reverse)) (g2.trans (new_go w2.ih np)) (w2.new np) (.lst upd_same (q1.rev.mono (new_go (b := none) w2.ih np).ii)) rfl
theorem pv_dnew : Pv c tDNewK ρ (.dict []) := fun σ I H n Q w e l k => fun p np =>
  k _ _ (upd I p (.dK [])) (upd H p (.dK [])) (new_go w.ih np) (w.new np) (.dic upd_same .nil) rfl
end
/-! ### a call of one of several defs, picked from a list -/
def tCallOf (fs : List Addr) (sp : Sp) (tf : TE) (t : TA) : TE := fun σ H Q => tf σ H fun x H1 => (∃ f ∈ fs, x = .ref f) ∧ t σ H1 fun vs H2 => sp vs H2 Q E0
theorem pe_callOf {X : Cx} {k : Nat} {sp : Sp} {fs : List Addr} {fe e : Expr} {es : List Expr} {pos : Pos} {tf : TE} {t : TA}
    (hF : ∀ f ∈ fs, ∃ fd ps, FnG X.prog X.w X.K X.mg X.base k f fd ps sp ∧ PySem.W.keepIn X.K (.ref f) = true ∧ Binds X.K fd ps []) (hr : Room k X.A) (hc : Calm X.A) (hf : PE X fe tf) (ha : PA X (e :: es) t)
    (heq : eval (.Call fe (e :: es) [] pos) X.env = (do callWith pos (← eval fe X.env) [] (backTo pos (starEach (e :: es) X.env)) (backToKw pos (keywordEach [] X.env))) := by rfl)
    (he : starEach (e :: es) X.env = (false, eval e X.env) :: starEach es X.env := by rfl) (hpl : (backTo pos (starEach es X.env)).any (·.1) = false := by rfl) :
    PE X (.Call fe (e :: es) [] pos) (tCallOf fs sp tf t) := by
  constructor
  intro pins s σ H Q I h
  rw [heq]
  refine wpAny_bind (thn (hf.run pins s σ H _ I h) ?_)
  rintro u s1 ⟨x, H1, I1, r1, ⟨f, hfs, rfl⟩, ht⟩
  cases r1
  obtain ⟨fd, ps, F, hk, hb⟩ := hF f hfs
  refine PySem.W.callWith_K (h₀ := X.base) I1.ok.mod.kin hk ?_ he hpl
  refine thn (ha.run pos pins s1 σ H1 _ I1 ht) ?_
  rintro us s2 ⟨vs, H2, I2, r, q⟩
  exact ⟨I2.kIn, runG F hr hc hb I2 r q⟩
section
variable {c : Ctx} {ρ : List Ent} {te ta tb tf ti : TE} {tr : TA} {C C1 C2 Ci : Nat} {P : PyData → Prop}
theorem ev_callOf3 {a1 a2 a3 : Addr} {ar : Nat} {pre : List Ent → Prop} {post : List Ent → PyData → Prop} {Pe : List Ent → Prop} (hi : EvI c ti ρ Ci (fun i => 0 ≤ i ∧ i < 3)) (ha : Ea c tr ρ C1 Pe) (hp : ∀ es, Pe es → es.length = ar ∧ pre es) (hP : ∀ es d, Pe es → post es d → P d) (hC : Ci + C1 + C2 ≤ C) :
    Ev c (tCallOf [a1, a2, a3] (spD c.K ar C2 pre post) (tOp (rIx c.K) (tLst (tCons (tC (.ref a1)) (tCons (tC (.ref a2)) (tCons (tC (.ref a3)) tNil)))) ti) tr) ρ C P := fun σ I H n Q w e l k => by
  refine ⟨by show 3 ≤ sizeLine; decide, fun p np => ?_⟩
  have g1 := lost_go (b := c.b) (I := I) (o := .lst [V.ref a1, V.ref a2, V.ref a3]) np
  have w1 := w.lost (xs := [V.ref a1, V.ref a2, V.ref a3]) np
  refine hi σ I _ n _ w1 (e.go g1) (by omega) fun v d I2 H2 g2 w2 r2 ⟨i, ed, i0, i3⟩ => ?_
  subst ed
  obtain rfl := r2.int_inv
  have hp2 : H2 p = some (.lst [V.ref a1, V.ref a2, V.ref a3]) := g2.hh p _ (w.bne np) upd_same
  have pick : ∃ f ∈ [a1, a2, a3], atI [V.ref a1, V.ref a2, V.ref a3] i = some (.ref f) := by
    have : i = 0 ∨ i = 1 ∨ i = 2 := by omega
    rcases this with rfl | rfl | rfl
    · exact ⟨a1, by simp, atI_nat (j := 0) rfl⟩
    · exact ⟨a2, by simp, atI_nat (j := 1) rfl⟩
    · exact ⟨a3, by simp, atI_nat (j := 2) rfl⟩
  obtain ⟨f, hf, hat⟩ := pick
  refine .inl ⟨p, _, i, .ref f, rfl, rfl, SqL.of hp2, hat, ⟨f, hf, rfl⟩, ?_⟩
  refine ha σ I2 H2 (n + Ci) _ w2 (e.go (g1.trans g2)) (by omega) fun vs es I3 H3 g3 w3 r3 p3 => ?_
  obtain ⟨h1, h2⟩ := hp es p3
  refine ⟨c.b, I3, n + Ci + C1, es, by rw [Paired.len r3]; exact h1, r3, w3.ih, fun p e => ⟨w3.noB e, (w3.bg p e).2.2⟩, by omega, h2, fun v d I4 H4 g4 ih4 hb r4 p4 => ?_⟩
  exact k v d I4 H4 ((g1.trans g2).trans (g3.trans g4)) ((w3.go g4 ih4 hb).bgN (by omega)) r4 (hP _ _ p3 p4)
end
/-- a promise, at a higher level and under another word -/
theorem FnG.up {P : Program} {w : World} {K : PySem.W.Frag} {mg : Str → Option Value} {base : Heap} {j k : Nat} {f : Addr} {fd : FuncData} {ps : List Str} {sp sp' : Sp} (F : FnG P w K mg base j f fd ps sp) (h : j ≤ k) (hs : ∀ vs H Q E, sp' vs H Q E → sp vs H Q E) : FnG P w K mg base k f fd ps sp' :=
  ⟨fun vs H Q E q => F.many vs H Q E (hs _ _ _ _ q), fun A fr s H ar us vs Q E r hc e b v q => F.go A fr s H ar us vs Q E (r.mono h) hc e b v (hs _ _ _ _ q)⟩
theorem spD_weak {K : PySem.W.Frag} {ar C C' : Nat} {pre pre' : List Ent → Prop} {post post' : List Ent → PyData → Prop} (hC : C ≤ C') (h1 : ∀ es, pre' es → pre es) (h2 : ∀ es d, pre' es → post es d → post' es d) : ∀ vs H Q E, spD K ar C' pre' post' vs H Q E → spD K ar C pre post vs H Q E := by
  rintro vs H Q E ⟨b, I, n, es, hl, hp, hs, hb, hn, hpre, k⟩
  refine ⟨b, I, n, es, hl, hp, hs, hb, by omega, h1 es hpre, fun v d I2 H2 g s hb2 r q => k v d I2 H2 g s (fun p e => ?_) r (h2 es d hpre q)⟩
  obtain ⟨x, y, z, hh, a1, a2, a3, a4, a5⟩ := hb2 p e
  exact ⟨x, y, z, hh, a1, a2, a3, a4, by omega⟩
end Hh

set_option Elab.async false
set_option linter.all false
set_option maxRecDepth 100000
set_option maxHeartbeats 2000000
namespace Hh
set_option autoImplicit false
open PySem PySem.Spec PyProof.Rows L2
/-! ### names: what their signs are -/
def lowC (c : Nat) : Bool := decide (97 ≤ c) && decide (c ≤ 122)
def lowS (x : Str) : Bool := x.cps.toList.all lowC
theorem tbl128 : ∀ c : Fin 128, Unicode.isAlpha c.val = (lowC c.val || (decide (65 ≤ c.val) && decide (c.val ≤ 90))) ∧ Unicode.isLower c.val = lowC c.val ∧ Unicode.isUpper c.val = (decide (65 ≤ c.val) && decide (c.val ≤ 90)) ∧ Unicode.isTitle c.val = false := by decide +kernel
theorem name_signs (x : Str) : (Txt.isascii x && (Txt.isalpha x && Txt.islower x)) = (decide (0 < x.length) && lowS x) := by
  unfold Txt.isascii Txt.isalpha Txt.islower lowS
  have ea : ∀ p : Nat → Bool, x.cps.all p = x.cps.toList.all p := fun p => by simp
  have en : ∀ p : Nat → Bool, x.cps.any p = x.cps.toList.any p := fun p => by simp
  have el : x.length = x.cps.toList.length := by simp [Str.length]
  rw [ea, ea, en, en, el]
  generalize x.cps.toList = l
  rw [Bool.eq_iff_iff]
  simp only [Bool.and_eq_true, List.all_eq_true, List.any_eq_true, Bool.not_eq_true', decide_eq_true_eq, List.any_eq_false, Bool.or_eq_true, not_or, gt_iff_lt]
  constructor
  · rintro ⟨h1, ⟨h2, h3⟩, ⟨_, h5⟩⟩
    refine ⟨h2, fun c hc => ?_⟩
    obtain ⟨t1, t2, t3, t4⟩ := tbl128 ⟨c, h1 c hc⟩
    have q := h3 c hc
    have u := (h5 c hc).1
    simp only at t1 t3
    rw [t1, Bool.or_eq_true] at q
    rw [t3] at u
    rcases q with q | q
    · exact q
    · exact absurd q u
  · rintro ⟨h1, h2⟩
    have lt : ∀ c ∈ l, c < 128 := fun c hc => by
      have := h2 c hc
      simp only [lowC, Bool.and_eq_true, decide_eq_true_eq] at this
      omega
    refine ⟨lt, ⟨h1, fun c hc => ?_⟩, ?_, fun c hc => ?_⟩
    · have t := (tbl128 ⟨c, lt c hc⟩).1
      simp only at t
      rw [t, h2 c hc]; rfl
    · cases l with
      | nil => exact absurd h1 (by decide)
      | cons c r =>
        refine ⟨c, List.mem_cons_self, ?_⟩
        have t := (tbl128 ⟨c, lt c List.mem_cons_self⟩).2.1
        simp only at t
        rw [t]; exact h2 c List.mem_cons_self
    · obtain ⟨t1, t2, t3, t4⟩ := tbl128 ⟨c, lt c hc⟩
      simp only at t3 t4
      rw [t3, t4]
      have := h2 c hc
      simp only [lowC, Bool.and_eq_true, decide_eq_true_eq] at this
      refine ⟨?_, by decide⟩
      simp only [Bool.and_eq_true, decide_eq_true_eq]
      omega
/-- one to eight signs from a to z, and not the word for all -/
def nameB (x : Str) : Bool := decide (1 ≤ x.length) && (decide (x.length ≤ 8) && (lowS x && !decide (x = "public")))
section
variable {c : Ctx} {ρ : List Ent} {te ta tb tc : TE} {C : Nat}
theorem pv_strB {g : Str → Bool} {x : Str} (ha : Pv c ta ρ (.str x)) : Pv c (tM0 (fun x xs H Q => ∃ a, x = .str a ∧ xs = [] ∧ True ∧ Q (.bl (g a)) H) ta) ρ (.bool (g x)) := fun σ I H n Q w e l k =>
  ha σ I H n _ w e l fun v d I2 H2 g2 w2 r2 p2 => by
    subst p2
    obtain rfl := r2.str_inv
    exact ⟨⟨x, rfl⟩, x, rfl, rfl, trivial, k _ _ I2 H2 g2 w2 (.bl _) rfl⟩
theorem RpAll.strs {K : PySem.W.Frag} {I : Hp} : ∀ {ys : List Str} {vs : List V}, RpAll K I vs (ys.map .str) → vs = ys.map V.str
  | [], _, .nil => rfl
  | y :: ys, _, .cons h r => by rw [h.str_inv, RpAll.strs r]; rfl
theorem ev_join {a : Str} {P : List Str → Prop} {R : PyData → Prop} (ha : Pv c ta ρ (.str a)) (hb : Ev c tb ρ C (fun d => ∃ ys : List Str, d = .list (ys.map .str) ∧ P ys)) (hl : ∀ ys, P ys → (ys.map (·.length)).sum + ys.length * a.length ≤ 16777216) (hR : ∀ ys, P ys → R (.str (Txt.join a ys))) :
    Ev c (tM1 (fun x xs H Q => ∃ a p, ∃ ys : List Str, x = .str a ∧ xs = [.ref p] ∧ (SqL c.K H p (ys.map V.str) ∨ SqT c.K H p (ys.map V.str)) ∧ (ys.map (·.length)).sum + ys.length * a.length ≤ 16777216 ∧ Q (.str (Txt.join a ys)) H) ta tb) ρ C R := fun σ I H n Q w e l k =>
  ha σ I H n _ w e (by omega) fun v d I2 H2 g2 w2 r2 p2 => by
    subst p2
    obtain rfl := r2.str_inv
    refine ⟨⟨a, rfl⟩, hb σ I2 H2 n _ w2 (e.go g2) l fun v3 d3 I3 H3 g3 w3 r3 ⟨ys, ed, hy⟩ => ?_⟩
    subst ed
    obtain ⟨p, xs, rfl, h1, q1⟩ := r3.lst_inv
    have ex := q1.strs
    subst ex
    exact ⟨a, p, ys, rfl, rfl, .inl (SqL.of (w3.ih _ _ h1)), hl ys hy, k _ _ I3 H3 (g2.trans g3) w3 (.str _) (hR ys hy)⟩
theorem rd_ixS {z : Str} {i : Int} {ch : Nat} (hz : z.length ≤ sizeLine) (h : atI z.cps.toList i = some ch) : Rd2 c (rIx c.K) (.str z) (.int i) (fun x => x = .str ⟨#[ch]⟩) := fun I H n x y Q w r1 r2 k => by
  obtain rfl := r1.str_inv
  obtain rfl := r2.int_inv
  exact .inr (.inr ⟨z, i, ch, rfl, rfl, hz, h, k _ _ I H Gx.refl w (.str _) rfl⟩)
/-- a sign drawn from a text -/
theorem ev_sign {z : Str} {m : Nat} (ha : Pv c ta ρ (.str z)) (hz : z.length ≤ sizeLine) (hm : z.cps.toList.length = m) (hb : EvI c tb ρ C (fun i => 0 ≤ i ∧ i < m)) : Ev c (tOp (rIx c.K) ta tb) ρ C (fun d => ∃ ch, d = .str ⟨#[ch]⟩ ∧ ch ∈ z.cps.toList) :=
  ev_op (C1 := 0) (C2 := C) ha (P2 := fun _ d => ∃ i : Int, d = .int i ∧ 0 ≤ i ∧ i < m) (fun _ _ => hb) (fun d1 d2 e1 ⟨i, e2, i0, i1⟩ => by
    subst e1 e2
    have hj : i.toNat < z.cps.toList.length := by omega
    have hat : atI z.cps.toList i = some (z.cps.toList[i.toNat]) := by
      have q := atI_nat (xs := z.cps.toList) (j := i.toNat) (List.getElem?_eq_getElem hj)
      rwa [show ((i.toNat : Nat) : Int) = i by omega] at q
    intro I H n x y Q w r1 r2 k
    exact rd_ixS hz hat I H n x y Q w r1 r2 fun v d I2 H2 g w2 r e => k v d I2 H2 g w2 r ⟨_, e, List.getElem_mem hj⟩) (by omega)
theorem rd_notInS {ch : Nat} {z : Str} : Rd2 c rNotInS (.str ⟨#[ch]⟩) (.str z) (fun x => x = .bool (!decide (ch ∈ z.cps.toList))) := fun I H n x y Q w r1 r2 k => by
  obtain rfl := r1.str_inv
  obtain rfl := r2.str_inv
  exact ⟨ch, z, rfl, rfl, k _ _ I H Gx.refl w (.bl _) rfl⟩
end
end Hh

set_option Elab.async false
set_option linter.all false
set_option maxRecDepth 100000
set_option maxHeartbeats 4000000
namespace Hh
set_option autoImplicit false
open PySem PySem.Spec PyProof.Rows L2
section
variable {P : Program} {w : World} {A : Around} {E : Value → Shared → Prop} {s : Shared} {a : Addr}
/-- sorted of a set of hI, however many: gathered, then the list's own order -/
theorem sorted_setN {S : Int → Bool} {n : Nat} {Q : Value → Shared → Prop} (R : SetR w s.heap a S n) (hh : A.handled = none)
    (hQ : ∀ s' p (out : Array Value) (c : Nat) (ns : List Int), (∀ b o, s.heap.get? b = some o → s'.heap.get? b = some o) → s'.gens = s.gens → s'.os = s.os → s.heap.objs.size ≤ p →
      s'.heap.get? p = some (seqObj "list" out c) → IntsAre out.toList ns → ns.Pairwise (· < ·) → (∀ k, k ∈ ns ↔ S k = true) → ns.length = n → Q (.ref p) s') :
    wpAny (model P w) A (call (.builtin "sorted") [.ref a]) Q E s := by
  obtain ⟨o, es, ep, t, ho, hex, hd, g, nd, hm, hb, hf, hn, hr, hl⟩ := R
  refine Calls.call_function_entry kind_sorted plain_sorted entry_sorted (args_sorted1 _) ?_
  unfold Builtin.«sorted»
  refine wpAny_bind (m := checkCount "sorted" 1 1 _) (wpAny_pure ?_)
  refine wpAny_bind (collect_set (A := A.in1) hh ⟨o, ho, hex.1, hd⟩ hf hb hr hl fun s1 vs k1 hz g1 o1 pm => ?_)
  have len : vs.length = n := by rw [pm.length_eq, List.length_map, Array.length_toList]; exact hn
  have fit : vs.length ≤ sizeLine := by rw [len, ← hn]; exact fits_of_scanBound hb
  have hI : IntsAre vs (vs.map Builtin.Re.reRawOf) := ints_of vs fun v hv => by
    obtain ⟨e, he, q⟩ := List.mem_map.mp (pm.mem_iff.mp hv)
    obtain ⟨k, tk, h1, _⟩ := g e he
    exact ⟨k, tk, by rw [← q]; exact h1⟩
  have perm : (vs.map Builtin.Re.reRawOf).Perm (es.toList.map keyOf) := by
    have q := pm.map Builtin.Re.reRawOf
    rw [List.map_map] at q
    exact q
  refine wpAny_bind (wpAny_newList ?_ fit)
  have new : (s1.heap.push (seqObj "list" vs.toArray 0)).get? s1.heap.objs.size = some (seqObj "list" vs.toArray 0) := Heap.get?_push_size _ rfl
  refine wpAny_bind (wpAny_holding (wpAny_call_entry slot_list_sort ⟨_, new, rfl⟩ entry_list_sort (SrtO.list_sort_ord SrtO.swo_int new fit (fun h2 => SrtO.ints_sortable hI h2) fun out hs hb => ⟨_, rfl, ?_⟩) (args_list_sort _)))
  obtain ⟨k1', k2, k3⟩ := SrtO.ints_out hI hs hb
  obtain ⟨c, hc⟩ := sortedHeap_at (vs := vs) (out := out.toArray) new
  have pn : (out.map SrtO.iv).Perm (es.toList.map keyOf) := k2.trans perm
  refine wpAny_pure ⟨_, rfl, hQ _ s1.heap.objs.size out.toArray c (out.map SrtO.iv) (fun b u e => ?_) g1 o1 hz hc (by rw [List.toList_toArray]; exact k1') (lt_of_le_nodup _ k3 (pn.nodup_iff.mpr nd)) (fun k => by rw [pn.mem_iff, ← hm k]) ?_⟩
  · have q := k1 b u e
    have hlt := Heap.lt_size q
    show (sortedHeap (s1.heap.push (seqObj "list" vs.toArray 0)) s1.heap.objs.size vs out.toArray).get? b = some u
    rw [sortedHeap_old (Nat.ne_of_lt hlt) (by rw [size_push']; exact Nat.lt_succ_of_lt hlt)]
    exact Heap.get?_push_of_some _ q
  · rw [pn.length_eq, List.length_map, Array.length_toList]; exact hn
end
end Hh

set_option Elab.async false
set_option linter.all false
set_option maxRecDepth 100000
set_option maxHeartbeats 4000000
namespace Hh
set_option autoImplicit false
open PySem PySem.Spec PyProof.Rows L2
/-! ### set(a list), whatever its items: the update loop is told apart -/
abbrev emS (w : World) : Obj := { cls := .type "set", dict := none, data := .set #[] 0 (.fresh 0 0 (!w.params.followText "set-order")) }
section
variable {P : Program} {w : World} {A : Around} {E : Value → Shared → Prop} {s : Shared}
/-- what a set's update loop is to keep: the set at S becomes Pf -/
def Fills (P : Program) (w : World) (items : Array Value) (Pf : Heap → Addr → Prop) : Prop :=
  ∀ (A2 : Around) (I S : Addr) (fp wr : List Addr) (G : Array GenState → Array GenState → Prop) (St : Nat → Shared → Prop) (R : Result → Shared → Prop) (s2 : Shared),
    WalksS P w A2.in1 I fp wr G items.size (fun i v => items[i]? = some v) St → S ∉ fp → St 0 s2 → s2.heap.get? S = some (emS w) →
    (∀ s', Moved (S :: wr) G s2 s' → Pf s'.heap S → R (.ok (.ret .none)) s') → codeAny (model P w) A2 (.builtin "set.update.loop" ⟨[.ref S, .ref I], []⟩) R s2
set_option maxHeartbeats 3200000 in
theorem call_setL {l : Addr} {items : Array Value} {Pf : Heap → Addr → Prop} {Q : Value → Shared → Prop} (hn : A.handled = none) (hl : s.heap.IsList l items) (hF : Fills P w items Pf)
    (hQ : ∀ (h' : Heap) (tk : Nat), Pf h' s.heap.objs.size → (∀ b o, s.heap.get? b = some o → h'.get? b = some o) → Q (.ref s.heap.objs.size) { s with heap := h', toks := tk }) :
    wpAny (model P w) A (call (.type "set") [.ref l]) Q E s := by
  obtain ⟨mc, mt, hm⟩ := F.called_set.mro
  have g1 := F.called_set.made; have g2 := F.called_set.sub
  refine wpAny_call (codeAny_of_tree ?_)
  show wpAny _ _ (callAny (.type "set") _) _ _ _
  refine wpAny_pure ⟨Code.quiet_builtin _ (by decide +kernel), codeAny_builtin F.entry_type_call ?_⟩; rw [Around.under_plain (weight_type_call_type "set" [.ref l] []) rfl]
  have g3 := F.called_set.notType; have g4 := F.called_set.canCreate
  have g5 := F.typeCall_set_1 (.ref l)
  repeat (any_goals (first | assumption | wp_step))
  refine codeAny_mono (code_set_led1 (.ref l) (E := E) (Q₁ := fun x s₁ => x = .ref s.heap.objs.size ∧ s₁ = { s with heap := s.heap.push (emS w) }) ⟨rfl, rfl⟩) fun r s₁ hr => ?_
  match r, hr with
  | .error e, hr => exact hr
  | .ok (.ret x), hr =>
    obtain ⟨rfl, rfl⟩ := hr
    have at0 : (s.heap.push (emS w)).get? s.heap.objs.size = some (emS w) := Heap.get?_push_size _ rfl
    have ty0 : Shared.TypeIs { s with heap := s.heap.push (emS w) } (.ref s.heap.objs.size) "set" := ⟨_, at0, rfl⟩
    have b1 := F.called_set.init.lookup
    have b2 := F.called_set.init.bind (.ref s.heap.objs.size)
    repeat (any_goals (first | assumption | wp_step))
    refine codeAny_mono (codeAny_call_builtin (R := wants (fun r s₂ => r = .none ∧ ∃ h' tk, s₂ = { s with heap := h', toks := tk } ∧ Pf h' s.heap.objs.size ∧ ∀ b o, s.heap.get? b = some o → h'.get? b = some o) E) F.called_set.init.plain F.entry_set_init (check_set_init_1 ty0 ?_)) fun r₂ s₂ hr₂ => ?_
    · obtain ⟨⟨oc, od, dt, sl⟩, ho, hc, nl, hd⟩ := hl
      simp only at hc hd; subst hc; subst hd
      have ho' : (s.heap.push (emS w)).get? l = some { cls := .type "list", dict := od, data := .seq items nl, slots := sl } := Heap.get?_push_of_some _ ho
      have c1 := F.sub_list_set; have c2 := F.sub_list_frozenset
      have c3 : (Value.type "list" == Value.type "dict") = false := by decide
      have il : (s.heap.push (emS w)).IsList l items := ⟨_, ho', rfl, nl, rfl⟩
      unfold Builtin.«set.__init__» noKeywords Builtin.Frozenset.updateFrom
      generalize hp : pyIter = pI
      wp_walk
      subst hp
      refine wpAny_pyIter_list il ?_
      refine wpAny_bind (wpAny_runValue ?_)
      have lt : l < s.heap.objs.size := Heap.lt_size ho
      have hn3 : A.in1.in1.in1.handled = none := by simp [hn]
      have nI : l ≠ (s.heap.push (emS w)).objs.size := by rw [Heap.size_push]; exact Nat.ne_of_lt (Nat.lt_succ_of_lt lt)
      have nS : s.heap.objs.size ∉ [(s.heap.push (emS w)).objs.size, l] := by
        rw [Heap.size_push]; simp only [List.mem_cons, List.not_mem_nil, or_false, not_or]
        exact ⟨Nat.ne_of_lt (Nat.lt_succ_self _), Nat.ne_of_gt lt⟩
      refine hF _ _ s.heap.objs.size _ _ _ _ _ _ ((Walks.list hn3 _ l nI items).toS) nS ⟨⟨_, Heap.get?_push_size _ rfl, rfl, rfl⟩, (il.push _)⟩ (Heap.get?_push_of_some _ at0) fun s' hm hS' => ?_
      obtain ⟨h', gg, dd, tk', oo⟩ := s'
      have eg : gg = s.gens := hm.gens
      have ed : dd = s.drawn := hm.drawn
      have eo : oo = s.os := hm.os
      subst eg; subst ed; subst eo
      show wpAny _ _ _ _ _ _
      refine wpAny_pure ?_
      show wpAny _ _ (ret Value.none) _ _ _
      refine wpAny_pure ⟨rfl, h', tk', rfl, hS', fun b o e => ?_⟩
      have lb : b < s.heap.objs.size := Heap.lt_size e
      refine hm.heap b o ?_ (Heap.get?_push_of_some _ (Heap.get?_push_of_some _ e))
      simp only [List.mem_cons, List.not_mem_nil, or_false, not_or, Heap.size_push]
      exact ⟨Nat.ne_of_lt lb, Nat.ne_of_lt (Nat.lt_succ_of_lt lb)⟩
    · match r₂, hr₂ with
      | .error e, hr₂ => exact hr₂
      | .ok (.ret r), hr₂ =>
        obtain ⟨rfl, h', tk, rfl, hS', hk⟩ := hr₂
        repeat (any_goals (first | assumption | wp_step))
        exact hQ _ _ hS' hk
      | .ok .next, hr₂ => exact hr₂.elim
      | .ok .brk, hr₂ => exact hr₂.elim
      | .ok .cont, hr₂ => exact hr₂.elim
  | .ok .next, hr => exact hr.elim
  | .ok .brk, hr => exact hr.elim
  | .ok .cont, hr => exact hr.elim
/-! ### ints -/
theorem fills_ints {items : Array Value} {ns : List Int} (hi : IntsAre items.toList ns) (hb : ns.length + 1 < scanBound) : Fills P w items fun h a => ∃ c, c ≤ ns.length ∧ SetR w h a (fun j => decide (j ∈ ns)) c := by
  intro A2 I S fp wr G St R s2 W hS h0 hg hR
  have sz : items.size = ns.length := by
    have q := hi.length
    rwa [Array.length_toList] at q
  refine set_update_ints W S hS ns sz hb (fun i v hv => ?_) (items.size - 0) 0 _ (by omega) (Nat.zero_le _) h0 ⟨0, Nat.le_refl 0, setR_new_at hg⟩ fun s' c hm hc hs => hR s' hm ⟨c, by omega, hs⟩
  have lt : i < ns.length := by rw [← sz]; exact (Array.getElem?_eq_some_iff.mp hv).1
  obtain ⟨t, e⟩ := IntsAre.int_at hi i v (by rw [Array.getElem?_toList]; exact hv)
  refine ⟨ns[i], t, List.getElem?_eq_getElem lt, ?_⟩
  rw [e, List.getD_eq_getElem?_getD, List.getElem?_eq_getElem lt] <;> rfl
/-! ### texts -/
def kOf (e : Int × Value) : Str := match e.2 with
  | .str k _ => k
  | _ => ⟨#[]⟩
def RowS (w : World) (e : Int × Value) : Prop := ∃ k u, e = (hashStr w k, .str k u)
/-- the set of texts at a, its members -/
def SetS (w : World) (h : Heap) (a : Addr) (l : List Str) : Prop :=
  ∃ (o : Obj) (es : Array (Int × Value)) (ep : Nat) (t : SetTable), h.get? a = some o ∧ o.ExactSet ∧ o.data = .set es ep t ∧ (∀ e ∈ es.toList, RowS w e) ∧ (es.toList.map kOf).Perm l ∧ l.Nodup ∧
    es.size < scanBound ∧ t.fits es.size = true ∧ Ris t.place.toList ∧ (w.params.followText "set-order" = true ∨ t.led = true)
theorem SetS.at {h h' : Heap} {a : Addr} {l : List Str} (R : SetS w h a l) (k : ∀ o, h.get? a = some o → h'.get? a = some o) : SetS w h' a l := by
  obtain ⟨o, es, ep, t, ho, r⟩ := R
  exact ⟨o, es, ep, t, k o ho, r⟩
theorem row_is {e : Int × Value} (h : RowS w e) (k : Str) : (strKind P w).is k e.2 = true ↔ kOf e = k := by
  obtain ⟨x, u, rfl⟩ := h
  show ((x == k) = true) ↔ x = k
  exact beq_iff_eq
theorem rows_elems {l : List (Int × Value)} (g : ∀ e ∈ l, RowS w e) : ElemsOf (strKind P w) l := fun e he => by
  obtain ⟨k, u, rfl⟩ := g e he
  exact ⟨⟨k, (row_is (P := P) (w := w) ⟨k, u, rfl⟩ k).2 rfl, rfl⟩, rfl⟩
/-- the last part of an add: the entries are stored, and laid anew where they are too many -/
theorem setS_tail {a : Addr} {g : Bool → Sem Unit} (hg : ∀ (b : Bool) (s₁ : Shared) (Q' : Unit → Shared → Prop), Q' () s₁ → wpAny (model P w) A (g b) Q' E s₁) {o : Obj} {es es1 : Array (Int × Value)} {ep : Nat} {t t2 : SetTable} (ho : s.heap.get? a = some o)
    (hx : o.ExactSet) (hd : o.data = .set es ep t) {l : List Str} (rw1 : ∀ e ∈ es1.toList, RowS w e) (pm1 : (es1.toList.map kOf).Perm l) (nd : l.Nodup) (sb : es1.size < scanBound) (ft : t2.fits es1.size = true) (rs : Ris t2.place.toList)
    (ld : w.params.followText "set-order" = true ∨ t2.led = true) {wd : Bool} {R : Option Bool → Shared → Prop} (hR : ∀ h', Heap.SameBut a s.heap h' → SetS w h' a l → R (some true) { s with heap := h' }) :
    wpAny (model P w) A (do
        storeSet a es1 t2
        if (!wd && t2.tooFull) = true then do
            g (relayAll t2 es1 (SetTable.grown es1.size)).2.2
            storeSet a (relayAll t2 es1 (SetTable.grown es1.size)).1 (relayAll t2 es1 (SetTable.grown es1.size)).2.1
            pure (some true)
          else pure (some true)) R E s := by
  refine wpAny_bind (wpAny_storeSet_of ho hd ?_ (fits_of_scanBound sb))
  have o1 := store_at (es' := es1) (t' := t2) ho hd; have k1 := Heap.SameBut.update s.heap a (Obj.putSet es1 t2)
  split
  · have q1 := relayAll_perm t2 es1 (SetTable.grown es1.size); have q2 := relayAll_fits t2 es1 (SetTable.grown es1.size); have q3 := relayAll_ris t2 es1 (SetTable.grown es1.size); have q4 := relayAll_led t2 es1 (SetTable.grown es1.size)
    generalize relayAll t2 es1 (SetTable.grown es1.size) = Z at q1 q2 q3 q4 ⊢
    obtain ⟨es2, t3, gv⟩ := Z
    dsimp only at q1 q2 q3 q4 ⊢
    have zz : es2.size = es1.size := by rw [← Array.length_toList, q1.length_eq, Array.length_toList]
    refine wpAny_bind (hg _ _ _ ?_)
    refine wpAny_bind (wpAny_storeSet_of o1 rfl ?_ (fits_of_scanBound (by rw [zz]; exact sb)))
    exact wpAny_pure (hR _ (k1.trans (Heap.SameBut.update _ a _)) ⟨_, es2, _, t3, store_at (es' := es2) (t' := t3) o1 rfl, hx, rfl, fun e he => rw1 e (q1.mem_iff.mp he), (q1.map kOf).trans pm1, nd, by rw [zz]; exact sb, q2, q3, ld.imp id fun z => by rw [q4]; exact z⟩)
  · exact wpAny_pure (hR _ k1 ⟨_, es1, _, t2, o1, hx, rfl, rw1, pm1, nd, sb, ft, rs, ld⟩)
theorem setS_put {a : Addr} {l : List Str} {k : Str} {u : Tok} {Q : Bool → Shared → Prop} (R : SetS w s.heap a l) (room : l.length + 1 < scanBound)
    (hQ : ∀ h' b, Heap.SameBut a s.heap h' → SetS w h' a (if k ∈ l then l else k :: l) → Q b { s with heap := h' }) : wpAny (model P w) A (setAddHashed a (.str k u) ((strKind P w).hash k)) Q E s := by
  obtain ⟨o, es, ep, t, ho, hx, hd, hr, pm, nd, sb, ft, rs, ld⟩ := R
  have kis : (strKind P w).is k (.str k u) = true := (row_is (P := P) (w := w) (e := (hashStr w k, .str k u)) ⟨k, u, rfl⟩ k).2 rfl
  have scn : (Value.str k u).scannable = true := rfl
  have elm : ElemsOf (strKind P w) es.toList := rows_elems hr
  have len : es.size = l.length := by rw [← pm.length_eq, List.length_map, Array.length_toList]
  unfold setAddHashed setAddHashedIn
  refine wpAny_holding (wpAny_bind (wpAny_setState_of ho hd ft ?_))
  dsimp only
  rw [byScan_of scn sb elm]
  simp only [↓reduceIte]
  unfold setAddByScan
  refine wpAny_bind ?_
  refine wpAny_bind (wpAny_rule ?_)
  refine wpAny_bind (wpAny_setScan_of kis ho hd ft elm ?_)
  cases hf : List.findIdx? (fun e => (strKind P w).is k e.2) es.toList with
  | some j =>
    dsimp only
    obtain ⟨hj, pj, _⟩ := List.findIdx?_eq_some_iff_getElem.mp hf
    have mem : k ∈ l := pm.mem_iff.mp (List.mem_map.mpr ⟨es.toList[j], List.getElem_mem hj, (row_is (hr _ (List.getElem_mem hj)) k).1 pj⟩)
    have q := hQ s.heap false (Heap.SameBut.refl a s.heap) (by rw [if_pos mem]; exact ⟨o, es, ep, t, ho, hx, hd, hr, pm, nd, sb, ft, rs, ld⟩)
    exact wpAny_pure (wpAny_pure q)
  | none =>
    dsimp only
    have nm : k ∉ l := fun z => by
      obtain ⟨e, he, q⟩ := List.mem_map.mp (pm.mem_iff.mpr z)
      have c := List.findIdx?_eq_none_iff.mp hf e he
      rw [(row_is (hr e he) k).2 q] at c
      cases c
    have gw : ∀ (b : Bool) {s₁ : Shared} {Q' : Unit → Shared → Prop}, Q' () s₁ → wpAny (model P w) A (match b with | true => rule "set.scan.the-table-gave-way" | false => pure ()) Q' E s₁ := fun b s₁ Q' q => by
      cases b
      · exact wpAny_pure q
      · exact wpAny_rule q
    have p1 := layNew_perm t es ((strKind P w).hash k) (.str k u); have p2 := layNew_fits t es ((strKind P w).hash k) (.str k u); have p3 := layNew_ris t es ((strKind P w).hash k) (.str k u) rs; have p4 := layNew_led t es ((strKind P w).hash k) (.str k u)
    generalize layNew t es ((strKind P w).hash k) (.str k u) = Z at p1 p2 p3 p4 ⊢
    obtain ⟨es1, t1, wd, gv⟩ := Z
    dsimp only at p1 p2 p3 p4 ⊢
    rw [Array.toList_push] at p1
    have pc : es1.toList.Perm (((strKind P w).hash k, Value.str k u) :: es.toList) := p1.trans (List.perm_append_singleton _ _)
    have r1 : ∀ e ∈ es1.toList, RowS w e := fun e he => (List.mem_cons.mp (pc.mem_iff.mp he)).elim (fun z => ⟨k, u, z⟩) (hr e)
    have pk : (es1.toList.map kOf).Perm (k :: l) := (pc.map kOf).trans (pm.cons k)
    have n1 : (k :: l).Nodup := List.nodup_cons.mpr ⟨nm, nd⟩
    have zz : es1.size = l.length + 1 := by rw [← Array.length_toList, pc.length_eq, List.length_cons, Array.length_toList, len]
    have b1 : es1.size < scanBound := by rw [zz]; exact room
    have l1 : w.params.followText "set-order" = true ∨ t1.led = true := ld.imp id fun z => by rw [p4]; exact z
    have fin : ∀ h', Heap.SameBut a s.heap h' → SetS w h' a (k :: l) → Q true { s with heap := h' } := fun h' sm r => hQ h' true sm (by rw [if_neg nm]; exact r)
    refine wpAny_bind (gw _ ?_)
    split
    · refine wpAny_bind ?_
      rw [hashByValue_scannable 8 scn]
      refine wpAny_pure ?_
      refine setS_tail ?_ ho hx hd r1 pk n1 b1 ?_ ?_ ?_ ?_
      · intro b s₁ Q' q; exact gw b q
      · first | (split <;> first | exact p2 | exact SetTable.fits_plain_off p2) | exact p2
      · first | (split <;> exact p3) | exact p3
      · first | (split <;> exact l1) | exact l1
      · intro h' sm r; dsimp only; exact wpAny_pure (fin h' sm r)
    · refine wpAny_bind (wpAny_pure ?_)
      simp only [↓reduceIte]
      refine setS_tail ?_ ho hx hd r1 pk n1 b1 p2 p3 l1 ?_
      · intro b s₁ Q' q; exact gw b q
      · intro h' sm r; dsimp only; exact wpAny_pure (fin h' sm r)
/-- the members put in one after another -/
def gath : List Str → List Str → List Str
  | l, [] => l
  | l, x :: r => gath (if x ∈ l then l else x :: l) r
theorem gath_mem {x : Str} : ∀ (xs l : List Str), x ∈ gath l xs ↔ x ∈ l ∨ x ∈ xs
  | [], l => by simp [gath]
  | y :: r, l => by
    rw [gath, gath_mem r]
    by_cases h : y ∈ l
    · rw [if_pos h]
      constructor
      · rintro (q | q)
        · exact .inl q
        · exact .inr (List.mem_cons_of_mem _ q)
      · rintro (q | q)
        · exact .inl q
        · rcases List.mem_cons.mp q with z | z
          · exact .inl (by rw [z]; exact h)
          · exact .inr z
    · rw [if_neg h]
      simp only [List.mem_cons]
      constructor
      · rintro ((q | q) | q)
        · exact .inr (.inl q)
        · exact .inl q
        · exact .inr (.inr q)
      · rintro (q | q | q)
        · exact .inl (.inr q)
        · exact .inl (.inl q)
        · exact .inr q
theorem gath_len : ∀ (xs l : List Str), (gath l xs).length ≤ l.length + xs.length
  | [], l => by simp [gath]
  | y :: r, l => by
    have := gath_len r (if y ∈ l then l else y :: l)
    rw [gath]
    by_cases h : y ∈ l
    · rw [if_pos h] at this ⊢; rw [List.length_cons]; omega
    · rw [if_neg h] at this ⊢; rw [List.length_cons] at this ⊢; omega
theorem gath_snoc (x : Str) : ∀ (xs l : List Str), gath l (xs ++ [x]) = if x ∈ gath l xs then gath l xs else x :: gath l xs
  | [], l => rfl
  | y :: r, l => gath_snoc x r _
theorem fills_strs {items : Array Value} {ss : List Str} (hi : StrsAre items.toList ss) (hb : ss.length + 1 < scanBound) : Fills P w items fun h a => SetS w h a (gath [] ss) := by
  intro A2 I S fp wr G St R s2 W hS h0 hg hR
  have sz : items.size = ss.length := by
    have q := hi.length
    rwa [Array.length_toList] at q
  have hval : ∀ (i : Nat) (v : Value), items[i]? = some v → ∃ k t, ss[i]? = some k ∧ v = Value.str k t := fun (i : Nat) (v : Value) hv => by
    obtain ⟨y, t, e1, e2⟩ := hi.item i v (by rw [Array.getElem?_toList]; exact hv)
    exact ⟨y, t, e2, e1⟩
  have nS : S ∉ wr := fun h => hS (W.sub _ h)
  have sub : ∀ b ∈ wr, b ∈ S :: wr := fun b hb => List.mem_cons_of_mem _ hb
  suffices go : ∀ (k i : Nat) (s : Shared), items.size - i = k → i ≤ items.size → St i s → SetS w s.heap S (gath [] (ss.take i)) → (∀ s', Moved (S :: wr) G s s' → SetS w s'.heap S (gath [] ss) → R (.ok (.ret .none)) s') →
      codeAny (model P w) A2 (.builtin "set.update.loop" ⟨[.ref S, .ref I], []⟩) R s by
    refine go _ 0 s2 rfl (Nat.zero_le _) h0 ?_ hR
    refine ⟨_, #[], 0, _, hg, ⟨rfl, rfl, rfl⟩, rfl, (fun e he => by simp at he), by simp [gath], List.nodup_nil, by decide, by rfl, List.Pairwise.nil, ?_⟩
    show _ ∨ (!w.params.followText "set-order") = true
    cases w.params.followText "set-order"
    · exact .inr rfl
    · exact .inl rfl
  intro k
  induction k with
  | zero =>
    intro i s hk hle hst hs hr
    obtain rfl : i = items.size := by omega
    refine codeAny_builtin F.entry_set_update_loop ?_
    rw [Around.under_plainId F.plain_set_update_loop _]; show wpAny _ A2.in1 (pyNext (.ref I) >>= _) _ _ s
    refine wpAny_bind (W.done s _ _ hst fun s' hm => ?_)
    show wpAny _ A2.in1 (ret Value.none) _ _ s'
    rw [List.take_of_length_le (by omega)] at hs
    exact wpAny_pure (hr s' (hm.mono sub) (hs.at fun o e => hm.heap S o nS e))
  | succ k ih =>
    intro i s hk hle hst hs hr
    have lt : i < items.size := by omega
    refine codeAny_builtin F.entry_set_update_loop ?_
    rw [Around.under_plainId F.plain_set_update_loop _]; show wpAny _ A2.in1 (pyNext (.ref I) >>= _) _ _ s
    refine wpAny_bind (W.item i s _ _ lt hst fun v s' hP hst' hm => ?_)
    obtain ⟨z, t, hz, rfl⟩ := hval i v hP
    have hs' : SetS w s'.heap S (gath [] (ss.take i)) := hs.at fun o e => hm.heap S o nS e
    show wpAny _ A2.in1 (holding [Value.str z t] (setAdd S (.str z t)) >>= _) _ _ s'
    refine wpAny_bind (wpAny_holding ?_)
    unfold setAdd
    refine wpAny_holding ?_
    have kis : (strKind P w).is z (.str z t) = true := (row_is (P := P) (w := w) (e := (hashStr w z, .str z t)) ⟨z, t, rfl⟩ z).2 rfl
    refine wpAny_bind ((strKind P w).pyHash (k := z) kis ?_)
    have few : (gath [] (ss.take i)).length + 1 < scanBound := by
      have q := gath_len (ss.take i) []
      have q2 : (ss.take i).length ≤ ss.length := List.length_take_le' ..
      simp only [List.length_nil] at q
      omega
    refine setS_put (s := { s' with toks := s'.toks + 1 }) hs' few fun h' b sm hS2 => ?_
    rw [← gath_snoc, ← show ss.take (i + 1) = ss.take i ++ [z] by rw [List.take_add_one, hz]; rfl] at hS2
    refine wpAny_pure ⟨plainId_quiet F.plain_set_update_loop _, ih (i + 1) _ (by omega) lt (W.frame _ s' _ _ hst' (Nat.le_succ _) fun b hb o e => ?_) hS2 fun s'' hm'' hS'' => ?_⟩
    · rw [sm.2 b (fun h : b = S => hS (by rw [← h]; exact hb))]; exact e
    · refine hr s'' (Moved.trans W.gtrans ((hm.mono sub).then_heap (Nat.le_succ _) fun b o hb e => ?_) hm'') hS''
      rw [sm.2 b (fun h : b = S => hb (by rw [h]; exact List.mem_cons_self))]; exact e
end
end Hh

set_option Elab.async false
set_option linter.all false
set_option maxRecDepth 100000
set_option maxHeartbeats 4000000
namespace Hh
set_option autoImplicit false
open PySem PySem.Spec PyProof.Rows L2
/-! ### set(xs) and sorted of it, for lists of ints and of texts -/
def rSetLI (K : PySem.W.Frag) (w : World) : List V → Hp → VK → Prop := fun xs H Q => ∃ (l : Addr) (ns : List Int), xs = [.ref l] ∧ SqL K H l (ns.map V.int) ∧ ns.length ≤ 1000 ∧
  ∀ (p : Addr) (c : Nat), H p = none → c ≤ ns.length → Q (.ref p) (upd H p (SetO w p (fun j => decide (j ∈ ns)) c))
theorem call_setLI {X : Cx} {K : PySem.W.Frag} (e : X.K = K) (hc : X.calm = true) : CallR X (.type "set") (rSetLI K X.w) := by
  subst e
  intro pins s σ H xs us Q I r ⟨l, ns, ex, hl, hz, q⟩
  subst ex
  obtain ⟨u, rfl, ru⟩ := r.one
  cases ru
  obtain ⟨its, rv, pl, _⟩ := I.list hl
  refine call_setL (I.ok.hd hc) pl.isList (fills_ints (ints_of_vals rv) (by unfold scanBound; omega)) ?_
  rintro h' tk ⟨c, hcn, R⟩ k
  exact ⟨.ref _, upd H s.heap.objs.size (SetO X.w s.heap.objs.size (fun j => decide (j ∈ ns)) c), I.laid (t' := tk) k (Nat.le_refl _) (setO_new R), rfl, q _ c (I.hok.fresh (Nat.le_refl _)) hcn⟩
def rSortedN (w : World) : List V → Hp → VK → Prop := fun vs H Q => ∃ (a : Addr) (S : Int → Bool) (n : Nat), vs = [V.ref a] ∧ H a = some (SetO w a S n) ∧ n ≤ 1000 ∧
  ∀ (ns : List Int) (p : Addr), ns.Pairwise (· < ·) → (∀ k : Int, k ∈ ns ↔ S k = true) → ns.length = n → H p = none → Q (.ref p) (upd H p (.lst (ns.map V.int)))
theorem inv_new {X : Cx} {pins : List (Addr × Obj)} {σ : Sl} {H : Hp} {s s' : Shared} {p : Addr} {out : Array Value} {c : Nat} {xs : List V} (I : Inv X pins σ H s) (k : ∀ b o, s.heap.get? b = some o → s'.heap.get? b = some o) (g : s'.gens = s.gens) (o : s'.os = s.os)
    (hp : s.heap.objs.size ≤ p) (hg : s'.heap.get? p = some (seqObj "list" out c)) (hv : Vals xs out.toList) (hl : xs.length ≤ sizeLine) : Inv X pins σ (upd H p (.lst xs)) s' := by
  have fr : H p = none := I.hok.fresh hp
  have J : Inv X pins σ (upd H p (.lst xs)) { s with heap := s'.heap, gens := s'.gens, drawn := s'.drawn, toks := s'.toks } :=
    I.call (ch := []) (Un.laid k hp fr) (I.hok.laid k hp ⟨hl, out.toList, c, hv, hg⟩) (by rw [g]; exact I.bare) fun _ z => nomatch z
  have e : s' = { s with heap := s'.heap, gens := s'.gens, drawn := s'.drawn, toks := s'.toks } := by
    obtain ⟨a1, a2, a3, a4, a5⟩ := s'
    obtain ⟨b1, b2, b3, b4, b5⟩ := s
    simp only at o
    subst o
    rfl
  rw [e]
  exact J
theorem cr_sortedN {X : Cx} (hc : X.calm = true) : CallR X (.builtin "sorted") (rSortedN X.w) := by
  intro pins s σ H vs us Q I r ⟨a, S, n, ev, ha, hz, q⟩
  subst ev
  rw [Vals.ref1 r]
  refine sorted_setN (setO_get I ha) (I.ok.hd hc) fun s' p out c ns k g o hp hg hi hs hm hl => ?_
  exact ⟨.ref p, _, inv_new I k g o hp hg (vals_of_ints hi) (by rw [List.length_map, hl, sizeLine_eq]; omega), rfl, q ns p hs hm hl (I.hok.fresh hp)⟩
def SetSO (w : World) (a : Addr) (l : List Str) : HO := .ext fun h => SetS w h a l
def rSetLS (K : PySem.W.Frag) (w : World) : List V → Hp → VK → Prop := fun xs H Q => ∃ (l : Addr) (ss : List Str), xs = [.ref l] ∧ SqL K H l (ss.map V.str) ∧ ss.length ≤ 1000 ∧
  ∀ (p : Addr), H p = none → Q (.ref p) (upd H p (SetSO w p (gath [] ss)))
theorem call_setLS {X : Cx} {K : PySem.W.Frag} (e : X.K = K) (hc : X.calm = true) : CallR X (.type "set") (rSetLS K X.w) := by
  subst e
  intro pins s σ H xs us Q I r ⟨l, ss, ex, hl, hz, q⟩
  subst ex
  obtain ⟨u, rfl, ru⟩ := r.one
  cases ru
  obtain ⟨its, rv, pl, _⟩ := I.list hl
  refine call_setL (I.ok.hd hc) pl.isList (fills_strs (by simpa using strsAre_of rv) (by unfold scanBound; omega)) ?_
  intro h' tk R k
  have ob : ObjOk X.prog X.w (upd H s.heap.objs.size (SetSO X.w s.heap.objs.size (gath [] ss))) h' s.heap.objs.size (SetSO X.w s.heap.objs.size (gath [] ss)) := by
    have ⟨o, _, _, _, ho, _⟩ := R
    exact ⟨R, ⟨o, ho⟩, fun h1 h2 p k => SetS.at p k⟩
  exact ⟨.ref _, _, I.laid (t' := tk) k (Nat.le_refl _) ob, rfl, q _ (I.hok.fresh (Nat.le_refl _))⟩
def strOf : Value → Str
  | .str k _ => k
  | _ => ⟨#[]⟩
theorem strs_map : ∀ {vs : List Value}, (∀ v ∈ vs, ∃ k t, v = Value.str k t) → StrsAre vs (vs.map strOf)
  | [], _ => .nil
  | v :: r, h => by
    obtain ⟨k, t, rfl⟩ := h v List.mem_cons_self
    exact .cons k t (strs_map fun u hu => h u (List.mem_cons_of_mem _ hu))
theorem sorted_setS {P : Program} {w : World} {A : Around} {E : Value → Shared → Prop} {s : Shared} {a : Addr} {l : List Str} {Q : Value → Shared → Prop} (R : SetS w s.heap a l) (h64 : l.length < 64) (hh : A.handled = none)
    (hQ : ∀ s' p (out : Array Value) (c : Nat) (ys : List Str), (∀ b o, s.heap.get? b = some o → s'.heap.get? b = some o) → s'.gens = s.gens → s'.os = s.os → s.heap.objs.size ≤ p → s'.heap.get? p = some (seqObj "list" out c) → StrsAre out.toList ys → ys.Perm l → sortedS ys = true → Q (.ref p) s') :
    wpAny (model P w) A (call (.builtin "sorted") [.ref a]) Q E s := by
  obtain ⟨o, es, ep, t, ho, hx, hd, hr, pm, nd, sb, ft, rs, ld⟩ := R
  refine Calls.call_function_entry kind_sorted plain_sorted entry_sorted (args_sorted1 _) ?_
  unfold Builtin.«sorted»
  refine wpAny_bind (m := checkCount "sorted" 1 1 _) (wpAny_pure ?_)
  refine wpAny_bind (collect_set (A := A.in1) hh ⟨o, ho, hx.1, hd⟩ ft sb rs ld fun s1 vs k1 hz g1 o1 pv => ?_)
  have sv : StrsAre vs (vs.map strOf) := strs_map fun v hv => by
    obtain ⟨e, he, q⟩ := List.mem_map.mp (pv.mem_iff.mp hv)
    obtain ⟨k, u, rfl⟩ := hr e he
    exact ⟨k, u, q.symm⟩
  have pl : (vs.map strOf).Perm l := by
    have q := pv.map strOf
    rw [List.map_map] at q
    exact q.trans pm
  have vl : vs.length = l.length := by rw [← pl.length_eq, List.length_map]
  refine wpAny_bind (wpAny_newList ?_ (by rw [vl, sizeLine_eq]; omega))
  have new : (s1.heap.push (seqObj "list" vs.toArray 0)).get? s1.heap.objs.size = some (seqObj "list" vs.toArray 0) := Heap.get?_push_size _ rfl
  refine wpAny_bind (wpAny_holding (wpAny_call_entry slot_list_sort ⟨_, new, rfl⟩ entry_list_sort (list_sort_treeK strKind_oneLt new sv.keysOf (fun v₁ v₂ rest e => keyKind_strs (by rw [← e]; exact sv)) (by rw [vl]; exact h64) fun st' hp hs => ⟨_, rfl, ?_⟩) (args_list_sort _)))
  obtain ⟨ys, q1, q2, q3⟩ := sorted_out_str sv hp hs
  obtain ⟨c, hc⟩ := sortedHeap_at (vs := vs) (out := (arrOf st').map (·.2)) new
  refine wpAny_pure ⟨_, rfl, hQ _ s1.heap.objs.size ((arrOf st').map (·.2)) c ys (fun b u e => ?_) g1 o1 hz hc q1 (q2.trans pl) q3⟩
  have q := k1 b u e
  have lt := Heap.lt_size q
  show (sortedHeap (s1.heap.push (seqObj "list" vs.toArray 0)) s1.heap.objs.size vs ((arrOf st').map (·.2))).get? b = some u
  rw [sortedHeap_old (Nat.ne_of_lt lt) (by rw [size_push']; exact Nat.lt_succ_of_lt lt)]
  exact Heap.get?_push_of_some _ q
def rSortedSS (w : World) : List V → Hp → VK → Prop := fun vs H Q => ∃ (a : Addr) (l : List Str), vs = [V.ref a] ∧ H a = some (SetSO w a l) ∧ l.length < 64 ∧
  ∀ (ys : List Str) (p : Addr), ys.Perm l → sortedS ys = true → H p = none → Q (.ref p) (upd H p (.lst (ys.map V.str)))
theorem cr_sortedSS {X : Cx} (hc : X.calm = true) : CallR X (.builtin "sorted") (rSortedSS X.w) := by
  intro pins s σ H vs us Q I r ⟨a, l, ev, ha, h64, q⟩
  subst ev
  rw [Vals.ref1 r]
  have R : SetS X.w s.heap a l := (I.hok a _ ha).1
  refine sorted_setS R h64 (I.ok.hd hc) fun s' p out c ys k g o hp hg hi pm hs => ?_
  exact ⟨.ref p, _, inv_new I k g o hp hg (vals_of_strs hi) (by rw [List.length_map, pm.length_eq, sizeLine_eq]; omega), rfl, q ys p pm hs (I.hok.fresh hp)⟩
section
variable {c : Ctx} {ρ : List Ent} {te : TE} {C : Nat} {w : World}
/-- what is drawn aside: a set that nobody keeps, then a list of its own -/
theorem aside {I2 H2 : Hp} {n : Nat} (w2 : Wd c I2 H2 n) {p q : Addr} {o : HO} {xs : List V} (np : H2 p = none) (nq : (upd H2 p o) q = none) :
    Gx c.b I2 H2 (upd I2 q (.lst xs)) (upd (upd H2 p o) q (.lst xs)) ∧ Wd c (upd I2 q (.lst xs)) (upd (upd H2 p o) q (.lst xs)) n := by
  have s2 : Same H2 (upd H2 p o) := fun r u h => by rw [upd_ne (ne_of_none h np)]; exact h
  have nqp : q ≠ p := fun z => by rw [z, upd_same] at nq; cases nq
  have nq2 : H2 q = none := by rw [upd_ne nqp] at nq; exact nq
  have iq : I2 q = none := w2.ih.free nq2
  have gx : Gx c.b I2 H2 (upd I2 q (.lst xs)) (upd (upd H2 p o) q (.lst xs)) := by
    refine ⟨fun r u h => ?_, fun r u _ h => ?_, fun r h => ?_, fun r h => ?_⟩
    · rw [upd_ne (ne_of_none h iq)]; exact h
    · rw [upd_ne (ne_of_none h nq2)]; exact s2 r u h
    · rw [upd_ne (fun z => h (by rw [z]; exact nq2))]
    · rw [upd_ne (fun z => h (by rw [z]; exact nq2)), upd_ne (fun z => h (by rw [z]; exact np))]; exact h
  have ih3 : Same (upd I2 q (.lst xs)) (upd (upd H2 p o) q (.lst xs)) := fun r u h => by
    by_cases z : r = q
    · subst z; rw [upd_same] at h ⊢; exact h
    · rw [upd_ne z] at h ⊢; exact s2 r u (w2.ih r u h)
  exact ⟨gx, w2.go (C := 0) gx ih3 fun b hb => by
    obtain ⟨_, _, x, y, z, hh, rr⟩ := w2.bg b hb
    exact ⟨x, y, z, by rw [upd_ne (ne_of_none hh nq2)]; exact s2 b _ hh, rr⟩⟩
theorem rp_ints {K : PySem.W.Frag} {I : Hp} : ∀ ks : List Int, RpAll K I (ks.map V.int) (ks.map .int)
  | [] => .nil
  | x :: r => .cons (.int x) (rp_ints r)
theorem rp_strs {K : PySem.W.Frag} {I : Hp} : ∀ ks : List Str, RpAll K I (ks.map V.str) (ks.map .str)
  | [] => .nil
  | x :: r => .cons (.str x) (rp_strs r)
theorem ev_sortedN {Pn : List Int → Prop} (ha : Ev c te ρ C (fun d => ∃ ns : List Int, d = .list (ns.map .int) ∧ Pn ns)) (hl : ∀ ns, Pn ns → ns.length ≤ 1000) :
    Ev c (tCB (rSortedN w) (tCons (tCB (rSetLI c.K w) (tCons te tNil)) tNil)) ρ C (fun d => ∃ ms ns : List Int, d = .list (ms.map .int) ∧ Pn ns ∧ ms.Pairwise (· < ·) ∧ (∀ k, k ∈ ms ↔ k ∈ ns) ∧ ms.length ≤ ns.length) := fun σ I H n Q wd e l k => by
  refine ha σ I H n _ wd e l fun v d I2 H2 g2 w2 r2 ⟨ns, ed, hn⟩ => ?_
  subst ed
  obtain ⟨a, xs, rfl, hs, hr⟩ := r2.lst_inv
  have ex := hr.ints
  subst ex
  have hlen := hl ns hn
  refine ⟨a, ns, rfl, SqL.of (w2.ih _ _ hs), hlen, fun p c1 np hc1 => ?_⟩
  refine ⟨p, _, c1, rfl, upd_same, by omega, fun ms q hp hm hml nq => ?_⟩
  obtain ⟨gx, w3⟩ := aside (xs := ms.map V.int) w2 np nq
  exact k _ (.list (ms.map .int)) _ _ (g2.trans gx) w3 (.lst upd_same (rp_ints ms)) ⟨ms, ns, rfl, hn, hp, fun k => (hm k).trans (by rw [decide_eq_true_eq]), by omega⟩
/-- sorted(set(texts)): they rise, each once -/
theorem ev_sortedS {Pn : List Str → Prop} (ha : Ev c te ρ C (fun d => ∃ ss : List Str, d = .list (ss.map .str) ∧ Pn ss)) (hl : ∀ ss, Pn ss → ss.length < 64) :
    Ev c (tCB (rSortedSS w) (tCons (tCB (rSetLS c.K w) (tCons te tNil)) tNil)) ρ C (fun d => ∃ ys ss : List Str, d = .list (ys.map .str) ∧ Pn ss ∧ ys.Perm (gath [] ss) ∧ sortedS ys = true) := fun σ I H n Q wd e l k => by
  refine ha σ I H n _ wd e l fun v d I2 H2 g2 w2 r2 ⟨ss, ed, hn⟩ => ?_
  subst ed
  obtain ⟨a, xs, rfl, hs, hr⟩ := r2.lst_inv
  have ex := hr.strs'
  subst ex
  have hlen := hl ss hn
  refine ⟨a, ss, rfl, SqL.of (w2.ih _ _ hs), by omega, fun p np => ?_⟩
  have gl := gath_len ss []
  simp only [List.length_nil] at gl
  refine ⟨p, _, rfl, upd_same, by omega, fun ys q hp hm nq => ?_⟩
  obtain ⟨gx, w3⟩ := aside (xs := ys.map V.str) w2 np nq
  exact k _ (.list (ys.map .str)) _ _ (g2.trans gx) w3 (.lst upd_same (rp_strs ys)) ⟨ys, ss, rfl, hn, hp, hm⟩
end
/-! ### dict([(n, True), ..]) and not in it -/
def rDictP (K : PySem.W.Frag) : List V → Hp → VK → Prop := fun xs H Q => ∃ (a : Addr) (ps : List Addr) (kvs : List (Key × V)), xs = [.ref a] ∧ SqL K H a (ps.map V.ref) ∧ Paired (fun p kv => SqT K H p [kV kv.1, kv.2]) ps kvs ∧
    ∀ p, H p = none → Q (.ref p) (upd H p (.dK (mergeK [] kvs)))
theorem call_dictPK {X : Cx} {K : PySem.W.Frag} (e : X.K = K) (hc : X.calm = true) : CallR X (.type "dict") (rDictP K) := by
  subst e
  exact call_dictP hc
def kvT (ns : List Int) : List (Key × V) := ns.map fun n => ((.inl n : Key), V.bl true)
def dicT (ns : List Int) : PyData := .dict (ns.map fun n => (.int n, .bool true))
theorem kvT_val (n : Int) : ∀ ns : List Int, (valV (kvT ns) (.inl n : Key)).isSome = ns.any fun h => h == n
  | [] => rfl
  | m :: r => by
    show (valV (((.inl m : Key), V.bl true) :: kvT r) (.inl n : Key)).isSome = (m == n || r.any fun h => h == n)
    by_cases h : m = n
    · rw [valV_pos (by rw [h]), h, beq_self_eq_true]; rfl
    · rw [valV_neg (fun z => h (Sum.inl.inj z)), kvT_val n r, beq_eq_false_iff_ne.mpr h]; rfl
theorem merge_kvT : ∀ (ms ns : List Int), (ns ++ ms).Nodup → mergeK (kvT ns) (kvT ms) = kvT (ns ++ ms)
  | [], ns, _ => by rw [List.append_nil]; rfl
  | m :: r, ns, h => by
    have nm : m ∉ ns := fun z => (List.nodup_append.mp h).2.2 m z m List.mem_cons_self rfl
    have nv : valV (kvT ns) (.inl m : Key) = none := by
      have q := kvT_val m ns
      have q2 : (ns.any fun h => h == m) = false := by
        rw [List.any_eq_false]
        intro x hx z
        exact nm (by rw [← beq_iff_eq.mp z]; exact hx)
      rw [q2] at q
      cases z : valV (kvT ns) (.inl m : Key) with
      | none => rfl
      | some u => rw [z] at q; cases q
    have e : ns ++ m :: r = (ns ++ [m]) ++ r := by rw [List.append_assoc]; rfl
    rw [e] at h ⊢
    rw [← merge_kvT r (ns ++ [m]) h]
    show mergeK (putK (kvT ns) (.inl m : Key) (V.bl true)) (kvT r) = _
    rw [putK_new _ nv]
    congr 1
    unfold kvT
    rw [List.map_append]
    rfl
theorem rp_kvT {K : PySem.W.Frag} {I : Hp} : ∀ ns : List Int, RpKv K I (kvT ns) (ns.map fun n => (.int n, .bool true))
  | [] => .nil
  | n :: r => .cons (k := .inl n) (.bl true) (rp_kvT r)
theorem kv_inv {K : PySem.W.Frag} {I : Hp} : ∀ {ns : List Int} {kvs : List (Key × V)}, RpKv K I kvs (ns.map fun n => (.int n, .bool true)) → kvs = kvT ns := by
  intro ns
  induction ns with
  | nil => intro kvs h; cases h; rfl
  | cons n r ih =>
    intro kvs h
    generalize hd : ((n :: r).map fun n => (PyData.int n, PyData.bool true)) = es at h
    cases h with
    | nil => cases hd
    | @cons k v d kvs es h1 h2 =>
      simp only [List.map_cons, List.cons.injEq, Prod.mk.injEq] at hd
      obtain ⟨⟨e1, e2⟩, e3⟩ := hd
      subst e2 e3
      rw [h1.bl_inv, ih h2]
      cases k with
      | inl i => cases e1; rfl
      | inr x => cases e1
section
variable {c : Ctx} {ρ : List Ent} {te ta tb : TE} {C : Nat}
theorem pairs_inv {K : PySem.W.Frag} {I H : Hp} (hs : Same I H) : ∀ {ns : List Int} {vs : List V}, RpAll K I vs (ns.map fun n => .tuple [.int n, .bool true]) → ∃ ps : List Addr, vs = ps.map V.ref ∧ Paired (fun p (kv : Key × V) => SqT K H p [kV kv.1, kv.2]) ps (kvT ns)
  | [], _, .nil => ⟨[], rfl, .nil⟩
  | n :: r, _, .cons h t => by
    obtain ⟨ps, e, q⟩ := pairs_inv hs t
    obtain ⟨a, xs, rfl, h1, h2⟩ := h.tup_inv
    cases h2 with
    | cons x1 t1 =>
      cases t1 with
      | cons x2 t2 =>
        cases t2
        have e1 := x1.int_inv
        have e2 := x2.bl_inv
        subst e1 e2 e
        exact ⟨a :: ps, rfl, .cons (seqT_mono hs h1) q⟩
theorem pv_dictP {ns : List Int} (ha : Pv c te ρ (.list (ns.map fun n => .tuple [.int n, .bool true]))) (hn : ns.Nodup) : Pv c (tCB (rDictP c.K) (tCons te tNil)) ρ (dicT ns) := fun σ I H n Q wd e l k => by
  refine ha σ I H n _ wd e l fun v d I2 H2 g2 w2 r2 p2 => ?_
  subst p2
  obtain ⟨a, xs, rfl, hs, hr⟩ := r2.lst_inv
  obtain ⟨ps, rfl, pp⟩ := pairs_inv w2.ih hr
  refine ⟨a, ps, kvT ns, rfl, SqL.of (w2.ih _ _ hs), pp, fun p np => ?_⟩
  have em : mergeK [] (kvT ns) = kvT ns := merge_kvT ns [] (by simpa using hn)
  rw [em]
  exact k _ _ (upd I2 p (.dK (kvT ns))) (upd H2 p (.dK (kvT ns))) (g2.trans (new_go w2.ih np)) (w2.new np) (.dic upd_same (rp_kvT ns)) rfl
def rDNot : R2 := fun x y H Q => ∃ (a : Addr) (o : Option V), y = .ref a ∧ DGet H a x o ∧ Q (.bl (!o.isSome)) H
theorem op_dnot {X : Cx} (hu : X.A.units + 64 < cLine) : OpR X (compareOp .NotIn) rDNot := by
  intro pins s σ H x y v u Q I rx ry ⟨a, o, ey, g, q⟩
  subst ey
  cases ry
  exact d_notIn (by omega) I g rx fun s' I' => ⟨.bl (!o.isSome), H, I', rfl, q⟩
theorem rd_dnot {n : Int} {ns : List Int} : Rd2 c rDNot (.int n) (dicT ns) (fun x => x = .bool (!(ns.any fun h => h == n))) := fun I H k x y Q w r1 r2 kk => by
  have e1 := r1.int_inv
  subst e1
  cases r2 with
  | dic h r =>
    have e2 := kv_inv r
    subst e2
    refine ⟨_, _, rfl, .inl ⟨_, .inl n, .inl (w.ih _ _ h), rfl, rfl⟩, ?_⟩
    rw [kvT_val]
    exact kk _ _ I H Gx.refl w (.bl _) rfl
end
end Hh

set_option Elab.async false
set_option linter.all false
set_option maxRecDepth 100000
set_option maxHeartbeats 4000000
namespace Hh
open PySem PySem.Spec PyProof.Rows L2
def topS (i : Nat) : Stmt := PySem.Challenge.pw_heardhouse_k59_long_calendars.main.body.getD i (.Pass ⟨0, 0, 0, 0⟩)
abbrev s_is_whole : Stmt := topS 6
theorem sc_is_whole : FnScope ["thing", "least"] ["thing", "least"] (defScope s_is_whole) := ⟨rfl, rfl, rfl, by decide +kernel, rfl, by decide +kernel, by decide +kernel⟩
abbrev s_is_row : Stmt := topS 7
theorem sc_is_row : FnScope ["thing", "many"] ["thing", "many"] (defScope s_is_row) := ⟨rfl, rfl, rfl, by decide +kernel, rfl, by decide +kernel, by decide +kernel⟩
abbrev s_is_rising : Stmt := topS 8
theorem sc_is_rising : FnScope ["row", "one", "other"] ["row"] (defScope s_is_rising) := ⟨rfl, rfl, rfl, by decide +kernel, rfl, by decide +kernel, by decide +kernel⟩
abbrev s_is_calendar : Stmt := topS 13
theorem sc_is_calendar : FnScope ["thing", "day"] ["thing"] (defScope s_is_calendar) := ⟨rfl, rfl, rfl, by decide +kernel, rfl, by decide +kernel, by decide +kernel⟩
abbrev s_is_day : Stmt := topS 14
theorem sc_is_day : FnScope ["thing"] ["thing"] (defScope s_is_day) := ⟨rfl, rfl, rfl, by decide +kernel, rfl, by decide +kernel, by decide +kernel⟩
abbrev s_is_term : Stmt := topS 15
theorem sc_is_term : FnScope ["thing", "count", "unit"] ["thing"] (defScope s_is_term) := ⟨rfl, rfl, rfl, by decide +kernel, rfl, by decide +kernel, by decide +kernel⟩
abbrev s_is_open : Stmt := topS 16
theorem sc_is_open : FnScope ["calendar", "day"] ["calendar", "day"] (defScope s_is_open) := ⟨rfl, rfl, rfl, by decide +kernel, rfl, by decide +kernel, by decide +kernel⟩
abbrev s_next_open : Stmt := topS 17
theorem sc_next_open : FnScope ["calendar", "day"] ["calendar", "day"] (defScope s_next_open) := ⟨rfl, rfl, rfl, by decide +kernel, rfl, by decide +kernel, by decide +kernel⟩
abbrev s_last_open : Stmt := topS 18
theorem sc_last_open : FnScope ["calendar", "day", "rank", "holiday"] ["calendar", "day"] (defScope s_last_open) := ⟨rfl, rfl, rfl, by decide +kernel, rfl, by decide +kernel, by decide +kernel⟩
abbrev s_end : Stmt := topS 19
theorem sc_end : FnScope ["calendar", "day", "term"] ["calendar", "day", "term"] (defScope s_end) := ⟨rfl, rfl, rfl, by decide +kernel, rfl, by decide +kernel, by decide +kernel⟩
abbrev s_check_days : Stmt := topS 20
theorem sc_check_days : FnScope ["calendar", "days", "day"] ["calendar", "days"] (defScope s_check_days) := ⟨rfl, rfl, rfl, by decide +kernel, rfl, by decide +kernel, by decide +kernel⟩
abbrev s_check_day : Stmt := topS 21
theorem sc_check_day : FnScope ["day"] ["day"] (defScope s_check_day) := ⟨rfl, rfl, rfl, by decide +kernel, rfl, by decide +kernel, by decide +kernel⟩
abbrev s_check_term : Stmt := topS 22
theorem sc_check_term : FnScope ["term"] ["term"] (defScope s_check_term) := ⟨rfl, rfl, rfl, by decide +kernel, rfl, by decide +kernel, by decide +kernel⟩
abbrev s_is_workday : Stmt := topS 23
theorem sc_is_workday : FnScope ["day"] ["day"] (defScope s_is_workday) := ⟨rfl, rfl, rfl, by decide +kernel, rfl, by decide +kernel, by decide +kernel⟩
abbrev s_rank_of : Stmt := topS 24
theorem sc_rank_of : FnScope ["day"] ["day"] (defScope s_rank_of) := ⟨rfl, rfl, rfl, by decide +kernel, rfl, by decide +kernel, by decide +kernel⟩
abbrev s_workday_of : Stmt := topS 25
theorem sc_workday_of : FnScope ["rank"] ["rank"] (defScope s_workday_of) := ⟨rfl, rfl, rfl, by decide +kernel, rfl, by decide +kernel, by decide +kernel⟩
abbrev s_open_behind : Stmt := topS 26
theorem sc_open_behind : FnScope ["calendar", "day", "count", "rank", "holiday"] ["calendar", "day", "count"] (defScope s_open_behind) := ⟨rfl, rfl, rfl, by decide +kernel, rfl, by decide +kernel, by decide +kernel⟩
abbrev s_first_open : Stmt := topS 27
theorem sc_first_open : FnScope ["calendar", "day"] ["calendar", "day"] (defScope s_first_open) := ⟨rfl, rfl, rfl, by decide +kernel, rfl, by decide +kernel, by decide +kernel⟩
abbrev s_term_end : Stmt := topS 28
theorem sc_term_end : FnScope ["calendar", "day", "term", "count", "unit"] ["calendar", "day", "term"] (defScope s_term_end) := ⟨rfl, rfl, rfl, by decide +kernel, rfl, by decide +kernel, by decide +kernel⟩
abbrev s_law_cell_at : Stmt := topS 30
theorem sc_law_cell_at : FnScope ["script", "k"] ["script", "k"] (defScope s_law_cell_at) := ⟨rfl, rfl, rfl, by decide +kernel, rfl, by decide +kernel, by decide +kernel⟩
abbrev s_law_bag : Stmt := topS 31
theorem sc_law_bag : FnScope ["cell", "k"] ["cell", "k"] (defScope s_law_bag) := ⟨rfl, rfl, rfl, by decide +kernel, rfl, by decide +kernel, by decide +kernel⟩
abbrev s_law_dip : Stmt := topS 32
theorem sc_law_dip : FnScope ["bag", "many", "digit", "mixed"] ["bag", "many"] (defScope s_law_dip) := ⟨rfl, rfl, rfl, by decide +kernel, rfl, by decide +kernel, by decide +kernel⟩
abbrev s_law_long : Stmt := topS 33
theorem sc_law_long : FnScope ["bag", "found", "one", "wide", "k", "start", "days_on_end"] ["bag"] (defScope s_law_long) := ⟨rfl, rfl, rfl, by decide +kernel, rfl, by decide +kernel, by decide +kernel⟩
abbrev s_law_free : Stmt := topS 34
theorem sc_law_free : FnScope ["closed", "at"] ["closed", "at"] (defScope s_law_free) := ⟨rfl, rfl, rfl, by decide +kernel, rfl, by decide +kernel, by decide +kernel⟩
abbrev s_law_walked : Stmt := topS 35
theorem sc_law_walked : FnScope ["closed", "at", "step", "one", "lap"] ["closed", "at", "step"] (defScope s_law_walked) := ⟨rfl, rfl, rfl, by decide +kernel, rfl, by decide +kernel, by decide +kernel⟩
abbrev s_law_due : Stmt := topS 36
theorem sc_law_due : FnScope ["closed", "at", "count", "unit", "gone", "one", "lap"] ["closed", "at", "count", "unit"] (defScope s_law_due) := ⟨rfl, rfl, rfl, by decide +kernel, rfl, by decide +kernel, by decide +kernel⟩
abbrev s_law_judged : Stmt := topS 37
theorem sc_law_judged : FnScope ["bag", "cal", "at", "pair", "turned"] ["bag", "cal"] (defScope s_law_judged) := ⟨rfl, rfl, rfl, by decide +kernel, rfl, by decide +kernel, by decide +kernel⟩
abbrev s_law_right : Stmt := topS 38
theorem sc_law_right : FnScope ["bag", "cal", "kept", "closed", "turn", "at", "found", "due", "count", "unit", "one"] ["bag"] (defScope s_law_right) := ⟨rfl, rfl, rfl, by decide +kernel, rfl, by decide +kernel, by decide +kernel⟩
abbrev s_law : Stmt := topS 39
theorem sc_law : FnScope ["script", "k"] ["script"] (defScope s_law) := ⟨rfl, rfl, rfl, by decide +kernel, rfl, by decide +kernel, by decide +kernel⟩
structure Tx (K : PySem.W.Frag) (mg : Str → Option Value) where
  a_is_whole : Addr
  d_is_whole : FuncData
  F_is_whole : Fun K "is_whole" "is_whole" s_is_whole a_is_whole d_is_whole
  B_is_whole : Binds K d_is_whole ["thing", "least"] []
  G_is_whole : mg "is_whole" = some (.ref a_is_whole)
  a_is_row : Addr
  d_is_row : FuncData
  F_is_row : Fun K "is_row" "is_row" s_is_row a_is_row d_is_row
  B_is_row : Binds K d_is_row ["thing", "many"] []
  G_is_row : mg "is_row" = some (.ref a_is_row)
  a_is_rising : Addr
  d_is_rising : FuncData
  F_is_rising : Fun K "is_rising" "is_rising" s_is_rising a_is_rising d_is_rising
  B_is_rising : Binds K d_is_rising ["row"] []
  G_is_rising : mg "is_rising" = some (.ref a_is_rising)
  a_is_calendar : Addr
  d_is_calendar : FuncData
  F_is_calendar : Fun K "is_calendar" "is_calendar" s_is_calendar a_is_calendar d_is_calendar
  B_is_calendar : Binds K d_is_calendar ["thing"] []
  G_is_calendar : mg "is_calendar" = some (.ref a_is_calendar)
  a_is_day : Addr
  d_is_day : FuncData
  F_is_day : Fun K "is_day" "is_day" s_is_day a_is_day d_is_day
  B_is_day : Binds K d_is_day ["thing"] []
  G_is_day : mg "is_day" = some (.ref a_is_day)
  a_is_term : Addr
  d_is_term : FuncData
  F_is_term : Fun K "is_term" "is_term" s_is_term a_is_term d_is_term
  B_is_term : Binds K d_is_term ["thing"] []
  G_is_term : mg "is_term" = some (.ref a_is_term)
  a_is_open : Addr
  d_is_open : FuncData
  F_is_open : Fun K "is_open" "is_open" s_is_open a_is_open d_is_open
  B_is_open : Binds K d_is_open ["calendar", "day"] []
  G_is_open : mg "is_open" = some (.ref a_is_open)
  a_next_open : Addr
  d_next_open : FuncData
  F_next_open : Fun K "next_open" "next_open" s_next_open a_next_open d_next_open
  B_next_open : Binds K d_next_open ["calendar", "day"] []
  G_next_open : mg "next_open" = some (.ref a_next_open)
  a_last_open : Addr
  d_last_open : FuncData
  F_last_open : Fun K "last_open" "last_open" s_last_open a_last_open d_last_open
  B_last_open : Binds K d_last_open ["calendar", "day"] []
  G_last_open : mg "last_open" = some (.ref a_last_open)
  a_end : Addr
  d_end : FuncData
  F_end : Fun K "end" "end" s_end a_end d_end
  B_end : Binds K d_end ["calendar", "day", "term"] []
  G_end : mg "end" = some (.ref a_end)
  a_check_days : Addr
  d_check_days : FuncData
  F_check_days : Fun K "check_days" "check_days" s_check_days a_check_days d_check_days
  B_check_days : Binds K d_check_days ["calendar", "days"] []
  G_check_days : mg "check_days" = some (.ref a_check_days)
  a_check_day : Addr
  d_check_day : FuncData
  F_check_day : Fun K "check_day" "check_day" s_check_day a_check_day d_check_day
  B_check_day : Binds K d_check_day ["day"] []
  G_check_day : mg "check_day" = some (.ref a_check_day)
  a_check_term : Addr
  d_check_term : FuncData
  F_check_term : Fun K "check_term" "check_term" s_check_term a_check_term d_check_term
  B_check_term : Binds K d_check_term ["term"] []
  G_check_term : mg "check_term" = some (.ref a_check_term)
  a_is_workday : Addr
  d_is_workday : FuncData
  F_is_workday : Fun K "is_workday" "is_workday" s_is_workday a_is_workday d_is_workday
  B_is_workday : Binds K d_is_workday ["day"] []
  G_is_workday : mg "is_workday" = some (.ref a_is_workday)
  a_rank_of : Addr
  d_rank_of : FuncData
  F_rank_of : Fun K "rank_of" "rank_of" s_rank_of a_rank_of d_rank_of
  B_rank_of : Binds K d_rank_of ["day"] []
  G_rank_of : mg "rank_of" = some (.ref a_rank_of)
  a_workday_of : Addr
  d_workday_of : FuncData
  F_workday_of : Fun K "workday_of" "workday_of" s_workday_of a_workday_of d_workday_of
  B_workday_of : Binds K d_workday_of ["rank"] []
  G_workday_of : mg "workday_of" = some (.ref a_workday_of)
  a_open_behind : Addr
  d_open_behind : FuncData
  F_open_behind : Fun K "open_behind" "open_behind" s_open_behind a_open_behind d_open_behind
  B_open_behind : Binds K d_open_behind ["calendar", "day", "count"] []
  G_open_behind : mg "open_behind" = some (.ref a_open_behind)
  a_first_open : Addr
  d_first_open : FuncData
  F_first_open : Fun K "first_open" "first_open" s_first_open a_first_open d_first_open
  B_first_open : Binds K d_first_open ["calendar", "day"] []
  G_first_open : mg "first_open" = some (.ref a_first_open)
  a_term_end : Addr
  d_term_end : FuncData
  F_term_end : Fun K "term_end" "term_end" s_term_end a_term_end d_term_end
  B_term_end : Binds K d_term_end ["calendar", "day", "term"] []
  G_term_end : mg "term_end" = some (.ref a_term_end)
  a_law_cell_at : Addr
  d_law_cell_at : FuncData
  F_law_cell_at : Fun K "_law_cell_at" "_law_cell_at" s_law_cell_at a_law_cell_at d_law_cell_at
  B_law_cell_at : Binds K d_law_cell_at ["script", "k"] []
  G_law_cell_at : mg "_law_cell_at" = some (.ref a_law_cell_at)
  a_law_bag : Addr
  d_law_bag : FuncData
  F_law_bag : Fun K "_law_bag" "_law_bag" s_law_bag a_law_bag d_law_bag
  B_law_bag : Binds K d_law_bag ["cell", "k"] []
  G_law_bag : mg "_law_bag" = some (.ref a_law_bag)
  a_law_dip : Addr
  d_law_dip : FuncData
  F_law_dip : Fun K "_law_dip" "_law_dip" s_law_dip a_law_dip d_law_dip
  B_law_dip : Binds K d_law_dip ["bag", "many"] []
  G_law_dip : mg "_law_dip" = some (.ref a_law_dip)
  a_law_long : Addr
  d_law_long : FuncData
  F_law_long : Fun K "_law_long" "_law_long" s_law_long a_law_long d_law_long
  B_law_long : Binds K d_law_long ["bag"] []
  G_law_long : mg "_law_long" = some (.ref a_law_long)
  a_law_free : Addr
  d_law_free : FuncData
  F_law_free : Fun K "_law_free" "_law_free" s_law_free a_law_free d_law_free
  B_law_free : Binds K d_law_free ["closed", "at"] []
  G_law_free : mg "_law_free" = some (.ref a_law_free)
  a_law_walked : Addr
  d_law_walked : FuncData
  F_law_walked : Fun K "_law_walked" "_law_walked" s_law_walked a_law_walked d_law_walked
  B_law_walked : Binds K d_law_walked ["closed", "at", "step"] []
  G_law_walked : mg "_law_walked" = some (.ref a_law_walked)
  a_law_due : Addr
  d_law_due : FuncData
  F_law_due : Fun K "_law_due" "_law_due" s_law_due a_law_due d_law_due
  B_law_due : Binds K d_law_due ["closed", "at", "count", "unit"] []
  G_law_due : mg "_law_due" = some (.ref a_law_due)
  a_law_judged : Addr
  d_law_judged : FuncData
  F_law_judged : Fun K "_law_judged" "_law_judged" s_law_judged a_law_judged d_law_judged
  B_law_judged : Binds K d_law_judged ["bag", "cal"] []
  G_law_judged : mg "_law_judged" = some (.ref a_law_judged)
  a_law_right : Addr
  d_law_right : FuncData
  F_law_right : Fun K "_law_right" "_law_right" s_law_right a_law_right d_law_right
  B_law_right : Binds K d_law_right ["bag"] []
  G_law_right : mg "_law_right" = some (.ref a_law_right)
  a_law : Addr
  d_law : FuncData
  F_law : Fun K "law" "law" s_law a_law d_law
  B_law : Binds K d_law ["script"] []
  G_law : mg "law" = some (.ref a_law)
  N_all : mg "all" = none
  N_bool : mg "bool" = none
  N_dict : mg "dict" = none
  N_int : mg "int" = none
  N_isinstance : mg "isinstance" = none
  N_len : mg "len" = none
  N_max : mg "max" = none
  N_min : mg "min" = none
  N_range : mg "range" = none
  N_repr : mg "repr" = none
  N_reversed : mg "reversed" = none
  N_set : mg "set" = none
  N_sorted : mg "sorted" = none
  N_str : mg "str" = none
  N_tuple : mg "tuple" = none
  N_zip : mg "zip" = none
  t_WEEK : Tok
  C_WEEK : mg "WEEK" = some (.int 7 t_WEEK)
  t_WORKDAYS : Tok
  C_WORKDAYS : mg "WORKDAYS" = some (.int 5 t_WORKDAYS)
  a_UNITS : Addr
  C_UNITS : mg "UNITS" = some (.ref a_UNITS)
  O_UNITS : ∃ (o : Obj) (its : Array Value) (n : Nat), K.lookup a_UNITS = some o ∧ o.cls = .type "tuple" ∧ o.data = .seq its n ∧ its.size ≤ sizeLine ∧ Vals [V.str "days", V.str "open"] its.toList
/-! ### whole numbers, days, calendars -/
def geD : PyData → Int → Bool
  | .int i, m => decide (m ≤ i)
  | _, _ => false
def isWh (d : PyData) (m : Int) : Bool := isIntD d && (!isBoolD d && geD d m)
abbrev sp_is_whole (K : PySem.W.Frag) : Sp := spD K 2 0 (fun es => ∃ (d : PyData) (m : Int), es = [.dat d, .dat (.int m)]) (fun es r => ∃ (d : PyData) (m : Int), es = [.dat d, .dat (.int m)] ∧ r = .bool (isWh d m))
theorem ok_is_whole {P : Program} {w : World} {K : PySem.W.Frag} {mg : Str → Option Value} {base : Heap} (T : Tx K mg) : FnG P w K mg base 1 T.a_is_whole T.d_is_whole ["thing", "least"] (sp_is_whole K) := by
  refine fnG_ok T.F_is_whole sc_is_whole (fun cdv A outer s H E hr hc => ⟨_, (pss_one (ps_ret (pe_and (pe_callB (call_isiK' (K := K) rfl) (by rfl) T.N_isinstance (by decide +kernel) (pa_cons (pv 0) (pa_cons (pe_bltn (v := .ty "int") (by rfl) T.N_int (by decide +kernel) rfl) pa_nil))) (pe_and (pe_not (pe_callB (call_isiK' (K := K) rfl) (by rfl) T.N_isinstance (by decide +kernel) (pa_cons (pv 0) (pa_cons (pe_bltn (v := .ty "bool") (by rfl) T.N_bool (by decide +kernel) rfl) pa_nil)))) (pe_one (pe_cmpR op_ge (pv 0) (pv 1) (nomark _))))))), ?_⟩)
  rintro b I es hl ⟨d, m, rfl⟩
  refine bk_ret (P := fun r => r = .bool (isWh d m)) ?_ fun r e => ⟨d, m, rfl, e⟩
  refine pv_and (pv_is_int (ev_var rfl)) fun h1 => pv_and (pv_not (pv_is_bool (ev_var rfl))) fun h2 => ?_
  cases d <;> first | (simp [isIntD] at h1; done) | (simp [isBoolD] at h2; done) | exact pv_ib (ev_var rfl) (ev_var rfl)
abbrev dayD (d : PyData) : Bool := isWh d 0
theorem dayD_int (n : Int) : dayD (.int n) = decide (0 ≤ n) := by simp [dayD, isWh, isIntD, isBoolD, geD]
theorem dayD_inv {d : PyData} (h : dayD d = true) : ∃ n : Int, d = .int n ∧ 0 ≤ n := by
  cases d <;> first | (simp [dayD, isWh, isIntD, isBoolD, geD] at h; done) | exact ⟨_, rfl, by simpa [dayD, isWh, isIntD, isBoolD, geD] using h⟩
abbrev sp_is_rising (K : PySem.W.Frag) : Sp := spD K 1 0 (fun es => ∃ ns : List Int, es = [.dat (.tuple (ns.map .int))] ∧ ns.length < sizeLine) (fun es r => ∃ ns : List Int, es = [.dat (.tuple (ns.map .int))] ∧ r = .bool (risingI ns))
theorem cutD_one (xs : List PyData) : cutD xs (some 1) none = xs.drop 1 := by
  unfold cutD
  rw [show HT.sIx xs.length 0 (some 1) = min 1 xs.length from HT.sIx_nat xs.length 0 1, HT.sIx_none]
  cases xs with
  | nil => rfl
  | cons x r =>
    rw [show min 1 (x :: r).length = 1 by rw [List.length_cons]; omega]
    show (List.take ((x :: r).length - 1) r) = r
    rw [List.length_cons, Nat.add_sub_cancel]
    exact List.take_length
def ltP : PyData → PyData
  | .tuple [.int a, .int b] => .bool (decide (a < b))
  | _ => .none
def fst2 : PyData → PyData
  | .tuple (a :: _) => a
  | _ => .none
def snd2 : PyData → PyData
  | .tuple [_, b] => b
  | _ => .none
theorem zip_ints (ns ms : List Int) : zipD (ns.map .int) (ms.map .int) = (ns.zip ms).map fun p => .tuple [.int p.1, .int p.2] := by
  unfold zipD
  rw [List.zip_map, List.map_map]
  rfl
theorem ok_is_rising {P : Program} {w : World} {K : PySem.W.Frag} {mg : Str → Option Value} {base : Heap} (T : Tx K mg) : FnG P w K mg base 1 T.a_is_rising T.d_is_rising ["row"] (sp_is_rising K) := by
  refine fnG_ok T.F_is_rising sc_is_rising (fun cdv A outer s H E hr hc => ⟨_, (pss_one (ps_ret (pe_callB (cr_allK (K := K) rfl rfl) (by rfl) T.N_all (by decide +kernel) (pa_cons (pe_lc (own := [("one", 1), ("other", 2)]) (g := (gTup K 2 (gCons (gName 1) (gCons (gName 2) gNil)))) rfl sc_is_rising.nd (pi_zipK (K := K) rfl (by rfl) T.N_zip (pa_cons (pv 0) (pa_cons (pe_slice (sl_K (K := K) rfl) (pv 0) (po_some pe_int) po_none) pa_nil))) (blkOk_by (own := [("one", 1), ("other", 2)]) (N := ["row", "one", "other"]) (sc := defScope s_is_rising) (by decide +kernel)) (fun _ _ _ _ _ => (pg_tup (by rfl) (pgs_cons (pg_name (i := 1) sc_is_rising.nd rfl (Or.inl rfl)) (pgs_cons (pg_name (i := 2) sc_is_rising.nd rfl (Or.inl rfl)) pgs_nil)))) (fun _ _ _ _ _ => pts_nil) (fun _ _ _ _ _ => (pe_cmpR op_ltA (pv 1) (pv 2) (nomark _)))) pa_nil)))), ?_⟩)
  rintro b I es hl ⟨ns, rfl, hz⟩
  refine bk_ret (P := fun r => r = .bool (risingI ns)) ?_ fun r e => ⟨ns, rfl, e⟩
  have it : zipD (ns.map .int) (cutD (ns.map .int) (some 1) none) = (ns.zip (ns.drop 1)).map fun p => .tuple [.int p.1, .int p.2] := by
    rw [cutD_one, ← List.map_drop, zip_ints]
  have key : ∀ d ∈ zipD (ns.map .int) (cutD (ns.map .int) (some 1) none), ∃ x y : Int, d = .tuple [.int x, .int y] := fun d hd => by
    rw [it] at hd
    obtain ⟨p, _, rfl⟩ := List.mem_map.mp hd
    exact ⟨p.1, p.2, rfl⟩
  have e2 : (zipD (ns.map .int) (cutD (ns.map .int) (some 1) none)).map ltP = ((ns.zip (ns.drop 1)).map fun p => decide (p.1 < p.2)).map PyData.bool := by
    rw [it, List.map_map, List.map_map]
    rfl
  refine Pv.to (pv_cb (pa_consD (Pv.to (pv_map (vs := [1, 2]) (f := fun d ρ => (ρ.set 1 (.dat (fst2 d))).set 2 (.dat (snd2 d))) ltP
      (iw_zipT (ev_var rfl) (pv_cutT (ev_var rfl) (pp_some ev_int) pp_no) fun d hd => by
        obtain ⟨x, y, rfl⟩ := key d hd
        exact tg_two)
      (fun d hd => by
        obtain ⟨x, y, rfl⟩ := key d hd
        exact pv_ltI (ev_var rfl) (ev_var rfl))
      (by rw [zipD_len, List.length_map]; omega)) (congrArg PyData.list e2)) ea_nil) (rda_all (bs := (ns.zip (ns.drop 1)).map fun p => decide (p.1 < p.2)))) ?_
  rw [List.all_map]
  rfl
abbrev sp_is_day (K : PySem.W.Frag) : Sp := spD K 1 0 (fun es => ∃ d : PyData, es = [.dat d]) (fun es r => ∃ d : PyData, es = [.dat d] ∧ r = .bool (dayD d))
theorem ok_is_day {P : Program} {w : World} {K : PySem.W.Frag} {mg : Str → Option Value} {base : Heap} (T : Tx K mg) : FnG P w K mg base 2 T.a_is_day T.d_is_day ["thing"] (sp_is_day K) := by
  have H_is_whole := ok_is_whole (P := P) (w := w) (base := base) T
  refine fnG_ok T.F_is_day sc_is_day (fun cdv A outer s H E hr hc => ⟨_, (pss_one (ps_ret (pe_callG H_is_whole hr hc (by rfl) T.G_is_whole T.F_is_whole.kp T.B_is_whole (pa_cons (pv 0) (pa_cons pe_int pa_nil))))), ?_⟩)
  rintro b I es hl ⟨d, rfl⟩
  refine bk_ret (P := fun r => r = .bool (dayD d)) ?_ fun r e => ⟨d, rfl, e⟩
  exact ev_call (pa_consD (ev_var rfl) (pa_consD ev_int ea_nil)) (fun es e => by subst e; exact ⟨rfl, d, 0, rfl⟩) (fun es r e q => by
    subst e
    obtain ⟨d', m', e, q⟩ := q
    cases e
    exact q) (by omega)

def intOf : PyData → Int
  | .int i => i
  | _ => 0
def isCal : PyData → Bool
  | .tuple ds => ds.all dayD && risingI (ds.map intOf)
  | _ => false
theorem days_ints : ∀ {ds : List PyData}, ds.all dayD = true → ds = (ds.map intOf).map .int
  | [], _ => rfl
  | d :: ds, h => by
    rw [List.all_cons, Bool.and_eq_true] at h
    obtain ⟨n, rfl, _⟩ := dayD_inv h.1
    rw [List.map_cons, List.map_cons, ← days_ints h.2]
    rfl
theorem map_intOf : ∀ ns : List Int, (ns.map PyData.int).map intOf = ns
  | [] => rfl
  | n :: ns => congrArg (n :: ·) (map_intOf ns)
abbrev sp_is_calendar (K : PySem.W.Frag) : Sp := spD K 1 0 (fun es => ∃ d : PyData, es = [.dat d] ∧ ∀ ds, d = .tuple ds → ds.length < sizeLine) (fun es r => ∃ d : PyData, es = [.dat d] ∧ r = .bool (isCal d))
theorem ok_is_calendar {P : Program} {w : World} {K : PySem.W.Frag} {mg : Str → Option Value} {base : Heap} (T : Tx K mg) : FnG P w K mg base 3 T.a_is_calendar T.d_is_calendar ["thing"] (sp_is_calendar K) := by
  have H_is_day := ok_is_day (P := P) (w := w) (base := base) T
  have H_is_rising := ok_is_rising (P := P) (w := w) (base := base) T
  refine fnG_ok T.F_is_calendar sc_is_calendar (fun cdv A outer s H E hr hc => ⟨_, (pss_cons (ps_if (pt_not (pt_val (pe_callB (call_isiK' (K := K) rfl) (by rfl) T.N_isinstance (by decide +kernel) (pa_cons (pv 0) (pa_cons (pe_bltn (v := .ty "tuple") (by rfl) T.N_tuple (by decide +kernel) rfl) pa_nil)))))
      (pss_one (ps_ret pe_bl)) pss_nil)
      (pss_one (ps_ret (pe_and (pe_callB (cr_allK (K := K) rfl rfl) (by rfl) T.N_all (by decide +kernel) (pa_cons (pe_lc (own := [("day", 1)]) (g := (gName 1)) rfl sc_is_calendar.nd (pi_seqK (K := K) rfl (pv 0)) (blkOk_by (own := [("day", 1)]) (N := ["thing", "day"]) (sc := defScope s_is_calendar) (by decide +kernel)) (fun _ _ _ _ _ => (pg_name (i := 1) sc_is_calendar.nd rfl (Or.inl rfl))) (fun _ _ _ _ _ => pts_nil) (fun _ _ _ _ _ => (pe_callG H_is_day hr hc (by rfl) T.G_is_day T.F_is_day.kp T.B_is_day (pa_cons (pv 1) pa_nil)))) pa_nil)) (pe_one (pe_callG H_is_rising (hr.mono (by decide)) hc (by rfl) T.G_is_rising T.F_is_rising.kp T.B_is_rising (pa_cons (pv 0) pa_nil))))))), ?_⟩)
  rintro b I es hl ⟨d, rfl, hz⟩
  refine bk_ifret (pt_notD (pt_B (pv_is_tuple (ev_var rfl)))) (fun h => bk_retP ev_bl ⟨d, rfl, ?_⟩) fun h => ?_
  · cases d <;> first | rfl | (simp [isTupD] at h; done)
  · cases d <;> first | (simp [isTupD] at h; done) | skip
    rename_i ds
    have hz' := hz ds rfl
    refine bk_retP (d := .bool (ds.all dayD && risingI (ds.map intOf))) ?_ ⟨_, rfl, rfl⟩
    refine pv_and ?_ fun h2 => ?_
    · refine Pv.to (pv_cb (pa_consD (Pv.to (pv_map (vs := [1]) (f := fun d ρ => ρ.set 1 (.dat d)) (fun d => .bool (dayD d)) (iw_st (Pi := fun x => x = ds) ((ev_var rfl).imp (Nat.le_refl _) fun x e => ⟨ds, e, rfl⟩) fun _ _ d _ => tg_name)
        (fun d hd => pv_callE (pa_consD (ev_var rfl) ea_nil) rfl ⟨d, rfl⟩ fun x ⟨d', e, q⟩ => by cases e; exact q) hz') (congrArg PyData.list (List.map_map (f := dayD) (g := PyData.bool)).symm)) ea_nil) (rda_all (bs := ds.map dayD))) ?_
      rw [List.all_map]
      rfl
    · have e := days_ints h2
      rw [e]
      refine pv_callE (pa_consD (ev_var rfl) ea_nil) rfl ⟨ds.map intOf, rfl, by rw [List.length_map]; exact hz'⟩ fun x ⟨ns, e, q⟩ => ?_
      rw [q, ← days_ints h2]
      have e3 : ns.map PyData.int = (ds.map intOf).map PyData.int := by
        have := List.cons.inj e
        have e4 := Ent.dat.inj this.1
        exact (PyData.tuple.inj e4).symm
      have e5 : ns = ds.map intOf := by
        have := congrArg (List.map intOf) e3
        rwa [map_intOf, map_intOf] at this
      rw [e5]
/-- a calendar of these days -/
def Cal (ns : List Int) : Prop := risingI ns = true ∧ (∀ n ∈ ns, 0 ≤ n) ∧ ns.length < sizeLine
abbrev cD (ns : List Int) : PyData := .tuple (ns.map .int)
theorem cal_is {ns : List Int} (h : Cal ns) : isCal (cD ns) = true := by
  show ((ns.map PyData.int).all dayD && risingI ((ns.map PyData.int).map intOf)) = true
  rw [map_intOf, h.1, Bool.and_true, List.all_eq_true]
  intro d hd
  obtain ⟨n, hn, rfl⟩ := List.mem_map.mp hd
  rw [dayD_int]
  exact decide_eq_true (h.2.1 n hn)
theorem it_var {c : Ctx} {ρ : List Ent} {i : Nat} {ds : List PyData} (h : ρ[i]? = some (.dat (.tuple ds))) : Ev c (tVar i) ρ 0 (fun d => ∃ ds', d = .tuple ds' ∧ ds' = ds) := (ev_var h).imp (Nat.le_refl _) fun x e => ⟨ds, e, rfl⟩

/-- good days pass; of others nothing is said here -/
abbrev sp_check_day (K : PySem.W.Frag) : Sp := spD K 1 0 (fun es => ∃ n : Int, es = [.dat (.int n)] ∧ 0 ≤ n) (fun es r => r = .none)
theorem ok_check_day {P : Program} {w : World} {K : PySem.W.Frag} {mg : Str → Option Value} {base : Heap} (T : Tx K mg) : FnG P w K mg base 3 T.a_check_day T.d_check_day ["day"] (sp_check_day K) := by
  have H_is_day := ok_is_day (P := P) (w := w) (base := base) T
  refine fnG_ok T.F_check_day sc_check_day (fun cdv A outer s H E hr hc => ⟨_, (pss_one (ps_if (pt_not (pt_val (pe_callG H_is_day hr hc (by rfl) T.G_is_day T.F_is_day.kp T.B_is_day (pa_cons (pv 0) pa_nil))))
      (pss_one ps_never) pss_nil)), ?_⟩)
  rintro b I es hl ⟨n, rfl, h0⟩
  refine bk_ifP (b := false) (Pt.to (pt_notD (pt_B (pv_callE (pa_consD (ev_var rfl) ea_nil) rfl ⟨_, rfl⟩ fun x ⟨d', e, q⟩ => by cases e; exact q))) ?_) (fun e => nomatch e) fun _ => bk_next rfl
  rw [dayD_int, decide_eq_true h0]
  rfl
abbrev sp_check_days (K : PySem.W.Frag) : Sp := spD K 2 0 (fun es => ∃ ns ds : List Int, es = [.dat (cD ns), .dat (cD ds)] ∧ Cal ns ∧ (∀ n ∈ ds, 0 ≤ n) ∧ ds.length ≤ 1000) (fun es r => r = .none)
theorem ok_check_days {P : Program} {w : World} {K : PySem.W.Frag} {mg : Str → Option Value} {base : Heap} (T : Tx K mg) : FnG P w K mg base 4 T.a_check_days T.d_check_days ["calendar", "days"] (sp_check_days K) := by
  have H_is_calendar := ok_is_calendar (P := P) (w := w) (base := base) T
  have H_check_day := ok_check_day (P := P) (w := w) (base := base) T
  refine fnG_ok T.F_check_days sc_check_days (fun cdv A outer s H E hr hc => ⟨_, (pss_cons (ps_if (pt_not (pt_val (pe_callG H_is_calendar hr hc (by rfl) T.G_is_calendar T.F_is_calendar.kp T.B_is_calendar (pa_cons (pv 0) pa_nil))))
      (pss_one ps_never) pss_nil)
      (pss_one (ps_for PassesOwn.never rfl (pi_seqK (K := K) rfl (pv 1)) (pg_name (i := 2) sc_check_days.nd rfl (Or.inl rfl))
      (pss_one (ps_expr (pe_callG H_check_day hr hc (by rfl) T.G_check_day T.F_check_day.kp T.B_check_day (pa_cons (pv 2) pa_nil))))))), ?_⟩)
  rintro b I es hl ⟨ns, ds, rfl, hc1, hd, hdl⟩
  refine bk_ifret (b := false) (Pt.to (pt_notD (pt_B (pv_callE (pa_consD (ev_var rfl) ea_nil) rfl ⟨_, rfl, fun ds e => ?_⟩ fun x ⟨d', e, q⟩ => by cases e; exact q))) (by rw [cal_is hc1]; rfl)) (fun e => nomatch e) fun _ => ?_
  · cases e
    rw [List.length_map]
    exact hc1.2.2
  · refine bk_for (m := 1000) (C1 := 0) (Pi := fun x => x = ds.map .int) (f := fun d ρ => ρ.set 2 (.dat d)) (fun _ _ ρ' => ∃ e, ρ' = [.dat (cD ns), .dat (cD ds), e]) (iw_st (it_var rfl) fun _ _ d _ => tg_name) (fun is e => by subst e; rw [List.length_map]; exact hdl) (fun is e => ⟨_, rfl⟩) ?_ (fun _ _ _ _ => rfl) (by omega)
    rintro is k d ρ' rfl hk ⟨e, rfl⟩
    obtain ⟨n, hn, rfl⟩ := List.mem_map.mp (List.mem_of_getElem? hk)
    exact bk_drop (pv_callE (d := .none) (pa_consD (ev_var rfl) ea_nil) rfl ⟨n, rfl, hd n hn⟩ fun x e => e) ⟨_, rfl⟩

/-! ### workdays -/
abbrev sp_is_workday (K : PySem.W.Frag) : Sp := spD K 1 0 (fun es => ∃ n : Int, es = [.dat (.int n)]) (fun es r => ∃ n : Int, es = [.dat (.int n)] ∧ r = .bool (wkB n))
theorem ok_is_workday {P : Program} {w : World} {K : PySem.W.Frag} {mg : Str → Option Value} {base : Heap} (T : Tx K mg) : FnG P w K mg base 1 T.a_is_workday T.d_is_workday ["day"] (sp_is_workday K) := by
  refine fnG_ok T.F_is_workday sc_is_workday (fun cdv A outer s H E hr hc => ⟨_, (pss_one (ps_ret (pe_cmpR op_ltA (pe_op op_mod (pv 0) (pe_glob (v := V.int 7) (by rfl) T.C_WEEK ⟨_, rfl⟩)) (pe_glob (v := V.int 5) (by rfl) T.C_WORKDAYS ⟨_, rfl⟩) (nomark _)))), ?_⟩)
  rintro b I es hl ⟨n, rfl⟩
  exact bk_retP (pv_ltI (pv_iiC (ev_var rfl) ev_int (by decide)) ev_int) ⟨n, rfl, rfl⟩
abbrev sp_workday_of (K : PySem.W.Frag) : Sp := spD K 1 0 (fun es => ∃ n : Int, es = [.dat (.int n)]) (fun es r => ∃ n : Int, es = [.dat (.int n)] ∧ r = .int (wd n))
theorem div5 {i : Int} : CDivW i 5 := cdivW (by decide) (by decide)
theorem div7 {i : Int} : CDivW i 7 := cdivW (by decide) (by decide)
theorem mulc {i j : Int} (h : -(2 ^ 64) < j ∧ j < 2 ^ 64 := by decide) : CMul i j := .inr h
theorem ok_workday_of {P : Program} {w : World} {K : PySem.W.Frag} {mg : Str → Option Value} {base : Heap} (T : Tx K mg) : FnG P w K mg base 1 T.a_workday_of T.d_workday_of ["rank"] (sp_workday_of K) := by
  refine fnG_ok T.F_workday_of sc_workday_of (fun cdv A outer s H E hr hc => ⟨_, (pss_one (ps_ret (pe_op (op_addK (K := K) rfl) (pe_op op_mul (pe_op op_fdivW (pe_op op_sub (pv 0) pe_int) (pe_glob (v := V.int 5) (by rfl) T.C_WORKDAYS ⟨_, rfl⟩)) (pe_glob (v := V.int 7) (by rfl) T.C_WEEK ⟨_, rfl⟩)) (pe_op op_mod (pe_op op_sub (pv 0) pe_int) (pe_glob (v := V.int 5) (by rfl) T.C_WORKDAYS ⟨_, rfl⟩))))), ?_⟩)
  rintro b I es hl ⟨n, rfl⟩
  exact bk_retP (pv_addI (pv_iiC (pv_iiC (pv_ii (ev_var rfl) ev_int) ev_int div5) ev_int mulc) (pv_iiC (pv_ii (ev_var rfl) ev_int) ev_int (by decide))) ⟨n, rfl, rfl⟩
abbrev sp_rank_of (K : PySem.W.Frag) : Sp := spD K 1 0 (fun es => ∃ n : Int, es = [.dat (.int n)]) (fun es r => ∃ n : Int, es = [.dat (.int n)] ∧ r = .int (rk n))
theorem ok_rank_of {P : Program} {w : World} {K : PySem.W.Frag} {mg : Str → Option Value} {base : Heap} (T : Tx K mg) : FnG P w K mg base 1 T.a_rank_of T.d_rank_of ["day"] (sp_rank_of K) := by
  refine fnG_ok T.F_rank_of sc_rank_of (fun cdv A outer s H E hr hc => ⟨_, (pss_one (ps_ret (pe_op (op_addK (K := K) rfl) (pe_op op_mul (pe_op op_fdivW (pv 0) (pe_glob (v := V.int 7) (by rfl) T.C_WEEK ⟨_, rfl⟩)) (pe_glob (v := V.int 5) (by rfl) T.C_WORKDAYS ⟨_, rfl⟩)) (pe_callB (call_min2 rfl) (by rfl) T.N_min (by decide +kernel) (pa_cons (pe_op (op_addK (K := K) rfl) (pe_op op_mod (pv 0) (pe_glob (v := V.int 7) (by rfl) T.C_WEEK ⟨_, rfl⟩)) pe_int) (pa_cons (pe_glob (v := V.int 5) (by rfl) T.C_WORKDAYS ⟨_, rfl⟩) pa_nil)))))), ?_⟩)
  rintro b I es hl ⟨n, rfl⟩
  exact bk_retP (pv_addI (pv_iiC (pv_iiC (ev_var rfl) ev_int div7) ev_int mulc) (pv_cb (pa_consD (pv_addI (pv_iiC (ev_var rfl) ev_int (by decide)) ev_int) (pa_consD ev_int ea_nil)) rda_min)) ⟨n, rfl, rfl⟩
theorem any_int (ns : List Int) (n : Int) : ((ns.map PyData.int).any fun y => PyData.eqv y (.int n)) = ns.any fun h => h == n := by
  rw [List.any_map]
  rfl
theorem flat_ints : ∀ ns : List Int, (ns.map PyData.int).all flatD = true
  | [] => rfl
  | _ :: ns => flat_ints ns

/-- the call of check_days with good things -/
theorem days_one {n : Int} (h : 0 ≤ n) : ∀ m ∈ [n], 0 ≤ m := fun m hm => by
  rw [List.mem_singleton.mp hm]
  exact h

abbrev sp_is_open (K : PySem.W.Frag) : Sp := spD K 2 0 (fun es => ∃ (ns : List Int) (n : Int), es = [.dat (cD ns), .dat (.int n)] ∧ Cal ns ∧ 0 ≤ n) (fun es r => ∃ (ns : List Int) (n : Int), es = [.dat (cD ns), .dat (.int n)] ∧ r = .bool (openB ns n))
theorem ok_is_open {P : Program} {w : World} {K : PySem.W.Frag} {mg : Str → Option Value} {base : Heap} (T : Tx K mg) : FnG P w K mg base 5 T.a_is_open T.d_is_open ["calendar", "day"] (sp_is_open K) := by
  have H_check_days := ok_check_days (P := P) (w := w) (base := base) T
  have H_is_workday := ok_is_workday (P := P) (w := w) (base := base) T
  refine fnG_ok T.F_is_open sc_is_open (fun cdv A outer s H E hr hc => ⟨_, (pss_cons (ps_expr (pe_callG H_check_days hr hc (by rfl) T.G_check_days T.F_check_days.kp T.B_check_days (pa_cons (pv 0) (pa_cons (pe_tup (pa_cons (pv 1) pa_nil)) pa_nil))))
      (pss_one (ps_ret (pe_and (pe_callG H_is_workday (hr.mono (by decide)) hc (by rfl) T.G_is_workday T.F_is_workday.kp T.B_is_workday (pa_cons (pv 1) pa_nil)) (pe_one (pe_cmpR (op_notInK (K := K) rfl) (pv 1) (pv 0) (by with_unfolding_all rfl))))))), ?_⟩)
  rintro b I es hl ⟨ns, n, rfl, hc1, h0⟩
  refine bk_do (C1 := 0) (C2 := 0) (pv_callE (d := .none) (pa_consD (ev_var rfl) (pa_consD (pv_tup (ds := [.int n]) (pa_consD (ev_var rfl) ea_nil)) ea_nil)) rfl ⟨ns, [n], rfl, hc1, days_one h0, by simp⟩ fun x e => e) ?_ (by omega)
  refine bk_retP (d := .bool (openB ns n)) ?_ ⟨ns, n, rfl, rfl⟩
  refine pv_and (pv_callE (pa_consD (ev_var rfl) ea_nil) rfl ⟨n, rfl⟩ fun x ⟨m, e, q⟩ => by cases e; exact q) fun _ => ?_
  refine Pv.to (pv_op (ev_var rfl) (ev_var rfl) (rd_in (ds := ns.map .int) rfl rfl (flat_ints ns))) ?_
  rw [any_int]
  rfl

abbrev sp_open_behind (K : PySem.W.Frag) : Sp := spD K 3 0 (fun es => ∃ (ns : List Int) (d n : Int), es = [.dat (cD ns), .dat (.int d), .dat (.int n)] ∧ ns.length < sizeLine) (fun es r => ∃ (ns : List Int) (d n : Int), es = [.dat (cD ns), .dat (.int d), .dat (.int n)] ∧ r = .int (wd (obR d ns (rk d + n))))
theorem map_get {ns : List Int} {k : Nat} {d : PyData} (h : (ns.map PyData.int)[k]? = some d) : ∃ n, ns[k]? = some n ∧ d = .int n := by
  rw [List.getElem?_map] at h
  cases e : ns[k]? with
  | none => rw [e] at h; cases h
  | some n => rw [e] at h; exact ⟨n, rfl, (Option.some.inj h).symm⟩
theorem ok_open_behind {P : Program} {w : World} {K : PySem.W.Frag} {mg : Str → Option Value} {base : Heap} (T : Tx K mg) : FnG P w K mg base 2 T.a_open_behind T.d_open_behind ["calendar", "day", "count"] (sp_open_behind K) := by
  have H_rank_of := ok_rank_of (P := P) (w := w) (base := base) T
  have H_is_workday := ok_is_workday (P := P) (w := w) (base := base) T
  have H_workday_of := ok_workday_of (P := P) (w := w) (base := base) T
  refine fnG_ok T.F_open_behind sc_open_behind (fun cdv A outer s H E hr hc => ⟨_, (pss_cons (ps_set (i := 3) sc_open_behind.nd rfl (Or.inl rfl) (pe_op (op_addK (K := K) rfl) (pe_callG H_rank_of hr hc (by rfl) T.G_rank_of T.F_rank_of.kp T.B_rank_of (pa_cons (pv 1) pa_nil)) (pv 2)))
      (pss_cons (ps_for PassesOwn.never rfl (pi_seqK (K := K) rfl (pv 0)) (pg_name (i := 4) sc_open_behind.nd rfl (Or.inl rfl))
      (pss_one (ps_if (PW.pt (pw_and (pt_cmpR op_gt (pv 4) (pv 1) (nomark _)) (pw_and (pt_val (pe_callG H_is_workday hr hc (by rfl) T.G_is_workday T.F_is_workday.kp T.B_is_workday (pa_cons (pv 4) pa_nil))) (pw_and1 (pt_cmpR op_le (pv 4) (pe_callG H_workday_of hr hc (by rfl) T.G_workday_of T.F_workday_of.kp T.B_workday_of (pa_cons (pv 3) pa_nil)) (nomark _))))))
      (pss_one (ps_aug (i := 3) sc_open_behind.nd rfl (Or.inl rfl) pe_int ip_add)) pss_nil)))
      (pss_one (ps_ret (pe_callG H_workday_of hr hc (by rfl) T.G_workday_of T.F_workday_of.kp T.B_workday_of (pa_cons (pv 3) pa_nil)))))), ?_⟩)
  rintro b I es hl ⟨ns, d, n, rfl, hz⟩
  have CD : ∀ x : PyData, (∃ m : Int, [Ent.dat (.int d)] = [.dat (.int m)] ∧ x = .int (rk m)) → x = .int (rk d) := fun x ⟨m, e, q⟩ => by cases e; exact q
  refine bk_letP (pv_addI (pv_callE (pa_consD (ev_var rfl) ea_nil) rfl ⟨d, rfl⟩ CD) (ev_var rfl)) ?_
  refine bk_seq (C1 := 0) (C2 := 0) (N := fun ρ' => ∃ e, ρ' = [.dat (cD ns), .dat (.int d), .dat (.int n), .dat (.int (obR d ns (rk d + n))), e]) ?_ ?_ (by omega)
  · refine bk_for (m := ns.length) (C1 := 0) (Pi := fun x => x = ns.map .int) (f := fun x ρ => ρ.set 4 (.dat x)) (fun _ k ρ' => ∃ e, ρ' = [.dat (cD ns), .dat (.int d), .dat (.int n), .dat (.int (obR d (ns.take k) (rk d + n))), e])
      (iw_st (it_var rfl) fun _ _ d _ => tg_name) (fun is e => by subst e; rw [List.length_map]; exact Nat.le_refl _) (fun is e => ⟨_, rfl⟩) ?_ (fun is ρ' e ⟨x, hx⟩ => by subst e; rw [List.length_map, List.take_length] at hx; exact ⟨x, hx⟩) (by omega)
    rintro is k x ρ' rfl hk ⟨e, rfl⟩
    obtain ⟨h, hh, rfl⟩ := map_get hk
    have step : obR d (ns.take (k + 1)) (rk d + n) = obF d (obR d (ns.take k) (rk d + n)) h := by
      unfold obR
      rw [List.take_add_one, hh, List.foldl_append]
      rfl
    refine bk_ifP (b := decide (d < h) && (wkB h && decide (h ≤ wd (obR d (ns.take k) (rk d + n))))) ?_ (fun hb => ?_) fun hb => bk_next ?_
    · refine pt_and (pt_T (pv_ib (ev_var rfl) (ev_var rfl))) fun _ => pt_and (pt_B (pv_callE (pa_consD (ev_var rfl) ea_nil) rfl ⟨h, rfl⟩ fun x ⟨m, e, q⟩ => by cases e; exact q)) fun _ => pt_T (pv_ib (ev_var rfl) (pv_callE (pa_consD (ev_var rfl) ea_nil) rfl ⟨_, rfl⟩ fun x ⟨m, e, q⟩ => by cases e; exact q))
    · refine ip_i rfl ev_int ⟨.dat (.int h), ?_⟩
      rw [step, obF, if_pos hb]
      rfl
    · refine ⟨.dat (.int h), ?_⟩
      rw [step, obF, if_neg (by rw [hb]; decide)]
      rfl
  · rintro ρ' ⟨e, rfl⟩
    exact bk_retP (pv_callE (pa_consD (ev_var rfl) ea_nil) rfl ⟨_, rfl⟩ fun x ⟨m, e, q⟩ => by cases e; exact q) ⟨ns, d, n, rfl, rfl⟩
abbrev sp_first_open (K : PySem.W.Frag) : Sp := spD K 2 0 (fun es => ∃ (ns : List Int) (n : Int), es = [.dat (cD ns), .dat (.int n)] ∧ ns.length < sizeLine) (fun es r => ∃ (ns : List Int) (n : Int), es = [.dat (cD ns), .dat (.int n)] ∧ r = .int (nextO ns n))
theorem cD_inj {ns ms : List Int} (h : cD ns = cD ms) : ns = ms := by
  have := congrArg (List.map intOf) (PyData.tuple.inj h)
  rwa [map_intOf, map_intOf] at this
theorem ok_first_open {P : Program} {w : World} {K : PySem.W.Frag} {mg : Str → Option Value} {base : Heap} (T : Tx K mg) : FnG P w K mg base 3 T.a_first_open T.d_first_open ["calendar", "day"] (sp_first_open K) := by
  have H_open_behind := ok_open_behind (P := P) (w := w) (base := base) T
  refine fnG_ok T.F_first_open sc_first_open (fun cdv A outer s H E hr hc => ⟨_, (pss_one (ps_ret (pe_callG H_open_behind hr hc (by rfl) T.G_open_behind T.F_open_behind.kp T.B_open_behind (pa_cons (pv 0) (pa_cons (pe_op op_sub (pv 1) pe_int) (pa_cons pe_int pa_nil)))))), ?_⟩)
  rintro b I es hl ⟨ns, n, rfl, hz⟩
  refine bk_retP (d := .int (nextO ns n)) ?_ ⟨ns, n, rfl, rfl⟩
  refine pv_callE (pa_consD (ev_var rfl) (pa_consD (pv_ii (ev_var rfl) ev_int) (pa_consD ev_int ea_nil))) rfl ⟨ns, n - 1, 1, rfl, hz⟩ fun x ⟨ms, d, m, e, q⟩ => ?_
  simp only [List.cons.injEq, Ent.dat.injEq, PyData.int.injEq] at e
  obtain ⟨e1, rfl, rfl, _⟩ := e
  rw [q, ← cD_inj e1]
  rfl

abbrev sp_next_open (K : PySem.W.Frag) : Sp := spD K 2 0 (fun es => ∃ (ns : List Int) (n : Int), es = [.dat (cD ns), .dat (.int n)] ∧ Cal ns ∧ 0 ≤ n) (fun es r => ∃ (ns : List Int) (n : Int), es = [.dat (cD ns), .dat (.int n)] ∧ r = .int (nextO ns n))
theorem ok_next_open {P : Program} {w : World} {K : PySem.W.Frag} {mg : Str → Option Value} {base : Heap} (T : Tx K mg) : FnG P w K mg base 5 T.a_next_open T.d_next_open ["calendar", "day"] (sp_next_open K) := by
  have H_check_days := ok_check_days (P := P) (w := w) (base := base) T
  have H_first_open := ok_first_open (P := P) (w := w) (base := base) T
  refine fnG_ok T.F_next_open sc_next_open (fun cdv A outer s H E hr hc => ⟨_, (pss_cons (ps_expr (pe_callG H_check_days hr hc (by rfl) T.G_check_days T.F_check_days.kp T.B_check_days (pa_cons (pv 0) (pa_cons (pe_tup (pa_cons (pv 1) pa_nil)) pa_nil))))
      (pss_one (ps_ret (pe_callG H_first_open (hr.mono (by decide)) hc (by rfl) T.G_first_open T.F_first_open.kp T.B_first_open (pa_cons (pv 0) (pa_cons (pv 1) pa_nil)))))), ?_⟩)
  rintro b I es hl ⟨ns, n, rfl, hc1, h0⟩
  refine bk_do (C1 := 0) (C2 := 0) (pv_callE (d := .none) (pa_consD (ev_var rfl) (pa_consD (pv_tup (ds := [.int n]) (pa_consD (ev_var rfl) ea_nil)) ea_nil)) rfl ⟨ns, [n], rfl, hc1, days_one h0, by simp⟩ fun x e => e) ?_ (by omega)
  refine bk_retP (d := .int (nextO ns n)) ?_ ⟨ns, n, rfl, rfl⟩
  refine pv_callE (pa_consD (ev_var rfl) (pa_consD (ev_var rfl) ea_nil)) rfl ⟨ns, n, rfl, hc1.2.2⟩ fun x ⟨ms, m, e, q⟩ => ?_
  simp only [List.cons.injEq, Ent.dat.injEq, PyData.int.injEq] at e
  obtain ⟨e1, rfl, _⟩ := e
  rw [q, ← cD_inj e1]

def lastO (ns : List Int) (n : Int) : PyData := if (loR ns (rk n) == 0) = true then .none else .int (wd (loR ns (rk n)))
abbrev sp_last_open (K : PySem.W.Frag) : Sp := spD K 2 0 (fun es => ∃ (ns : List Int) (n : Int), es = [.dat (cD ns), .dat (.int n)] ∧ Cal ns ∧ 0 ≤ n) (fun es r => ∃ (ns : List Int) (n : Int), es = [.dat (cD ns), .dat (.int n)] ∧ r = lastO ns n)
theorem ok_last_open {P : Program} {w : World} {K : PySem.W.Frag} {mg : Str → Option Value} {base : Heap} (T : Tx K mg) : FnG P w K mg base 5 T.a_last_open T.d_last_open ["calendar", "day"] (sp_last_open K) := by
  have H_check_days := ok_check_days (P := P) (w := w) (base := base) T
  have H_rank_of := ok_rank_of (P := P) (w := w) (base := base) T
  have H_workday_of := ok_workday_of (P := P) (w := w) (base := base) T
  refine fnG_ok T.F_last_open sc_last_open (fun cdv A outer s H E hr hc => ⟨_, (pss_cons (ps_expr (pe_callG H_check_days hr hc (by rfl) T.G_check_days T.F_check_days.kp T.B_check_days (pa_cons (pv 0) (pa_cons (pe_tup (pa_cons (pv 1) pa_nil)) pa_nil))))
      (pss_cons (ps_set (i := 2) sc_last_open.nd rfl (Or.inl rfl) (pe_callG H_rank_of (hr.mono (by decide)) hc (by rfl) T.G_rank_of T.F_rank_of.kp T.B_rank_of (pa_cons (pv 1) pa_nil)))
      (pss_cons (ps_for PassesOwn.never rfl (pi_revK (K := K) rfl (by rfl) T.N_reversed (pv 0)) (pg_name (i := 3) sc_last_open.nd rfl (Or.inl rfl))
      (pss_one (ps_if (pt_cmpR (by refine op_eqK (K := K) rfl ?_; exact hr.units) (pv 3) (pe_callG H_workday_of (hr.mono (by decide)) hc (by rfl) T.G_workday_of T.F_workday_of.kp T.B_workday_of (pa_cons (pv 2) pa_nil)) (nomark _))
      (pss_one (ps_aug (i := 2) sc_last_open.nd rfl (Or.inl rfl) pe_int ip_sub)) pss_nil)))
      (pss_cons (ps_if (pt_cmpR (by refine op_eqK (K := K) rfl ?_; exact hr.units) (pv 2) pe_int (nomark _))
      (pss_one (ps_ret pe_non)) pss_nil)
      (pss_one (ps_ret (pe_callG H_workday_of (hr.mono (by decide)) hc (by rfl) T.G_workday_of T.F_workday_of.kp T.B_workday_of (pa_cons (pv 2) pa_nil)))))))), ?_⟩)
  rintro b I es hl ⟨ns, n, rfl, hc1, h0⟩
  refine bk_do (C1 := 0) (C2 := 0) (pv_callE (d := .none) (pa_consD (ev_var rfl) (pa_consD (pv_tup (ds := [.int n]) (pa_consD (ev_var rfl) ea_nil)) ea_nil)) rfl ⟨ns, [n], rfl, hc1, days_one h0, by simp⟩ fun x e => e) ?_ (by omega)
  refine bk_letP (pv_callE (pa_consD (ev_var rfl) ea_nil) rfl ⟨n, rfl⟩ fun x ⟨m, e, q⟩ => by cases e; exact q) ?_
  refine bk_seq (C1 := 0) (C2 := 0) (N := fun ρ' => ∃ e, ρ' = [.dat (cD ns), .dat (.int n), .dat (.int (loR ns (rk n))), e]) ?_ ?_ (by omega)
  · refine bk_for (m := ns.length) (C1 := 0) (Pi := fun x => x = (ns.map .int).reverse) (f := fun x ρ => ρ.set 3 (.dat x)) (fun _ k ρ' => ∃ e, ρ' = [.dat (cD ns), .dat (.int n), .dat (.int ((ns.reverse.take k).foldl loF (rk n))), e])
      (iw_rev (ev_var rfl) rfl fun d _ => tg_name) (fun is e => by subst e; rw [List.length_reverse, List.length_map]; exact Nat.le_refl _) (fun is e => ⟨_, rfl⟩) ?_ (fun is ρ' e ⟨x, hx⟩ => by subst e; rw [List.length_reverse, List.length_map, ← List.length_reverse, List.take_length] at hx; exact ⟨x, hx⟩) (by omega)
    rintro is k x ρ' rfl hk ⟨e, rfl⟩
    rw [← List.map_reverse] at hk
    obtain ⟨h, hh, rfl⟩ := map_get hk
    have step : (ns.reverse.take (k + 1)).foldl loF (rk n) = loF ((ns.reverse.take k).foldl loF (rk n)) h := by
      rw [List.take_add_one, hh, List.foldl_append]
      rfl
    refine bk_ifP (b := h == wd ((ns.reverse.take k).foldl loF (rk n))) ?_ (fun hb => ?_) fun hb => bk_next ?_
    · exact pt_T (pv_eqI (ev_var rfl) (pv_callE (pa_consD (ev_var rfl) ea_nil) rfl ⟨_, rfl⟩ fun x ⟨m, e, q⟩ => by cases e; exact q))
    · refine ip_i rfl ev_int ⟨.dat (.int h), ?_⟩
      rw [step, loF, if_pos hb]
      rfl
    · refine ⟨.dat (.int h), ?_⟩
      rw [step, loF, if_neg (by rw [hb]; decide)]
      rfl
  · rintro ρ' ⟨e, rfl⟩
    refine bk_ifret (b := loR ns (rk n) == 0) (pt_T (pv_eqI (ev_var rfl) ev_int)) (fun hb => bk_retP ev_non ⟨ns, n, rfl, ?_⟩) fun hb => ?_
    · rw [lastO, if_pos hb]
    · refine bk_retP (pv_callE (d := .int (wd (loR ns (rk n)))) (pa_consD (ev_var rfl) ea_nil) rfl ⟨_, rfl⟩ fun x ⟨m, e, q⟩ => by cases e; exact q) ⟨ns, n, rfl, ?_⟩
      rw [lastO, if_neg (by rw [hb]; decide)]



/-! ### terms -/
abbrev sp_is_row (K : PySem.W.Frag) : Sp := spD K 2 0 (fun es => ∃ (d : PyData) (m : Int), es = [.dat d, .dat (.int m)]) (fun es r => ∃ (d : PyData) (m : Int), es = [.dat d, .dat (.int m)] ∧ r = .bool (isTupD d && ((lenD d : Int) == m)))
theorem ok_is_row {P : Program} {w : World} {K : PySem.W.Frag} {mg : Str → Option Value} {base : Heap} (T : Tx K mg) : FnG P w K mg base 1 T.a_is_row T.d_is_row ["thing", "many"] (sp_is_row K) := by
  refine fnG_ok T.F_is_row sc_is_row (fun cdv A outer s H E hr hc => ⟨_, (pss_one (ps_ret (pe_and (pe_callB (call_isiK' (K := K) rfl) (by rfl) T.N_isinstance (by decide +kernel) (pa_cons (pv 0) (pa_cons (pe_bltn (v := .ty "tuple") (by rfl) T.N_tuple (by decide +kernel) rfl) pa_nil))) (pe_one (pe_cmpR (by refine op_eqK (K := K) rfl ?_; exact hr.units) (pe_callB (call_lenK (K := K) rfl) (by rfl) T.N_len (by decide +kernel) (pa_cons (pv 0) pa_nil)) (pv 1) (nomark _)))))), ?_⟩)
  rintro b I es hl ⟨d, m, rfl⟩
  refine bk_retP (pv_and (pv_is_tuple (ev_var rfl)) fun h => ?_) ⟨d, m, rfl, rfl⟩
  cases d <;> first | (simp [isTupD] at h; done) | exact pv_eqI (pv_cb (pa_consD (ev_var rfl) ea_nil) rda_lenT) (ev_var rfl)
def sDays : Str := "days"
def sOpen : Str := "open"
def inU (u : PyData) : Bool := [PyData.str "days", .str "open"].any fun y => PyData.eqv y u
def isTermD : PyData → Bool
  | .tuple [c, u] => isWh c 0 && (isStrD u && inU u)
  | _ => false
theorem units_rp {K : PySem.W.Frag} {mg : Str → Option Value} (T : Tx K mg) (I : Hp) : Rp K I (.ref T.a_UNITS) (.tuple [.str "days", .str "open"]) := by
  obtain ⟨o, its, n, h⟩ := T.O_UNITS
  exact .tup (.inr ⟨o, its, n, h⟩) (.cons (.str _) (.cons (.str _) .nil))
abbrev sp_is_term (K : PySem.W.Frag) : Sp := spD K 1 0 (fun es => ∃ d : PyData, es = [.dat d]) (fun es r => ∃ d : PyData, es = [.dat d] ∧ r = .bool (isTermD d))
theorem row2 {d : PyData} (h : (isTupD d && ((lenD d : Int) == 2)) = true) : ∃ c u, d = .tuple [c, u] := by
  cases d <;> first | (simp [isTupD] at h; done) | skip
  rename_i ds
  simp only [isTupD, Bool.true_and, beq_iff_eq] at h
  have hl : ds.length = 2 := by
    have : (ds.length : Int) = 2 := h
    omega
  match ds, hl with
  | [c, u], _ => exact ⟨c, u, rfl⟩
theorem ok_is_term {P : Program} {w : World} {K : PySem.W.Frag} {mg : Str → Option Value} {base : Heap} (T : Tx K mg) : FnG P w K mg base 2 T.a_is_term T.d_is_term ["thing"] (sp_is_term K) := by
  have H_is_row := ok_is_row (P := P) (w := w) (base := base) T
  have H_is_whole := ok_is_whole (P := P) (w := w) (base := base) T
  refine fnG_ok T.F_is_term sc_is_term (fun cdv A outer s H E hr hc => ⟨_, (pss_cons (ps_if (pt_not (pt_val (pe_callG H_is_row hr hc (by rfl) T.G_is_row T.F_is_row.kp T.B_is_row (pa_cons (pv 0) (pa_cons pe_int pa_nil)))))
      (pss_one (ps_ret pe_bl)) pss_nil)
      (pss_cons (ps_asg (pv 0) (pg_tup (by rfl) (pgs_cons (pg_name (i := 1) sc_is_term.nd rfl (Or.inl rfl)) (pgs_cons (pg_name (i := 2) sc_is_term.nd rfl (Or.inl rfl)) pgs_nil))))
      (pss_one (ps_ret (pe_and (pe_callG H_is_whole hr hc (by rfl) T.G_is_whole T.F_is_whole.kp T.B_is_whole (pa_cons (pv 1) (pa_cons pe_int pa_nil))) (pe_and (pe_callB (call_isiK' (K := K) rfl) (by rfl) T.N_isinstance (by decide +kernel) (pa_cons (pv 2) (pa_cons (pe_bltn (v := .ty "str") (by rfl) T.N_str (by decide +kernel) rfl) pa_nil))) (pe_one (pe_cmpR (op_inK (K := K) rfl) (pv 2) (pe_glob (v := .ref T.a_UNITS) (by rfl) T.C_UNITS rfl) (by with_unfolding_all rfl))))))))), ?_⟩)
  rintro b I es hl ⟨d, rfl⟩
  refine bk_ifret (pt_notD (pt_B (pv_callE (pa_consD (ev_var rfl) (pa_consD ev_int ea_nil)) rfl ⟨d, 2, rfl⟩ fun x ⟨d', m, e, q⟩ => by cases e; exact q))) (fun h => bk_retP ev_bl ⟨d, rfl, ?_⟩) fun h => ?_
  · have h' : ¬ ∃ c u, d = .tuple [c, u] := by
      rintro ⟨c, u, rfl⟩
      simp [isTupD, lenD] at h
    unfold isTermD
    split
    · rename_i c u
      exact absurd ⟨c, u, rfl⟩ h'
    · rfl
  · obtain ⟨c, u, rfl⟩ := row2 (by simpa using h)
    refine bk_seq (C1 := 0) (C2 := 0) (N := fun ρ' => ρ' = [.dat (.tuple [c, u]), .dat c, .dat u]) (bk_asg (f := fun d ρ => (ρ.set 1 (.dat c)).set 2 (.dat u)) (ev_var rfl) (fun d e => by subst e; exact tg_two) fun d _ => rfl) ?_ (by omega)
    rintro ρ' rfl
    refine bk_retP (d := .bool (isWh c 0 && (isStrD u && inU u))) ?_ ⟨_, rfl, rfl⟩
    refine pv_and (pv_callE (pa_consD (ev_var rfl) (pa_consD ev_int ea_nil)) rfl ⟨c, 0, rfl⟩ fun x ⟨d', m, e, q⟩ => by cases e; exact q) fun _ => pv_and (pv_is_str (ev_var rfl)) fun h2 => ?_
    have hf : flatD u = true := by cases u <;> first | rfl | (simp [isStrD] at h2)
    exact pv_op (ev_var rfl) (ev_kc (units_rp T)) (rd_in (ds := [.str "days", .str "open"]) rfl hf rfl)

abbrev sp_check_term (K : PySem.W.Frag) : Sp := spD K 1 0 (fun es => ∃ d : PyData, es = [.dat d] ∧ isTermD d = true) (fun es r => r = .none)
theorem ok_check_term {P : Program} {w : World} {K : PySem.W.Frag} {mg : Str → Option Value} {base : Heap} (T : Tx K mg) : FnG P w K mg base 3 T.a_check_term T.d_check_term ["term"] (sp_check_term K) := by
  have H_is_term := ok_is_term (P := P) (w := w) (base := base) T
  refine fnG_ok T.F_check_term sc_check_term (fun cdv A outer s H E hr hc => ⟨_, (pss_one (ps_if (pt_not (pt_val (pe_callG H_is_term hr hc (by rfl) T.G_is_term T.F_is_term.kp T.B_is_term (pa_cons (pv 0) pa_nil))))
      (pss_one ps_never) pss_nil)), ?_⟩)
  rintro b I es hl ⟨d, rfl, hd⟩
  exact bk_ifP (b := false) (Pt.to (pt_notD (pt_B (pv_callE (pa_consD (ev_var rfl) ea_nil) rfl ⟨d, rfl⟩ fun x ⟨d', e, q⟩ => by cases e; exact q))) (by rw [hd]; rfl)) (fun e => nomatch e) fun _ => bk_next rfl
/-- a term's data -/
abbrev tD (n : Int) (u : Str) : PyData := .tuple [.int n, .str u]
def Unit2 (u : Str) : Prop := u = "days" ∨ u = "open"
theorem term_is {n : Int} {u : Str} (h0 : 0 ≤ n) (hu : Unit2 u) : isTermD (tD n u) = true := by
  have h1 : isWh (.int n) 0 = true := by rw [show isWh (.int n) 0 = dayD (.int n) from rfl, dayD_int]; exact decide_eq_true h0
  show (isWh (.int n) 0 && (isStrD (.str u) && inU (.str u))) = true
  rw [h1]
  rcases hu with rfl | rfl <;> simp [isStrD, inU, PyData.eqv]
def termE (ns : List Int) (n m : Int) (u : Str) : Int := if (decide (u = "days") || m == 0) = true then nextO ns (n + m) else wd (obR n ns (rk n + m))
abbrev sp_term_end (K : PySem.W.Frag) : Sp := spD K 3 0 (fun es => ∃ (ns : List Int) (n m : Int) (u : Str), es = [.dat (cD ns), .dat (.int n), .dat (tD m u)] ∧ ns.length < sizeLine) (fun es r => ∃ (ns : List Int) (n m : Int) (u : Str), es = [.dat (cD ns), .dat (.int n), .dat (tD m u)] ∧ r = .int (termE ns n m u))
theorem ok_term_end {P : Program} {w : World} {K : PySem.W.Frag} {mg : Str → Option Value} {base : Heap} (T : Tx K mg) : FnG P w K mg base 4 T.a_term_end T.d_term_end ["calendar", "day", "term"] (sp_term_end K) := by
  have H_first_open := ok_first_open (P := P) (w := w) (base := base) T
  have H_open_behind := ok_open_behind (P := P) (w := w) (base := base) T
  refine fnG_ok T.F_term_end sc_term_end (fun cdv A outer s H E hr hc => ⟨_, (pss_cons (ps_asg (pv 2) (pg_tup (by rfl) (pgs_cons (pg_name (i := 3) sc_term_end.nd rfl (Or.inl rfl)) (pgs_cons (pg_name (i := 4) sc_term_end.nd rfl (Or.inl rfl)) pgs_nil))))
      (pss_cons (ps_if (PW.pt (pw_or (pt_cmpR (by refine op_eqK (K := K) rfl ?_; exact hr.units) (pv 4) pe_str (nomark _)) (pw_or1 (pt_cmpR (by refine op_eqK (K := K) rfl ?_; exact hr.units) (pv 3) pe_int (nomark _)))))
      (pss_one (ps_ret (pe_callG H_first_open hr hc (by rfl) T.G_first_open T.F_first_open.kp T.B_first_open (pa_cons (pv 0) (pa_cons (pe_op (op_addK (K := K) rfl) (pv 1) (pv 3)) pa_nil))))) pss_nil)
      (pss_one (ps_ret (pe_callG H_open_behind (hr.mono (by decide)) hc (by rfl) T.G_open_behind T.F_open_behind.kp T.B_open_behind (pa_cons (pv 0) (pa_cons (pv 1) (pa_cons (pv 3) pa_nil)))))))), ?_⟩)
  rintro b I es hl ⟨ns, n, m, u, rfl, hz⟩
  refine bk_seq (C1 := 0) (C2 := 0) (N := fun ρ' => ρ' = [.dat (cD ns), .dat (.int n), .dat (tD m u), .dat (.int m), .dat (.str u)]) (bk_asg (f := fun d ρ => (ρ.set 3 (.dat (.int m))).set 4 (.dat (.str u))) (ev_var rfl) (fun d e => by subst e; exact tg_two) fun d _ => rfl) ?_ (by omega)
  rintro ρ' rfl
  refine bk_ifret (b := decide (u = "days") || m == 0) (pt_or (pt_T (pv_eqS (ev_var rfl) ev_str)) fun _ => pt_T (pv_eqI (ev_var rfl) ev_int)) (fun h => ?_) fun h => ?_
  · refine bk_retP (d := .int (termE ns n m u)) ?_ ⟨ns, n, m, u, rfl, rfl⟩
    refine pv_callE (pa_consD (ev_var rfl) (pa_consD (pv_addI (ev_var rfl) (ev_var rfl)) ea_nil)) rfl ⟨ns, n + m, rfl, hz⟩ fun x ⟨ms, k, e, q⟩ => ?_
    simp only [List.cons.injEq, Ent.dat.injEq, PyData.int.injEq] at e
    obtain ⟨e1, rfl, _⟩ := e
    rw [q, ← cD_inj e1, termE, if_pos h]
  · refine bk_retP (d := .int (termE ns n m u)) ?_ ⟨ns, n, m, u, rfl, rfl⟩
    refine pv_callE (pa_consD (ev_var rfl) (pa_consD (ev_var rfl) (pa_consD (ev_var rfl) ea_nil))) rfl ⟨ns, n, m, rfl, hz⟩ fun x ⟨ms, k, j, e, q⟩ => ?_
    simp only [List.cons.injEq, Ent.dat.injEq, PyData.int.injEq] at e
    obtain ⟨e1, rfl, rfl, _⟩ := e
    rw [q, ← cD_inj e1, termE, if_neg (by rw [h]; decide)]
theorem tD_inj {m k : Int} {u v : Str} (h : tD m u = tD k v) : m = k ∧ u = v := by
  simp only [PyData.tuple.injEq, List.cons.injEq, PyData.int.injEq, PyData.str.injEq] at h
  exact ⟨h.1, h.2.1⟩
/-- term_end by its values -/
theorem tend_call {c : Ctx} {ρ : List Ent} {tr : TA} {E : XK} {ns : List Int} {n m : Int} {u : Str} (h : Pa c tr ρ [.dat (cD ns), .dat (.int n), .dat (tD m u)]) (hz : ns.length < sizeLine) : Pv c (tCall (sp_term_end c.K) [] E tr) ρ (.int (termE ns n m u)) :=
  pv_callE h rfl ⟨ns, n, m, u, rfl, hz⟩ fun x ⟨ms, k, j, v, e, q⟩ => by
    simp only [List.cons.injEq, Ent.dat.injEq, PyData.int.injEq] at e
    obtain ⟨e1, rfl, e3, _⟩ := e
    obtain ⟨rfl, rfl⟩ := tD_inj e3
    rw [q, ← cD_inj e1]

abbrev sp_end (K : PySem.W.Frag) : Sp := spD K 3 0 (fun es => ∃ (ns : List Int) (n m : Int) (u : Str), es = [.dat (cD ns), .dat (.int n), .dat (tD m u)] ∧ Cal ns ∧ 0 ≤ n ∧ 0 ≤ m ∧ Unit2 u) (fun es r => ∃ (ns : List Int) (n m : Int) (u : Str), es = [.dat (cD ns), .dat (.int n), .dat (tD m u)] ∧ r = .int (termE ns n m u))
theorem ok_end {P : Program} {w : World} {K : PySem.W.Frag} {mg : Str → Option Value} {base : Heap} (T : Tx K mg) : FnG P w K mg base 5 T.a_end T.d_end ["calendar", "day", "term"] (sp_end K) := by
  have H_check_days := ok_check_days (P := P) (w := w) (base := base) T
  have H_check_term := ok_check_term (P := P) (w := w) (base := base) T
  have H_term_end := ok_term_end (P := P) (w := w) (base := base) T
  refine fnG_ok T.F_end sc_end (fun cdv A outer s H E hr hc => ⟨_, (pss_cons (ps_expr (pe_callG H_check_days hr hc (by rfl) T.G_check_days T.F_check_days.kp T.B_check_days (pa_cons (pv 0) (pa_cons (pe_tup (pa_cons (pv 1) pa_nil)) pa_nil))))
      (pss_cons (ps_expr (pe_callG H_check_term (hr.mono (by decide)) hc (by rfl) T.G_check_term T.F_check_term.kp T.B_check_term (pa_cons (pv 2) pa_nil)))
      (pss_one (ps_ret (pe_callG H_term_end hr hc (by rfl) T.G_term_end T.F_term_end.kp T.B_term_end (pa_cons (pv 0) (pa_cons (pv 1) (pa_cons (pv 2) pa_nil)))))))), ?_⟩)
  rintro b I es hl ⟨ns, n, m, u, rfl, hc1, h0, hm, hu⟩
  refine bk_do (C1 := 0) (C2 := 0) (pv_callE (d := .none) (pa_consD (ev_var rfl) (pa_consD (pv_tup (ds := [.int n]) (pa_consD (ev_var rfl) ea_nil)) ea_nil)) rfl ⟨ns, [n], rfl, hc1, days_one h0, by simp⟩ fun x e => e) ?_ (by omega)
  refine bk_do (C1 := 0) (C2 := 0) (pv_callE (d := .none) (pa_consD (ev_var rfl) ea_nil) rfl ⟨_, rfl, term_is hm hu⟩ fun x e => e) ?_ (by omega)
  exact bk_retP (tend_call (pa_consD (ev_var rfl) (pa_consD (ev_var rfl) (pa_consD (ev_var rfl) ea_nil))) hc1.2.2) ⟨ns, n, m, u, rfl, rfl⟩

/-! ### the law's own -/
abbrev sp_law_cell_at (K : PySem.W.Frag) : Sp := spD K 2 0 (fun es => ∃ (ns : List Int) (k : Nat), es = [.scr ns, .dat (.int k)]) (fun es r => ∃ x : Int, r = .int x)
theorem ok_law_cell_at {P : Program} {w : World} {K : PySem.W.Frag} {mg : Str → Option Value} {base : Heap} (T : Tx K mg) : FnG P w K mg base 1 T.a_law_cell_at T.d_law_cell_at ["script", "k"] (sp_law_cell_at K) := by
  refine fnG_ok T.F_law_cell_at sc_law_cell_at (fun cdv A outer s H E hr hc => ⟨_, (pss_cons (ps_if (pt_cmpR op_ltA (pv 1) (pe_callB (call_lenK (K := K) rfl) (by rfl) T.N_len (by decide +kernel) (pa_cons (pv 0) pa_nil)) (nomark _))
      (pss_one (ps_ret (pe_ix (ix_K (K := K) rfl) (pv 0) (pv 1) (fun _ _ => rfl)))) pss_nil)
      (pss_one (ps_ret pe_int))), ?_⟩)
  rintro b I es hl ⟨ns, k, rfl⟩
  refine bk_ifret (b := decide ((k : Int) < ns.length)) (pt_T (pv_ltI (ev_var rfl) (pv_cb (pa_scr rfl ea_nil) rda_lenK))) (fun h => ?_) fun h => bk_retP ev_int ⟨_, rfl⟩
  rw [decide_eq_true_eq] at h
  have hk : k < ns.length := by omega
  exact bk_retP (pv_scr rfl (ev_var rfl) (List.getElem?_eq_getElem hk)) ⟨_, rfl⟩
abbrev sp_law_bag (K : PySem.W.Frag) : Sp := spNew
theorem p10 {j : Int} (h0 : 0 ≤ j) (h1 : j ≤ 1000) : CPowB 10 j := cpowB (n := 64) (by decide) h0 (by omega)
theorem w_none {K : PySem.W.Frag} {I H : Hp} (h : Same I H) : Wd ⟨K, none, H, I⟩ I H 0 := ⟨h, Same.refl _, fun _ _ _ h => h, fun _ _ => rfl, fun _ e => nomatch e⟩
theorem ok_law_bag {P : Program} {w : World} {K : PySem.W.Frag} {mg : Str → Option Value} {base : Heap} (T : Tx K mg) : FnG P w K mg base 1 T.a_law_bag T.d_law_bag ["cell", "k"] (sp_law_bag K) := by
  refine Fun.okG T.F_law_bag sc_law_bag ?many (fun cdv A outer s H vs Q E hr hc hsp => ?body)
  case many => rintro vs H Q E ⟨I, cell, k, rfl, _⟩; rfl
  case body =>
    refine ⟨_, (pss_one (ps_ret (pe_lst (pa_cons (pe_callB (call_max2 rfl) (by rfl) T.N_max (by decide +kernel) (pa_cons pe_int (pa_cons (pe_op op_sub (pv 0) (pe_op op_powB pe_int pe_int)) pa_nil))) (pa_cons (pe_op (op_addK (K := K) rfl) (pe_op op_mod (pv 0) (pe_op (op_addK (K := K) rfl) (pe_op op_powB pe_int pe_int) pe_int)) (pe_op op_mul pe_int (pv 1))) (pa_cons pe_int pa_nil)))))), ?_⟩
    obtain ⟨I, cell, k, rfl, h0, h1, ih, q⟩ := hsp
    refine lst_raw (c := ⟨K, none, H, I⟩) (I := I) (ρ := [.dat (.int cell), .dat (.int k)]) (Pe := fun es => ∃ x y : Int, es = [.dat (.int x), .dat (.int y), .dat (.int 0)] ∧ 0 ≤ x ∧ 0 ≤ y ∧ y < 2 ^ 200) ?_ (w_none ih) ?_ ?_
    · refine ea_cons (C1 := 0) (C2 := 0) (evI_max (C1 := 0) (C2 := 0) (R1 := fun x => x = 0) (R2 := fun _ => True) (R := fun x => 0 ≤ x) (evI_of ev_int rfl) (evI_of (pv_ii (ev_var rfl) (pv_iiC ev_int ev_int (p10 (by decide) (by decide)))) trivial) (fun i j h _ => by subst h; split <;> omega) (Nat.le_refl _)) (P2 := fun _ es => ∃ y : Int, es = [.dat (.int y), .dat (.int 0)] ∧ 0 ≤ y ∧ y < 2 ^ 200) (fun _ _ => ?_) (fun d es ⟨x, e, hx⟩ ⟨y, e2, hy, hy2⟩ => ⟨x, y, by rw [e, e2], hx, hy, hy2⟩) (Nat.le_refl _)
      refine ea_cons (C1 := 0) (C2 := 0) (P1 := fun d => ∃ y : Int, d = .int y ∧ 0 ≤ y ∧ y < 2 ^ 200) ?_ (P2 := fun _ es => es = [.dat (.int 0)]) (fun _ _ => pa_consD ev_int ea_nil) (fun d es ⟨y, e, h⟩ e2 => ⟨y, by rw [e, e2], h⟩) (Nat.le_refl _)
      refine evI_add (C1 := 0) (C2 := 0) (R1 := fun x => 0 ≤ x ∧ x < 10 ^ 40 + 121) (R2 := fun x => 0 ≤ x ∧ x < 2 ^ 64) (evI_op (C1 := 0) (C2 := 0) (D := fun _ j => 0 < j) (R1 := fun _ => True) (R2 := fun x => x = 10 ^ 40 + 121) (evI_of (ev_var rfl) trivial) (evI_of (pv_addI (pv_iiC ev_int ev_int (p10 (by decide) (by decide))) ev_int) (by decide)) (fun i j _ hj => by subst hj; exact ⟨by decide, Int.emod_nonneg _ (by decide), Int.emod_lt_of_pos _ (by decide)⟩) (Nat.le_refl _)) (evI_of (pv_iiC ev_int (ev_var rfl) (.inl (by decide))) (by omega)) (fun i j h1 h2 => by omega) (Nat.le_refl _)
    · exact start_env (N := ["cell", "k"]) (b := none) (vs := [.int cell, .int k]) (es := [.dat (.int cell), .dat (.int k)]) (.cons (show Rp K I (.int cell) (.int cell) from .int _) (.cons (show Rp K I (.int k) (.int k) from .int _) .nil))
    · rintro vs es I2 H2 g2 ih2 r2 ⟨x, y, rfl, hx, hy, hy2⟩
      obtain ⟨v1, rfl, hh⟩ : ∃ v1, vs = [.int x, .int y, .int 0] ∧ v1 = 0 := by
        cases r2 with
        | cons a r2 => cases r2 with
          | cons b r2 => cases r2 with
            | cons d r2 =>
              cases r2
              exact ⟨0, by rw [Rp.int_inv a, Rp.int_inv b, Rp.int_inv d], rfl⟩
      exact ⟨by show 3 ≤ sizeLine; decide, fun p np => q p x y I2 H2 g2 ih2 np hx hy hy2⟩
abbrev sp_law_dip (K : PySem.W.Frag) : Sp := sp_dip K
theorem mod_in {i j : Int} (h : 0 < j) : 0 ≤ i % j ∧ i % j < j := ⟨Int.emod_nonneg _ (by omega), Int.emod_lt_of_pos _ h⟩
theorem ok_law_dip {P : Program} {w : World} {K : PySem.W.Frag} {mg : Str → Option Value} {base : Heap} (T : Tx K mg) : FnG P w K mg base 1 T.a_law_dip T.d_law_dip ["bag", "many"] (sp_law_dip K) := by
  refine fnG_ok T.F_law_dip sc_law_dip (fun cdv A outer s H E hr hc => ⟨_, (pss_cons (ps_if (pt_cmpR op_gt (pe_ix (ix_K (K := K) rfl) (pv 0) pe_int (fun _ _ => rfl)) pe_int (nomark _))
      (pss_cons (ps_set (i := 2) sc_law_dip.nd rfl (Or.inl rfl) (pe_op op_mod (pe_ix (ix_K (K := K) rfl) (pv 0) pe_int (fun _ _ => rfl)) (pv 1)))
      (pss_cons (ps_asg (pe_op op_fdivW (pe_ix (ix_K (K := K) rfl) (pv 0) pe_int (fun _ _ => rfl)) (pv 1)) (pg_sub (pv 0) pe_int set_list))
      (pss_one (ps_ret (pv 2))))) pss_nil)
      (pss_cons (ps_asg (pe_op (op_addK (K := K) rfl) (pe_ix (ix_K (K := K) rfl) (pv 0) pe_int (fun _ _ => rfl)) pe_int) (pg_sub (pv 0) pe_int set_list))
      (pss_cons (ps_set (i := 3) sc_law_dip.nd rfl (Or.inl rfl) (pe_op op_mod (pe_op op_powB (pe_op (op_addK (K := K) rfl) (pe_ix (ix_K (K := K) rfl) (pv 0) pe_int (fun _ _ => rfl)) (pe_op op_mul pe_int (pe_ix (ix_K (K := K) rfl) (pv 0) pe_int (fun _ _ => rfl)))) pe_int) (pe_op (op_addK (K := K) rfl) (pe_op op_powB pe_int pe_int) pe_int)))
      (pss_cons (ps_set (i := 3) sc_law_dip.nd rfl (Or.inl rfl) (pe_op op_mod (pe_op op_powB (pe_op (op_addK (K := K) rfl) (pv 3) (pe_op op_mul pe_int (pe_ix (ix_K (K := K) rfl) (pv 0) pe_int (fun _ _ => rfl)))) pe_int) (pe_op (op_addK (K := K) rfl) (pe_op op_powB pe_int pe_int) pe_int)))
      (pss_one (ps_ret (pe_op op_mod (pe_op op_fdivW (pv 3) pe_int) (pv 1)))))))), ?_⟩)
  rintro b I es hl ⟨m, rfl, hm, hm2⟩
  have fin : ∀ r : PyData, (∃ x : Int, r = .int x ∧ 0 ≤ x ∧ x < m) → dipPost [.bag, .dat (.int m)] r := fun r h => ⟨m, rfl, h⟩
  refine bk_seq (C1 := 0) (C2 := 1) (N := fun ρ' => ρ' = [.bag, .dat (.int m), .any, .any]) ?_ ?_ (by omega)
  · refine bk_if (C1 := 0) (C2 := 0) (Pb := fun _ => True) ?_ (fun _ => ?_) (fun _ => bk_next rfl) (by omega)
    · exact fun σ I H n Q w e l k => evI_bag0 rfl σ I H n _ w e l fun v d I2 H2 g2 w2 r2 ⟨x, ed, _⟩ => by
        subst ed
        exact ⟨x, 1, r2.int_inv, rfl, _, rfl, k _ I2 H2 g2 w2 trivial⟩
    · refine bk_let (C1 := 0) (C2 := 0) (P := fun d => ∃ x : Int, d = .int x ∧ 0 ≤ x ∧ x < m) (evI_op (C1 := 0) (C2 := 0) (D := fun _ j => 0 < j) (R1 := fun x => 0 ≤ x) (R2 := fun x => x = m) (evI_bag0 rfl) (evI_of (ev_var rfl) rfl) (fun i j _ hj => by subst hj; exact ⟨hm, mod_in hm⟩) (Nat.le_refl _)) (fun d ⟨x, e, hx⟩ => ?_) (by omega)
      subst e
      refine bk_seq (C1 := 0) (C2 := 0) (N := fun ρ' => ρ' = [.bag, .dat (.int m), .dat (.int x), .any]) (bk_bag0 rfl (evI_op (C1 := 0) (C2 := 0) (D := CDivW) (R1 := fun x => 0 ≤ x) (R2 := fun x => x = m) (evI_bag0 rfl) (evI_of (ev_var rfl) rfl) (fun i j hi hj => by subst hj; exact ⟨cdivW hm hm2, Int.ediv_nonneg hi (by omega)⟩) (Nat.le_refl _)) rfl) ?_ (by omega)
      rintro ρ' rfl
      exact bk_retP (O := { nx := _, rt := _ }) (ev_var rfl) (fin _ ⟨x, rfl, hx⟩)
  · rintro ρ' rfl
    refine bk_seq (C1 := 1) (C2 := 0) (N := fun ρ' => ρ' = [.bag, .dat (.int m), .any, .any]) (bk_bag2 rfl rfl) ?_ (by omega)
    rintro ρ' rfl
    refine bk_let (C1 := 0) (C2 := 0) (P := fun d => ∃ x : Int, d = .int x ∧ 0 ≤ x ∧ x < 2 ^ 200) (evI_op (C1 := 0) (C2 := 0) (D := fun _ j => 0 < j) (R1 := fun _ => True) (R2 := fun x => x = 10 ^ 39 + 3)
      (evI_op (C1 := 0) (C2 := 0) (D := CPowB) (R1 := fun x => 0 ≤ x ∧ x < 2 ^ 202) (R2 := fun x => x = 5) (evI_add (C1 := 0) (C2 := 0) (R1 := fun x => 0 ≤ x ∧ x < 2 ^ 200) (R2 := fun x => 0 ≤ x ∧ x < 2 ^ 100) (evI_bag1 rfl) (evI_op (C1 := 0) (C2 := 0) (D := CMul) (R1 := fun x => x = 982451653) (R2 := fun x => 0 ≤ x ∧ x ≤ NMAX) (evI_of ev_int rfl) (evI_bag2 rfl) (fun i j hi hj => by subst hi; exact ⟨.inl (by decide), by unfold NMAX at hj; omega⟩) (Nat.le_refl _)) (fun i j h1 h2 => by omega) (Nat.le_refl _)) (evI_of ev_int rfl) (fun i j hi hj => by subst hj; exact ⟨cpowB (n := 202) (natAbs_lt hi.1 hi.2) (by decide) (by decide), trivial⟩) (Nat.le_refl _))
      (evI_of (pv_addI (pv_iiC ev_int ev_int (p10 (by decide) (by decide))) ev_int) (by decide)) (fun i j _ hj => by subst hj; exact ⟨by decide, (mod_in (by decide)).1, Int.lt_of_lt_of_le (mod_in (by decide)).2 (by decide)⟩) (Nat.le_refl _)) (fun d ⟨x, e, hx⟩ => ?_) (by omega)
    subst e
    refine bk_let (C1 := 0) (C2 := 0) (P := fun d => ∃ x : Int, d = .int x) (evI_op (C1 := 0) (C2 := 0) (D := fun _ j => 0 < j) (R := fun _ => True) (R1 := fun _ => True) (R2 := fun x => x = 10 ^ 36 + 67)
      (evI_op (C1 := 0) (C2 := 0) (D := CPowB) (R1 := fun x => 0 ≤ x ∧ x < 2 ^ 202) (R2 := fun x => x = 3) (evI_add (C1 := 0) (C2 := 0) (R1 := fun x => 0 ≤ x ∧ x < 2 ^ 200) (R2 := fun x => 0 ≤ x ∧ x < 2 ^ 100) (evI_of (ev_var rfl) hx) (evI_op (C1 := 0) (C2 := 0) (D := CMul) (R1 := fun x => x = 15485863) (R2 := fun x => 0 ≤ x ∧ x ≤ NMAX) (evI_of ev_int rfl) (evI_bag2 rfl) (fun i j hi hj => by subst hi; exact ⟨.inl (by decide), by unfold NMAX at hj; omega⟩) (Nat.le_refl _)) (fun i j h1 h2 => by omega) (Nat.le_refl _)) (evI_of ev_int rfl) (fun i j hi hj => by subst hj; exact ⟨cpowB (n := 202) (natAbs_lt hi.1 hi.2) (by decide) (by decide), trivial⟩) (Nat.le_refl _))
      (evI_of (pv_addI (pv_iiC ev_int ev_int (p10 (by decide) (by decide))) ev_int) (by decide)) (fun i j _ hj => by subst hj; exact ⟨by decide, trivial⟩) (Nat.le_refl _) |>.imp (Nat.le_refl _) fun d ⟨x, e, _⟩ => ⟨x, e⟩) (fun d ⟨y, e⟩ => ?_) (by omega)
    subst e
    exact (bk_ret (O := { nx := fun _ => False, rt := dipPost [.bag, .dat (.int m)] }) (pv_iiC (pv_iiC (ev_var rfl) ev_int (D := CDivW) (cdivW (by decide) (by decide))) (ev_var rfl) hm) fun r e => fin r ⟨_, e, mod_in hm⟩).imp (Nat.le_refl _) (fun _ z => z.elim) fun _ z => z


/-- a list of drawn things -/
theorem ea_draws {c : Ctx} {ρ : List Ent} {P : PyData → Prop} {ta : TE} {tr : TA} {C1 C2 C m : Nat} (ha : Ev c ta ρ C1 P) (hr : Ea c tr ρ C2 (fun es => ∃ ds, es = dats ds ∧ ds.length = m ∧ ∀ x ∈ ds, P x)) (hC : C1 + C2 ≤ C) :
    Ea c (tCons ta tr) ρ C (fun es => ∃ ds, es = dats ds ∧ ds.length = m + 1 ∧ ∀ x ∈ ds, P x) :=
  ea_cons ha (fun _ _ => hr) (fun d es hd ⟨ds, e, hl, h⟩ => ⟨d :: ds, by rw [e]; rfl, by rw [List.length_cons, hl], fun x hx => (List.mem_cons.mp hx).elim (fun z => by rw [z]; exact hd) (h x)⟩) hC
theorem ea_drawn0 {c : Ctx} {ρ : List Ent} {P : PyData → Prop} : Ea c tNil ρ 0 (fun es => ∃ ds, es = dats ds ∧ ds.length = 0 ∧ ∀ x ∈ ds, P x) := ea_nil.imp (Nat.le_refl _) fun es e => ⟨[], e, rfl, fun _ h => nomatch h⟩
theorem ev_menu {c : Ctx} {ρ : List Ent} {P : PyData → Prop} {tr : TA} {C m : Nat} (hm : m ≤ 1000) (h : Ea c tr ρ C (fun es => ∃ ds, es = dats ds ∧ ds.length = m ∧ ∀ x ∈ ds, P x)) : Ev c (tLst tr) ρ C (fun d => ∃ ds, d = .list ds ∧ ds.length = m ∧ ∀ x ∈ ds, P x) :=
  ev_lst h fun es ⟨ds, e, hl, hp⟩ => ⟨ds, e, ⟨ds, rfl, hl, hp⟩, by omega⟩
/-- a drawn int lies in bounds -/
theorem dip_in {c : Ctx} {ρ : List Ent} {ta : TE} {i : Nat} {m : Int} {E : XK} {R : Int → Prop} (h : ρ[i]? = some .bag) (ha : Pv c ta ρ (.int m)) (h0 : 0 < m) (h1 : m < 2 ^ 60) (hR : ∀ r, 0 ≤ r → r < m → R r) : EvI c (tCall (sp_dip c.K) [] E (tCons (tVar i) (tCons ta tNil))) ρ 1 R :=
  (ev_dip h ha h0 h1).imp (Nat.le_refl _) fun d ⟨r, e, a, b⟩ => ⟨r, e, hR r a b⟩

theorem shaped_ints : ∀ ns : List Int, PyData.canLayAll0 (ns.map .int) = true ∧ PyData.depthAll (ns.map .int) = 0 ∧ noDics (ns.map .int) = true
  | [] => ⟨by simp [PyData.canLayAll0], by simp [PyData.depthAll], rfl⟩
  | n :: ns => by
    obtain ⟨h1, h2, h3⟩ := shaped_ints ns
    simp [PyData.canLayAll0, PyData.depthAll, noDics, PyData.canLay0, PyData.depth, noDic, h1, h2, h3]
theorem okD_ints (ns : List Int) : okD (.list (ns.map .int)) = true := by
  obtain ⟨h1, h2, h3⟩ := shaped_ints ns
  simp [okD, noDic, SeqAt.shaped, PyData.canLay0, PyData.depth, h1, h2, h3]
theorem okD_tints (ns : List Int) : okD (.tuple (ns.map .int)) = true := by
  obtain ⟨h1, h2, h3⟩ := shaped_ints ns
  simp [okD, noDic, SeqAt.shaped, PyData.canLay0, PyData.depth, h1, h2, h3]
theorem eqv_nil (ns : List Int) : PyData.eqv (.list (ns.map .int)) (.list []) = ns.isEmpty := by
  cases ns <;> simp [PyData.eqv, PyData.eqvAll]

theorem filt_rng (ns : List Int) (lo : Int) (m : Nat) : (((rngD lo m).filter fun d => openB ns (intOf d)).map fun d => d) = (((List.range m).map fun k : Nat => lo + (k : Int)).filter (openB ns)).map .int := by
  rw [List.map_id']
  unfold rngD
  rw [List.filter_map, List.filter_map, List.map_map]
  rfl
def rngI (lo : Int) (m : Nat) : List Int := (List.range m).map fun k : Nat => lo + (k : Int)
theorem mem_rngI {lo x : Int} {m : Nat} : x ∈ rngI lo m ↔ lo ≤ x ∧ x < lo + m := by
  unfold rngI
  rw [List.mem_map]
  constructor
  · rintro ⟨k, hk, rfl⟩
    have := List.mem_range.mp hk
    omega
  · rintro ⟨h1, h2⟩
    exact ⟨(x - lo).toNat, List.mem_range.mpr (by omega), by omega⟩
theorem rngI_succ (lo : Int) (m : Nat) : rngI lo (m + 1) = lo :: rngI (lo + 1) m := by
  unfold rngI
  rw [List.range_succ_eq_map, List.map_cons, List.map_map]
  refine congr (congrArg List.cons (by simp)) (List.map_congr_left fun k _ => ?_)
  show lo + ((k + 1 : Nat) : Int) = lo + 1 + k
  omega
theorem rngI_snoc (lo : Int) (m : Nat) : rngI lo (m + 1) = rngI lo m ++ [lo + m] := by
  unfold rngI
  rw [List.range_succ, List.map_append]
  rfl
/-- the first of those that are so -/
theorem first_head {p : Int → Bool} {x : Int} : ∀ (m : Nat) (lo : Int), lo ≤ x → x < lo + m → p x = true → (∀ y, lo ≤ y → y < x → p y = false) → ∃ r, (rngI lo m).filter p = x :: r
  | 0, lo, h1, h2, _, _ => by omega
  | m + 1, lo, h1, h2, h3, h4 => by
    rw [rngI_succ, List.filter_cons]
    by_cases e : lo = x
    · subst e
      rw [if_pos h3]
      exact ⟨_, rfl⟩
    · rw [if_neg (by rw [h4 lo (Int.le_refl _) (by omega)]; decide)]
      exact first_head m (lo + 1) (by omega) (by omega) h3 fun y a b => h4 y (by omega) b
theorem last_end {p : Int → Bool} {x : Int} : ∀ (m : Nat) (lo : Int), lo ≤ x → x < lo + m → p x = true → (∀ y, x < y → y < lo + m → p y = false) → ∃ r, (rngI lo m).filter p = r ++ [x]
  | 0, lo, h1, h2, _, _ => by omega
  | m + 1, lo, h1, h2, h3, h4 => by
    rw [rngI_snoc, List.filter_append]
    by_cases e : lo + m = x
    · rw [e, List.filter_cons, if_pos h3]
      exact ⟨_, rfl⟩
    · obtain ⟨r, hr⟩ := last_end m lo h1 (by omega) h3 fun y a b => h4 y a (by omega)
      rw [List.filter_cons, if_neg (by rw [h4 (lo + m) (by omega) (by omega)]; decide), List.filter_nil, List.append_nil]
      exact ⟨r, hr⟩
theorem filt_none {p : Int → Bool} {lo : Int} {m : Nat} (h : ∀ y, lo ≤ y → y < lo + m → p y = false) : (rngI lo m).filter p = [] := by
  rw [List.filter_eq_nil_iff]
  intro y hy
  obtain ⟨h1, h2⟩ := mem_rngI.mp hy
  rw [h y h1 h2]
  decide
theorem small100k {n : Nat} (h : n ≤ 100000) : n < sizeLine := Nat.lt_of_le_of_lt h (by decide)

section
variable {c : Ctx} {ρ : List Ent} {tr : TA} {E : XK} {ns : List Int} {n : Int}
theorem open_call (h : Pa c tr ρ [.dat (cD ns), .dat (.int n)]) (hc : Cal ns) (h0 : 0 ≤ n) : Pv c (tCall (sp_is_open c.K) [] E tr) ρ (.bool (openB ns n)) :=
  pv_callE h rfl ⟨ns, n, rfl, hc, h0⟩ fun x ⟨ms, m, e, q⟩ => by
    simp only [List.cons.injEq, Ent.dat.injEq, PyData.int.injEq] at e
    obtain ⟨e1, rfl, _⟩ := e
    rw [q, ← cD_inj e1]
theorem next_call (h : Pa c tr ρ [.dat (cD ns), .dat (.int n)]) (hc : Cal ns) (h0 : 0 ≤ n) : Pv c (tCall (sp_next_open c.K) [] E tr) ρ (.int (nextO ns n)) :=
  pv_callE h rfl ⟨ns, n, rfl, hc, h0⟩ fun x ⟨ms, m, e, q⟩ => by
    simp only [List.cons.injEq, Ent.dat.injEq, PyData.int.injEq] at e
    obtain ⟨e1, rfl, _⟩ := e
    rw [q, ← cD_inj e1]
theorem last_call (h : Pa c tr ρ [.dat (cD ns), .dat (.int n)]) (hc : Cal ns) (h0 : 0 ≤ n) : Pv c (tCall (sp_last_open c.K) [] E tr) ρ (lastO ns n) :=
  pv_callE h rfl ⟨ns, n, rfl, hc, h0⟩ fun x ⟨ms, m, e, q⟩ => by
    simp only [List.cons.injEq, Ent.dat.injEq, PyData.int.injEq] at e
    obtain ⟨e1, rfl, _⟩ := e
    rw [q, ← cD_inj e1]
end
/-- None, or a whole number -/
theorem okD_last {ns : List Int} {n : Int} : okD (lastO ns n) = true ∧ PyData.eqv (lastO ns n) (lastO ns n) = true := by
  unfold lastO
  split
  · exact ⟨okD_none, by simp [PyData.eqv]⟩
  · exact ⟨okD_int _, by simp [PyData.eqv]⟩

theorem goodSs_ints : ∀ {ns : List Int}, (∀ n ∈ ns, 0 ≤ n ∧ n ≤ 1000000) → goodSs (ns.map .int) = true ∧ noDics (ns.map .int) = true ∧ szDs (ns.map .int) = 1921 * ns.length
  | [], _ => ⟨rfl, rfl, rfl⟩
  | n :: ns, h => by
    obtain ⟨h1, h2, h3⟩ := goodSs_ints (ns := ns) fun m hm => h m (List.mem_cons_of_mem _ hm)
    obtain ⟨a, b⟩ := h n List.mem_cons_self
    have hl : n.natAbs.log2 < 1920 := by
      have : n.natAbs < 2 ^ 20 := by omega
      exact Nat.lt_trans (PySem.Flt.log2_lt_of (by decide) this) (by decide)
    refine ⟨?_, ?_, ?_⟩
    · rw [List.map_cons, goodSs, h1, Bool.and_true, goodS]
      exact decide_eq_true hl
    · rw [List.map_cons, noDics, h2]; rfl
    · rw [List.map_cons, szDs, h3, szD, List.length_cons]; omega
theorem repr_cal {c : Ctx} {ρ : List Ent} {ta : TE} {ns : List Int} (h : Pv c ta ρ (cD ns)) (hn : ∀ n ∈ ns, 0 ≤ n ∧ n ≤ 1000000) (hl : ns.length ≤ 1000) : Pv c (tCB (rReprD c.K) (tCons ta tNil)) ρ (.str (cD ns).shown) := by
  obtain ⟨h1, h2, h3⟩ := goodSs_ints hn
  refine pv_repr h ?_ ?_ ?_
  · show (goodSs (ns.map .int) && (noDics (ns.map .int) || noLsts (ns.map .int))) = true
    rw [h1, h2]; rfl
  · show szDs (ns.map .int) + 2 * (ns.map PyData.int).length + 3 ≤ 2 ^ 23
    rw [h3, List.length_map]; omega
  · show PyData.depth (.tuple (ns.map .int)) ≤ 60
    rw [PyData.depth, (shaped_ints ns).2.1]; decide

theorem end_post {ns : List Int} {n m : Int} {u : Str} {x : PyData} (h : ∃ (ms : List Int) (k j : Int) (v : Str), [Ent.dat (cD ns), .dat (.int n), .dat (tD m u)] = [.dat (cD ms), .dat (.int k), .dat (tD j v)] ∧ x = .int (termE ms k j v)) : x = .int (termE ns n m u) := by
  obtain ⟨ms, k, j, v, e, q⟩ := h
  simp only [List.cons.injEq, Ent.dat.injEq, PyData.int.injEq] at e
  obtain ⟨e1, rfl, e3, _⟩ := e
  obtain ⟨rfl, rfl⟩ := tD_inj e3
  rw [q, ← cD_inj e1]

/-- a draw below a drawn number -/
theorem dipE {c : Ctx} {ρ : List Ent} {ta : TE} {i C : Nat} {E : XK} {Rm R : Int → Prop} (h : ρ[i]? = some .bag) (ha : EvI c ta ρ C Rm) (hm : ∀ m, Rm m → 0 < m ∧ m < 2 ^ 60) (hR : ∀ m r, Rm m → 0 ≤ r → r < m → R r) : EvI c (tCall (sp_dip c.K) [] E (tCons (tVar i) (tCons ta tNil))) ρ (C + 1) R :=
  ev_call (C1 := C) (C2 := 1) (Pe := fun es => ∃ m : Int, es = [.bag, .dat (.int m)] ∧ Rm m) (ea_bag h (ea_cons (C1 := C) (C2 := 0) ha (P2 := fun _ es => es = []) (fun _ _ => ea_nil) (P := fun es => ∃ m : Int, es = [.dat (.int m)] ∧ Rm m) (fun d es ⟨x, e, h⟩ e2 => ⟨x, by rw [e, e2], h⟩) (by omega)) fun es ⟨x, e, h⟩ => ⟨x, by rw [e], h⟩) (fun es ⟨m, e, h⟩ => by subst e; exact ⟨rfl, m, rfl, hm m h⟩)
    (fun es d ⟨m, e, h⟩ ⟨m', e', r, ed, a, b⟩ => by
      rw [e] at e'
      cases e'
      exact ⟨r, ed, hR m r h a b⟩) (Nat.le_refl _)
theorem ev_pickT {c : Ctx} {ρ : List Ent} {ta tb : TE} {C1 C2 C : Nat} {P : PyData → Prop} {m : Nat} (ha : Ev c ta ρ C1 (fun d => ∃ ds, d = .tuple ds ∧ ds.length = m ∧ ∀ x ∈ ds, P x)) (hb : Ev c tb ρ C2 (fun d => ∃ i : Int, d = .int i ∧ 0 ≤ i ∧ i < m)) (hC : C1 + C2 ≤ C) : Ev c (tOp (rIx c.K) ta tb) ρ C P :=
  ev_op ha (P2 := fun _ d => ∃ i : Int, d = .int i ∧ 0 ≤ i ∧ i < m) (fun _ _ => hb) (fun d1 d2 p1 p2 => by
    obtain ⟨ds, rfl, hl, hP⟩ := p1
    obtain ⟨i, rfl, h0, h1⟩ := p2
    obtain ⟨d, hd, hm⟩ := atI_of (ds := ds) h0 (by omega)
    exact fun I H n x y Q w r1 r2 k => rd_ixTs hd I H n x y Q w r1 r2 fun v d' I2 H2 g2 w2 r2 p2 => k v d' I2 H2 g2 w2 r2 (by rw [p2]; exact hP d hm)) hC
theorem iw_rangeP {c : Ctx} {ρ : List Ent} {ta : TE} {g : TG} {tgs : List Nat} {f : PyData → List Ent → List Ent} {i : Int} (ha : Pv c ta ρ (.int i)) (hb : -(2 ^ 62) ≤ i ∧ i < 2 ^ 62) (ht : ∀ d ∈ rngD 0 i.toNat, Tg c g tgs d (f d)) : Iw c (iRng1 (tCons ta tNil)) g ρ 0 tgs f (fun items => items = rngD 0 i.toNat) := fun σ I H n R w e l k =>
  iw_range1 (Pn := fun j => j = i) (evI_of ha rfl) (fun j e => by subst e; exact hb) (fun j e => by subst e; exact ht) σ I H n R w e l fun J I1 H1 items g1 w1 it ⟨j, e1, e2⟩ => k J I1 H1 items g1 w1 it (by rw [e2, e1])
theorem rng_rngI (lo : Int) (m : Nat) : (rngD 0 m).map (fun d => PyData.int (lo + intOf d)) = (rngI lo m).map .int := by
  unfold rngD rngI
  rw [List.map_map, List.map_map]
  refine List.map_congr_left fun k _ => ?_
  show PyData.int (lo + (0 + (k : Int))) = .int (lo + k)
  rw [Int.zero_add]
abbrev sp_law_long (K : PySem.W.Frag) : Sp := spD K 1 700 (fun es => es = [.bag]) (fun _ r => ∃ ns : List Int, r = cD ns ∧ Cal ns ∧ 1 ≤ ns.length ∧ ns.length ≤ 420 ∧ ∀ n ∈ ns, n ≤ 100000)
theorem ok_law_long {P : Program} {w : World} {K : PySem.W.Frag} {mg : Str → Option Value} {base : Heap} (T : Tx K mg) : FnG P w K mg base 2 T.a_law_long T.d_law_long ["bag"] (sp_law_long K) := by
  have H_law_dip := ok_law_dip (P := P) (w := w) (base := base) T
  refine fnG_ok T.F_law_long sc_law_long (fun cdv A outer s H E hr hc => ⟨_, (pss_cons (ps_set (i := 1) sc_law_long.nd rfl (Or.inl rfl) (pe_lst pa_nil))
      (pss_cons (ps_set (i := 2) sc_law_long.nd rfl (Or.inl rfl) (pe_callG H_law_dip hr hc (by rfl) T.G_law_dip T.F_law_dip.kp T.B_law_dip (pa_cons (pv 0) (pa_cons pe_int pa_nil))))
      (pss_cons (ps_set (i := 3) sc_law_long.nd rfl (Or.inl rfl) (pe_ix (ix_K (K := K) rfl) (pe_lst (pa_cons pe_int (pa_cons pe_int (pa_cons pe_int pa_nil)))) (pe_callG H_law_dip hr hc (by rfl) T.G_law_dip T.F_law_dip.kp T.B_law_dip (pa_cons (pv 0) (pa_cons pe_int pa_nil))) (fun _ _ => rfl)))
      (pss_cons (ps_for PassesOwn.never rfl (pi_range1 (by rfl) T.N_range (pa_cons (pe_op (op_addK (K := K) rfl) pe_int (pe_callG H_law_dip hr hc (by rfl) T.G_law_dip T.F_law_dip.kp T.B_law_dip (pa_cons (pv 0) (pa_cons (pe_ix (ix_K (K := K) rfl) (pe_lst (pa_cons pe_int (pa_cons pe_int (pa_cons pe_int pa_nil)))) (pe_callG H_law_dip hr hc (by rfl) T.G_law_dip T.F_law_dip.kp T.B_law_dip (pa_cons (pv 0) (pa_cons pe_int pa_nil))) (fun _ _ => rfl)) pa_nil)))) pa_nil)) (pg_name (i := 4) sc_law_long.nd rfl (Or.inl rfl))
      (pss_cons (ps_expr (pe_bm PySem.F.plainAttrs_list PySem.F.slot_list_append PySem.F.type_list_append mt_append (pv 1) (pa_cons (pv 2) pa_nil)))
      (pss_one (ps_set (i := 2) sc_law_long.nd rfl (Or.inl rfl) (pe_op (op_addK (K := K) rfl) (pe_op (op_addK (K := K) rfl) (pv 2) pe_int) (pe_callG H_law_dip hr hc (by rfl) T.G_law_dip T.F_law_dip.kp T.B_law_dip (pa_cons (pv 0) (pa_cons (pv 3) pa_nil))))))))
      (pss_cons (ps_set (i := 5) sc_law_long.nd rfl (Or.inr rfl) (pe_ix (ix_K (K := K) rfl) (pv 1) (pe_callG H_law_dip hr hc (by rfl) T.G_law_dip T.F_law_dip.kp T.B_law_dip (pa_cons (pv 0) (pa_cons (pe_callB (call_lenK (K := K) rfl) (by rfl) T.N_len (by decide +kernel) (pa_cons (pv 1) pa_nil)) pa_nil))) (fun _ _ => rfl)))
      (pss_cons (ps_set (i := 6) sc_law_long.nd rfl (Or.inl rfl) (pe_op op_mul (pe_op (op_addK (K := K) rfl) pe_int (pe_callG H_law_dip hr hc (by rfl) T.G_law_dip T.F_law_dip.kp T.B_law_dip (pa_cons (pv 0) (pa_cons pe_int pa_nil)))) (pe_callG H_law_dip hr hc (by rfl) T.G_law_dip T.F_law_dip.kp T.B_law_dip (pa_cons (pv 0) (pa_cons pe_int pa_nil)))))
      (pss_one (ps_ret (pe_callTy (call_tupK (K := K) rfl) (by rfl) T.N_tuple (by decide +kernel) (pa_cons (pe_callB (cr_sortedN rfl) (by rfl) T.N_sorted (by decide +kernel) (pa_cons (pe_callTy (call_setLI (K := K) rfl rfl) (by rfl) T.N_set (by decide +kernel) (pa_cons (pe_op (op_addK (K := K) rfl) (pv 1) (pe_lc (own := [("k", 4)]) (g := (gName 4)) rfl sc_law_long.nd (pi_range1 (by rfl) T.N_range (pa_cons (pv 6) pa_nil)) (blkOk_by (own := [("k", 4)]) (N := ["bag", "found", "one", "wide", "k", "start", "days_on_end"]) (sc := defScope s_law_long) (by decide +kernel)) (fun _ _ _ _ _ => (pg_name (i := 4) sc_law_long.nd rfl (Or.inl rfl))) (fun _ _ _ _ _ => pts_nil) (fun _ _ _ _ _ => (pe_op (op_addK (K := K) rfl) (pv 5) (pv 4))))) pa_nil)) pa_nil)) pa_nil)))))))))), ?_⟩)
  rintro b I es hl rfl
  refine bk_seq (C1 := 0) (C2 := 700) (N := fun ρ' => ρ' = [.bag, .own [], .any, .any, .any, .any, .any]) (bk_own (ds := []) ea_nil (by decide) rfl) ?_ (by omega)
  rintro ρ' rfl
  refine bk_let (C1 := 1) (C2 := 699) (dip_in (R := fun x => 0 ≤ x ∧ x < 9000) rfl ev_int (by decide) (by decide) fun r a b => ⟨a, b⟩) ?_ (by omega)
  rintro d ⟨o, rfl, ho0, ho1⟩
  refine bk_let (C1 := 1) (C2 := 698) (P := fun d => ∃ x : Int, d = .int x ∧ 2 ≤ x ∧ x ≤ 30) (ev_pick (C1 := 0) (C2 := 1) (m := 3) (ev_menu (by decide) (ea_draws (C1 := 0) (C2 := 0) (evI_of ev_int (by decide)) (ea_draws (C1 := 0) (C2 := 0) (evI_of ev_int (by decide)) (ea_draws (C1 := 0) (C2 := 0) (evI_of ev_int (by decide)) ea_drawn0 (by omega)) (by omega)) (by omega))) (dip_in rfl ev_int (by decide) (by decide) fun r a b => ⟨a, b⟩) (by omega)) ?_ (by omega)
  rintro d ⟨wd, rfl, hw0, hw1⟩
  refine bk_seq (C1 := 303) (C2 := 395) (N := fun ρ' => ∃ (ns : List Int) (o : Int) (e : Ent), ρ' = [.bag, .own (ns.map .int), .dat (.int o), .dat (.int wd), e, .any, .any] ∧ 1 ≤ ns.length ∧ ns.length ≤ 300 ∧ ∀ n ∈ ns, 0 ≤ n ∧ n ≤ 20000) ?_ ?_ (by omega)
  · refine bk_for (m := 300) (C0 := 3) (C1 := 1) (f := fun d ρ => ρ.set 4 (.dat d)) (fun _ k ρ' => ∃ (ns : List Int) (o : Int) (e : Ent), ρ' = [.bag, .own (ns.map .int), .dat (.int o), .dat (.int wd), e, .any, .any] ∧ ns.length = k ∧ 0 ≤ o ∧ o ≤ 9000 + 31 * k ∧ ∀ n ∈ ns, 0 ≤ n ∧ n ≤ 9000 + 31 * k)
      (iw_range1 (Pn := fun i => 1 ≤ i ∧ i ≤ 300) (evI_add (C1 := 0) (C2 := 3) (R1 := fun x => x = 1) (R2 := fun x => 0 ≤ x ∧ x < 300) (evI_of ev_int rfl) (dipE (C := 2) (Rm := fun m => 1 ≤ m ∧ m ≤ 300) rfl (ev_pick (C1 := 0) (C2 := 1) (m := 3) (ev_menu (by decide) (ea_draws (C1 := 0) (C2 := 0) (evI_of ev_int (by decide)) (ea_draws (C1 := 0) (C2 := 0) (evI_of ev_int (by decide)) (ea_draws (C1 := 0) (C2 := 0) (evI_of ev_int (by decide)) ea_drawn0 (by omega)) (by omega)) (by omega))) (dip_in rfl ev_int (by decide) (by decide) fun r a b => ⟨a, b⟩) (by omega)) (fun m h => by omega) (fun m r h a b => by omega)) (fun i j h1 h2 => by omega) (by omega)) (fun i hi => by omega) fun i _ d _ => tg_name) (fun is ⟨i, hi, e⟩ => by subst e; rw [rngD_len]; omega) (fun is _ => ⟨[], o, .any, rfl, rfl, ho0, by omega, fun _ h => nomatch h⟩) ?_ ?_ (by omega)
    · rintro is k d ρ' ⟨i, hi, rfl⟩ hk ⟨ns, o, e, rfl, hlen, h0, h1, hn⟩
      have hk3 : k < 300 := by have := (rngD_get hk).1; omega
      refine bk_seq (C1 := 0) (C2 := 1) (N := fun ρ' => ρ' = [.bag, .own ((ns ++ [o]).map .int), .dat (.int o), .dat (.int wd), .dat d, .any, .any]) (bk_append (ds := ns.map .int) rfl (ev_var rfl) (by rw [List.length_map]; omega) fun y e => by subst e; rw [List.map_append]; rfl) ?_ (by omega)
      rintro ρ' rfl
      refine bk_set (i := 2) (P := fun d => ∃ y : Int, d = .int y ∧ o + 1 ≤ y ∧ y ≤ o + 30) (evI_add (C1 := 0) (C2 := 1) (R1 := fun y => y = o + 1) (R2 := fun y => 0 ≤ y ∧ y ≤ 29) (evI_of (pv_addI (ev_var rfl) ev_int) rfl) (dip_in (m := wd) rfl (ev_var rfl) (by omega) (by omega) fun r a b => by omega) (fun i j h1 h2 => by omega) (by omega)) ?_
      rintro d' ⟨y, rfl, hy0, hy1⟩
      refine ⟨ns ++ [o], y, .dat d, rfl, by rw [List.length_append, hlen]; rfl, by omega, by omega, fun n hn' => ?_⟩
      rcases List.mem_append.mp hn' with q | q
      · have := hn n q; omega
      · rw [List.mem_singleton.mp q]; omega
    · rintro is ρ' ⟨i, hi, rfl⟩ ⟨ns, o, e, rfl, hlen, h0, h1, hn⟩
      rw [rngD_len] at hlen
      exact ⟨ns, o, e, rfl, by omega, by omega, fun n q => by have := hn n q; rw [rngD_len] at this; omega⟩
  · rintro ρ' ⟨ns, o, e, rfl, hl1, hl2, hn⟩
    refine bk_freeze (i := 1) (ds := ns.map .int) rfl ?_
    refine bk_let (C1 := 1) (C2 := 300) (P := fun d => ∃ x : Int, d = .int x ∧ 0 ≤ x ∧ x ≤ 20000) (ev_pick (C1 := 0) (C2 := 1) (m := ns.length) ((ev_var rfl).imp (Nat.le_refl _) fun d e => ⟨ns.map .int, e, by rw [List.length_map], fun x hx => by
        obtain ⟨n, hn', rfl⟩ := List.mem_map.mp hx
        exact ⟨n, rfl, hn n hn'⟩⟩) (dip_in (m := ns.length) rfl (Pv.to (pv_cb (pa_consD (ev_var rfl) ea_nil) rda_lenL) (by rw [List.length_map])) (by omega) (by omega) fun r a b => ⟨a, b⟩) (by omega)) ?_ (by omega)
    rintro d ⟨st, rfl, hs0, hs1⟩
    refine bk_let (C1 := 2) (C2 := 298) (P := fun d => ∃ x : Int, d = .int x ∧ 0 ≤ x ∧ x ≤ 120) (evI_op (C1 := 1) (C2 := 1) (R1 := fun x => 20 ≤ x ∧ x ≤ 120) (R2 := fun x => x = 0 ∨ x = 1) (evI_add (C1 := 0) (C2 := 1) (R1 := fun x => x = 20) (R2 := fun x => 0 ≤ x ∧ x < 101) (evI_of ev_int rfl) (dip_in rfl ev_int (by decide) (by decide) fun r a b => ⟨a, b⟩) (fun i j h1 h2 => by omega) (by omega)) (dip_in rfl ev_int (by decide) (by decide) fun r a b => by omega) (fun i j h1 h2 => by
      rcases h2 with rfl | rfl
      · exact ⟨mulc, by omega⟩
      · exact ⟨mulc, by omega⟩) (by omega)) ?_ (by omega)
    rintro d ⟨dn, rfl, hd0, hd1⟩
    refine bk_ret (C := 298) (P := fun r => ∃ ms : List Int, r = cD ms ∧ Cal ms ∧ 1 ≤ ms.length ∧ ms.length ≤ 420 ∧ ∀ n ∈ ms, n ≤ 100000) ?_ fun r h => h
    refine (ev_tupL (Pd := fun ds => ∃ ms : List Int, ds = ms.map .int ∧ Cal ms ∧ 1 ≤ ms.length ∧ ms.length ≤ 420 ∧ ∀ n ∈ ms, n ≤ 100000) ?_).imp (Nat.le_refl _) fun d ⟨ds, e, ms, e2, h⟩ => ⟨ms, by rw [e, e2], h⟩
    refine (ev_sortedN (C := 298) (Pn := fun ks => ks = ns ++ rngI st dn.toNat) (Ev.imp (P := fun d => d = .list ((ns ++ rngI st dn.toNat).map .int)) (C := 0) ?_ (by omega) fun d e => ⟨_, e, rfl⟩) fun ks e => ?_).imp (Nat.le_refl _) ?_
    · rw [List.map_append, ← rng_rngI]
      refine pv_addL (ev_var rfl) (pv_map (vs := [4]) (f := fun d ρ => ρ.set 4 (.dat d)) (fun d => .int (st + intOf d)) (iw_rangeP (ev_var rfl) (by omega) fun d _ => tg_name) (fun d hd => ?_) (by rw [rngD_len]; exact small100k (by omega))) (by rw [List.length_map, List.length_map, rngD_len]; exact Nat.le_of_lt (small100k (by omega)))
      obtain ⟨q, hq⟩ := List.mem_iff_getElem?.mp hd
      obtain ⟨_, rfl⟩ := rngD_get hq
      exact pv_addI (ev_var rfl) (ev_var rfl)
    · subst e
      rw [List.length_append, rngI, List.length_map, List.length_range]
      omega
    · rintro d ⟨ms, ks, rfl, rfl, hp, hm, hlen⟩
      rw [List.length_append, rngI, List.length_map, List.length_range] at hlen
      have hmem : ∀ n ∈ ms, 0 ≤ n ∧ n ≤ 100000 := fun n hn' => by
        rcases List.mem_append.mp ((hm n).mp hn') with q | q
        · have := hn n q; omega
        · have := mem_rngI.mp q; omega
      have h1 : 1 ≤ ms.length := by
        cases ns with
        | nil => exact absurd hl1 (by decide)
        | cons x r =>
          have : x ∈ ms := (hm x).mpr (List.mem_append.mpr (.inl List.mem_cons_self))
          exact List.length_pos_of_mem this
      exact ⟨_, rfl, ms, rfl, ⟨pw_rising hp, fun n hn' => (hmem n hn').1, small100k (by omega)⟩, h1, by omega, fun n hn' => (hmem n hn').2⟩
abbrev sp_law_free (K : PySem.W.Frag) : Sp := spD K 2 0 (fun es => ∃ (ns : List Int) (n : Int), es = [.dat (dicT ns), .dat (.int n)]) (fun es r => ∃ (ns : List Int) (n : Int), es = [.dat (dicT ns), .dat (.int n)] ∧ r = .bool (openB ns n))
theorem ok_law_free {P : Program} {w : World} {K : PySem.W.Frag} {mg : Str → Option Value} {base : Heap} (T : Tx K mg) : FnG P w K mg base 1 T.a_law_free T.d_law_free ["closed", "at"] (sp_law_free K) := by
  refine fnG_ok T.F_law_free sc_law_free (fun cdv A outer s H E hr hc => ⟨_, (pss_one (ps_ret (pe_and (pe_cmpR op_ltA (pe_op op_mod (pv 1) pe_int) pe_int (nomark _)) (pe_one (pe_cmpR (op_dnot hr.units) (pv 1) (pv 0) (by with_unfolding_all rfl)))))), ?_⟩)
  rintro b I es hl ⟨ns, n, rfl⟩
  refine bk_retP (d := .bool (openB ns n)) ?_ ⟨ns, n, rfl, rfl⟩
  exact pv_and (pv_ltI (pv_iiC (ev_var rfl) ev_int (by decide)) ev_int) fun _ => pv_op (ev_var rfl) (ev_var rfl) rd_dnot
theorem dicT_inj {ns ms : List Int} (h : dicT ns = dicT ms) : ns = ms := by
  have e : (ns.map fun n => (PyData.int n, PyData.bool true)) = ms.map fun n => (.int n, .bool true) := PyData.dict.inj h
  have e2 := congrArg (List.map fun p => intOf p.1) e
  rw [List.map_map, List.map_map] at e2
  simpa [Function.comp_def, intOf] using e2
theorem free_call {c : Ctx} {ρ : List Ent} {tr : TA} {E : XK} {ns : List Int} {n : Int} (h : Pa c tr ρ [.dat (dicT ns), .dat (.int n)]) : Pv c (tCall (sp_law_free c.K) [] E tr) ρ (.bool (openB ns n)) :=
  pv_callE h rfl ⟨ns, n, rfl⟩ fun x ⟨ms, m, e, q⟩ => by
    simp only [List.cons.injEq, Ent.dat.injEq, PyData.int.injEq] at e
    obtain ⟨e1, rfl, _⟩ := e
    rw [q, dicT_inj e1]
/-- where a walk by st stands still -/
def Stops (ns : List Int) (n st : Int) (M : Nat) : Prop := (∀ j : Nat, j < M → 0 ≤ n + st * j ∧ openB ns (n + st * j) = false) ∧ (0 ≤ n + st * M → openB ns (n + st * M) = true)
theorem Stops.uniq {ns : List Int} {n st : Int} {M N : Nat} (h : Stops ns n st M) (k : Stops ns n st N) : M = N := by
  by_cases a : M < N
  · obtain ⟨q1, q2⟩ := k.1 M a
    rw [h.2 q1] at q2
    cases q2
  · by_cases b : N < M
    · obtain ⟨q1, q2⟩ := h.1 N b
      rw [k.2 q1] at q2
      cases q2
    · omega
def walkR (n st : Int) (M : Nat) : PyData := if decide (n + st * M ≥ 0) = true then .int (n + st * M) else .none
theorem st_succ (st : Int) (k : Nat) : st * ((k + 1 : Nat) : Int) = st * k + st := by
  rw [show ((k + 1 : Nat) : Int) = (k : Int) + 1 from rfl, Int.mul_add, Int.mul_one]
abbrev sp_law_walked (K : PySem.W.Frag) : Sp := spD K 3 0 (fun es => ∃ (ns : List Int) (n st : Int) (M : Nat), es = [.dat (dicT ns), .dat (.int n), .dat (.int st)] ∧ Stops ns n st M ∧ M ≤ 700) (fun es r => ∃ (ns : List Int) (n st : Int) (M : Nat), es = [.dat (dicT ns), .dat (.int n), .dat (.int st)] ∧ Stops ns n st M ∧ r = walkR n st M)
theorem ok_law_walked {P : Program} {w : World} {K : PySem.W.Frag} {mg : Str → Option Value} {base : Heap} (T : Tx K mg) : FnG P w K mg base 2 T.a_law_walked T.d_law_walked ["closed", "at", "step"] (sp_law_walked K) := by
  have H_law_free := ok_law_free (P := P) (w := w) (base := base) T
  refine fnG_ok T.F_law_walked sc_law_walked (fun cdv A outer s H E hr hc => ⟨_, (pss_cons (ps_set (i := 3) sc_law_walked.nd rfl (Or.inl rfl) (pv 1))
      (pss_cons (ps_for PassesOwn.never rfl (pi_range1 (by rfl) T.N_range (pa_cons pe_int pa_nil)) (pg_name (i := 4) sc_law_walked.nd rfl (Or.inl rfl))
      (pss_one (ps_if (PW.pt (pw_and (pt_cmpR op_ge (pv 3) pe_int (nomark _)) (pw_and1 (pt_not (pt_val (pe_callG H_law_free hr hc (by rfl) T.G_law_free T.F_law_free.kp T.B_law_free (pa_cons (pv 0) (pa_cons (pv 3) pa_nil))))))))
      (pss_one (ps_set (i := 3) sc_law_walked.nd rfl (Or.inl rfl) (pe_op (op_addK (K := K) rfl) (pv 3) (pv 2)))) pss_nil)))
      (pss_one (ps_ret (pe_ifExp (pt_cmpR op_ge (pv 3) pe_int (nomark _)) (pv 3) pe_non))))), ?_⟩)
  rintro b I es hl ⟨ns, n, st, M, rfl, hS, hM⟩
  refine bk_letP (ev_var rfl) ?_
  refine bk_seq (C1 := 0) (C2 := 0) (N := fun ρ' => ∃ e, ρ' = [.dat (dicT ns), .dat (.int n), .dat (.int st), .dat (.int (n + st * M)), e]) ?_ ?_ (by omega)
  · refine bk_for (m := 700) (C0 := 0) (C1 := 0) (f := fun d ρ => ρ.set 4 (.dat d)) (fun _ k ρ' => ∃ e, ρ' = [.dat (dicT ns), .dat (.int n), .dat (.int st), .dat (.int (n + st * (min k M : Nat))), e])
      (iw_range1 (Pn := fun i => i = 700) (evI_of ev_int rfl) (fun i hi => by omega) fun i _ d _ => tg_name) (fun is ⟨i, hi, e⟩ => by subst e; rw [rngD_len]; omega) (fun is _ => ⟨.any, by rw [Nat.zero_min]; simp⟩) ?_ ?_ (by omega)
    · rintro is k d ρ' _ hk ⟨e, rfl⟩
      refine bk_ifP (b := decide (n + st * (min k M : Nat) ≥ 0) && !openB ns (n + st * (min k M : Nat))) (pt_and (pt_T (pv_ib (ev_var rfl) ev_int)) fun _ => pt_notD (pt_B (free_call (pa_consD (ev_var rfl) (pa_consD (ev_var rfl) ea_nil))))) (fun hb => ?_) fun hb => bk_next ⟨.dat d, ?_⟩
      · rw [Bool.and_eq_true, decide_eq_true_eq] at hb
        have hkM : k < M := by
          by_cases q : k < M
          · exact q
          · rw [Nat.min_eq_right (by omega)] at hb
            rw [hS.2 hb.1] at hb
            exact absurd hb.2 (by decide)
        rw [Nat.min_eq_left (by omega : k ≤ M)]
        refine bk_set (P := fun d => d = .int (n + st * (k + 1 : Nat))) (Pv.to (pv_addI (ev_var rfl) (ev_var rfl)) (by rw [st_succ, Int.add_assoc])) fun d' e' => ⟨.dat d, ?_⟩
        subst e'
        rw [Nat.min_eq_left (by omega : k + 1 ≤ M)]
        rfl
      · have hkM : M ≤ k := by
          by_cases q : M ≤ k
          · exact q
          · rw [Nat.min_eq_left (by omega : k ≤ M)] at hb
            obtain ⟨q1, q2⟩ := hS.1 k (by omega)
            rw [q2, decide_eq_true q1] at hb
            cases hb
        rw [Nat.min_eq_right hkM, Nat.min_eq_right (by omega : M ≤ k + 1)]
        rfl
    · rintro is ρ' ⟨i, hi, rfl⟩ ⟨e, rfl⟩
      rw [rngD_len, Nat.min_eq_right (by omega)]
      exact ⟨_, rfl⟩
  · rintro ρ' ⟨e, rfl⟩
    exact bk_retP (d := walkR n st M) (pv_if (pt_T (pv_ib (ev_var rfl) ev_int)) (fun _ => ev_var rfl) fun _ => ev_non) ⟨ns, n, st, M, rfl, hS, rfl⟩
theorem walk_call {c : Ctx} {ρ : List Ent} {tr : TA} {E : XK} {ns : List Int} {n st : Int} {M : Nat} (h : Pa c tr ρ [.dat (dicT ns), .dat (.int n), .dat (.int st)]) (hS : Stops ns n st M) (hM : M ≤ 700) : Pv c (tCall (sp_law_walked c.K) [] E tr) ρ (walkR n st M) :=
  pv_callE h rfl ⟨ns, n, st, M, rfl, hS, hM⟩ fun x ⟨ms, m, t, N, e, h2, q⟩ => by
    simp only [List.cons.injEq, Ent.dat.injEq, PyData.int.injEq] at e
    obtain ⟨e1, rfl, rfl, _⟩ := e
    rw [← dicT_inj e1] at h2
    rw [q, hS.uniq h2]
theorem next_far {ns : List Int} {n : Int} (hp : ns.Pairwise (· < ·)) (hl : ns.length ≤ 420) : nextO ns n < n + 650 := by
  obtain ⟨m, e1, e2, e3, e4, e5⟩ := ob_spec (a := n - 1) (n := 1) hp (Nat.le_refl 1)
  have h1 : nextO ns n ≤ wd (rk (n - 1) + 1 + ns.length) := e5
  have h2 : wd (rk (n - 1) + 1 + ns.length) < n + 650 := by
    unfold wd rk
    split <;> omega
  omega
theorem stops_up {ns : List Int} {n : Int} (hp : ns.Pairwise (· < ·)) (h0 : 0 ≤ n) : Stops ns n 1 (nextO ns n - n).toNat ∧ walkR n 1 (nextO ns n - n).toNat = .int (nextO ns n) := by
  obtain ⟨f1, f2, f3⟩ := next_first (n := n) hp
  have e : n + 1 * (((nextO ns n - n).toNat : Nat) : Int) = nextO ns n := by omega
  refine ⟨⟨fun j hj => ⟨by omega, f3 _ (by omega) (by omega)⟩, fun _ => by rw [e]; exact f2⟩, ?_⟩
  unfold walkR
  rw [e, decide_eq_true (by omega)]
  rfl
theorem stops_down {ns : List Int} {n : Int} (hc : Cal ns) (hl : ns.length ≤ 420) (h0 : 0 ≤ n) : ∃ M : Nat, M ≤ 700 ∧ Stops ns n (-1) M ∧ walkR n (-1) M = lastO ns n := by
  obtain ⟨a, b, c, d, e⟩ := last_spec (rising_pw hc.1) hc.2.1 h0
  by_cases q : loR ns (rk n) = 0
  · have hneg := wd_neg (r := 0) (Int.le_refl _)
    rw [q] at b e
    have hn : n ≤ 690 := by
      unfold rk at b
      split at b <;> omega
    refine ⟨(n + 1).toNat, by omega, ⟨fun j hj => ⟨by omega, e _ (by omega) (by omega)⟩, fun h => by omega⟩, ?_⟩
    unfold walkR lastO
    rw [q, decide_eq_false (by omega)]
    rfl
  · have h1 : 0 ≤ wd (loR ns (rk n)) := wd_nn (by omega)
    have h2 : n - 690 < wd (loR ns (rk n)) := by
      revert b
      generalize loR ns (rk n) = r
      intro b
      unfold rk at b
      unfold wd
      split at b <;> omega
    have ee : n + -1 * (((n - wd (loR ns (rk n))).toNat : Nat) : Int) = wd (loR ns (rk n)) := by omega
    refine ⟨(n - wd (loR ns (rk n))).toNat, by omega, ⟨fun j hj => ⟨by omega, e _ (by omega) (by omega)⟩, fun _ => by rw [ee]; exact d⟩, ?_⟩
    unfold walkR lastO
    rw [ee, decide_eq_true (by omega), if_pos rfl, if_neg (by rw [beq_iff_eq]; exact q)]
abbrev sp_law_due (K : PySem.W.Frag) : Sp := spD K 4 0 (fun es => ∃ (ns : List Int) (n m : Int) (u : Str), es = [.dat (dicT ns), .dat (.int n), .dat (.int m), .dat (.str u)] ∧ ns.Pairwise (· < ·) ∧ ns.length ≤ 420 ∧ 0 ≤ n ∧ 0 ≤ m ∧ m ≤ 400 ∧ Unit2 u) (fun es r => ∃ (ns : List Int) (n m : Int) (u : Str), es = [.dat (dicT ns), .dat (.int n), .dat (.int m), .dat (.str u)] ∧ r = .int (termE ns n m u))
theorem ok_law_due {P : Program} {w : World} {K : PySem.W.Frag} {mg : Str → Option Value} {base : Heap} (T : Tx K mg) : FnG P w K mg base 3 T.a_law_due T.d_law_due ["closed", "at", "count", "unit"] (sp_law_due K) := by
  have H_law_walked := ok_law_walked (P := P) (w := w) (base := base) T
  have H_law_free := ok_law_free (P := P) (w := w) (base := base) T
  refine fnG_ok T.F_law_due sc_law_due (fun cdv A outer s H E hr hc => ⟨_, (pss_cons (ps_if (PW.pt (pw_or (pt_cmpR (by refine op_eqK (K := K) rfl ?_; exact hr.units) (pv 3) pe_str (nomark _)) (pw_or1 (pt_cmpR (by refine op_eqK (K := K) rfl ?_; exact hr.units) (pv 2) pe_int (nomark _)))))
      (pss_one (ps_ret (pe_callG H_law_walked hr hc (by rfl) T.G_law_walked T.F_law_walked.kp T.B_law_walked (pa_cons (pv 0) (pa_cons (pe_op (op_addK (K := K) rfl) (pv 1) (pv 2)) (pa_cons pe_int pa_nil)))))) pss_nil)
      (pss_cons (ps_set (i := 4) sc_law_due.nd rfl (Or.inl rfl) pe_int)
      (pss_cons (ps_set (i := 5) sc_law_due.nd rfl (Or.inl rfl) (pv 1))
      (pss_cons (ps_for PassesOwn.never rfl (pi_range1 (by rfl) T.N_range (pa_cons pe_int pa_nil)) (pg_name (i := 6) sc_law_due.nd rfl (Or.inl rfl))
      (pss_one (ps_if (pt_cmpR op_ltA (pv 4) (pv 2) (nomark _))
      (pss_cons (ps_set (i := 5) sc_law_due.nd rfl (Or.inl rfl) (pe_op (op_addK (K := K) rfl) (pv 5) pe_int))
      (pss_one (ps_set (i := 4) sc_law_due.nd rfl (Or.inl rfl) (pe_op (op_addK (K := K) rfl) (pv 4) (pe_callTy call_int1 (by rfl) T.N_int (by decide +kernel) (pa_cons (pe_callG H_law_free (hr.mono (by decide)) hc (by rfl) T.G_law_free T.F_law_free.kp T.B_law_free (pa_cons (pv 0) (pa_cons (pv 5) pa_nil))) pa_nil)))))) pss_nil)))
      (pss_one (ps_ret (pv 5))))))), ?_⟩)
  rintro b I es hl ⟨ns, n, m, u, rfl, hp, hlen, h0, hm0, hm1, hu⟩
  refine bk_ifret (b := decide (u = "days") || m == 0) (pt_or (pt_T (pv_eqS (ev_var rfl) ev_str)) fun _ => pt_T (pv_eqI (ev_var rfl) ev_int)) (fun h => ?_) fun h => ?_
  · refine bk_retP (d := .int (termE ns n m u)) ?_ ⟨ns, n, m, u, rfl, rfl⟩
    have hN := next_far (n := n + m) hp hlen
    obtain ⟨s1, s2⟩ := stops_up (ns := ns) (n := n + m) hp (by omega)
    refine Pv.to (walk_call (pa_consD (ev_var rfl) (pa_consD (pv_addI (ev_var rfl) (ev_var rfl)) (pa_consD ev_int ea_nil))) s1 (by omega)) ?_
    rw [s2, termE, if_pos h]
  · have hm : 1 ≤ m := by
      simp only [Bool.or_eq_false_iff, beq_eq_false_iff_ne] at h
      omega
    obtain ⟨M, e1, e2, e3, e4, e5⟩ := ob_spec (a := n) (n := m.toNat) hp (by omega)
    rw [show ((m.toNat : Nat) : Int) = m by omega] at e1 e5
    have eT : termE ns n m u = n + M := by rw [termE, if_neg (by rw [h]; decide), e1]
    have hM : M ≤ 1300 := by
      have h5 : wd (rk n + m + ns.length) ≤ n + 1200 := by
        unfold wd rk
        split <;> omega
      omega
    refine bk_letP ev_int (bk_letP (ev_var rfl) ?_)
    refine bk_seq (C1 := 0) (C2 := 0) (N := fun ρ' => ∃ g e, ρ' = [.dat (dicT ns), .dat (.int n), .dat (.int m), .dat (.str u), g, .dat (.int (n + M)), e]) ?_ ?_ (by omega)
    · refine bk_for (m := 1300) (C0 := 0) (C1 := 0) (f := fun d ρ => ρ.set 6 (.dat d)) (fun _ k ρ' => ∃ e, ρ' = [.dat (dicT ns), .dat (.int n), .dat (.int m), .dat (.str u), .dat (.int (cnt ns n (min k M))), .dat (.int (n + (min k M : Nat))), e])
        (iw_range1 (Pn := fun i => i = 1300) (evI_of ev_int rfl) (fun i hi => by omega) fun i _ d _ => tg_name) (fun is ⟨i, hi, e⟩ => by subst e; rw [rngD_len]; omega) (fun is _ => ⟨.any, ?_⟩) ?_ ?_ (by omega)
      · rw [Nat.zero_min, show cnt ns n 0 = 0 from rfl]
        simp
      · rintro is k d ρ' _ hk ⟨e, rfl⟩
        refine bk_ifP (b := decide ((cnt ns n (min k M) : Int) < m)) (pt_T (pv_ltI (ev_var rfl) (ev_var rfl))) (fun hb => ?_) fun hb => bk_next ?_
        · rw [decide_eq_true_eq] at hb
          have hkM : k < M := by
            by_cases q : k < M
            · exact q
            · rw [Nat.min_eq_right (by omega), e3] at hb; omega
          have ek : min k M = k := Nat.min_eq_left (by omega)
          have ek1 : min (k + 1) M = k + 1 := Nat.min_eq_left (by omega)
          rw [ek]
          refine bk_letP (pv_addI (ev_var rfl) ev_int) ?_
          refine bk_set (P := fun d => d = .int (cnt ns n (k + 1))) ?_ fun d' e' => ⟨.dat d, ?_⟩
          · refine Pv.to (pv_addI (ev_var rfl) (pv_intB (free_call (ns := ns) (n := n + k + 1) (pa_consD (ev_var rfl) (pa_consD (ev_var rfl) ea_nil))))) ?_
            have ec : cnt ns n (k + 1) = cnt ns n k + (if openB ns (n + ((k + 1 : Nat) : Int)) = true then 1 else 0) := rfl
            rw [ec, show n + ((k + 1 : Nat) : Int) = n + k + 1 by omega]
            cases openB ns (n + k + 1) <;> simp
          · subst e'
            rw [ek1, show n + ((k + 1 : Nat) : Int) = n + k + 1 by omega]
            rfl
        · rw [decide_eq_false_iff_not] at hb
          have hkM : M ≤ k := by
            by_cases q : M ≤ k
            · exact q
            · have := cnt_below (k := k) e2 e4 (by omega)
              rw [Nat.min_eq_left (by omega)] at hb
              omega
          refine ⟨.dat d, ?_⟩
          rw [Nat.min_eq_right hkM, Nat.min_eq_right (by omega)]
          rfl
      · rintro is ρ' ⟨i, hi, rfl⟩ ⟨e, rfl⟩
        rw [rngD_len, Nat.min_eq_right (by omega)]
        exact ⟨_, _, rfl⟩
    · rintro ρ' ⟨g, e, rfl⟩
      exact bk_retP (ev_var rfl) ⟨ns, n, m, u, rfl, by rw [eT]⟩
theorem due_call {c : Ctx} {ρ : List Ent} {tr : TA} {E : XK} {ns : List Int} {n m : Int} {u : Str} (h : Pa c tr ρ [.dat (dicT ns), .dat (.int n), .dat (.int m), .dat (.str u)]) (hp : ns.Pairwise (· < ·)) (hlen : ns.length ≤ 420) (h0 : 0 ≤ n) (hm0 : 0 ≤ m) (hm1 : m ≤ 400) (hu : Unit2 u) : Pv c (tCall (sp_law_due c.K) [] E tr) ρ (.int (termE ns n m u)) :=
  pv_callE h rfl ⟨ns, n, m, u, rfl, hp, hlen, h0, hm0, hm1, hu⟩ fun x ⟨ms, k, j, v, e, q⟩ => by
    simp only [List.cons.injEq, Ent.dat.injEq, PyData.int.injEq, PyData.str.injEq] at e
    obtain ⟨e1, rfl, rfl, rfl, _⟩ := e
    rw [q, dicT_inj e1]
/-! ### put in twice, exchanged -/
theorem cut_to {xs : List PyData} (k : Nat) : cutD xs none (some (k : Int)) = xs.take k := by
  unfold cutD
  rw [HT.sIx_none, HT.sIx_nat, List.drop_zero, Nat.sub_zero]
  by_cases h : k ≤ xs.length
  · rw [Nat.min_eq_left h]
  · rw [Nat.min_eq_right (by omega), List.take_of_length_le (Nat.le_refl _), List.take_of_length_le (by omega)]
theorem cut_from {xs : List PyData} (k : Nat) : cutD xs (some (k : Int)) none = xs.drop k := by
  unfold cutD
  rw [HT.sIx_none, HT.sIx_nat]
  by_cases h : k ≤ xs.length
  · rw [Nat.min_eq_left h]
    exact List.take_of_length_le (by rw [List.length_drop]; exact Nat.le_refl _)
  · rw [Nat.min_eq_right (by omega), List.drop_of_length_le (Nat.le_refl _), List.drop_of_length_le (by omega)]
    exact List.take_nil
theorem cut_one {xs : List PyData} (k : Nat) : cutD xs (some (k : Int)) (some ((k : Int) + 1)) = (xs.drop k).take 1 := by
  unfold cutD
  rw [show ((k : Int) + 1) = ((k + 1 : Nat) : Int) from rfl, HT.sIx_nat, HT.sIx_nat]
  by_cases h : k + 1 ≤ xs.length
  · rw [Nat.min_eq_left h, Nat.min_eq_left (by omega), Nat.add_sub_cancel_left]
  · rw [Nat.min_eq_right (by omega : xs.length ≤ k + 1)]
    by_cases h2 : k = xs.length
    · subst h2
      rw [Nat.min_self, Nat.sub_self, List.drop_length]
      rfl
    · rw [Nat.min_eq_right (by omega), Nat.sub_self, List.drop_length, List.drop_of_length_le (by omega)]
      rfl
theorem not_pw {ns : List Int} (h : ¬ ns.Pairwise (· < ·)) : risingI ns = false := by
  cases q : risingI ns with
  | false => rfl
  | true => exact absurd (rising_pw q) h
theorem split_at {ns : List Int} {k : Nat} (h : k < ns.length) : ns.drop k = ns[k] :: ns.drop (k + 1) := List.drop_eq_getElem_cons h
theorem twice_not {ns : List Int} {k : Nat} (h : k < ns.length) : risingI (ns.take (k + 1) ++ ns.drop k) = false := not_pw fun q => by
  have h2 := (List.pairwise_append.mp q).2.2 ns[k] (by rw [List.take_succ_eq_append_getElem h]; exact List.mem_append.mpr (.inr List.mem_cons_self)) ns[k] (by rw [split_at h]; exact List.mem_cons_self)
  omega
theorem turned_is {ns : List Int} (hp : ns.Pairwise (· < ·)) {k : Nat} (h : k < ns.length) : risingI (ns.take k ++ ((ns.drop (k + 1)).take 1 ++ (ns.drop k).take 1) ++ ns.drop (k + 2)) = decide (k + 1 = ns.length) := by
  by_cases e : k + 1 = ns.length
  · rw [decide_eq_true e, List.drop_of_length_le (by omega : ns.length ≤ k + 1), List.drop_of_length_le (by omega : ns.length ≤ k + 2), split_at h, List.append_nil]
    have e2 : ns.take k ++ (List.take 1 [] ++ List.take 1 (ns[k] :: ns.drop (k + 1))) = ns := by
      have e3 := List.take_append_drop k ns
      rw [split_at h, List.drop_of_length_le (by omega : ns.length ≤ k + 1)] at e3
      exact e3
    rw [e2]
    exact pw_rising hp
  · rw [decide_eq_false e]
    have h1 : k + 1 < ns.length := by omega
    refine not_pw fun q => ?_
    rw [split_at h, split_at h1] at q
    have q1 := (List.pairwise_append.mp (List.pairwise_append.mp q).1).2.1
    have q2 := (List.pairwise_append.mp q1).2.2 ns[k + 1] List.mem_cons_self ns[k] List.mem_cons_self
    have q3 := List.pairwise_iff_getElem.mp hp k (k + 1) h h1 (by omega)
    omega
theorem cal_call {c : Ctx} {ρ : List Ent} {tr : TA} {E : XK} {ns : List Int} (h : Pa c tr ρ [.dat (cD ns)]) (h0 : ∀ n ∈ ns, 0 ≤ n) (hl : ns.length < sizeLine) : Pv c (tCall (sp_is_calendar c.K) [] E tr) ρ (.bool (risingI ns)) :=
  Pv.to (pv_callE h rfl ⟨_, rfl, fun ds e => by cases e; rw [List.length_map]; exact hl⟩ fun x ⟨d', e, q⟩ => by cases e; exact q) (by
    show PyData.bool ((ns.map PyData.int).all dayD && risingI ((ns.map PyData.int).map intOf)) = _
    rw [map_intOf]
    have : (ns.map PyData.int).all dayD = true := by
      rw [List.all_eq_true]
      intro d hd
      obtain ⟨n, hn, rfl⟩ := List.mem_map.mp hd
      rw [dayD_int]
      exact decide_eq_true (h0 n hn)
    rw [this, Bool.true_and])
abbrev sp_law_judged (K : PySem.W.Frag) : Sp := spD K 2 1 (fun es => ∃ ns : List Int, es = [.bag, .dat (cD ns)] ∧ Cal ns ∧ 1 ≤ ns.length ∧ ns.length ≤ 420) (fun _ r => r = .bool true)
theorem ok_law_judged {P : Program} {w : World} {K : PySem.W.Frag} {mg : Str → Option Value} {base : Heap} (T : Tx K mg) : FnG P w K mg base 4 T.a_law_judged T.d_law_judged ["bag", "cal"] (sp_law_judged K) := by
  have H_law_dip := ok_law_dip (P := P) (w := w) (base := base) T
  have H_is_calendar := ok_is_calendar (P := P) (w := w) (base := base) T
  refine fnG_ok T.F_law_judged sc_law_judged (fun cdv A outer s H E hr hc => ⟨_, (pss_cons (ps_set (i := 2) sc_law_judged.nd rfl (Or.inl rfl) (pe_callG H_law_dip (hr.mono (by decide)) hc (by rfl) T.G_law_dip T.F_law_dip.kp T.B_law_dip (pa_cons (pv 0) (pa_cons (pe_callB (call_lenK (K := K) rfl) (by rfl) T.N_len (by decide +kernel) (pa_cons (pv 1) pa_nil)) pa_nil))))
      (pss_cons (ps_if (PW.pt (pw_or (pt_cmpR op_isnot_bl (pe_callG H_is_calendar hr hc (by rfl) T.G_is_calendar T.F_is_calendar.kp T.B_is_calendar (pa_cons (pv 1) pa_nil)) pe_bl (nomark _)) (pw_or1 (pt_cmpR op_isnot_bl (pe_callG H_is_calendar hr hc (by rfl) T.G_is_calendar T.F_is_calendar.kp T.B_is_calendar (pa_cons (pe_op (op_addK (K := K) rfl) (pe_slice (sl_K (K := K) rfl) (pv 1) po_none (po_some (pe_op (op_addK (K := K) rfl) (pv 2) pe_int))) (pe_slice (sl_K (K := K) rfl) (pv 1) (po_some (pv 2)) po_none)) pa_nil)) pe_bl (nomark _)))))
      (pss_one (ps_ret pe_bl)) pss_nil)
      (pss_cons (ps_set (i := 3) sc_law_judged.nd rfl (Or.inl rfl) (pe_op (op_addK (K := K) rfl) (pe_slice (sl_K (K := K) rfl) (pv 1) (po_some (pe_op (op_addK (K := K) rfl) (pv 2) pe_int)) (po_some (pe_op (op_addK (K := K) rfl) (pv 2) pe_int))) (pe_slice (sl_K (K := K) rfl) (pv 1) (po_some (pv 2)) (po_some (pe_op (op_addK (K := K) rfl) (pv 2) pe_int)))))
      (pss_cons (ps_set (i := 4) sc_law_judged.nd rfl (Or.inl rfl) (pe_op (op_addK (K := K) rfl) (pe_op (op_addK (K := K) rfl) (pe_slice (sl_K (K := K) rfl) (pv 1) po_none (po_some (pv 2))) (pv 3)) (pe_slice (sl_K (K := K) rfl) (pv 1) (po_some (pe_op (op_addK (K := K) rfl) (pv 2) pe_int)) po_none)))
      (pss_one (ps_ret (pe_cmpR (by refine op_eqK (K := K) rfl ?_; exact hr.units) (pe_callG H_is_calendar hr hc (by rfl) T.G_is_calendar T.F_is_calendar.kp T.B_is_calendar (pa_cons (pv 4) pa_nil)) (pe_cmpR (by refine op_eqK (K := K) rfl ?_; exact hr.units) (pe_op (op_addK (K := K) rfl) (pv 2) pe_int) (pe_callB (call_lenK (K := K) rfl) (by rfl) T.N_len (by decide +kernel) (pa_cons (pv 1) pa_nil)) (nomark _)) (nomark _)))))))), ?_⟩)
  rintro b I es hl ⟨ns, rfl, hc, hl1, hl2⟩
  have hp := rising_pw hc.1
  refine bk_let (C1 := 1) (C2 := 0) (P := fun d => ∃ x : Int, d = .int x ∧ 0 ≤ x ∧ x < ns.length) (dip_in (m := ns.length) rfl (Pv.to (pv_cb (pa_consD (ev_var rfl) ea_nil) rda_lenT) (by rw [List.length_map])) (by omega) (by omega) fun r a b => ⟨a, b⟩) ?_ (by omega)
  rintro d ⟨x, rfl, hx0, hx1⟩
  obtain ⟨k, rfl⟩ : ∃ k : Nat, x = k := ⟨x.toNat, by omega⟩
  have hk : k < ns.length := by omega
  have z : ∀ {n : Nat}, n ≤ 100000 → n ≤ sizeLine := fun h => Nat.le_of_lt (small100k h)
  have tl : ∀ (a : Nat) (xs : List Int), (xs.take a).length ≤ xs.length := fun a xs => by rw [List.length_take]; omega
  have dl : ∀ (a : Nat) (xs : List Int), (xs.drop a).length ≤ xs.length := fun a xs => by rw [List.length_drop]; omega
  have nn : ∀ xs : List Int, (∀ y ∈ xs, y ∈ ns) → ∀ y ∈ xs, 0 ≤ y := fun xs h y hy => hc.2.1 y (h y hy)
  have im : ∀ (a : Nat) (xs : List Int), (xs.map PyData.int).take a = (xs.take a).map .int := fun a xs => (List.map_take ..).symm
  have idp : ∀ (a : Nat) (xs : List Int), (xs.map PyData.int).drop a = (xs.drop a).map .int := fun a xs => (List.map_drop ..).symm
  have ip : ∀ xs ys : List Int, xs.map PyData.int ++ ys.map PyData.int = (xs ++ ys).map .int := fun xs ys => List.map_append.symm
  refine bk_ifret (b := false) (Pt.to (pt_or (a := false) (b := false) (pt_T (Pv.to (pv_isnotB (a := risingI ns) (b := true) (cal_call (pa_consD (ev_var rfl) ea_nil) hc.2.1 hc.2.2) ev_bl) (by rw [hc.1]; rfl))) fun _ => pt_T (Pv.to (pv_isnotB (a := risingI (ns.take (k + 1) ++ ns.drop k)) (b := false) (cal_call (ns := ns.take (k + 1) ++ ns.drop k) (pa_consD (Pv.to (pv_addT (ds := (ns.take (k + 1)).map .int) (es := (ns.drop k).map .int) (Pv.to (pv_cutT (ev_var rfl) pp_no (pp_some (pv_addI (ev_var rfl) ev_int))) ?_) (Pv.to (pv_cutT (ev_var rfl) (pp_some (ev_var rfl)) pp_no) ?_) ?_) ?_) ea_nil) ?_ ?_) ev_bl) ?_)) rfl) (fun e => nomatch e) fun _ => ?_
  · rw [show ((k : Int) + 1) = ((k + 1 : Nat) : Int) from rfl, cut_to, im]
  · rw [cut_from, idp]
  · rw [List.length_map, List.length_map]
    have a1 := tl (k + 1) ns
    have a2 := dl k ns
    exact z (by omega)
  · rw [ip]
  · exact nn _ fun y hy => (List.mem_append.mp hy).elim List.mem_of_mem_take List.mem_of_mem_drop
  · rw [List.length_append]
    have a1 := tl (k + 1) ns
    have a2 := dl k ns
    exact small100k (by omega)
  · rw [twice_not hk]; rfl
  refine bk_letP (d := cD ((ns.drop (k + 1)).take 1 ++ (ns.drop k).take 1)) (Pv.to (pv_addT (ds := ((ns.drop (k + 1)).take 1).map .int) (es := ((ns.drop k).take 1).map .int) (Pv.to (pv_cutT (ev_var rfl) (pp_some (pv_addI (ev_var rfl) ev_int)) (pp_some (pv_addI (ev_var rfl) ev_int))) ?_) (Pv.to (pv_cutT (ev_var rfl) (pp_some (ev_var rfl)) (pp_some (pv_addI (ev_var rfl) ev_int))) ?_) ?_) ?_) ?_
  · rw [show ((k : Int) + 2) = ((k + 1 : Nat) : Int) + 1 by omega, show ((k : Int) + 1) = ((k + 1 : Nat) : Int) from rfl, cut_one, idp, im]
  · rw [cut_one, idp, im]
  · rw [List.length_map, List.length_map, List.length_take, List.length_take]
    exact z (by omega)
  · rw [ip]
  refine bk_letP (d := cD (ns.take k ++ ((ns.drop (k + 1)).take 1 ++ (ns.drop k).take 1) ++ ns.drop (k + 2))) (Pv.to (pv_addT (ds := (ns.take k ++ ((ns.drop (k + 1)).take 1 ++ (ns.drop k).take 1)).map .int) (es := (ns.drop (k + 2)).map .int) (Pv.to (pv_addT (ds := (ns.take k).map .int) (es := ((ns.drop (k + 1)).take 1 ++ (ns.drop k).take 1).map .int) (Pv.to (pv_cutT (ev_var rfl) pp_no (pp_some (ev_var rfl))) ?_) (ev_var rfl) ?_) ?_) (Pv.to (pv_cutT (ev_var rfl) (pp_some (pv_addI (ev_var rfl) ev_int)) pp_no) ?_) ?_) ?_) ?_
  · rw [cut_to, im]
  · rw [List.length_map, List.length_map, List.length_append, List.length_take, List.length_take, List.length_take]
    exact z (by omega)
  · rw [ip]
  · rw [show ((k : Int) + 2) = ((k + 2 : Nat) : Int) from rfl, cut_from, idp]
  · simp only [List.length_map, List.length_append, List.length_take, List.length_drop]
    exact z (by omega)
  · rw [ip]
  refine bk_retP (d := .bool true) (Pv.to (pv_eqB (cal_call (pa_consD (ev_var rfl) ea_nil) ?_ ?_) (Pv.to (pv_eqI (pv_addI (ev_var rfl) ev_int) (Pv.to (pv_cb (pa_consD (ev_var rfl) ea_nil) rda_lenT) (by rw [List.length_map]))) rfl)) ?_) rfl
  · refine nn _ fun y hy => ?_
    rcases List.mem_append.mp hy with q | q
    · rcases List.mem_append.mp q with q | q
      · exact List.mem_of_mem_take q
      · exact (List.mem_append.mp q).elim (fun q => List.mem_of_mem_drop (List.mem_of_mem_take q)) fun q => List.mem_of_mem_drop (List.mem_of_mem_take q)
    · exact List.mem_of_mem_drop q
  · simp only [List.length_append, List.length_take, List.length_drop]
    exact small100k (by omega)
  · rw [turned_is hp hk]
    refine congrArg PyData.bool ?_
    rw [beq_iff_eq]
    by_cases e : k + 1 = ns.length
    · rw [decide_eq_true e, eq_comm, beq_iff_eq]; omega
    · rw [decide_eq_false e, eq_comm, beq_eq_false_iff_ne]; omega
abbrev sp_law_right (K : PySem.W.Frag) : Sp := spD K 1 900 (fun es => es = [.bag]) (fun _ r => r = .bool true)
theorem ok_law_right {P : Program} {w : World} {K : PySem.W.Frag} {mg : Str → Option Value} {base : Heap} (T : Tx K mg) : FnG P w K mg base 6 T.a_law_right T.d_law_right ["bag"] (sp_law_right K) := by
  have H_law_long := ok_law_long (P := P) (w := w) (base := base) T
  have H_law_judged := ok_law_judged (P := P) (w := w) (base := base) T
  have H_law_dip := ok_law_dip (P := P) (w := w) (base := base) T
  have H_is_open := ok_is_open (P := P) (w := w) (base := base) T
  have H_law_free := ok_law_free (P := P) (w := w) (base := base) T
  have H_next_open := ok_next_open (P := P) (w := w) (base := base) T
  have H_law_walked := ok_law_walked (P := P) (w := w) (base := base) T
  have H_last_open := ok_last_open (P := P) (w := w) (base := base) T
  have H_end := ok_end (P := P) (w := w) (base := base) T
  have H_law_due := ok_law_due (P := P) (w := w) (base := base) T
  refine fnG_ok T.F_law_right sc_law_right (fun cdv A outer s H E hr hc => ⟨_, (pss_cons (ps_set (i := 1) sc_law_right.nd rfl (Or.inl rfl) (pe_callG H_law_long (hr.mono (by decide)) hc (by rfl) T.G_law_long T.F_law_long.kp T.B_law_long (pa_cons (pv 0) pa_nil)))
      (pss_cons (ps_set (i := 2) sc_law_right.nd rfl (Or.inl rfl) (pe_callB (by refine call_reprD (K := K) rfl ?_ hc; exact hr.units) (by rfl) T.N_repr (by decide +kernel) (pa_cons (pv 1) pa_nil)))
      (pss_cons (ps_set (i := 3) sc_law_right.nd rfl (Or.inl rfl) (pe_callTy (call_dictPK (K := K) rfl rfl) (by rfl) T.N_dict (by decide +kernel) (pa_cons (pe_lc (own := [("one", 10)]) (g := (gName 10)) rfl sc_law_right.nd (pi_seqK (K := K) rfl (pv 1)) (blkOk_by (own := [("one", 10)]) (N := ["bag", "cal", "kept", "closed", "turn", "at", "found", "due", "count", "unit", "one"]) (sc := defScope s_law_right) (by decide +kernel)) (fun _ _ _ _ _ => (pg_name (i := 10) sc_law_right.nd rfl (Or.inl rfl))) (fun _ _ _ _ _ => pts_nil) (fun _ _ _ _ _ => (pe_tup (pa_cons (pv 10) (pa_cons pe_bl pa_nil))))) pa_nil)))
      (pss_cons (ps_if (pt_not (pt_val (pe_callG H_law_judged (hr.mono (by decide)) hc (by rfl) T.G_law_judged T.F_law_judged.kp T.B_law_judged (pa_cons (pv 0) (pa_cons (pv 1) pa_nil)))))
      (pss_one (ps_ret pe_bl)) pss_nil)
      (pss_cons (ps_for PassesOwn.never rfl (pi_range1 (by rfl) T.N_range (pa_cons pe_int pa_nil)) (pg_name (i := 4) sc_law_right.nd rfl (Or.inl rfl))
      (pss_cons (ps_set (i := 5) sc_law_right.nd rfl (Or.inl rfl) (pe_callB (call_max2 rfl) (by rfl) T.N_max (by decide +kernel) (pa_cons pe_int (pa_cons (pe_op op_sub (pe_op (op_addK (K := K) rfl) (pe_ix (ix_K (K := K) rfl) (pv 1) (pe_callG H_law_dip (hr.mono (by decide)) hc (by rfl) T.G_law_dip T.F_law_dip.kp T.B_law_dip (pa_cons (pv 0) (pa_cons (pe_callB (call_lenK (K := K) rfl) (by rfl) T.N_len (by decide +kernel) (pa_cons (pv 1) pa_nil)) pa_nil))) (fun _ _ => rfl)) (pe_callG H_law_dip (hr.mono (by decide)) hc (by rfl) T.G_law_dip T.F_law_dip.kp T.B_law_dip (pa_cons (pv 0) (pa_cons pe_int pa_nil)))) pe_int) pa_nil))))
      (pss_cons (ps_if (PW.pt (pw_or (pt_cmpR (by refine op_neK (K := K) rfl ?_; exact hr.units) (pe_callG H_is_open hr hc (by rfl) T.G_is_open T.F_is_open.kp T.B_is_open (pa_cons (pv 1) (pa_cons (pv 5) pa_nil))) (pe_callG H_law_free (hr.mono (by decide)) hc (by rfl) T.G_law_free T.F_law_free.kp T.B_law_free (pa_cons (pv 3) (pa_cons (pv 5) pa_nil))) (nomark _)) (pw_or1 (pt_cmpR (by refine op_neK (K := K) rfl ?_; exact hr.units) (pe_callG H_next_open hr hc (by rfl) T.G_next_open T.F_next_open.kp T.B_next_open (pa_cons (pv 1) (pa_cons (pv 5) pa_nil))) (pe_callG H_law_walked (hr.mono (by decide)) hc (by rfl) T.G_law_walked T.F_law_walked.kp T.B_law_walked (pa_cons (pv 3) (pa_cons (pv 5) (pa_cons pe_int pa_nil)))) (nomark _)))))
      (pss_one (ps_ret pe_bl)) pss_nil)
      (pss_cons (ps_set (i := 6) sc_law_right.nd rfl (Or.inl rfl) (pe_callG H_last_open hr hc (by rfl) T.G_last_open T.F_last_open.kp T.B_last_open (pa_cons (pv 1) (pa_cons (pv 5) pa_nil))))
      (pss_cons (ps_set (i := 7) sc_law_right.nd rfl (Or.inl rfl) (pe_callG H_law_walked (hr.mono (by decide)) hc (by rfl) T.G_law_walked T.F_law_walked.kp T.B_law_walked (pa_cons (pv 3) (pa_cons (pv 5) (pa_cons (pe_un un_neg pe_int) pa_nil)))))
      (pss_cons (ps_if (PW.pt (pw_or (pt_cmpR (by refine op_neK (K := K) rfl ?_; exact hr.units) (pv 6) (pv 7) (nomark _)) (pw_or1 (pt_cmpR (by refine op_neK (K := K) rfl ?_; exact hr.units) (pe_cmp (pc_isN (pv 6)) rfl) (pe_cmp (pc_isN (pv 7)) rfl) (nomark _)))))
      (pss_one (ps_ret pe_bl)) pss_nil)
      (pss_cons (ps_set (i := 8) sc_law_right.nd rfl (Or.inl rfl) (pe_ix (ix_K (K := K) rfl) (pe_lst (pa_cons (pe_callG H_law_dip (hr.mono (by decide)) hc (by rfl) T.G_law_dip T.F_law_dip.kp T.B_law_dip (pa_cons (pv 0) (pa_cons pe_int pa_nil))) (pa_cons (pe_callG H_law_dip (hr.mono (by decide)) hc (by rfl) T.G_law_dip T.F_law_dip.kp T.B_law_dip (pa_cons (pv 0) (pa_cons pe_int pa_nil))) (pa_cons (pe_callG H_law_dip (hr.mono (by decide)) hc (by rfl) T.G_law_dip T.F_law_dip.kp T.B_law_dip (pa_cons (pv 0) (pa_cons pe_int pa_nil))) pa_nil)))) (pe_callG H_law_dip (hr.mono (by decide)) hc (by rfl) T.G_law_dip T.F_law_dip.kp T.B_law_dip (pa_cons (pv 0) (pa_cons pe_int pa_nil))) (fun _ _ => rfl)))
      (pss_cons (ps_set (i := 9) sc_law_right.nd rfl (Or.inl rfl) (pe_ix (ix_K (K := K) rfl) (pe_lst (pa_cons pe_str (pa_cons pe_str pa_nil))) (pe_callG H_law_dip (hr.mono (by decide)) hc (by rfl) T.G_law_dip T.F_law_dip.kp T.B_law_dip (pa_cons (pv 0) (pa_cons pe_int pa_nil))) (fun _ _ => rfl)))
      (pss_one (ps_if (pt_cmpR (by refine op_neK (K := K) rfl ?_; exact hr.units) (pe_callG H_end hr hc (by rfl) T.G_end T.F_end.kp T.B_end (pa_cons (pv 1) (pa_cons (pv 5) (pa_cons (pe_tup (pa_cons (pv 8) (pa_cons (pv 9) pa_nil))) pa_nil)))) (pe_callG H_law_due (hr.mono (by decide)) hc (by rfl) T.G_law_due T.F_law_due.kp T.B_law_due (pa_cons (pv 3) (pa_cons (pv 5) (pa_cons (pv 8) (pa_cons (pv 9) pa_nil))))) (nomark _))
      (pss_one (ps_ret pe_bl)) pss_nil))))))))))
      (pss_one (ps_ret (pe_cmpR (by refine op_eqK (K := K) rfl ?_; exact hr.units) (pe_callB (by refine call_reprD (K := K) rfl ?_ hc; exact hr.units) (by rfl) T.N_repr (by decide +kernel) (pa_cons (pv 1) pa_nil)) (pv 2) (nomark _))))))))), ?_⟩)
  rintro b I es hl rfl
  refine bk_let (C1 := 700) (C2 := 200) (ev_call (C1 := 0) (C2 := 700) (pa_bag rfl ea_nil) (fun es e => by subst e; exact ⟨rfl, rfl⟩) (fun es d e q => q) (by omega)) ?_ (by omega)
  rintro d ⟨ns, rfl, hc, hl1, hl2, hmax⟩
  have hns : ∀ m ∈ ns, 0 ≤ m ∧ m ≤ 1000000 := fun m hm => ⟨hc.2.1 m hm, by have := hmax m hm; omega⟩
  have hp := rising_pw hc.1
  have hnd : ns.Nodup := hp.imp fun h => by omega
  refine bk_letP (repr_cal (ev_var rfl) hns (by omega)) ?_
  refine bk_letP (d := dicT ns) (pv_dictP (Pv.to (pv_map (vs := [10]) (f := fun d ρ => ρ.set 10 (.dat d)) (fun d => .tuple [.int (intOf d), .bool true]) (iw_st (Pi := fun x => x = ns.map .int) (it_var rfl) fun _ _ d _ => tg_name) (fun d hd => by
    obtain ⟨n, _, rfl⟩ := List.mem_map.mp hd
    exact pv_tup (ds := [.int n, .bool true]) (pa_consD (ev_var rfl) (pa_consD ev_bl ea_nil))) (by rw [List.length_map]; exact hc.2.2)) (by rw [List.map_map]; rfl)) hnd) ?_
  refine bk_seq (C1 := 1) (C2 := 100) (N := fun ρ' => ρ' = [.bag, .dat (cD ns), .dat (.str (cD ns).shown), .dat (dicT ns), .any, .any, .any, .any, .any, .any, .any]) ?_ ?_ (by omega)
  · exact bk_if (C1 := 1) (C2 := 0) (et_notB (a := true) (ev_call (C1 := 0) (C2 := 1) (pa_bag rfl (pa_consD (ev_var rfl) ea_nil)) (fun es e => by subst e; exact ⟨rfl, ns, rfl, hc, hl1, hl2⟩) (fun es d e q => q) (by omega))) (fun e => nomatch e) (fun _ => bk_next rfl) (by omega)
  rintro ρ' rfl
  refine bk_seq (C1 := 40) (C2 := 0) (N := fun ρ' => ∃ x4 x5 x6 x7 x8 x9 x10, ρ' = [.bag, .dat (cD ns), .dat (.str (cD ns).shown), .dat (dicT ns), x4, x5, x6, x7, x8, x9, x10]) ?_ ?_ (by omega)
  · refine bk_for (m := 4) (C0 := 0) (C1 := 10) (f := fun d ρ => ρ.set 4 (.dat d)) (fun _ _ ρ' => ∃ x4 x5 x6 x7 x8 x9 x10, ρ' = [.bag, .dat (cD ns), .dat (.str (cD ns).shown), .dat (dicT ns), x4, x5, x6, x7, x8, x9, x10])
      (iw_range1 (Pn := fun i => i = 4) (evI_of ev_int rfl) (fun i hi => by omega) fun i _ d _ => tg_name) (fun is ⟨i, hi, e⟩ => by subst e; rw [rngD_len]; omega) (fun is e => ⟨_, _, _, _, _, _, _, rfl⟩) ?_ (fun is ρ' e h => h) (by omega)
    rintro is k d ρ' _ _ ⟨x4, x5, x6, x7, x8, x9, x10, rfl⟩
    refine bk_let (C1 := 2) (C2 := 8) (P := fun d => ∃ n : Int, d = .int n ∧ 0 ≤ n ∧ n ≤ 100005) (evI_max (C1 := 0) (C2 := 2) (R1 := fun x => x = 0) (R2 := fun x => x ≤ 100005) (evI_of ev_int rfl) (evI_op0 (C1 := 2) (C2 := 0) (R1 := fun x => x ≤ 100008) (R2 := fun x => x = 4) (evI_add (C1 := 1) (C2 := 1) (R1 := fun x => x ≤ 100000) (R2 := fun x => 0 ≤ x ∧ x < 9) (ev_pickT (C1 := 0) (C2 := 1) (m := ns.length) ((ev_var rfl).imp (Nat.le_refl _) fun d e => ⟨ns.map .int, e, by rw [List.length_map], fun x hx => by
        obtain ⟨n, hn', rfl⟩ := List.mem_map.mp hx
        exact ⟨n, rfl, hmax n hn'⟩⟩) (dip_in (m := ns.length) rfl (Pv.to (pv_cb (pa_consD (ev_var rfl) ea_nil) rda_lenT) (by rw [List.length_map])) (by omega) (by omega) fun r a b => ⟨a, b⟩) (by omega)) (dip_in rfl ev_int (by decide) (by decide) fun r a b => ⟨a, b⟩) (fun i j h1 h2 => by omega) (by omega)) (evI_of ev_int rfl) (fun i j h1 h2 => by omega) (by omega)) (fun i j h1 h2 => by subst h1; split <;> omega) (by omega)) ?_ (by omega)
    rintro d1 ⟨n, rfl, h0, h1⟩
    have hN := next_far (n := n) hp hl2
    obtain ⟨s1, s2⟩ := stops_up (ns := ns) (n := n) hp h0
    obtain ⟨M, m1, m2, m3⟩ := stops_down hc hl2 h0
    refine bk_ifret (b := false) (Pt.to (pt_or (pt_T (pv_neB (open_call (pa_consD (ev_var rfl) (pa_consD (ev_var rfl) ea_nil)) hc h0) (free_call (pa_consD (ev_var rfl) (pa_consD (ev_var rfl) ea_nil))))) fun _ => pt_T (pv_neI (next_call (pa_consD (ev_var rfl) (pa_consD (ev_var rfl) ea_nil)) hc h0) (Pv.to (walk_call (pa_consD (ev_var rfl) (pa_consD (ev_var rfl) (pa_consD ev_int ea_nil))) s1 (by omega)) s2))) (by simp)) (fun e => nomatch e) fun _ => ?_
    refine bk_letP (last_call (pa_consD (ev_var rfl) (pa_consD (ev_var rfl) ea_nil)) hc h0) ?_
    refine bk_letP (d := lastO ns n) (Pv.to (walk_call (pa_consD (ev_var rfl) (pa_consD (ev_var rfl) (pa_consD (pv_neg ev_int) ea_nil))) m2 m1) m3) ?_
    refine bk_ifret (b := false) (Pt.to (pt_or (pt_T (pv_ne (ev_var rfl) (ev_var rfl) okD_last.1 okD_last.1)) fun _ => pt_T (pv_neB (pv_isN (d := lastO ns n) (ev_var rfl)) (pv_isN (d := lastO ns n) (ev_var rfl)))) (by rw [okD_last.2]; simp)) (fun e => nomatch e) fun _ => ?_
    refine bk_let (C1 := 4) (C2 := 4) (P := fun d => ∃ m : Int, d = .int m ∧ 0 ≤ m ∧ m ≤ 400) (ev_pick (C1 := 3) (C2 := 1) (m := 3) (ev_menu (by decide) (ea_draws (C1 := 1) (C2 := 2) (dip_in rfl ev_int (by decide) (by decide) fun r a b => by omega) (ea_draws (C1 := 1) (C2 := 1) (dip_in rfl ev_int (by decide) (by decide) fun r a b => by omega) (ea_draws (C1 := 1) (C2 := 0) (dip_in rfl ev_int (by decide) (by decide) fun r a b => by omega) ea_drawn0 (by omega)) (by omega)) (by omega)))
      (dip_in rfl ev_int (by decide) (by decide) fun r a b => ⟨a, b⟩) (by omega)) ?_ (by omega)
    rintro d2 ⟨m, rfl, hm0, hm1⟩
    refine bk_let (C1 := 1) (C2 := 3) (P := fun d => ∃ u : Str, d = .str u ∧ Unit2 u) (ev_pick (C1 := 0) (C2 := 1) (m := 2) (ev_menu (by decide) (ea_draws (C1 := 0) (C2 := 0) (ev_str.imp (Nat.le_refl _) fun d e => ⟨_, e, .inl rfl⟩) (ea_draws (C1 := 0) (C2 := 0) (ev_str.imp (Nat.le_refl _) fun d e => ⟨_, e, .inr rfl⟩) ea_drawn0 (by omega)) (by omega)))
      (dip_in rfl ev_int (by decide) (by decide) fun r a b => ⟨a, b⟩) (by omega)) ?_ (by omega)
    rintro d3 ⟨u, rfl, hu⟩
    refine bk_ifP (b := false) (Pt.to (pt_T (pv_neI (pv_callE (d := .int (termE ns n m u)) (pa_consD (ev_var rfl) (pa_consD (ev_var rfl) (pa_consD (pv_tup (ds := [.int m, .str u]) (pa_consD (ev_var rfl) (pa_consD (ev_var rfl) ea_nil))) ea_nil))) rfl ⟨ns, n, m, u, rfl, hc, h0, hm0, hu⟩ fun x h => end_post h) (due_call (pa_consD (ev_var rfl) (pa_consD (ev_var rfl) (pa_consD (ev_var rfl) (pa_consD (ev_var rfl) ea_nil)))) hp hl2 h0 hm0 hm1 hu))) (by rw [beq_self_eq_true]; rfl)) (fun e => nomatch e) fun _ => bk_next ⟨_, _, _, _, _, _, _, rfl⟩
  · rintro ρ' ⟨x4, x5, x6, x7, x8, x9, x10, rfl⟩
    exact bk_retP (Pv.to (pv_eqS (repr_cal (ev_var rfl) hns (by omega)) (ev_var rfl)) (by rw [decide_eq_true rfl])) rfl
abbrev sp_law (K : PySem.W.Frag) : Sp := spTop K
theorem ok_law {P : Program} {w : World} {K : PySem.W.Frag} {mg : Str → Option Value} {base : Heap} (T : Tx K mg) : FnG P w K mg base 7 T.a_law T.d_law ["script"] (sp_law K) := by
  have H_law_right := ok_law_right (P := P) (w := w) (base := base) T
  have H_law_bag := ok_law_bag (P := P) (w := w) (base := base) T
  have H_law_cell_at := ok_law_cell_at (P := P) (w := w) (base := base) T
  refine fnG_ok T.F_law sc_law (fun cdv A outer s H E hr hc => ⟨_, (pss_cons (ps_for PassesOwn.never rfl (pi_range1 (by rfl) T.N_range (pa_cons (pe_callB (call_max2 rfl) (by rfl) T.N_max (by decide +kernel) (pa_cons pe_int (pa_cons (pe_callB (call_min2 rfl) (by rfl) T.N_min (by decide +kernel) (pa_cons pe_int (pa_cons (pe_callB (call_lenK (K := K) rfl) (by rfl) T.N_len (by decide +kernel) (pa_cons (pv 0) pa_nil)) pa_nil))) pa_nil))) pa_nil)) (pg_name (i := 1) sc_law.nd rfl (Or.inl rfl))
      (pss_one (ps_if (pt_not (pt_val (pe_callG H_law_right hr hc (by rfl) T.G_law_right T.F_law_right.kp T.B_law_right (pa_cons (pe_callG H_law_bag (hr.mono (by decide)) hc (by rfl) T.G_law_bag T.F_law_bag.kp T.B_law_bag (pa_cons (pe_callG H_law_cell_at (hr.mono (by decide)) hc (by rfl) T.G_law_cell_at T.F_law_cell_at.kp T.B_law_cell_at (pa_cons (pv 0) (pa_cons (pv 1) pa_nil))) (pa_cons (pv 1) pa_nil))) pa_nil))))
      (pss_one (ps_ret pe_bl)) pss_nil)))
      (pss_one (ps_ret pe_bl))), ?_⟩)
  rintro b I es hl ⟨ns, rfl, hlen⟩
  refine bk_seq (C1 := 0) (C2 := 0) (N := fun ρ' => True) ?_ (fun ρ' _ => bk_retP ev_bl rfl) (by omega)
  refine bk_for (m := 1000) (C0 := 0) (C1 := 0) (f := fun d ρ => ρ.set 1 (.dat d)) (fun _ _ ρ' => ∃ e, ρ' = [.scr ns, e])
    (iw_range1 (Pn := fun i => 0 ≤ i ∧ i ≤ 100) ((pv_cb (pa_consD ev_int (pa_consD (pv_cb (pa_consD ev_int (pa_consD (pv_cb (pa_scr rfl ea_nil) rda_lenK) ea_nil)) rda_min) ea_nil)) rda_max).imp (Nat.le_refl _) fun d e => ⟨_, e, by split <;> split <;> omega⟩) (fun i hi => by omega) fun i _ d _ => tg_name) (fun is ⟨i, hi, e⟩ => by subst e; rw [rngD_len]; omega) (fun is _ => ⟨_, rfl⟩) ?_ (fun _ _ _ _ => trivial) (by omega)
  rintro is k d ρ' ⟨i, hi, rfl⟩ hk ⟨e, rfl⟩
  obtain ⟨hk1, rfl⟩ := rngD_get hk
  rw [Int.zero_add]
  refine bk_ifP (b := false) ?_ (fun e => nomatch e) fun _ => bk_next ⟨_, rfl⟩
  refine Pt.to (pt_notD (a := true) (pt_B ?_)) rfl
  refine ev_callBag (ea_cons (C1 := 0) (C2 := 0) (P1 := fun d => ∃ x : Int, d = .int x) (ev_call (C1 := 0) (C2 := 0) (pa_scr rfl (pa_consD (ev_var rfl) ea_nil)) (fun es e => by subst e; exact ⟨rfl, ns, k, rfl⟩) (fun es d e q => q) (by omega)) (P2 := fun _ es => es = [.dat (.int k)]) (fun _ _ => pa_consD (ev_var rfl) ea_nil) (fun d es ⟨x, e1⟩ e2 => ⟨x, k, by rw [e1, e2], by omega, by omega⟩) (by omega)) rfl (fun d q => q) (by decide)

theorem all_mk {l : PySem.W.OpenLaw} {w : World} {K : PySem.W.Frag} {h : Heap} {mg : Str → Option Value} {fa : Addr} (X : K.In h) (G : h.Ns mainGlobals mg) (hfa : mg "law" = some (.ref fa))
    {f_is_whole : Addr} {od_is_whole an_is_whole : Option Addr} {sl_is_whole : Array (Option Value)} {oc_is_whole kV_is_whole dc_is_whole pm_is_whole cd_is_whole ct_is_whole : Value}
    (a1_is_whole : PySem.W.nsIn K mainGlobals "is_whole" = some (some (.ref f_is_whole)))
    (l1_is_whole : K.lookup f_is_whole = some ⟨oc_is_whole, od_is_whole, .func (PySem.W.fnOf "is_whole" "is_whole" (defArgs s_is_whole) (defBody s_is_whole) (defScope s_is_whole) .none kV_is_whole dc_is_whole pm_is_whole an_is_whole cd_is_whole ct_is_whole), sl_is_whole⟩)
    (c1_is_whole : PySem.W.codeIn K cd_is_whole "is_whole" = true) (k1_is_whole : PySem.W.keepIn K (.ref f_is_whole) = true)
    {f_is_row : Addr} {od_is_row an_is_row : Option Addr} {sl_is_row : Array (Option Value)} {oc_is_row kV_is_row dc_is_row pm_is_row cd_is_row ct_is_row : Value}
    (a1_is_row : PySem.W.nsIn K mainGlobals "is_row" = some (some (.ref f_is_row)))
    (l1_is_row : K.lookup f_is_row = some ⟨oc_is_row, od_is_row, .func (PySem.W.fnOf "is_row" "is_row" (defArgs s_is_row) (defBody s_is_row) (defScope s_is_row) .none kV_is_row dc_is_row pm_is_row an_is_row cd_is_row ct_is_row), sl_is_row⟩)
    (c1_is_row : PySem.W.codeIn K cd_is_row "is_row" = true) (k1_is_row : PySem.W.keepIn K (.ref f_is_row) = true)
    {f_is_rising : Addr} {od_is_rising an_is_rising : Option Addr} {sl_is_rising : Array (Option Value)} {oc_is_rising kV_is_rising dc_is_rising pm_is_rising cd_is_rising ct_is_rising : Value}
    (a1_is_rising : PySem.W.nsIn K mainGlobals "is_rising" = some (some (.ref f_is_rising)))
    (l1_is_rising : K.lookup f_is_rising = some ⟨oc_is_rising, od_is_rising, .func (PySem.W.fnOf "is_rising" "is_rising" (defArgs s_is_rising) (defBody s_is_rising) (defScope s_is_rising) .none kV_is_rising dc_is_rising pm_is_rising an_is_rising cd_is_rising ct_is_rising), sl_is_rising⟩)
    (c1_is_rising : PySem.W.codeIn K cd_is_rising "is_rising" = true) (k1_is_rising : PySem.W.keepIn K (.ref f_is_rising) = true)
    {f_is_calendar : Addr} {od_is_calendar an_is_calendar : Option Addr} {sl_is_calendar : Array (Option Value)} {oc_is_calendar kV_is_calendar dc_is_calendar pm_is_calendar cd_is_calendar ct_is_calendar : Value}
    (a1_is_calendar : PySem.W.nsIn K mainGlobals "is_calendar" = some (some (.ref f_is_calendar)))
    (l1_is_calendar : K.lookup f_is_calendar = some ⟨oc_is_calendar, od_is_calendar, .func (PySem.W.fnOf "is_calendar" "is_calendar" (defArgs s_is_calendar) (defBody s_is_calendar) (defScope s_is_calendar) .none kV_is_calendar dc_is_calendar pm_is_calendar an_is_calendar cd_is_calendar ct_is_calendar), sl_is_calendar⟩)
    (c1_is_calendar : PySem.W.codeIn K cd_is_calendar "is_calendar" = true) (k1_is_calendar : PySem.W.keepIn K (.ref f_is_calendar) = true)
    {f_is_day : Addr} {od_is_day an_is_day : Option Addr} {sl_is_day : Array (Option Value)} {oc_is_day kV_is_day dc_is_day pm_is_day cd_is_day ct_is_day : Value}
    (a1_is_day : PySem.W.nsIn K mainGlobals "is_day" = some (some (.ref f_is_day)))
    (l1_is_day : K.lookup f_is_day = some ⟨oc_is_day, od_is_day, .func (PySem.W.fnOf "is_day" "is_day" (defArgs s_is_day) (defBody s_is_day) (defScope s_is_day) .none kV_is_day dc_is_day pm_is_day an_is_day cd_is_day ct_is_day), sl_is_day⟩)
    (c1_is_day : PySem.W.codeIn K cd_is_day "is_day" = true) (k1_is_day : PySem.W.keepIn K (.ref f_is_day) = true)
    {f_is_term : Addr} {od_is_term an_is_term : Option Addr} {sl_is_term : Array (Option Value)} {oc_is_term kV_is_term dc_is_term pm_is_term cd_is_term ct_is_term : Value}
    (a1_is_term : PySem.W.nsIn K mainGlobals "is_term" = some (some (.ref f_is_term)))
    (l1_is_term : K.lookup f_is_term = some ⟨oc_is_term, od_is_term, .func (PySem.W.fnOf "is_term" "is_term" (defArgs s_is_term) (defBody s_is_term) (defScope s_is_term) .none kV_is_term dc_is_term pm_is_term an_is_term cd_is_term ct_is_term), sl_is_term⟩)
    (c1_is_term : PySem.W.codeIn K cd_is_term "is_term" = true) (k1_is_term : PySem.W.keepIn K (.ref f_is_term) = true)
    {f_is_open : Addr} {od_is_open an_is_open : Option Addr} {sl_is_open : Array (Option Value)} {oc_is_open kV_is_open dc_is_open pm_is_open cd_is_open ct_is_open : Value}
    (a1_is_open : PySem.W.nsIn K mainGlobals "is_open" = some (some (.ref f_is_open)))
    (l1_is_open : K.lookup f_is_open = some ⟨oc_is_open, od_is_open, .func (PySem.W.fnOf "is_open" "is_open" (defArgs s_is_open) (defBody s_is_open) (defScope s_is_open) .none kV_is_open dc_is_open pm_is_open an_is_open cd_is_open ct_is_open), sl_is_open⟩)
    (c1_is_open : PySem.W.codeIn K cd_is_open "is_open" = true) (k1_is_open : PySem.W.keepIn K (.ref f_is_open) = true)
    {f_next_open : Addr} {od_next_open an_next_open : Option Addr} {sl_next_open : Array (Option Value)} {oc_next_open kV_next_open dc_next_open pm_next_open cd_next_open ct_next_open : Value}
    (a1_next_open : PySem.W.nsIn K mainGlobals "next_open" = some (some (.ref f_next_open)))
    (l1_next_open : K.lookup f_next_open = some ⟨oc_next_open, od_next_open, .func (PySem.W.fnOf "next_open" "next_open" (defArgs s_next_open) (defBody s_next_open) (defScope s_next_open) .none kV_next_open dc_next_open pm_next_open an_next_open cd_next_open ct_next_open), sl_next_open⟩)
    (c1_next_open : PySem.W.codeIn K cd_next_open "next_open" = true) (k1_next_open : PySem.W.keepIn K (.ref f_next_open) = true)
    {f_last_open : Addr} {od_last_open an_last_open : Option Addr} {sl_last_open : Array (Option Value)} {oc_last_open kV_last_open dc_last_open pm_last_open cd_last_open ct_last_open : Value}
    (a1_last_open : PySem.W.nsIn K mainGlobals "last_open" = some (some (.ref f_last_open)))
    (l1_last_open : K.lookup f_last_open = some ⟨oc_last_open, od_last_open, .func (PySem.W.fnOf "last_open" "last_open" (defArgs s_last_open) (defBody s_last_open) (defScope s_last_open) .none kV_last_open dc_last_open pm_last_open an_last_open cd_last_open ct_last_open), sl_last_open⟩)
    (c1_last_open : PySem.W.codeIn K cd_last_open "last_open" = true) (k1_last_open : PySem.W.keepIn K (.ref f_last_open) = true)
    {f_end : Addr} {od_end an_end : Option Addr} {sl_end : Array (Option Value)} {oc_end kV_end dc_end pm_end cd_end ct_end : Value}
    (a1_end : PySem.W.nsIn K mainGlobals "end" = some (some (.ref f_end)))
    (l1_end : K.lookup f_end = some ⟨oc_end, od_end, .func (PySem.W.fnOf "end" "end" (defArgs s_end) (defBody s_end) (defScope s_end) .none kV_end dc_end pm_end an_end cd_end ct_end), sl_end⟩)
    (c1_end : PySem.W.codeIn K cd_end "end" = true) (k1_end : PySem.W.keepIn K (.ref f_end) = true)
    {f_check_days : Addr} {od_check_days an_check_days : Option Addr} {sl_check_days : Array (Option Value)} {oc_check_days kV_check_days dc_check_days pm_check_days cd_check_days ct_check_days : Value}
    (a1_check_days : PySem.W.nsIn K mainGlobals "check_days" = some (some (.ref f_check_days)))
    (l1_check_days : K.lookup f_check_days = some ⟨oc_check_days, od_check_days, .func (PySem.W.fnOf "check_days" "check_days" (defArgs s_check_days) (defBody s_check_days) (defScope s_check_days) .none kV_check_days dc_check_days pm_check_days an_check_days cd_check_days ct_check_days), sl_check_days⟩)
    (c1_check_days : PySem.W.codeIn K cd_check_days "check_days" = true) (k1_check_days : PySem.W.keepIn K (.ref f_check_days) = true)
    {f_check_day : Addr} {od_check_day an_check_day : Option Addr} {sl_check_day : Array (Option Value)} {oc_check_day kV_check_day dc_check_day pm_check_day cd_check_day ct_check_day : Value}
    (a1_check_day : PySem.W.nsIn K mainGlobals "check_day" = some (some (.ref f_check_day)))
    (l1_check_day : K.lookup f_check_day = some ⟨oc_check_day, od_check_day, .func (PySem.W.fnOf "check_day" "check_day" (defArgs s_check_day) (defBody s_check_day) (defScope s_check_day) .none kV_check_day dc_check_day pm_check_day an_check_day cd_check_day ct_check_day), sl_check_day⟩)
    (c1_check_day : PySem.W.codeIn K cd_check_day "check_day" = true) (k1_check_day : PySem.W.keepIn K (.ref f_check_day) = true)
    {f_check_term : Addr} {od_check_term an_check_term : Option Addr} {sl_check_term : Array (Option Value)} {oc_check_term kV_check_term dc_check_term pm_check_term cd_check_term ct_check_term : Value}
    (a1_check_term : PySem.W.nsIn K mainGlobals "check_term" = some (some (.ref f_check_term)))
    (l1_check_term : K.lookup f_check_term = some ⟨oc_check_term, od_check_term, .func (PySem.W.fnOf "check_term" "check_term" (defArgs s_check_term) (defBody s_check_term) (defScope s_check_term) .none kV_check_term dc_check_term pm_check_term an_check_term cd_check_term ct_check_term), sl_check_term⟩)
    (c1_check_term : PySem.W.codeIn K cd_check_term "check_term" = true) (k1_check_term : PySem.W.keepIn K (.ref f_check_term) = true)
    {f_is_workday : Addr} {od_is_workday an_is_workday : Option Addr} {sl_is_workday : Array (Option Value)} {oc_is_workday kV_is_workday dc_is_workday pm_is_workday cd_is_workday ct_is_workday : Value}
    (a1_is_workday : PySem.W.nsIn K mainGlobals "is_workday" = some (some (.ref f_is_workday)))
    (l1_is_workday : K.lookup f_is_workday = some ⟨oc_is_workday, od_is_workday, .func (PySem.W.fnOf "is_workday" "is_workday" (defArgs s_is_workday) (defBody s_is_workday) (defScope s_is_workday) .none kV_is_workday dc_is_workday pm_is_workday an_is_workday cd_is_workday ct_is_workday), sl_is_workday⟩)
    (c1_is_workday : PySem.W.codeIn K cd_is_workday "is_workday" = true) (k1_is_workday : PySem.W.keepIn K (.ref f_is_workday) = true)
    {f_rank_of : Addr} {od_rank_of an_rank_of : Option Addr} {sl_rank_of : Array (Option Value)} {oc_rank_of kV_rank_of dc_rank_of pm_rank_of cd_rank_of ct_rank_of : Value}
    (a1_rank_of : PySem.W.nsIn K mainGlobals "rank_of" = some (some (.ref f_rank_of)))
    (l1_rank_of : K.lookup f_rank_of = some ⟨oc_rank_of, od_rank_of, .func (PySem.W.fnOf "rank_of" "rank_of" (defArgs s_rank_of) (defBody s_rank_of) (defScope s_rank_of) .none kV_rank_of dc_rank_of pm_rank_of an_rank_of cd_rank_of ct_rank_of), sl_rank_of⟩)
    (c1_rank_of : PySem.W.codeIn K cd_rank_of "rank_of" = true) (k1_rank_of : PySem.W.keepIn K (.ref f_rank_of) = true)
    {f_workday_of : Addr} {od_workday_of an_workday_of : Option Addr} {sl_workday_of : Array (Option Value)} {oc_workday_of kV_workday_of dc_workday_of pm_workday_of cd_workday_of ct_workday_of : Value}
    (a1_workday_of : PySem.W.nsIn K mainGlobals "workday_of" = some (some (.ref f_workday_of)))
    (l1_workday_of : K.lookup f_workday_of = some ⟨oc_workday_of, od_workday_of, .func (PySem.W.fnOf "workday_of" "workday_of" (defArgs s_workday_of) (defBody s_workday_of) (defScope s_workday_of) .none kV_workday_of dc_workday_of pm_workday_of an_workday_of cd_workday_of ct_workday_of), sl_workday_of⟩)
    (c1_workday_of : PySem.W.codeIn K cd_workday_of "workday_of" = true) (k1_workday_of : PySem.W.keepIn K (.ref f_workday_of) = true)
    {f_open_behind : Addr} {od_open_behind an_open_behind : Option Addr} {sl_open_behind : Array (Option Value)} {oc_open_behind kV_open_behind dc_open_behind pm_open_behind cd_open_behind ct_open_behind : Value}
    (a1_open_behind : PySem.W.nsIn K mainGlobals "open_behind" = some (some (.ref f_open_behind)))
    (l1_open_behind : K.lookup f_open_behind = some ⟨oc_open_behind, od_open_behind, .func (PySem.W.fnOf "open_behind" "open_behind" (defArgs s_open_behind) (defBody s_open_behind) (defScope s_open_behind) .none kV_open_behind dc_open_behind pm_open_behind an_open_behind cd_open_behind ct_open_behind), sl_open_behind⟩)
    (c1_open_behind : PySem.W.codeIn K cd_open_behind "open_behind" = true) (k1_open_behind : PySem.W.keepIn K (.ref f_open_behind) = true)
    {f_first_open : Addr} {od_first_open an_first_open : Option Addr} {sl_first_open : Array (Option Value)} {oc_first_open kV_first_open dc_first_open pm_first_open cd_first_open ct_first_open : Value}
    (a1_first_open : PySem.W.nsIn K mainGlobals "first_open" = some (some (.ref f_first_open)))
    (l1_first_open : K.lookup f_first_open = some ⟨oc_first_open, od_first_open, .func (PySem.W.fnOf "first_open" "first_open" (defArgs s_first_open) (defBody s_first_open) (defScope s_first_open) .none kV_first_open dc_first_open pm_first_open an_first_open cd_first_open ct_first_open), sl_first_open⟩)
    (c1_first_open : PySem.W.codeIn K cd_first_open "first_open" = true) (k1_first_open : PySem.W.keepIn K (.ref f_first_open) = true)
    {f_term_end : Addr} {od_term_end an_term_end : Option Addr} {sl_term_end : Array (Option Value)} {oc_term_end kV_term_end dc_term_end pm_term_end cd_term_end ct_term_end : Value}
    (a1_term_end : PySem.W.nsIn K mainGlobals "term_end" = some (some (.ref f_term_end)))
    (l1_term_end : K.lookup f_term_end = some ⟨oc_term_end, od_term_end, .func (PySem.W.fnOf "term_end" "term_end" (defArgs s_term_end) (defBody s_term_end) (defScope s_term_end) .none kV_term_end dc_term_end pm_term_end an_term_end cd_term_end ct_term_end), sl_term_end⟩)
    (c1_term_end : PySem.W.codeIn K cd_term_end "term_end" = true) (k1_term_end : PySem.W.keepIn K (.ref f_term_end) = true)
    {f_law_cell_at : Addr} {od_law_cell_at an_law_cell_at : Option Addr} {sl_law_cell_at : Array (Option Value)} {oc_law_cell_at kV_law_cell_at dc_law_cell_at pm_law_cell_at cd_law_cell_at ct_law_cell_at : Value}
    (a1_law_cell_at : PySem.W.nsIn K mainGlobals "_law_cell_at" = some (some (.ref f_law_cell_at)))
    (l1_law_cell_at : K.lookup f_law_cell_at = some ⟨oc_law_cell_at, od_law_cell_at, .func (PySem.W.fnOf "_law_cell_at" "_law_cell_at" (defArgs s_law_cell_at) (defBody s_law_cell_at) (defScope s_law_cell_at) .none kV_law_cell_at dc_law_cell_at pm_law_cell_at an_law_cell_at cd_law_cell_at ct_law_cell_at), sl_law_cell_at⟩)
    (c1_law_cell_at : PySem.W.codeIn K cd_law_cell_at "_law_cell_at" = true) (k1_law_cell_at : PySem.W.keepIn K (.ref f_law_cell_at) = true)
    {f_law_bag : Addr} {od_law_bag an_law_bag : Option Addr} {sl_law_bag : Array (Option Value)} {oc_law_bag kV_law_bag dc_law_bag pm_law_bag cd_law_bag ct_law_bag : Value}
    (a1_law_bag : PySem.W.nsIn K mainGlobals "_law_bag" = some (some (.ref f_law_bag)))
    (l1_law_bag : K.lookup f_law_bag = some ⟨oc_law_bag, od_law_bag, .func (PySem.W.fnOf "_law_bag" "_law_bag" (defArgs s_law_bag) (defBody s_law_bag) (defScope s_law_bag) .none kV_law_bag dc_law_bag pm_law_bag an_law_bag cd_law_bag ct_law_bag), sl_law_bag⟩)
    (c1_law_bag : PySem.W.codeIn K cd_law_bag "_law_bag" = true) (k1_law_bag : PySem.W.keepIn K (.ref f_law_bag) = true)
    {f_law_dip : Addr} {od_law_dip an_law_dip : Option Addr} {sl_law_dip : Array (Option Value)} {oc_law_dip kV_law_dip dc_law_dip pm_law_dip cd_law_dip ct_law_dip : Value}
    (a1_law_dip : PySem.W.nsIn K mainGlobals "_law_dip" = some (some (.ref f_law_dip)))
    (l1_law_dip : K.lookup f_law_dip = some ⟨oc_law_dip, od_law_dip, .func (PySem.W.fnOf "_law_dip" "_law_dip" (defArgs s_law_dip) (defBody s_law_dip) (defScope s_law_dip) .none kV_law_dip dc_law_dip pm_law_dip an_law_dip cd_law_dip ct_law_dip), sl_law_dip⟩)
    (c1_law_dip : PySem.W.codeIn K cd_law_dip "_law_dip" = true) (k1_law_dip : PySem.W.keepIn K (.ref f_law_dip) = true)
    {f_law_long : Addr} {od_law_long an_law_long : Option Addr} {sl_law_long : Array (Option Value)} {oc_law_long kV_law_long dc_law_long pm_law_long cd_law_long ct_law_long : Value}
    (a1_law_long : PySem.W.nsIn K mainGlobals "_law_long" = some (some (.ref f_law_long)))
    (l1_law_long : K.lookup f_law_long = some ⟨oc_law_long, od_law_long, .func (PySem.W.fnOf "_law_long" "_law_long" (defArgs s_law_long) (defBody s_law_long) (defScope s_law_long) .none kV_law_long dc_law_long pm_law_long an_law_long cd_law_long ct_law_long), sl_law_long⟩)
    (c1_law_long : PySem.W.codeIn K cd_law_long "_law_long" = true) (k1_law_long : PySem.W.keepIn K (.ref f_law_long) = true)
    {f_law_free : Addr} {od_law_free an_law_free : Option Addr} {sl_law_free : Array (Option Value)} {oc_law_free kV_law_free dc_law_free pm_law_free cd_law_free ct_law_free : Value}
    (a1_law_free : PySem.W.nsIn K mainGlobals "_law_free" = some (some (.ref f_law_free)))
    (l1_law_free : K.lookup f_law_free = some ⟨oc_law_free, od_law_free, .func (PySem.W.fnOf "_law_free" "_law_free" (defArgs s_law_free) (defBody s_law_free) (defScope s_law_free) .none kV_law_free dc_law_free pm_law_free an_law_free cd_law_free ct_law_free), sl_law_free⟩)
    (c1_law_free : PySem.W.codeIn K cd_law_free "_law_free" = true) (k1_law_free : PySem.W.keepIn K (.ref f_law_free) = true)
    {f_law_walked : Addr} {od_law_walked an_law_walked : Option Addr} {sl_law_walked : Array (Option Value)} {oc_law_walked kV_law_walked dc_law_walked pm_law_walked cd_law_walked ct_law_walked : Value}
    (a1_law_walked : PySem.W.nsIn K mainGlobals "_law_walked" = some (some (.ref f_law_walked)))
    (l1_law_walked : K.lookup f_law_walked = some ⟨oc_law_walked, od_law_walked, .func (PySem.W.fnOf "_law_walked" "_law_walked" (defArgs s_law_walked) (defBody s_law_walked) (defScope s_law_walked) .none kV_law_walked dc_law_walked pm_law_walked an_law_walked cd_law_walked ct_law_walked), sl_law_walked⟩)
    (c1_law_walked : PySem.W.codeIn K cd_law_walked "_law_walked" = true) (k1_law_walked : PySem.W.keepIn K (.ref f_law_walked) = true)
    {f_law_due : Addr} {od_law_due an_law_due : Option Addr} {sl_law_due : Array (Option Value)} {oc_law_due kV_law_due dc_law_due pm_law_due cd_law_due ct_law_due : Value}
    (a1_law_due : PySem.W.nsIn K mainGlobals "_law_due" = some (some (.ref f_law_due)))
    (l1_law_due : K.lookup f_law_due = some ⟨oc_law_due, od_law_due, .func (PySem.W.fnOf "_law_due" "_law_due" (defArgs s_law_due) (defBody s_law_due) (defScope s_law_due) .none kV_law_due dc_law_due pm_law_due an_law_due cd_law_due ct_law_due), sl_law_due⟩)
    (c1_law_due : PySem.W.codeIn K cd_law_due "_law_due" = true) (k1_law_due : PySem.W.keepIn K (.ref f_law_due) = true)
    {f_law_judged : Addr} {od_law_judged an_law_judged : Option Addr} {sl_law_judged : Array (Option Value)} {oc_law_judged kV_law_judged dc_law_judged pm_law_judged cd_law_judged ct_law_judged : Value}
    (a1_law_judged : PySem.W.nsIn K mainGlobals "_law_judged" = some (some (.ref f_law_judged)))
    (l1_law_judged : K.lookup f_law_judged = some ⟨oc_law_judged, od_law_judged, .func (PySem.W.fnOf "_law_judged" "_law_judged" (defArgs s_law_judged) (defBody s_law_judged) (defScope s_law_judged) .none kV_law_judged dc_law_judged pm_law_judged an_law_judged cd_law_judged ct_law_judged), sl_law_judged⟩)
    (c1_law_judged : PySem.W.codeIn K cd_law_judged "_law_judged" = true) (k1_law_judged : PySem.W.keepIn K (.ref f_law_judged) = true)
    {f_law_right : Addr} {od_law_right an_law_right : Option Addr} {sl_law_right : Array (Option Value)} {oc_law_right kV_law_right dc_law_right pm_law_right cd_law_right ct_law_right : Value}
    (a1_law_right : PySem.W.nsIn K mainGlobals "_law_right" = some (some (.ref f_law_right)))
    (l1_law_right : K.lookup f_law_right = some ⟨oc_law_right, od_law_right, .func (PySem.W.fnOf "_law_right" "_law_right" (defArgs s_law_right) (defBody s_law_right) (defScope s_law_right) .none kV_law_right dc_law_right pm_law_right an_law_right cd_law_right ct_law_right), sl_law_right⟩)
    (c1_law_right : PySem.W.codeIn K cd_law_right "_law_right" = true) (k1_law_right : PySem.W.keepIn K (.ref f_law_right) = true)
    {f_law : Addr} {od_law an_law : Option Addr} {sl_law : Array (Option Value)} {oc_law kV_law dc_law pm_law cd_law ct_law : Value}
    (a1_law : PySem.W.nsIn K mainGlobals "law" = some (some (.ref f_law)))
    (l1_law : K.lookup f_law = some ⟨oc_law, od_law, .func (PySem.W.fnOf "law" "law" (defArgs s_law) (defBody s_law) (defScope s_law) .none kV_law dc_law pm_law an_law cd_law ct_law), sl_law⟩)
    (c1_law : PySem.W.codeIn K cd_law "law" = true) (k1_law : PySem.W.keepIn K (.ref f_law) = true)
    (z_all : PySem.W.nsIn K mainGlobals "all" = some none)
    (z_bool : PySem.W.nsIn K mainGlobals "bool" = some none)
    (z_dict : PySem.W.nsIn K mainGlobals "dict" = some none)
    (z_int : PySem.W.nsIn K mainGlobals "int" = some none)
    (z_isinstance : PySem.W.nsIn K mainGlobals "isinstance" = some none)
    (z_len : PySem.W.nsIn K mainGlobals "len" = some none)
    (z_max : PySem.W.nsIn K mainGlobals "max" = some none)
    (z_min : PySem.W.nsIn K mainGlobals "min" = some none)
    (z_range : PySem.W.nsIn K mainGlobals "range" = some none)
    (z_repr : PySem.W.nsIn K mainGlobals "repr" = some none)
    (z_reversed : PySem.W.nsIn K mainGlobals "reversed" = some none)
    (z_set : PySem.W.nsIn K mainGlobals "set" = some none)
    (z_sorted : PySem.W.nsIn K mainGlobals "sorted" = some none)
    (z_str : PySem.W.nsIn K mainGlobals "str" = some none)
    (z_tuple : PySem.W.nsIn K mainGlobals "tuple" = some none)
    (z_zip : PySem.W.nsIn K mainGlobals "zip" = some none)
    {t_WEEK : Tok} (v_WEEK : PySem.W.nsIn K mainGlobals "WEEK" = some (some (.int 7 t_WEEK)))
    {t_WORKDAYS : Tok} (v_WORKDAYS : PySem.W.nsIn K mainGlobals "WORKDAYS" = some (some (.int 5 t_WORKDAYS)))
    {f_UNITS : Addr} {t0_UNITS t1_UNITS : Tok} {dd_UNITS : Option Addr} {n_UNITS : Nat} {sl_UNITS : Array (Option Value)} (v_UNITS : PySem.W.nsIn K mainGlobals "UNITS" = some (some (.ref f_UNITS))) (o_UNITS : K.lookup f_UNITS = some ⟨.type "tuple", dd_UNITS, .seq #[Value.str "days" t0_UNITS, Value.str "open" t1_UNITS] n_UNITS, sl_UNITS⟩)
    : ∃ fd : FuncData, (∀ (s : Shared) (v : Value), BindsTo s fd ⟨[v], []⟩ [("script", v)]) ∧ ∀ base : Heap, K.In base → base.Ns mainGlobals mg → FnG l.prog w K mg base 7 fa fd ["script"] (sp_law K) := by
  have e := hfa.symm.trans (PySem.W.mg_of X G a1_law)
  cases e
  have F_is_whole := fun_mk (st := s_is_whole) l1_is_whole c1_is_whole k1_is_whole
  have B_is_whole := F_is_whole.binds (ps := ["thing", "least"]) fun _ _ _ _ _ _ us hl => match us, hl with | [_, _], _ => rfl
  have F_is_row := fun_mk (st := s_is_row) l1_is_row c1_is_row k1_is_row
  have B_is_row := F_is_row.binds (ps := ["thing", "many"]) fun _ _ _ _ _ _ us hl => match us, hl with | [_, _], _ => rfl
  have F_is_rising := fun_mk (st := s_is_rising) l1_is_rising c1_is_rising k1_is_rising
  have B_is_rising := F_is_rising.binds (ps := ["row"]) fun _ _ _ _ _ _ us hl => match us, hl with | [_], _ => rfl
  have F_is_calendar := fun_mk (st := s_is_calendar) l1_is_calendar c1_is_calendar k1_is_calendar
  have B_is_calendar := F_is_calendar.binds (ps := ["thing"]) fun _ _ _ _ _ _ us hl => match us, hl with | [_], _ => rfl
  have F_is_day := fun_mk (st := s_is_day) l1_is_day c1_is_day k1_is_day
  have B_is_day := F_is_day.binds (ps := ["thing"]) fun _ _ _ _ _ _ us hl => match us, hl with | [_], _ => rfl
  have F_is_term := fun_mk (st := s_is_term) l1_is_term c1_is_term k1_is_term
  have B_is_term := F_is_term.binds (ps := ["thing"]) fun _ _ _ _ _ _ us hl => match us, hl with | [_], _ => rfl
  have F_is_open := fun_mk (st := s_is_open) l1_is_open c1_is_open k1_is_open
  have B_is_open := F_is_open.binds (ps := ["calendar", "day"]) fun _ _ _ _ _ _ us hl => match us, hl with | [_, _], _ => rfl
  have F_next_open := fun_mk (st := s_next_open) l1_next_open c1_next_open k1_next_open
  have B_next_open := F_next_open.binds (ps := ["calendar", "day"]) fun _ _ _ _ _ _ us hl => match us, hl with | [_, _], _ => rfl
  have F_last_open := fun_mk (st := s_last_open) l1_last_open c1_last_open k1_last_open
  have B_last_open := F_last_open.binds (ps := ["calendar", "day"]) fun _ _ _ _ _ _ us hl => match us, hl with | [_, _], _ => rfl
  have F_end := fun_mk (st := s_end) l1_end c1_end k1_end
  have B_end := F_end.binds (ps := ["calendar", "day", "term"]) fun _ _ _ _ _ _ us hl => match us, hl with | [_, _, _], _ => rfl
  have F_check_days := fun_mk (st := s_check_days) l1_check_days c1_check_days k1_check_days
  have B_check_days := F_check_days.binds (ps := ["calendar", "days"]) fun _ _ _ _ _ _ us hl => match us, hl with | [_, _], _ => rfl
  have F_check_day := fun_mk (st := s_check_day) l1_check_day c1_check_day k1_check_day
  have B_check_day := F_check_day.binds (ps := ["day"]) fun _ _ _ _ _ _ us hl => match us, hl with | [_], _ => rfl
  have F_check_term := fun_mk (st := s_check_term) l1_check_term c1_check_term k1_check_term
  have B_check_term := F_check_term.binds (ps := ["term"]) fun _ _ _ _ _ _ us hl => match us, hl with | [_], _ => rfl
  have F_is_workday := fun_mk (st := s_is_workday) l1_is_workday c1_is_workday k1_is_workday
  have B_is_workday := F_is_workday.binds (ps := ["day"]) fun _ _ _ _ _ _ us hl => match us, hl with | [_], _ => rfl
  have F_rank_of := fun_mk (st := s_rank_of) l1_rank_of c1_rank_of k1_rank_of
  have B_rank_of := F_rank_of.binds (ps := ["day"]) fun _ _ _ _ _ _ us hl => match us, hl with | [_], _ => rfl
  have F_workday_of := fun_mk (st := s_workday_of) l1_workday_of c1_workday_of k1_workday_of
  have B_workday_of := F_workday_of.binds (ps := ["rank"]) fun _ _ _ _ _ _ us hl => match us, hl with | [_], _ => rfl
  have F_open_behind := fun_mk (st := s_open_behind) l1_open_behind c1_open_behind k1_open_behind
  have B_open_behind := F_open_behind.binds (ps := ["calendar", "day", "count"]) fun _ _ _ _ _ _ us hl => match us, hl with | [_, _, _], _ => rfl
  have F_first_open := fun_mk (st := s_first_open) l1_first_open c1_first_open k1_first_open
  have B_first_open := F_first_open.binds (ps := ["calendar", "day"]) fun _ _ _ _ _ _ us hl => match us, hl with | [_, _], _ => rfl
  have F_term_end := fun_mk (st := s_term_end) l1_term_end c1_term_end k1_term_end
  have B_term_end := F_term_end.binds (ps := ["calendar", "day", "term"]) fun _ _ _ _ _ _ us hl => match us, hl with | [_, _, _], _ => rfl
  have F_law_cell_at := fun_mk (st := s_law_cell_at) l1_law_cell_at c1_law_cell_at k1_law_cell_at
  have B_law_cell_at := F_law_cell_at.binds (ps := ["script", "k"]) fun _ _ _ _ _ _ us hl => match us, hl with | [_, _], _ => rfl
  have F_law_bag := fun_mk (st := s_law_bag) l1_law_bag c1_law_bag k1_law_bag
  have B_law_bag := F_law_bag.binds (ps := ["cell", "k"]) fun _ _ _ _ _ _ us hl => match us, hl with | [_, _], _ => rfl
  have F_law_dip := fun_mk (st := s_law_dip) l1_law_dip c1_law_dip k1_law_dip
  have B_law_dip := F_law_dip.binds (ps := ["bag", "many"]) fun _ _ _ _ _ _ us hl => match us, hl with | [_, _], _ => rfl
  have F_law_long := fun_mk (st := s_law_long) l1_law_long c1_law_long k1_law_long
  have B_law_long := F_law_long.binds (ps := ["bag"]) fun _ _ _ _ _ _ us hl => match us, hl with | [_], _ => rfl
  have F_law_free := fun_mk (st := s_law_free) l1_law_free c1_law_free k1_law_free
  have B_law_free := F_law_free.binds (ps := ["closed", "at"]) fun _ _ _ _ _ _ us hl => match us, hl with | [_, _], _ => rfl
  have F_law_walked := fun_mk (st := s_law_walked) l1_law_walked c1_law_walked k1_law_walked
  have B_law_walked := F_law_walked.binds (ps := ["closed", "at", "step"]) fun _ _ _ _ _ _ us hl => match us, hl with | [_, _, _], _ => rfl
  have F_law_due := fun_mk (st := s_law_due) l1_law_due c1_law_due k1_law_due
  have B_law_due := F_law_due.binds (ps := ["closed", "at", "count", "unit"]) fun _ _ _ _ _ _ us hl => match us, hl with | [_, _, _, _], _ => rfl
  have F_law_judged := fun_mk (st := s_law_judged) l1_law_judged c1_law_judged k1_law_judged
  have B_law_judged := F_law_judged.binds (ps := ["bag", "cal"]) fun _ _ _ _ _ _ us hl => match us, hl with | [_, _], _ => rfl
  have F_law_right := fun_mk (st := s_law_right) l1_law_right c1_law_right k1_law_right
  have B_law_right := F_law_right.binds (ps := ["bag"]) fun _ _ _ _ _ _ us hl => match us, hl with | [_], _ => rfl
  have F_law := fun_mk (st := s_law) l1_law c1_law k1_law
  have B_law := F_law.binds (ps := ["script"]) fun _ _ _ _ _ _ us hl => match us, hl with | [_], _ => rfl
  exact ⟨PySem.W.fnOf "law" "law" (defArgs s_law) (defBody s_law) (defScope s_law) .none kV_law dc_law pm_law an_law cd_law ct_law, fun s v => .of_eq rfl, fun base _ _ => ok_law (P := l.prog) (w := w) (base := base) { a_is_whole := f_is_whole, d_is_whole := _, F_is_whole := F_is_whole, B_is_whole := B_is_whole, G_is_whole := PySem.W.mg_of X G a1_is_whole, a_is_row := f_is_row, d_is_row := _, F_is_row := F_is_row, B_is_row := B_is_row, G_is_row := PySem.W.mg_of X G a1_is_row, a_is_rising := f_is_rising, d_is_rising := _, F_is_rising := F_is_rising, B_is_rising := B_is_rising, G_is_rising := PySem.W.mg_of X G a1_is_rising, a_is_calendar := f_is_calendar, d_is_calendar := _, F_is_calendar := F_is_calendar, B_is_calendar := B_is_calendar, G_is_calendar := PySem.W.mg_of X G a1_is_calendar, a_is_day := f_is_day, d_is_day := _, F_is_day := F_is_day, B_is_day := B_is_day, G_is_day := PySem.W.mg_of X G a1_is_day, a_is_term := f_is_term, d_is_term := _, F_is_term := F_is_term, B_is_term := B_is_term, G_is_term := PySem.W.mg_of X G a1_is_term, a_is_open := f_is_open, d_is_open := _, F_is_open := F_is_open, B_is_open := B_is_open, G_is_open := PySem.W.mg_of X G a1_is_open, a_next_open := f_next_open, d_next_open := _, F_next_open := F_next_open, B_next_open := B_next_open, G_next_open := PySem.W.mg_of X G a1_next_open, a_last_open := f_last_open, d_last_open := _, F_last_open := F_last_open, B_last_open := B_last_open, G_last_open := PySem.W.mg_of X G a1_last_open, a_end := f_end, d_end := _, F_end := F_end, B_end := B_end, G_end := PySem.W.mg_of X G a1_end, a_check_days := f_check_days, d_check_days := _, F_check_days := F_check_days, B_check_days := B_check_days, G_check_days := PySem.W.mg_of X G a1_check_days, a_check_day := f_check_day, d_check_day := _, F_check_day := F_check_day, B_check_day := B_check_day, G_check_day := PySem.W.mg_of X G a1_check_day, a_check_term := f_check_term, d_check_term := _, F_check_term := F_check_term, B_check_term := B_check_term, G_check_term := PySem.W.mg_of X G a1_check_term, a_is_workday := f_is_workday, d_is_workday := _, F_is_workday := F_is_workday, B_is_workday := B_is_workday, G_is_workday := PySem.W.mg_of X G a1_is_workday, a_rank_of := f_rank_of, d_rank_of := _, F_rank_of := F_rank_of, B_rank_of := B_rank_of, G_rank_of := PySem.W.mg_of X G a1_rank_of, a_workday_of := f_workday_of, d_workday_of := _, F_workday_of := F_workday_of, B_workday_of := B_workday_of, G_workday_of := PySem.W.mg_of X G a1_workday_of, a_open_behind := f_open_behind, d_open_behind := _, F_open_behind := F_open_behind, B_open_behind := B_open_behind, G_open_behind := PySem.W.mg_of X G a1_open_behind, a_first_open := f_first_open, d_first_open := _, F_first_open := F_first_open, B_first_open := B_first_open, G_first_open := PySem.W.mg_of X G a1_first_open, a_term_end := f_term_end, d_term_end := _, F_term_end := F_term_end, B_term_end := B_term_end, G_term_end := PySem.W.mg_of X G a1_term_end, a_law_cell_at := f_law_cell_at, d_law_cell_at := _, F_law_cell_at := F_law_cell_at, B_law_cell_at := B_law_cell_at, G_law_cell_at := PySem.W.mg_of X G a1_law_cell_at, a_law_bag := f_law_bag, d_law_bag := _, F_law_bag := F_law_bag, B_law_bag := B_law_bag, G_law_bag := PySem.W.mg_of X G a1_law_bag, a_law_dip := f_law_dip, d_law_dip := _, F_law_dip := F_law_dip, B_law_dip := B_law_dip, G_law_dip := PySem.W.mg_of X G a1_law_dip, a_law_long := f_law_long, d_law_long := _, F_law_long := F_law_long, B_law_long := B_law_long, G_law_long := PySem.W.mg_of X G a1_law_long, a_law_free := f_law_free, d_law_free := _, F_law_free := F_law_free, B_law_free := B_law_free, G_law_free := PySem.W.mg_of X G a1_law_free, a_law_walked := f_law_walked, d_law_walked := _, F_law_walked := F_law_walked, B_law_walked := B_law_walked, G_law_walked := PySem.W.mg_of X G a1_law_walked, a_law_due := f_law_due, d_law_due := _, F_law_due := F_law_due, B_law_due := B_law_due, G_law_due := PySem.W.mg_of X G a1_law_due, a_law_judged := f_law_judged, d_law_judged := _, F_law_judged := F_law_judged, B_law_judged := B_law_judged, G_law_judged := PySem.W.mg_of X G a1_law_judged, a_law_right := f_law_right, d_law_right := _, F_law_right := F_law_right, B_law_right := B_law_right, G_law_right := PySem.W.mg_of X G a1_law_right, a_law := fa, d_law := _, F_law := F_law, B_law := B_law, G_law := PySem.W.mg_of X G a1_law, N_all := PySem.W.mg_none_of X G z_all, N_bool := PySem.W.mg_none_of X G z_bool, N_dict := PySem.W.mg_none_of X G z_dict, N_int := PySem.W.mg_none_of X G z_int, N_isinstance := PySem.W.mg_none_of X G z_isinstance, N_len := PySem.W.mg_none_of X G z_len, N_max := PySem.W.mg_none_of X G z_max, N_min := PySem.W.mg_none_of X G z_min, N_range := PySem.W.mg_none_of X G z_range, N_repr := PySem.W.mg_none_of X G z_repr, N_reversed := PySem.W.mg_none_of X G z_reversed, N_set := PySem.W.mg_none_of X G z_set, N_sorted := PySem.W.mg_none_of X G z_sorted, N_str := PySem.W.mg_none_of X G z_str, N_tuple := PySem.W.mg_none_of X G z_tuple, N_zip := PySem.W.mg_none_of X G z_zip, t_WEEK := t_WEEK, C_WEEK := PySem.W.mg_of X G v_WEEK, t_WORKDAYS := t_WORKDAYS, C_WORKDAYS := PySem.W.mg_of X G v_WORKDAYS, a_UNITS := f_UNITS, C_UNITS := PySem.W.mg_of X G v_UNITS, O_UNITS := ⟨_, _, _, o_UNITS, rfl, rfl, (by show 2 ≤ sizeLine; decide), .cons ⟨_, rfl⟩ (.cons ⟨_, rfl⟩ (.nil))⟩ }⟩
end Hh
open PySem PySem.W PyProof.Rows
set_option maxHeartbeats 0 in
theorem PySem.Challenge.cw_heardhouse_k59_long_calendars_holds : PySem.Challenge.rw_heardhouse_k59_long_calendars.Holds := by
  w_on; o_law; k_head; (case hw => w_witness2)
  k_fill
  refine Hh.walkG (l := PySem.Challenge.rw_heardhouse_k59_long_calendars) (n := 63) (k := 7) (x := "script") (sp := fun w => Hh.spTop _) rfl (by decide) rfl ⟨rfl, by decide, by decide⟩ (fun w h Y => PySem.W.kIn_of Y) ?F (fun _ _ a ns hl _ hS => Hh.top_fits hl hS)
  case F =>
    intro w mg fa h KX G hmg
    refine' Hh.all_mk KX G hmg ?a1_is_whole ?l1_is_whole ?c1_is_whole ?k1_is_whole ?a1_is_row ?l1_is_row ?c1_is_row ?k1_is_row ?a1_is_rising ?l1_is_rising ?c1_is_rising ?k1_is_rising ?a1_is_calendar ?l1_is_calendar ?c1_is_calendar ?k1_is_calendar ?a1_is_day ?l1_is_day ?c1_is_day ?k1_is_day ?a1_is_term ?l1_is_term ?c1_is_term ?k1_is_term ?a1_is_open ?l1_is_open ?c1_is_open ?k1_is_open ?a1_next_open ?l1_next_open ?c1_next_open ?k1_next_open ?a1_last_open ?l1_last_open ?c1_last_open ?k1_last_open ?a1_end ?l1_end ?c1_end ?k1_end ?a1_check_days ?l1_check_days ?c1_check_days ?k1_check_days ?a1_check_day ?l1_check_day ?c1_check_day ?k1_check_day ?a1_check_term ?l1_check_term ?c1_check_term ?k1_check_term ?a1_is_workday ?l1_is_workday ?c1_is_workday ?k1_is_workday ?a1_rank_of ?l1_rank_of ?c1_rank_of ?k1_rank_of ?a1_workday_of ?l1_workday_of ?c1_workday_of ?k1_workday_of ?a1_open_behind ?l1_open_behind ?c1_open_behind ?k1_open_behind ?a1_first_open ?l1_first_open ?c1_first_open ?k1_first_open ?a1_term_end ?l1_term_end ?c1_term_end ?k1_term_end ?a1_law_cell_at ?l1_law_cell_at ?c1_law_cell_at ?k1_law_cell_at ?a1_law_bag ?l1_law_bag ?c1_law_bag ?k1_law_bag ?a1_law_dip ?l1_law_dip ?c1_law_dip ?k1_law_dip ?a1_law_long ?l1_law_long ?c1_law_long ?k1_law_long ?a1_law_free ?l1_law_free ?c1_law_free ?k1_law_free ?a1_law_walked ?l1_law_walked ?c1_law_walked ?k1_law_walked ?a1_law_due ?l1_law_due ?c1_law_due ?k1_law_due ?a1_law_judged ?l1_law_judged ?c1_law_judged ?k1_law_judged ?a1_law_right ?l1_law_right ?c1_law_right ?k1_law_right ?a1_law ?l1_law ?c1_law ?k1_law ?z_all ?z_bool ?z_dict ?z_int ?z_isinstance ?z_len ?z_max ?z_min ?z_range ?z_repr ?z_reversed ?z_set ?z_sorted ?z_str ?z_tuple ?z_zip ?v_WEEK ?v_WORKDAYS ?v_UNITS ?o_UNITS
    (case a1_is_whole => k_is); (case l1_is_whole => k_is); (case c1_is_whole => k_is); (case k1_is_whole => k_is); (case a1_is_row => k_is); (case l1_is_row => k_is); (case c1_is_row => k_is); (case k1_is_row => k_is); (case a1_is_rising => k_is); (case l1_is_rising => k_is); (case c1_is_rising => k_is); (case k1_is_rising => k_is); (case a1_is_calendar => k_is); (case l1_is_calendar => k_is); (case c1_is_calendar => k_is); (case k1_is_calendar => k_is); (case a1_is_day => k_is); (case l1_is_day => k_is); (case c1_is_day => k_is); (case k1_is_day => k_is); (case a1_is_term => k_is); (case l1_is_term => k_is); (case c1_is_term => k_is); (case k1_is_term => k_is); (case a1_is_open => k_is); (case l1_is_open => k_is); (case c1_is_open => k_is); (case k1_is_open => k_is); (case a1_next_open => k_is); (case l1_next_open => k_is); (case c1_next_open => k_is); (case k1_next_open => k_is); (case a1_last_open => k_is); (case l1_last_open => k_is); (case c1_last_open => k_is); (case k1_last_open => k_is); (case a1_end => k_is); (case l1_end => k_is); (case c1_end => k_is); (case k1_end => k_is); (case a1_check_days => k_is); (case l1_check_days => k_is); (case c1_check_days => k_is); (case k1_check_days => k_is); (case a1_check_day => k_is); (case l1_check_day => k_is); (case c1_check_day => k_is); (case k1_check_day => k_is); (case a1_check_term => k_is); (case l1_check_term => k_is); (case c1_check_term => k_is); (case k1_check_term => k_is); (case a1_is_workday => k_is); (case l1_is_workday => k_is); (case c1_is_workday => k_is); (case k1_is_workday => k_is); (case a1_rank_of => k_is); (case l1_rank_of => k_is); (case c1_rank_of => k_is); (case k1_rank_of => k_is); (case a1_workday_of => k_is); (case l1_workday_of => k_is); (case c1_workday_of => k_is); (case k1_workday_of => k_is); (case a1_open_behind => k_is); (case l1_open_behind => k_is); (case c1_open_behind => k_is); (case k1_open_behind => k_is); (case a1_first_open => k_is); (case l1_first_open => k_is); (case c1_first_open => k_is); (case k1_first_open => k_is); (case a1_term_end => k_is); (case l1_term_end => k_is); (case c1_term_end => k_is); (case k1_term_end => k_is); (case a1_law_cell_at => k_is); (case l1_law_cell_at => k_is); (case c1_law_cell_at => k_is); (case k1_law_cell_at => k_is); (case a1_law_bag => k_is); (case l1_law_bag => k_is); (case c1_law_bag => k_is); (case k1_law_bag => k_is); (case a1_law_dip => k_is); (case l1_law_dip => k_is); (case c1_law_dip => k_is); (case k1_law_dip => k_is); (case a1_law_long => k_is); (case l1_law_long => k_is); (case c1_law_long => k_is); (case k1_law_long => k_is); (case a1_law_free => k_is); (case l1_law_free => k_is); (case c1_law_free => k_is); (case k1_law_free => k_is); (case a1_law_walked => k_is); (case l1_law_walked => k_is); (case c1_law_walked => k_is); (case k1_law_walked => k_is); (case a1_law_due => k_is); (case l1_law_due => k_is); (case c1_law_due => k_is); (case k1_law_due => k_is); (case a1_law_judged => k_is); (case l1_law_judged => k_is); (case c1_law_judged => k_is); (case k1_law_judged => k_is); (case a1_law_right => k_is); (case l1_law_right => k_is); (case c1_law_right => k_is); (case k1_law_right => k_is); (case a1_law => k_is); (case l1_law => k_is); (case c1_law => k_is); (case k1_law => k_is); (case z_all => k_is); (case z_bool => k_is); (case z_dict => k_is); (case z_int => k_is); (case z_isinstance => k_is); (case z_len => k_is); (case z_max => k_is); (case z_min => k_is); (case z_range => k_is); (case z_repr => k_is); (case z_reversed => k_is); (case z_set => k_is); (case z_sorted => k_is); (case z_str => k_is); (case z_tuple => k_is); (case z_zip => k_is); (case v_WEEK => k_is); (case v_WORKDAYS => k_is); (case v_UNITS => k_is); (case o_UNITS => k_is)

