import PyProof.Rows.All
import Wide.All
import OpenK.AllK
import Wide.FinOn
import HandS.ForMost
import HandS.Exc
import HandS.TryOnly
import HandS.ExcOwn
import HandS.WordsExc
import HandS.IsInst
import HandS.Zip
import HandS.Rev
import HandS.Wide
import HandS.TupAny
import HandS.Flow
import HandS.Deep
import HandS.Ends
import HandS.Strs
import HandS.SetFor
import HandS.Style
import HandS.ExcIs
import HandS.StrMore
import HandS.Steps
import HandS.SortInts
import HandS.Dict
import PyProof.StrOps2
import PyProof.NeData
import HandS.Translate
import HandS.Text
import PyProof.DictUpdate
import HandS.TupSets
import HandS.Conv
import HandS.TupMul
import HandS.SortOrd
import HandS.SortRule
import HandS.Keys
import HandS.DictComp
import HandS.Small
import HandS.More
import KE.GoesMore
import KE.GoesEnum
import PyProof.DictDisplay
import PyProof.MinMaxWalk
import PyProof.DictWalks
import HandS.SortKw
import KE.KMinKey
import PyProof.WalkInts
import HandS.FStr
import HandS.TupLe
import PySem.Challenge.RW_heardhouse_k49_cases_written_and_read
set_option Elab.async false
set_option linter.all false
set_option maxRecDepth 100000
set_option maxHeartbeats 1000000
namespace Hh
set_option autoImplicit false
open PySem PySem.Spec PyProof.Rows L2
abbrev Sl := L2.St

/-! ### data over the abstract heap -/
def kD : Key → PyData
  | .inl i => .int i
  | .inr x => .str x
mutual
inductive Rp (K : PySem.W.Frag) (I : Hp) : V → PyData → Prop
  | non : Rp K I .non .none
  | bl (b : Bool) : Rp K I (.bl b) (.bool b)
  | int (i : Int) : Rp K I (.int i) (.int i)
  | str (x : Str) : Rp K I (.str x) (.str x)
  | lst {a : Addr} {xs : List V} {ds : List PyData} : I a = some (.lst xs) → RpAll K I xs ds → Rp K I (.ref a) (.list ds)
  | tup {a : Addr} {xs : List V} {ds : List PyData} : SqT K I a xs → RpAll K I xs ds → Rp K I (.ref a) (.tuple ds)
  | dic {a : Addr} {kvs : List (Key × V)} {es : List (PyData × PyData)} : I a = some (.dK kvs) → RpKv K I kvs es → Rp K I (.ref a) (.dict es)
inductive RpAll (K : PySem.W.Frag) (I : Hp) : List V → List PyData → Prop
  | nil : RpAll K I [] []
  | cons {v : V} {vs : List V} {d : PyData} {ds : List PyData} : Rp K I v d → RpAll K I vs ds → RpAll K I (v :: vs) (d :: ds)
inductive RpKv (K : PySem.W.Frag) (I : Hp) : List (Key × V) → List (PyData × PyData) → Prop
  | nil : RpKv K I [] []
  | cons {k : Key} {v : V} {d : PyData} {kvs : List (Key × V)} {es : List (PyData × PyData)} : Rp K I v d → RpKv K I kvs es → RpKv K I ((k, v) :: kvs) ((kD k, d) :: es)
end
theorem seqT_mono {K : PySem.W.Frag} {H H' : Hp} {a : Addr} {xs : List V} (e : Same H H') (h : SqT K H a xs) : SqT K H' a xs := by
  rcases h with (h | ⟨o, h⟩) | h
  · exact .inl (.inl (e _ _ h))
  · exact .inl (.inr ⟨o, e _ _ h⟩)
  · exact .inr h
section
variable {K : PySem.W.Frag} {I J : Hp}
mutual
theorem Rp.mono (e : Same I J) : ∀ {d : PyData} {v : V}, Rp K I v d → Rp K J v d
  | .none, _, .non => .non
  | .bool _, _, .bl b => .bl b
  | .int _, _, .int i => .int i
  | .str _, _, .str x => .str x
  | .list _, _, .lst h r => .lst (e _ _ h) (RpAll.mono e r)
  | .tuple _, _, .tup h r => .tup (seqT_mono e h) (RpAll.mono e r)
  | .dict _, _, .dic h r => .dic (e _ _ h) (RpKv.mono e r)
theorem RpAll.mono (e : Same I J) : ∀ {ds : List PyData} {vs : List V}, RpAll K I vs ds → RpAll K J vs ds
  | [], _, .nil => .nil
  | _ :: _, _, .cons h r => .cons (Rp.mono e h) (RpAll.mono e r)
theorem RpKv.mono (e : Same I J) : ∀ {es : List (PyData × PyData)} {kvs : List (Key × V)}, RpKv K I kvs es → RpKv K J kvs es
  | [], _, .nil => .nil
  | _ :: _, _, .cons h r => .cons (Rp.mono e h) (RpKv.mono e r)
end
theorem RpAll.length : ∀ {ds : List PyData} {vs : List V}, RpAll K I vs ds → vs.length = ds.length
  | [], _, .nil => rfl
  | _ :: _, _, .cons _ r => congrArg (· + 1) (RpAll.length r)
theorem RpAll.get : ∀ {ds : List PyData} {vs : List V} {i : Nat} {d : PyData}, RpAll K I vs ds → ds[i]? = some d → ∃ v, vs[i]? = some v ∧ Rp K I v d
  | _ :: _, _, 0, d, .cons h _, e => by
    simp only [List.getElem?_cons_zero, Option.some.injEq] at e
    subst e
    exact ⟨_, rfl, h⟩
  | _ :: ds, _, i + 1, d, .cons _ r, e => by
    simp only [List.getElem?_cons_succ] at e
    obtain ⟨v, h1, h2⟩ := RpAll.get r e
    exact ⟨v, by simpa using h1, h2⟩
  | [], _, _, _, .nil, e => by simp at e
theorem RpAll.get' : ∀ {ds : List PyData} {vs : List V} {i : Nat} {v : V}, RpAll K I vs ds → vs[i]? = some v → ∃ d, ds[i]? = some d ∧ Rp K I v d
  | _ :: _, _, 0, d, .cons h _, e => by
    simp only [List.getElem?_cons_zero, Option.some.injEq] at e
    subst e
    exact ⟨_, rfl, h⟩
  | _ :: ds, _, i + 1, d, .cons _ r, e => by
    simp only [List.getElem?_cons_succ] at e
    obtain ⟨v, h1, h2⟩ := RpAll.get' r e
    exact ⟨v, by simpa using h1, h2⟩
  | [], _, _, _, .nil, e => by simp at e
theorem RpAll.append : ∀ {ds es : List PyData} {vs ws : List V}, RpAll K I vs ds → RpAll K I ws es → RpAll K I (vs ++ ws) (ds ++ es)
  | _, _, _, _, .nil, s => s
  | _, _, _, _, .cons h r, s => .cons h (RpAll.append r s)
theorem RpAll.one {v : V} {d : PyData} (h : Rp K I v d) : RpAll K I [v] [d] := .cons h .nil
theorem RpAll.drop : ∀ {ds : List PyData} {vs : List V} (n : Nat), RpAll K I vs ds → RpAll K I (vs.drop n) (ds.drop n)
  | _, _, 0, h => h
  | _, _, _ + 1, .nil => .nil
  | _, _, n + 1, .cons _ r => RpAll.drop n r
theorem RpAll.take : ∀ {ds : List PyData} {vs : List V} (n : Nat), RpAll K I vs ds → RpAll K I (vs.take n) (ds.take n)
  | _, _, 0, _ => .nil
  | _, _, _ + 1, .nil => .nil
  | _, _, n + 1, .cons h r => .cons h (RpAll.take n r)
theorem RpAll.rev {ds : List PyData} {vs : List V} (h : RpAll K I vs ds) : RpAll K I vs.reverse ds.reverse := by
  induction ds generalizing vs with
  | nil => cases h; exact .nil
  | cons d ds ih =>
    cases h with
    | cons a r =>
      rw [List.reverse_cons, List.reverse_cons]
      exact (ih r).append (.one a)
theorem Rp.int_inv {v : V} {i : Int} (h : Rp K I v (.int i)) : v = .int i := by cases h; rfl
theorem Rp.bl_inv {v : V} {i : Bool} (h : Rp K I v (.bool i)) : v = .bl i := by cases h; rfl
theorem Rp.str_inv {v : V} {i : Str} (h : Rp K I v (.str i)) : v = .str i := by cases h; rfl
theorem Rp.non_inv {v : V} (h : Rp K I v .none) : v = .non := by cases h; rfl
theorem Rp.lst_inv {v : V} {ds : List PyData} (h : Rp K I v (.list ds)) : ∃ a xs, v = .ref a ∧ I a = some (.lst xs) ∧ RpAll K I xs ds := by
  cases h with
  | lst h r => exact ⟨_, _, rfl, h, r⟩
theorem Rp.tup_inv {v : V} {ds : List PyData} (h : Rp K I v (.tuple ds)) : ∃ a xs, v = .ref a ∧ SqT K I a xs ∧ RpAll K I xs ds := by
  cases h with
  | tup h r => exact ⟨_, _, rfl, h, r⟩
theorem RpAll.ints : ∀ {is : List Int} {vs : List V}, RpAll K I vs (is.map PyData.int) → vs = is.map V.int
  | [], _, .nil => rfl
  | i :: is, _, .cons h r => by rw [h.int_inv, RpAll.ints r]; rfl
theorem RpAll.bls : ∀ {is : List Bool} {vs : List V}, RpAll K I vs (is.map PyData.bool) → vs = is.map V.bl
  | [], _, .nil => rfl
  | i :: is, _, .cons h r => by rw [h.bl_inv, RpAll.bls r]; rfl
theorem RpAll.strs' : ∀ {is : List Str} {vs : List V}, RpAll K I vs (is.map PyData.str) → vs = is.map V.str
  | [], _, .nil => rfl
  | i :: is, _, .cons h r => by rw [h.str_inv, RpAll.strs' r]; rfl
end

/-! ### the bag, the world, the slots -/
def NMAX : Nat := 2 ^ 40
def BagAt (H : Hp) (p : Addr) (n : Nat) : Prop := ∃ x y z : Int, H p = some (.lst [.int x, .int y, .int z]) ∧ 0 ≤ x ∧ 0 ≤ y ∧ y < 2 ^ 200 ∧ 0 ≤ z ∧ z ≤ n
theorem BagAt.mono {H : Hp} {p : Addr} {n m : Nat} (h : BagAt H p n) (e : n ≤ m) : BagAt H p m := by
  obtain ⟨x, y, z, h, a, b, c, d, f⟩ := h
  exact ⟨x, y, z, h, a, b, c, d, by omega⟩
structure BInv where
  P : HO → Nat → Prop
  up : ∀ o n m, P o n → n ≤ m → P o m
  nf : ∀ o n, P o n → ∀ a b, o ≠ .frz a b
def bagB : BInv := ⟨fun o n => ∃ x y z : Int, o = .lst [.int x, .int y, .int z] ∧ 0 ≤ x ∧ 0 ≤ y ∧ y < 2 ^ 200 ∧ 0 ≤ z ∧ z ≤ n, fun _ _ _ ⟨x, y, z, h, a, b, c, d, f⟩ e => ⟨x, y, z, h, a, b, c, d, by omega⟩, fun _ _ ⟨x, y, z, h, _⟩ a b e => by rw [h] at e; cases e⟩
/-- what lies at b -/
def BAt (B : BInv) (H : Hp) (p : Addr) (n : Nat) : Prop := ∃ o, H p = some o ∧ B.P o n
theorem BAt.mono {B : BInv} {H : Hp} {p : Addr} {n m : Nat} (h : BAt B H p n) (e : n ≤ m) : BAt B H p m := by
  obtain ⟨o, h1, h2⟩ := h
  exact ⟨o, h1, B.up o n m h2 e⟩
theorem BAt.bag {H : Hp} {p : Addr} {n : Nat} (h : BAt bagB H p n) : BagAt H p n := by
  obtain ⟨o, h1, x, y, z, rfl, h2⟩ := h
  exact ⟨x, y, z, h1, h2⟩
theorem BagAt.bat {H : Hp} {p : Addr} {n : Nat} (h : BagAt H p n) : BAt bagB H p n := by
  obtain ⟨x, y, z, h1, h2⟩ := h
  exact ⟨_, h1, x, y, z, rfl, h2⟩
structure Ctx where
  K : PySem.W.Frag
  b : Option Addr
  H0 : Hp
  I0 : Hp
  B : BInv
/-- data; a list of one's own, still growing; the bag; the script -/
inductive Ent where
  | any
  | scr (ns : List Int)
  | dat (d : PyData)
  | own (ds : List PyData)
  | bag
  | raw (v : V)
  /-- what lies at b, and is no bag -/
  | memo (M : BInv)
  /-- a set or dict of one's own: what it is, by the immutable part -/
  | mu (M : Hp → Addr → HO → Prop)
/-- nothing of one's own that may still change -/
def Ent.plain : Ent → Prop
  | .own _ => False
  | .mu _ => False
  | .memo _ => False
  | _ => True
structure Wd (c : Ctx) (I H : Hp) (n : Nat) : Prop where
  ih : Same I H
  i0 : Same c.I0 I
  h0 : ∀ q o, some q ≠ c.b → c.H0 q = some o → H q = some o
  nw : ∀ q, c.H0 q ≠ none → I q = c.I0 q
  bg : ∀ p, c.b = some p → c.I0 p = none ∧ c.H0 p ≠ none ∧ BAt c.B H p n
/-- what an expression may do -/
structure Gx (b : Option Addr) (I H I2 H2 : Hp) : Prop where
  ii : Same I I2
  hh : ∀ q o, some q ≠ b → H q = some o → H2 q = some o
  nw : ∀ q, H q ≠ none → I2 q = I q
  th : ∀ q, H q ≠ none → H2 q ≠ none
theorem Gx.refl {c : Option Addr} {I H : Hp} : Gx c I H I H := ⟨Same.refl _, fun _ _ _ h => h, fun _ _ => rfl, fun _ h => h⟩
theorem Gx.trans {c : Option Addr} {I H I1 H1 I2 H2 : Hp} (a : Gx c I H I1 H1) (b : Gx c I1 H1 I2 H2) : Gx c I H I2 H2 :=
  ⟨a.ii.trans b.ii, fun q o n h => b.hh q o n (a.hh q o n h), fun q h => (b.nw q (a.th q h)).trans (a.nw q h), fun q h => b.th q (a.th q h)⟩
def EntR (c : Ctx) (I H : Hp) : Option V → Ent → Prop
  | _, .any => True
  | some v, .dat d => Rp c.K I v d
  | some v, .own ds => ∃ p xs, v = .ref p ∧ H p = some (.lst xs) ∧ c.H0 p = none ∧ some p ≠ c.b ∧ I p = none ∧ RpAll c.K I xs ds
  | some v, .bag => ∃ p, v = .ref p ∧ c.b = some p ∧ c.B = bagB
  | some v, .memo M => ∃ p, v = .ref p ∧ c.b = some p ∧ c.B = M
  | some v, .scr ns => ∃ a, v = .ref a ∧ SqL c.K I a (ns.map V.int)
  | some v, .raw u => v = u
  | some v, .mu M => ∃ p o, v = .ref p ∧ H p = some o ∧ (∀ xs, o ≠ .lst xs) ∧ c.H0 p = none ∧ some p ≠ c.b ∧ I p = none ∧ ∀ J, Same I J → M J p o
  | none, _ => False
structure EnvR (c : Ctx) (I H : Hp) (σ : Sl) (ρ : List Ent) : Prop where
  st : Paired (EntR c I H) σ ρ
  ap : ∀ (i j : Nat) (p : Addr) (ds es : List PyData), ρ[i]? = some (.own ds) → ρ[j]? = some (.own es) → σ[i]? = some (some (.ref p)) → σ[j]? = some (some (.ref p)) → i = j
theorem EntR.go {c : Ctx} {I H I2 H2 : Hp} (g : Gx c.b I H I2 H2) : ∀ {o : Option V} {e : Ent}, EntR c I H o e → EntR c I2 H2 o e
  | o, .any, _ => by cases o <;> exact True.intro
  | some v, .dat d, h => Rp.mono g.ii h
  | some v, .own ds, h => by
    obtain ⟨p, xs, e, h1, h2, h3, h4, h5⟩ := h
    refine ⟨p, xs, e, g.hh _ _ h3 h1, h2, h3, ?_, h5.mono g.ii⟩
    rw [g.nw p (by rw [h1]; exact fun z => nomatch z)]
    exact h4
  | some v, .bag, h => h
  | some v, .memo _, h => h
  | none, .memo _, h => h.elim
  | some v, .raw _, h => h
  | none, .raw _, h => h.elim
  | some v, .scr _, h => by obtain ⟨a, e, q⟩ := h; exact ⟨a, e, g.ii.seq q⟩
  | none, .scr _, h => h.elim
  | none, .dat _, h => h.elim
  | none, .own _, h => h.elim
  | none, .bag, h => h.elim
  | some v, .mu M, h => by
    obtain ⟨p, o, e, h1, h2, h3, h4, h5, h6⟩ := h
    refine ⟨p, o, e, g.hh _ _ h4 h1, h2, h3, h4, ?_, fun J s => h6 J (g.ii.trans s)⟩
    rw [g.nw p (by rw [h1]; exact fun z => nomatch z)]
    exact h5
  | none, .mu _, h => h.elim
theorem EnvR.go {c : Ctx} {I H I2 H2 : Hp} {σ : Sl} {ρ : List Ent} (h : EnvR c I H σ ρ) (g : Gx c.b I H I2 H2) : EnvR c I2 H2 σ ρ :=
  ⟨Paired.mapP h.st fun _ _ x => x.go g, h.ap⟩
theorem Paired.getP {α β : Type} {F : α → β → Prop} : ∀ {l : List α} {m : List β} {i : Nat} {b : β}, Paired F l m → m[i]? = some b → ∃ a, l[i]? = some a ∧ F a b
  | _, _, 0, b, .cons h _, e => by
    simp only [List.getElem?_cons_zero, Option.some.injEq] at e
    subst e
    exact ⟨_, rfl, h⟩
  | _, _, i + 1, b, .cons _ r, e => by
    simp only [List.getElem?_cons_succ] at e
    obtain ⟨a, h1, h2⟩ := Paired.getP r e
    exact ⟨a, by simpa using h1, h2⟩
  | _, _, _, _, .nil, e => by simp at e
theorem Paired.getL {α β : Type} {F : α → β → Prop} : ∀ {l : List α} {m : List β} {i : Nat} {a : α}, Paired F l m → l[i]? = some a → ∃ b, m[i]? = some b ∧ F a b
  | _, _, 0, b, .cons h _, e => by
    simp only [List.getElem?_cons_zero, Option.some.injEq] at e
    subst e
    exact ⟨_, rfl, h⟩
  | _, _, i + 1, b, .cons _ r, e => by
    simp only [List.getElem?_cons_succ] at e
    obtain ⟨a, h1, h2⟩ := Paired.getL r e
    exact ⟨a, by simpa using h1, h2⟩
  | _, _, _, _, .nil, e => by simp at e
theorem Paired.setP {α β : Type} {F : α → β → Prop} {a : α} {b : β} (r : F a b) : ∀ {l : List α} {m : List β} (i : Nat), Paired F l m → Paired F (l.set i a) (m.set i b)
  | _, _, _, .nil => .nil
  | _, _, 0, .cons _ t => .cons r t
  | _, _, i + 1, .cons q t => .cons q (Paired.setP r i t)
theorem Paired.len {α β : Type} {F : α → β → Prop} : ∀ {l : List α} {m : List β}, Paired F l m → l.length = m.length
  | _, _, .nil => rfl
  | _, _, .cons _ t => congrArg (· + 1) (Paired.len t)
/-- a slot gets something that is no list of one's own -/
theorem EnvR.set {c : Ctx} {I H : Hp} {σ : Sl} {ρ : List Ent} (h : EnvR c I H σ ρ) (i : Nat) {o : Option V} {e : Ent} (r : EntR c I H o e) (ne : ∀ ds, e ≠ .own ds) : EnvR c I H (σ.set i o) (ρ.set i e) := by
  refine ⟨Paired.setP r i h.st, fun j k p ds es h1 h2 h3 h4 => ?_⟩
  have nj : j ≠ i := fun z => by
    subst z
    rw [List.getElem?_set] at h1
    simp only [if_true] at h1
    split at h1
    · exact ne _ (Option.some.inj h1)
    · cases h1
  have nk : k ≠ i := fun z => by
    subst z
    rw [List.getElem?_set] at h2
    simp only [if_true] at h2
    split at h2
    · exact ne _ (Option.some.inj h2)
    · cases h2
  rw [List.getElem?_set_ne (Ne.symm nj)] at h1 h3
  rw [List.getElem?_set_ne (Ne.symm nk)] at h2 h4
  exact h.ap j k p ds es h1 h2 h3 h4
/-- an expression goes on: the world stays one -/
theorem Wd.bgN {c : Ctx} {I H : Hp} {n m : Nat} (w : Wd c I H n) (e : n ≤ m) : Wd c I H m :=
  ⟨w.ih, w.i0, w.h0, w.nw, fun p q => let ⟨a, b, z⟩ := w.bg p q; ⟨a, b, z.mono e⟩⟩
theorem Wd.noI {c : Ctx} {I H : Hp} {n : Nat} (w : Wd c I H n) {p : Addr} (h : H p = none) : I p = none := w.ih.free h

/-! ### judgements over data -/
def Ev (c : Ctx) (t : TE) (ρ : List Ent) (C : Nat) (P : PyData → Prop) : Prop :=
  ∀ (σ : Sl) (I H : Hp) (n : Nat) (Q : VK), Wd c I H n → EnvR c I H σ ρ → n + C ≤ NMAX →
    (∀ v d I2 H2, Gx c.b I H I2 H2 → Wd c I2 H2 (n + C) → Rp c.K I2 v d → P d → Q v H2) → t σ H Q
def Et (c : Ctx) (t : TT) (ρ : List Ent) (C : Nat) (P : Bool → Prop) : Prop :=
  ∀ (σ : Sl) (I H : Hp) (n : Nat) (Q : Bool → Hp → Prop), Wd c I H n → EnvR c I H σ ρ → n + C ≤ NMAX →
    (∀ k I2 H2, Gx c.b I H I2 H2 → Wd c I2 H2 (n + C) → P k → Q k H2) → t σ H Q
def ArgR (K : PySem.W.Frag) (b : Option Addr) (B : BInv) (I : Hp) : V → Ent → Prop
  | v, .dat d => Rp K I v d
  | v, .bag => ∃ p, v = .ref p ∧ b = some p ∧ B = bagB
  | v, .memo M => ∃ p, v = .ref p ∧ b = some p ∧ B = M
  | v, .scr ns => ∃ a, v = .ref a ∧ SqL K I a (ns.map V.int)
  | v, .raw u => v = u
  | _, _ => False
def Ea (c : Ctx) (t : TA) (ρ : List Ent) (C : Nat) (P : List Ent → Prop) : Prop :=
  ∀ (σ : Sl) (I H : Hp) (n : Nat) (Q : List V → Hp → Prop), Wd c I H n → EnvR c I H σ ρ → n + C ≤ NMAX →
    (∀ vs es I2 H2, Gx c.b I H I2 H2 → Wd c I2 H2 (n + C) → Paired (ArgR c.K c.b c.B I2) vs es → P es → Q vs H2) → t σ H Q
/-- deterministic, no draw -/
abbrev Pv (c : Ctx) (t : TE) (ρ : List Ent) (d : PyData) : Prop := Ev c t ρ 0 (fun x => x = d)
abbrev Pt (c : Ctx) (t : TT) (ρ : List Ent) (b : Bool) : Prop := Et c t ρ 0 (fun x => x = b)
abbrev Pa (c : Ctx) (t : TA) (ρ : List Ent) (es : List Ent) : Prop := Ea c t ρ 0 (fun x => x = es)
theorem Ev.imp {c : Ctx} {t : TE} {ρ : List Ent} {C C' : Nat} {P P' : PyData → Prop} (h : Ev c t ρ C P) (hC : C ≤ C') (hP : ∀ d, P d → P' d) : Ev c t ρ C' P' :=
  fun σ I H n Q w e l k => h σ I H n Q w e (by omega) fun v d I2 H2 g w2 r p => k v d I2 H2 g (w2.bgN (by omega)) r (hP d p)
theorem Et.imp {c : Ctx} {t : TT} {ρ : List Ent} {C C' : Nat} {P P' : Bool → Prop} (h : Et c t ρ C P) (hC : C ≤ C') (hP : ∀ d, P d → P' d) : Et c t ρ C' P' :=
  fun σ I H n Q w e l k => h σ I H n Q w e (by omega) fun v I2 H2 g w2 p => k v I2 H2 g (w2.bgN (by omega)) (hP v p)
theorem Ea.imp {c : Ctx} {t : TA} {ρ : List Ent} {C C' : Nat} {P P' : List Ent → Prop} (h : Ea c t ρ C P) (hC : C ≤ C') (hP : ∀ d, P d → P' d) : Ea c t ρ C' P' :=
  fun σ I H n Q w e l k => h σ I H n Q w e (by omega) fun v d I2 H2 g w2 r p => k v d I2 H2 g (w2.bgN (by omega)) r (hP d p)
end Hh

set_option Elab.async false
set_option linter.all false
set_option maxRecDepth 100000
set_option maxHeartbeats 1000000
namespace Hh
set_option autoImplicit false
open PySem PySem.Spec PyProof.Rows L2
section
variable {c : Ctx} {ρ : List Ent} {ta tb te : TE} {C C1 C2 : Nat} {P P1 : PyData → Prop} {P2 : PyData → PyData → Prop}

/-! ### names, constants -/
theorem ev_var {i : Nat} {d : PyData} (h : ρ[i]? = some (.dat d)) : Pv c (tVar i) ρ d := fun σ I H n Q w e l k => by
  obtain ⟨o, h1, h2⟩ := Paired.getP e.st h
  cases o with
  | none => exact h2.elim
  | some v => exact ⟨v, h1, k v d I H Gx.refl w h2 rfl⟩
theorem ev_int {i : Int} : Pv c (tC (.int i)) ρ (.int i) := fun σ I H n Q w e l k => k _ _ I H Gx.refl w (.int i) rfl
theorem ev_str {i : Str} : Pv c (tC (.str i)) ρ (.str i) := fun σ I H n Q w e l k => k _ _ I H Gx.refl w (.str i) rfl
theorem ev_bl {i : Bool} : Pv c (tC (.bl i)) ρ (.bool i) := fun σ I H n Q w e l k => k _ _ I H Gx.refl w (.bl i) rfl
theorem ev_non : Pv c (tC .non) ρ .none := fun σ I H n Q w e l k => k _ _ I H Gx.refl w .non rfl
/-- a constant of the written part -/
theorem ev_kc {v : V} {d : PyData} (h : ∀ I, Rp c.K I v d) : Pv c (tC v) ρ d := fun σ I H n Q w e l k => k _ _ I H Gx.refl w (h I) rfl

/-! ### a two-place operation -/
def Rd2 (c : Ctx) (r : R2) (d1 d2 : PyData) (P : PyData → Prop) : Prop := ∀ (I H : Hp) (n : Nat) (x y : V) (Q : VK), Wd c I H n → Rp c.K I x d1 → Rp c.K I y d2 →
  (∀ v d I2 H2, Gx c.b I H I2 H2 → Wd c I2 H2 n → Rp c.K I2 v d → P d → Q v H2) → r x y H Q
theorem ev_op {r : R2} (ha : Ev c ta ρ C1 P1) (hb : ∀ d, P1 d → Ev c tb ρ C2 (P2 d)) (hr : ∀ d1 d2, P1 d1 → P2 d1 d2 → Rd2 c r d1 d2 P) (hC : C1 + C2 ≤ C) : Ev c (tOp r ta tb) ρ C P := fun σ I H n Q w e l k => by
  refine ha σ I H n _ w e (by omega) fun v d I2 H2 g2 w2 r2 p2 => ?_
  refine hb d p2 σ I2 H2 (n + C1) _ w2 (e.go g2) (by omega) fun v3 d3 I3 H3 g3 w3 r3 p3 => ?_
  exact hr d d3 p2 p3 I3 H3 _ v v3 Q w3 (r2.mono g3.ii) r3 fun v4 d4 I4 H4 g4 w4 r4 p4 => k v4 d4 I4 H4 ((g2.trans g3).trans g4) (w4.bgN (by omega)) r4 p4
theorem pv_op {r : R2} {d1 d2 d : PyData} (ha : Pv c ta ρ d1) (hb : Pv c tb ρ d2) (hr : Rd2 c r d1 d2 (fun x => x = d)) : Pv c (tOp r ta tb) ρ d :=
  ev_op ha (P2 := fun _ x => x = d2) (fun _ _ => hb) (fun _ _ e1 e2 => by subst e1; subst e2; exact hr) (Nat.le_refl _)
/-- scalars in, a scalar out -/
theorem rd_sc {r : R2} {d1 d2 d : PyData} {x y z : V} (h : ∀ (H : Hp) (Q : VK), Q z H → r x y H Q) (hx : ∀ I v, Rp c.K I v d1 → v = x) (hy : ∀ I v, Rp c.K I v d2 → v = y) (hz : ∀ I, Rp c.K I z d) : Rd2 c r d1 d2 (fun x => x = d) :=
  fun I H n u v Q w r1 r2 k => by
    rw [hx I u r1, hy I v r2]
    exact h H Q (k z d I H Gx.refl w (hz I) rfl)
theorem rd_ii {g : Int → Int → Int} {i j : Int} : Rd2 c (rI0 fun i j => .int (g i j)) (.int i) (.int j) (fun x => x = .int (g i j)) :=
  rd_sc (x := .int i) (y := .int j) (fun H Q q => ⟨i, j, rfl, rfl, q⟩) (fun _ _ h => h.int_inv) (fun _ _ h => h.int_inv) fun _ => .int _
theorem rd_iiC {g : Int → Int → Int} {D : Int → Int → Prop} {i j : Int} (hD : D i j) : Rd2 c (rI D fun i j => .int (g i j)) (.int i) (.int j) (fun x => x = .int (g i j)) :=
  rd_sc (x := .int i) (y := .int j) (fun H Q q => ⟨i, j, rfl, rfl, hD, q⟩) (fun _ _ h => h.int_inv) (fun _ _ h => h.int_inv) fun _ => .int _
theorem rd_ib {g : Int → Int → Bool} {i j : Int} : Rd2 c (rI0 fun i j => .bl (g i j)) (.int i) (.int j) (fun x => x = .bool (g i j)) :=
  rd_sc (x := .int i) (y := .int j) (fun H Q q => ⟨i, j, rfl, rfl, q⟩) (fun _ _ h => h.int_inv) (fun _ _ h => h.int_inv) fun _ => .bl _
theorem pv_ii {g : Int → Int → Int} {i j : Int} (ha : Pv c ta ρ (.int i)) (hb : Pv c tb ρ (.int j)) : Pv c (tOp (rI0 fun i j => .int (g i j)) ta tb) ρ (.int (g i j)) := pv_op ha hb rd_ii
theorem pv_iiC {g : Int → Int → Int} {D : Int → Int → Prop} {i j : Int} (ha : Pv c ta ρ (.int i)) (hb : Pv c tb ρ (.int j)) (hD : D i j) : Pv c (tOp (rI D fun i j => .int (g i j)) ta tb) ρ (.int (g i j)) := pv_op ha hb (rd_iiC hD)
theorem pv_ib {g : Int → Int → Bool} {i j : Int} (ha : Pv c ta ρ (.int i)) (hb : Pv c tb ρ (.int j)) : Pv c (tOp (rI0 fun i j => .bl (g i j)) ta tb) ρ (.bool (g i j)) := pv_op ha hb rd_ib

/-! ### == over data without dicts -/
mutual
def noDic : PyData → Bool
  | .dict _ => false
  | .list ds => noDics ds
  | .tuple ds => noDics ds
  | _ => true
def noDics : List PyData → Bool
  | [] => true
  | d :: ds => noDic d && noDics ds
end
mutual
theorem Rp.dp {K : PySem.W.Frag} {I : Hp} : ∀ {d : PyData} {v : V}, noDic d = true → Rp K I v d → Dp K I v d
  | .none, _, _, .non => .non
  | .bool _, _, _, .bl b => .bl b
  | .int _, _, _, .int i => .int i
  | .str _, _, _, .str x => .str x
  | .list _, _, e, .lst h r => .lst (.inl (.inl h)) (RpAll.dp (by simpa [noDic] using e) r)
  | .tuple _, _, e, .tup h r => .tup h (RpAll.dp (by simpa [noDic] using e) r)
  | .dict _, _, e, _ => by simp [noDic] at e
theorem RpAll.dp {K : PySem.W.Frag} {I : Hp} : ∀ {ds : List PyData} {vs : List V}, noDics ds = true → RpAll K I vs ds → DpAll K I vs ds
  | [], _, _, .nil => .nil
  | d :: ds, _, e, .cons h r => by
    simp only [noDics, Bool.and_eq_true] at e
    exact .cons (Rp.dp e.1 h) (RpAll.dp e.2 r)
end
/-- == of data, or of scalars as they are -/
def rEqX (K : PySem.W.Frag) : R2 := fun x y H Q => rEqD K x y H Q ∨ rEq x y H Q
def rNeX (K : PySem.W.Frag) : R2 := fun x y H Q => rNeD K x y H Q ∨ rNe x y H Q
def okD (d : PyData) : Bool := noDic d && SeqAt.shaped d
theorem rd_eq {d1 d2 : PyData} (h1 : okD d1 = true) (h2 : okD d2 = true) : Rd2 c (rEqX c.K) d1 d2 (fun x => x = .bool (PyData.eqv d1 d2)) := fun I H n x y Q w r1 r2 k => by
  unfold okD at h1 h2
  rw [Bool.and_eq_true] at h1 h2
  exact .inl ⟨d1, d2, (r1.mono w.ih).dp h1.1, (r2.mono w.ih).dp h2.1, h1.2, h2.2, k _ _ I H Gx.refl w (.bl _) rfl⟩
theorem rd_ne {d1 d2 : PyData} (h1 : okD d1 = true) (h2 : okD d2 = true) : Rd2 c (rNeX c.K) d1 d2 (fun x => x = .bool (!PyData.eqv d1 d2)) := fun I H n x y Q w r1 r2 k => by
  unfold okD at h1 h2
  rw [Bool.and_eq_true] at h1 h2
  exact .inl ⟨d1, d2, (r1.mono w.ih).dp h1.1, (r2.mono w.ih).dp h2.1, h1.2, h2.2, k _ _ I H Gx.refl w (.bl _) rfl⟩
theorem pv_eq {d1 d2 : PyData} (ha : Pv c ta ρ d1) (hb : Pv c tb ρ d2) (h1 : okD d1 = true) (h2 : okD d2 = true) : Pv c (tOp (rEqX c.K) ta tb) ρ (.bool (PyData.eqv d1 d2)) := pv_op ha hb (rd_eq h1 h2)
theorem pv_ne {d1 d2 : PyData} (ha : Pv c ta ρ d1) (hb : Pv c tb ρ d2) (h1 : okD d1 = true) (h2 : okD d2 = true) : Pv c (tOp (rNeX c.K) ta tb) ρ (.bool (!PyData.eqv d1 d2)) := pv_op ha hb (rd_ne h1 h2)

theorem pv_eqS {x y : Str} (ha : Pv c ta ρ (.str x)) (hb : Pv c tb ρ (.str y)) : Pv c (tOp (rEqX c.K) ta tb) ρ (.bool (decide (x = y))) := pv_op ha hb fun I H n u v Q w r1 r2 k => by
  obtain rfl := r1.str_inv
  obtain rfl := r2.str_inv
  refine .inr ⟨rfl, ?_⟩
  rw [show decide (V.str x = V.str y) = decide (x = y) by by_cases h : x = y <;> simp [h]]
  exact k _ _ I H Gx.refl w (.bl _) rfl
theorem pv_neS {x y : Str} (ha : Pv c ta ρ (.str x)) (hb : Pv c tb ρ (.str y)) : Pv c (tOp (rNeX c.K) ta tb) ρ (.bool (!decide (x = y))) := pv_op ha hb fun I H n u v Q w r1 r2 k => by
  obtain rfl := r1.str_inv
  obtain rfl := r2.str_inv
  refine .inr ⟨rfl, ?_⟩
  rw [show decide (V.str x = V.str y) = decide (x = y) by by_cases h : x = y <;> simp [h]]
  exact k _ _ I H Gx.refl w (.bl _) rfl
/-! ### is None -/
def isNo : PyData → Bool
  | .none => true
  | _ => false
theorem Rp.isNo {K : PySem.W.Frag} {I : Hp} {v : V} {d : PyData} (r : Rp K I v d) : decide (v = V.non) = isNo d := by
  cases r <;> simp [Hh.isNo]
theorem pv_isN {d : PyData} (ha : Pv c ta ρ d) : Pv c (tIsN ta) ρ (.bool (isNo d)) := fun σ I H n Q w e l k => by
  refine ha σ I H n _ w e l fun v d' I2 H2 g2 w2 r2 p2 => ?_
  subst p2
  rw [r2.isNo]
  exact k _ _ I2 H2 g2 w2 (.bl _) rfl
theorem pv_notN {d : PyData} (ha : Pv c ta ρ d) : Pv c (tNotN ta) ρ (.bool (!isNo d)) := fun σ I H n Q w e l k => by
  refine ha σ I H n _ w e l fun v d' I2 H2 g2 w2 r2 p2 => ?_
  subst p2
  rw [r2.isNo]
  exact k _ _ I2 H2 g2 w2 (.bl _) rfl

/-! ### and, or, not; tests -/
theorem pv_and {a b : Bool} (ha : Pv c ta ρ (.bool a)) (hb : a = true → Pv c tb ρ (.bool b)) : Pv c (tAndV ta tb) ρ (.bool (a && b)) := fun σ I H n Q w e l k => by
  refine ha σ I H n _ w e l fun v d I2 H2 g2 w2 r2 p2 => ?_
  subst p2
  refine ⟨a, r2.bl_inv, ?_⟩
  cases a with
  | true =>
    rw [if_pos rfl]
    exact hb rfl σ I2 H2 n _ w2 (e.go g2) l fun v d I3 H3 g3 w3 r3 p3 => k v d I3 H3 (g2.trans g3) w3 r3 (by rw [p3]; rfl)
  | false =>
    rw [if_neg Bool.false_ne_true]
    exact k _ _ I2 H2 g2 w2 (.bl _) rfl
theorem pv_or {a b : Bool} (ha : Pv c ta ρ (.bool a)) (hb : a = false → Pv c tb ρ (.bool b)) : Pv c (tOrV ta tb) ρ (.bool (a || b)) := fun σ I H n Q w e l k => by
  refine ha σ I H n _ w e l fun v d I2 H2 g2 w2 r2 p2 => ?_
  subst p2
  refine ⟨a, r2.bl_inv, ?_⟩
  cases a with
  | false =>
    rw [if_neg Bool.false_ne_true]
    exact hb rfl σ I2 H2 n _ w2 (e.go g2) l fun v d I3 H3 g3 w3 r3 p3 => k v d I3 H3 (g2.trans g3) w3 r3 (by rw [p3]; rfl)
  | true =>
    rw [if_pos rfl]
    exact k _ _ I2 H2 g2 w2 (.bl _) rfl
theorem pv_not {a : Bool} (ha : Pv c ta ρ (.bool a)) : Pv c (tNotV ta) ρ (.bool (!a)) := fun σ I H n Q w e l k =>
  ha σ I H n _ w e l fun v d I2 H2 g2 w2 r2 p2 => by
    subst p2
    exact ⟨a, r2.bl_inv, k _ _ I2 H2 g2 w2 (.bl _) rfl⟩
variable {tt tu : TT}
theorem pt_and {a b : Bool} (ha : Pt c tt ρ a) (hb : a = true → Pt c tu ρ b) : Pt c (tAnd tt tu) ρ (a && b) := fun σ I H n Q w e l k => by
  refine ha σ I H n _ w e l fun v I2 H2 g2 w2 p2 => ?_
  subst p2
  cases v with
  | true =>
    rw [if_pos rfl]
    exact hb rfl σ I2 H2 n _ w2 (e.go g2) l fun v I3 H3 g3 w3 p3 => k v I3 H3 (g2.trans g3) w3 (by rw [p3]; rfl)
  | false =>
    rw [if_neg Bool.false_ne_true]
    exact k _ I2 H2 g2 w2 rfl
theorem pt_or {a b : Bool} (ha : Pt c tt ρ a) (hb : a = false → Pt c tu ρ b) : Pt c (tOr tt tu) ρ (a || b) := fun σ I H n Q w e l k => by
  refine ha σ I H n _ w e l fun v I2 H2 g2 w2 p2 => ?_
  subst p2
  cases v with
  | false =>
    rw [if_neg Bool.false_ne_true]
    exact hb rfl σ I2 H2 n _ w2 (e.go g2) l fun v I3 H3 g3 w3 p3 => k v I3 H3 (g2.trans g3) w3 (by rw [p3]; rfl)
  | true =>
    rw [if_pos rfl]
    exact k _ I2 H2 g2 w2 rfl
theorem pt_notD {a : Bool} (ha : Pt c tt ρ a) : Pt c (tNot tt) ρ (!a) := fun σ I H n Q w e l k =>
  ha σ I H n _ w e l fun v I2 H2 g2 w2 p2 => by
    subst p2
    exact k _ I2 H2 g2 w2 rfl
theorem pt_B {a : Bool} (ha : Pv c te ρ (.bool a)) : Pt c (tB te) ρ a := fun σ I H n Q w e l k =>
  ha σ I H n _ w e l fun v d I2 H2 g2 w2 r2 p2 => by
    subst p2
    exact ⟨a, r2.bl_inv, k _ I2 H2 g2 w2 rfl⟩
theorem pt_T {a : Bool} (ha : Pv c te ρ (.bool a)) : Pt c (tTest te) ρ a := pt_B ha
theorem pv_if {a : Bool} {d1 d2 : PyData} (hc : Pt c tt ρ a) (h1 : a = true → Pv c ta ρ d1) (h2 : a = false → Pv c tb ρ d2) : Pv c (tIf tt ta tb) ρ (if a then d1 else d2) := fun σ I H n Q w e l k => by
  refine hc σ I H n _ w e l fun v I2 H2 g2 w2 p2 => ?_
  subst p2
  cases v with
  | true =>
    rw [if_pos rfl]
    exact h1 rfl σ I2 H2 n _ w2 (e.go g2) l fun v d I3 H3 g3 w3 r3 p3 => k v d I3 H3 (g2.trans g3) w3 r3 (by rw [p3]; rfl)
  | false =>
    rw [if_neg Bool.false_ne_true]
    exact h2 rfl σ I2 H2 n _ w2 (e.go g2) l fun v d I3 H3 g3 w3 r3 p3 => k v d I3 H3 (g2.trans g3) w3 r3 (by rw [p3]; rfl)
/-- a chain a < b < c over ints -/
theorem pv_chain {g g' : Int → Int → Bool} {tc : TE} {i j k : Int} (ha : Pv c ta ρ (.int i)) (hb : Pv c tb ρ (.int j)) (hc : g i j = true → Pv c tc ρ (.int k)) :
    Pv c (tChain (rI0 fun i j => .bl (g i j)) (rI0 fun i j => .bl (g' i j)) ta tb tc) ρ (.bool (g i j && g' j k)) := fun σ I H n Q w e l kk => by
  refine ha σ I H n _ w e l fun v d I2 H2 g2 w2 r2 p2 => ?_
  subst p2
  refine hb σ I2 H2 n _ w2 (e.go g2) l fun v3 d3 I3 H3 g3 w3 r3 p3 => ?_
  subst p3
  refine ⟨i, j, r2.int_inv, r3.int_inv, g i j, rfl, ?_⟩
  cases hg : g i j with
  | true =>
    rw [if_pos rfl]
    refine hc hg σ I3 H3 n _ w3 (e.go (g2.trans g3)) l fun v4 d4 I4 H4 g4 w4 r4 p4 => ?_
    subst p4
    exact ⟨j, k, r3.int_inv, r4.int_inv, kk _ _ I4 H4 ((g2.trans g3).trans g4) w4 (.bl _) (by rw [hg]; rfl)⟩
  | false =>
    rw [if_neg Bool.false_ne_true]
    exact kk _ _ I3 H3 (g2.trans g3) w3 (.bl _) (by rw [hg]; rfl)

/-! ### arguments, displays, calls -/
variable {tr : TA}
theorem ea_nil : Pa c tNil ρ [] := fun σ I H n Q w e l k => k [] [] I H Gx.refl w .nil rfl
theorem ArgR.mono {K : PySem.W.Frag} {b : Option Addr} {B : BInv} {I J : Hp} (e : Same I J) : ∀ {v : V} {x : Ent}, ArgR K b B I v x → ArgR K b B J v x
  | _, .memo _, h => h
  | _, .dat _, h => Rp.mono e h
  | _, .bag, h => h
  | _, .raw _, h => h
  | _, .scr _, h => by obtain ⟨a, e1, q⟩ := h; exact ⟨a, e1, e.seq q⟩
  | _, .any, h => h.elim
  | _, .own _, h => h.elim
  | _, .mu _, h => h.elim
theorem ea_cons {P1 : PyData → Prop} {P2 : PyData → List Ent → Prop} {P : List Ent → Prop} (ha : Ev c ta ρ C1 P1) (hr : ∀ d, P1 d → Ea c tr ρ C2 (P2 d)) (hP : ∀ d es, P1 d → P2 d es → P (.dat d :: es)) (hC : C1 + C2 ≤ C) : Ea c (tCons ta tr) ρ C P := fun σ I H n Q w e l k => by
  refine ha σ I H n _ w e (by omega) fun v d I2 H2 g2 w2 r2 p2 => ?_
  refine hr d p2 σ I2 H2 (n + C1) _ w2 (e.go g2) (by omega) fun vs es I3 H3 g3 w3 r3 p3 => ?_
  exact k (v :: vs) (.dat d :: es) I3 H3 (g2.trans g3) (w3.bgN (by omega)) (.cons (show Rp c.K I3 v d from r2.mono g3.ii) r3) (hP _ _ p2 p3)
theorem pa_consD {d : PyData} {es : List Ent} (ha : Pv c ta ρ d) (hr : Pa c tr ρ es) : Pa c (tCons ta tr) ρ (.dat d :: es) :=
  ea_cons ha (P2 := fun _ x => x = es) (fun _ _ => hr) (fun _ _ e1 e2 => by subst e1; subst e2; rfl) (Nat.le_refl _)
theorem pa_bag {i : Nat} {es : List Ent} (h : ρ[i]? = some .bag) (hr : Pa c tr ρ es) : Pa c (tCons (tVar i) tr) ρ (.bag :: es) := fun σ I H n Q w e l k => by
  obtain ⟨o, h1, h2⟩ := Paired.getP e.st h
  cases o with
  | none => exact h2.elim
  | some v =>
    refine ⟨v, h1, hr σ I H n _ w e l fun vs es' I3 H3 g3 w3 r3 p3 => ?_⟩
    subst p3
    exact k (v :: vs) (.bag :: es') I3 H3 g3 w3 (.cons h2 r3) rfl
theorem pa_scr {i : Nat} {ns : List Int} {es : List Ent} (h : ρ[i]? = some (.scr ns)) (hr : Pa c tr ρ es) : Pa c (tCons (tVar i) tr) ρ (.scr ns :: es) := fun σ I H n Q w e l k => by
  obtain ⟨o, h1, h2⟩ := Paired.getP e.st h
  cases o with
  | none => exact h2.elim
  | some v =>
    refine ⟨v, h1, hr σ I H n _ w e l fun vs es' I3 H3 g3 w3 r3 p3 => ?_⟩
    subst p3
    obtain ⟨a, e1, q⟩ := h2
    exact k (v :: vs) (.scr ns :: es') I3 H3 g3 w3 (.cons ⟨a, e1, g3.ii.seq q⟩ r3) rfl
/-- the bag ahead of other arguments that may draw -/
theorem ea_bag {i : Nat} {P2 : List Ent → Prop} {P : List Ent → Prop} (h : ρ[i]? = some .bag) (hr : Ea c tr ρ C P2) (hP : ∀ es, P2 es → P (.bag :: es)) : Ea c (tCons (tVar i) tr) ρ C P := fun σ I H n Q w e l k => by
  obtain ⟨o, h1, h2⟩ := Paired.getP e.st h
  cases o with
  | none => exact h2.elim
  | some v =>
    exact ⟨v, h1, hr σ I H n _ w e l fun vs es' I3 H3 g3 w3 r3 p3 => k (v :: vs) (.bag :: es') I3 H3 g3 w3 (.cons h2 r3) (hP _ p3)⟩
def dats : List PyData → List Ent := List.map .dat
theorem args_all {K : PySem.W.Frag} {b : Option Addr} {B : BInv} {I : Hp} : ∀ {ds : List PyData} {vs : List V}, Paired (ArgR K b B I) vs (dats ds) → RpAll K I vs ds
  | [], _, .nil => .nil
  | _ :: _, _, .cons h r => .cons h (args_all r)
/-- a new object -/
theorem new_go {b : Option Addr} {I H : Hp} {p : Addr} {o : HO} (ih : Same I H) (h : H p = none) : Gx b I H (upd I p o) (upd H p o) := by
  refine ⟨fun q x e => ?_, fun q x _ e => ?_, fun q e => ?_, fun q e => ?_⟩
  · rw [upd_ne (ne_of_none e (ih.free h))]; exact e
  · rw [upd_ne (ne_of_none e h)]; exact e
  · rw [upd_ne (fun z => e (by rw [z]; exact h))]
  · rw [upd_ne (fun z => e (by rw [z]; exact h))]; exact e
theorem Wd.go {I H I2 H2 : Hp} {n : Nat} (w : Wd c I H n) (g : Gx c.b I H I2 H2) (ih : Same I2 H2) (hb : ∀ p, c.b = some p → BAt c.B H2 p (n + C)) : Wd c I2 H2 (n + C) := by
  refine ⟨ih, w.i0.trans g.ii, fun q o ne e => g.hh q o ne (w.h0 q o ne e), fun q e => ?_, fun p e => ⟨(w.bg p e).1, (w.bg p e).2.1, hb p e⟩⟩
  have hq : H q ≠ none := by
    by_cases hb : c.b = some q
    · obtain ⟨_, _, _, h, _⟩ := w.bg q hb
      rw [h]; exact fun z => nomatch z
    · cases h : c.H0 q with
      | none => exact absurd h e
      | some o => rw [w.h0 q o (fun z => hb z.symm) h]; exact fun z => nomatch z
  rw [g.nw q hq]
  exact w.nw q e
theorem Wd.new {I H : Hp} {n : Nat} {p : Addr} {o : HO} (w : Wd c I H n) (h : H p = none) : Wd c (upd I p o) (upd H p o) n := by
  refine Wd.go (C := 0) w (new_go w.ih h) (fun q x e => ?_) fun q e => ?_
  · by_cases z : q = p
    · subst z; rw [upd_same] at e ⊢; exact e
    · rw [upd_ne z] at e ⊢; exact w.ih q x e
  · obtain ⟨_, _, x, hh, r⟩ := w.bg q e
    exact ⟨x, by rw [upd_ne (ne_of_none hh h)]; exact hh, r⟩
theorem ev_tup {Pe : List Ent → Prop} (ha : Ea c tr ρ C Pe) (hP : ∀ es, Pe es → ∃ ds, es = dats ds ∧ P (.tuple ds) ∧ ds.length ≤ 1000) : Ev c (tTup tr) ρ C P := fun σ I H n Q w e l k =>
  ha σ I H n _ w e l fun vs es I2 H2 g2 w2 r2 p2 => by
    obtain ⟨ds, rfl, hp, hl⟩ := hP es p2
    have r := args_all r2
    refine ⟨by rw [r.length]; exact Nat.le_of_lt (small1000 hl), fun p np => ?_⟩
    exact k _ _ (upd I2 p (.tup vs)) (upd H2 p (.tup vs)) (g2.trans (new_go w2.ih np)) (w2.new np) (.tup (.inl (.inl upd_same)) (r.mono (new_go (b := none) w2.ih np).ii)) hp
theorem ev_lst {Pe : List Ent → Prop} (ha : Ea c tr ρ C Pe) (hP : ∀ es, Pe es → ∃ ds, es = dats ds ∧ P (.list ds) ∧ ds.length ≤ 1000) : Ev c (tLst tr) ρ C P := fun σ I H n Q w e l k =>
  ha σ I H n _ w e l fun vs es I2 H2 g2 w2 r2 p2 => by
    obtain ⟨ds, rfl, hp, hl⟩ := hP es p2
    have r := args_all r2
    refine ⟨by rw [r.length]; exact Nat.le_of_lt (small1000 hl), fun p np => ?_⟩
    exact k _ _ (upd I2 p (.lst vs)) (upd H2 p (.lst vs)) (g2.trans (new_go w2.ih np)) (w2.new np) (.lst upd_same (r.mono (new_go (b := none) w2.ih np).ii)) hp
theorem pv_tup {ds : List PyData} (ha : Pa c tr ρ (dats ds)) (hl : ds.length ≤ 1000 := by first | decide | simp) : Pv c (tTup tr) ρ (.tuple ds) := ev_tup ha fun es e => ⟨ds, e, rfl, hl⟩
theorem pv_lst {ds : List PyData} (ha : Pa c tr ρ (dats ds)) (hl : ds.length ≤ 1000 := by first | decide | simp) : Pv c (tLst tr) ρ (.list ds) := ev_lst ha fun es e => ⟨ds, e, rfl, hl⟩

/-- a def's promise over data -/
def spD (K : PySem.W.Frag) (ar : Nat) (C : Nat) (pre : List Ent → Prop) (post : List Ent → PyData → Prop) : Sp := fun vs H Q _ => ∃ (b : Option Addr) (B : BInv) (I : Hp) (n : Nat) (es : List Ent), vs.length = ar ∧ Paired (ArgR K b B I) vs es ∧ Same I H ∧
  (∀ p, b = some p → I p = none ∧ BAt B H p n) ∧ n + C ≤ NMAX ∧ pre es ∧
  ∀ v d I2 H2, Gx b I H I2 H2 → Same I2 H2 → (∀ p, b = some p → BAt B H2 p (n + C)) → Rp K I2 v d → post es d → Q v H2
theorem Wd.noB {I H : Hp} {n : Nat} (w : Wd c I H n) {p : Addr} (e : c.b = some p) : I p = none := by
  obtain ⟨h1, h2, _⟩ := w.bg p e
  rw [w.nw p h2]
  exact h1
theorem ev_call {ar : Nat} {pre : List Ent → Prop} {post : List Ent → PyData → Prop} {Pe : List Ent → Prop} {E : XK} (ha : Ea c tr ρ C1 Pe) (hp : ∀ es, Pe es → es.length = ar ∧ pre es) (hP : ∀ es d, Pe es → post es d → P d) (hC : C1 + C2 ≤ C) :
    Ev c (tCall (spD c.K ar C2 pre post) [] E tr) ρ C P := fun σ I H n Q w e l k =>
  ha σ I H n _ w e (by omega) fun vs es I2 H2 g2 w2 r2 p2 => by
    rw [List.append_nil]
    obtain ⟨h1, h2⟩ := hp es p2
    refine ⟨c.b, c.B, I2, n + C1, es, by rw [Paired.len r2]; exact h1, r2, w2.ih, fun p e => ⟨w2.noB e, (w2.bg p e).2.2⟩, by omega, h2, fun v d I3 H3 g3 ih3 hb r3 p3 => ?_⟩
    exact k v d I3 H3 (g2.trans g3) ((w2.go g3 ih3 hb).bgN (by omega)) r3 (hP _ _ p2 p3)
theorem pv_call {ar : Nat} {pre : List Ent → Prop} {g : List Ent → PyData} {es : List Ent} {E : XK} (ha : Pa c tr ρ es) (hl : es.length = ar) (hp : pre es) :
    Pv c (tCall (spD c.K ar 0 pre (fun es d => d = g es)) [] E tr) ρ (g es) :=
  ev_call ha (fun _ e => by subst e; exact ⟨hl, hp⟩) (fun _ _ e q => by subst e; exact q) (Nat.le_refl _)
end
end Hh

set_option Elab.async false
set_option linter.all false
set_option maxRecDepth 100000
set_option maxHeartbeats 1000000
namespace Hh
set_option autoImplicit false
open PySem PySem.Spec PyProof.Rows L2
section
variable {c : Ctx} {ρ : List Ent} {ta tb te : TE} {tr : TA} {C C1 C2 : Nat} {P P1 : PyData → Prop} {P2 : PyData → PyData → Prop}

/-! ### built-ins -/
def RdA (c : Ctx) (r : List V → Hp → VK → Prop) (es : List Ent) (P : PyData → Prop) : Prop := ∀ (I H : Hp) (n : Nat) (vs : List V) (Q : VK), Wd c I H n → Paired (ArgR c.K c.b c.B I) vs es →
  (∀ v d I2 H2, Gx c.b I H I2 H2 → Wd c I2 H2 n → Rp c.K I2 v d → P d → Q v H2) → r vs H Q
theorem ev_cb {r : List V → Hp → VK → Prop} {Pe : List Ent → Prop} (ha : Ea c tr ρ C Pe) (hr : ∀ es, Pe es → RdA c r es P) : Ev c (tCB r tr) ρ C P := fun σ I H n Q w e l k =>
  ha σ I H n _ w e l fun vs es I2 H2 g2 w2 r2 p2 => hr es p2 I2 H2 _ vs Q w2 r2 fun v d I3 H3 g3 w3 r3 p3 => k v d I3 H3 (g2.trans g3) w3 r3 p3
theorem pv_cb {r : List V → Hp → VK → Prop} {es : List Ent} {d : PyData} (ha : Pa c tr ρ es) (hr : RdA c r es (fun x => x = d)) : Pv c (tCB r tr) ρ d := ev_cb ha fun _ e => by subst e; exact hr
theorem pair1 {α β : Type} {F : α → β → Prop} {l : List α} {b : β} (h : Paired F l [b]) : ∃ a, l = [a] ∧ F a b := by
  cases h with
  | cons x r => cases r; exact ⟨_, rfl, x⟩
theorem pair2 {α β : Type} {F : α → β → Prop} {l : List α} {b b' : β} (h : Paired F l [b, b']) : ∃ a a', l = [a, a'] ∧ F a b ∧ F a' b' := by
  cases h with
  | cons x r => obtain ⟨a, rfl, y⟩ := pair1 r; exact ⟨_, _, rfl, x, y⟩
theorem rda_max {i j : Int} : RdA c (fun xs H Q => ∃ i j, xs = [.int i, .int j] ∧ Q (.int (if j > i then j else i)) H) [.dat (.int i), .dat (.int j)] (fun x => x = .int (if j > i then j else i)) := fun I H n vs Q w r k => by
  obtain ⟨x, y, rfl, h1, h2⟩ := pair2 r
  have e1 : x = .int i := Rp.int_inv h1
  have e2 : y = .int j := Rp.int_inv h2
  subst e1 e2
  exact ⟨i, j, rfl, k _ _ I H Gx.refl w (.int _) rfl⟩
theorem rda_min {i j : Int} : RdA c (fun xs H Q => ∃ i j, xs = [.int i, .int j] ∧ Q (.int (if j < i then j else i)) H) [.dat (.int i), .dat (.int j)] (fun x => x = .int (if j < i then j else i)) := fun I H n vs Q w r k => by
  obtain ⟨x, y, rfl, h1, h2⟩ := pair2 r
  have e1 : x = .int i := Rp.int_inv h1
  have e2 : y = .int j := Rp.int_inv h2
  subst e1 e2
  exact ⟨i, j, rfl, k _ _ I H Gx.refl w (.int _) rfl⟩
def lenD : PyData → Nat
  | .list ds => ds.length
  | .tuple ds => ds.length
  | .str x => x.length
  | _ => 0
theorem rda_lenL {ds : List PyData} : RdA c (fun xs H Q => ∃ x n, xs = [x] ∧ LenV c.K x H n ∧ Q (.int n) H) [.dat (.list ds)] (fun x => x = .int ds.length) := fun I H n vs Q w r k => by
  obtain ⟨x, rfl, h1⟩ := pair1 r
  obtain ⟨a, xs, rfl, hs, hr⟩ := Rp.lst_inv h1
  exact ⟨_, ds.length, rfl, .inl ⟨xs, (SqL.of (w.ih _ _ hs)), hr.length.symm⟩, k _ _ I H Gx.refl w (.int _) rfl⟩
theorem rda_lenK {ns : List Int} : RdA c (fun xs H Q => ∃ x n, xs = [x] ∧ LenV c.K x H n ∧ Q (.int n) H) [.scr ns] (fun x => x = .int ns.length) := fun I H n vs Q w r k => by
  obtain ⟨x, rfl, h1⟩ := pair1 r
  obtain ⟨a, rfl, hs⟩ := h1
  exact ⟨_, ns.length, rfl, .inl ⟨_, w.ih.seq hs, by rw [List.length_map]⟩, k _ _ I H Gx.refl w (.int _) rfl⟩
theorem rda_lenT {ds : List PyData} : RdA c (fun xs H Q => ∃ x n, xs = [x] ∧ LenV c.K x H n ∧ Q (.int n) H) [.dat (.tuple ds)] (fun x => x = .int ds.length) := fun I H n vs Q w r k => by
  obtain ⟨x, rfl, h1⟩ := pair1 r
  obtain ⟨a, xs, rfl, hs, hr⟩ := Rp.tup_inv h1
  exact ⟨_, ds.length, rfl, .inr ⟨xs, seqT_mono w.ih hs, hr.length.symm⟩, k _ _ I H Gx.refl w (.int _) rfl⟩
theorem rda_lenS {x : Str} (hx : x.length ≤ sizeLine) : RdA c (fun xs H Q => ∃ x n, xs = [x] ∧ LenV c.K x H n ∧ Q (.int n) H) [.dat (.str x)] (fun y => y = .int x.length) := fun I H n vs Q w r k => by
  obtain ⟨v, rfl, h1⟩ := pair1 r
  have e1 : v = .str x := Rp.str_inv h1
  subst e1
  exact ⟨_, x.length, rfl, ⟨hx, rfl⟩, k _ _ I H Gx.refl w (.int _) rfl⟩
theorem rda_all {bs : List Bool} : RdA c (rAll c.K) [.dat (.list (bs.map .bool))] (fun x => x = .bool (bs.all id)) := fun I H n vs Q w r k => by
  obtain ⟨x, rfl, h1⟩ := pair1 r
  obtain ⟨a, xs, rfl, hs, hr⟩ := Rp.lst_inv h1
  have e := hr.bls
  subst e
  exact ⟨a, bs, rfl, (SqL.of (w.ih _ _ hs)), k _ _ I H Gx.refl w (.bl _) rfl⟩
theorem rda_any {bs : List Bool} : RdA c (rAny c.K) [.dat (.list (bs.map .bool))] (fun x => x = .bool (bs.any id)) := fun I H n vs Q w r k => by
  obtain ⟨x, rfl, h1⟩ := pair1 r
  obtain ⟨a, xs, rfl, hs, hr⟩ := Rp.lst_inv h1
  have e := hr.bls
  subst e
  exact ⟨a, bs, rfl, (SqL.of (w.ih _ _ hs)), k _ _ I H Gx.refl w (.bl _) rfl⟩
theorem rda_tupL {ds : List PyData} : RdA c (fun xs H Q => ∃ p ys, xs = [.ref p] ∧ ((SqL c.K H p ys ∧ ∀ l, H l = none → Q (.ref l) (upd H l (.tup ys))) ∨ (SqT c.K H p ys ∧ Q (.ref p) H))) [.dat (.list ds)] (fun x => x = .tuple ds) := fun I H n vs Q w r k => by
  obtain ⟨x, rfl, h1⟩ := pair1 r
  obtain ⟨a, xs, rfl, hs, hr⟩ := Rp.lst_inv h1
  refine ⟨a, xs, rfl, .inl ⟨(SqL.of (w.ih _ _ hs)), fun p np => ?_⟩⟩
  exact k _ _ (upd I p (.tup xs)) (upd H p (.tup xs)) (new_go w.ih np) (w.new np) (.tup (.inl (.inl upd_same)) (hr.mono (new_go (b := none) w.ih np).ii)) rfl

/-! ### isinstance -/
def tyD : PyData → String
  | .none => "NoneType"
  | .bool _ => "bool"
  | .int _ => "int"
  | .str _ => "str"
  | .list _ => "list"
  | .tuple _ => "tuple"
  | .dict _ => "dict"
theorem Rp.ty {K : PySem.W.Frag} {I H : Hp} (ih : Same I H) {v : V} {d : PyData} (r : Rp K I v d) : TyX K H v (.type (tyD d)) := by
  cases r with
  | non => exact .base .non
  | bl b => exact .base (.bl b)
  | int i => exact .base (.int i)
  | str x => exact .base (.str x)
  | lst h _ => exact .base (.lst (ih _ _ h))
  | tup h _ =>
    rcases h with (h | ⟨o, h⟩) | ⟨o, _, _, h, hc, _⟩
    · exact .base (.tup (ih _ _ h))
    · exact .fTuple (ih _ _ h)
    · exact .kTuple h hc
  | dic h _ => exact .base (.dK (ih _ _ h))
def isIntD : PyData → Bool
  | .bool _ => true
  | .int _ => true
  | _ => false
def isBoolD : PyData → Bool
  | .bool _ => true
  | _ => false
def isStrD : PyData → Bool
  | .str _ => true
  | _ => false
def isListD : PyData → Bool
  | .list _ => true
  | _ => false
def isTupD : PyData → Bool
  | .tuple _ => true
  | _ => false
def isDicD : PyData → Bool
  | .dict _ => true
  | _ => false
theorem pv_isi {n : String} {d : PyData} {b : Bool} (ha : Pv c ta ρ d) (hn : kitB (tyD d) n = some b) : Pv c (tCB (rIsi c.K) (tCons ta (tCons (tC (.ty n)) tNil))) ρ (.bool b) := fun σ I H m Q w e l k =>
  ha σ I H m _ w e l fun v d' I2 H2 g2 w2 r2 p2 => by
    subst p2
    exact ⟨v, .ty n, .type (tyD d'), .type n, b, rfl, .ty n, r2.ty w2.ih, kit_ty hn, k _ _ I2 H2 g2 w2 (.bl _) rfl⟩
theorem kit_int : ∀ d : PyData, kitB (tyD d) "int" = some (isIntD d)
  | .none => (by decide +kernel : kitB "NoneType" "int" = some false)
  | .bool _ => (by decide +kernel : kitB "bool" "int" = some true)
  | .int _ => (by decide +kernel : kitB "int" "int" = some true)
  | .str _ => (by decide +kernel : kitB "str" "int" = some false)
  | .list _ => (by decide +kernel : kitB "list" "int" = some false)
  | .tuple _ => (by decide +kernel : kitB "tuple" "int" = some false)
  | .dict _ => (by decide +kernel : kitB "dict" "int" = some false)
theorem pv_is_int {d : PyData} (ha : Pv c ta ρ d) : Pv c (tCB (rIsi c.K) (tCons ta (tCons (tC (.ty "int")) tNil))) ρ (.bool (isIntD d)) := pv_isi ha (kit_int d)
theorem kit_bool : ∀ d : PyData, kitB (tyD d) "bool" = some (isBoolD d)
  | .none => (by decide +kernel : kitB "NoneType" "bool" = some false)
  | .bool _ => (by decide +kernel : kitB "bool" "bool" = some true)
  | .int _ => (by decide +kernel : kitB "int" "bool" = some false)
  | .str _ => (by decide +kernel : kitB "str" "bool" = some false)
  | .list _ => (by decide +kernel : kitB "list" "bool" = some false)
  | .tuple _ => (by decide +kernel : kitB "tuple" "bool" = some false)
  | .dict _ => (by decide +kernel : kitB "dict" "bool" = some false)
theorem pv_is_bool {d : PyData} (ha : Pv c ta ρ d) : Pv c (tCB (rIsi c.K) (tCons ta (tCons (tC (.ty "bool")) tNil))) ρ (.bool (isBoolD d)) := pv_isi ha (kit_bool d)
theorem kit_str : ∀ d : PyData, kitB (tyD d) "str" = some (isStrD d)
  | .none => (by decide +kernel : kitB "NoneType" "str" = some false)
  | .bool _ => (by decide +kernel : kitB "bool" "str" = some false)
  | .int _ => (by decide +kernel : kitB "int" "str" = some false)
  | .str _ => (by decide +kernel : kitB "str" "str" = some true)
  | .list _ => (by decide +kernel : kitB "list" "str" = some false)
  | .tuple _ => (by decide +kernel : kitB "tuple" "str" = some false)
  | .dict _ => (by decide +kernel : kitB "dict" "str" = some false)
theorem pv_is_str {d : PyData} (ha : Pv c ta ρ d) : Pv c (tCB (rIsi c.K) (tCons ta (tCons (tC (.ty "str")) tNil))) ρ (.bool (isStrD d)) := pv_isi ha (kit_str d)
theorem kit_list : ∀ d : PyData, kitB (tyD d) "list" = some (isListD d)
  | .none => (by decide +kernel : kitB "NoneType" "list" = some false)
  | .bool _ => (by decide +kernel : kitB "bool" "list" = some false)
  | .int _ => (by decide +kernel : kitB "int" "list" = some false)
  | .str _ => (by decide +kernel : kitB "str" "list" = some false)
  | .list _ => (by decide +kernel : kitB "list" "list" = some true)
  | .tuple _ => (by decide +kernel : kitB "tuple" "list" = some false)
  | .dict _ => (by decide +kernel : kitB "dict" "list" = some false)
theorem pv_is_list {d : PyData} (ha : Pv c ta ρ d) : Pv c (tCB (rIsi c.K) (tCons ta (tCons (tC (.ty "list")) tNil))) ρ (.bool (isListD d)) := pv_isi ha (kit_list d)
theorem kit_tuple : ∀ d : PyData, kitB (tyD d) "tuple" = some (isTupD d)
  | .none => (by decide +kernel : kitB "NoneType" "tuple" = some false)
  | .bool _ => (by decide +kernel : kitB "bool" "tuple" = some false)
  | .int _ => (by decide +kernel : kitB "int" "tuple" = some false)
  | .str _ => (by decide +kernel : kitB "str" "tuple" = some false)
  | .list _ => (by decide +kernel : kitB "list" "tuple" = some false)
  | .tuple _ => (by decide +kernel : kitB "tuple" "tuple" = some true)
  | .dict _ => (by decide +kernel : kitB "dict" "tuple" = some false)
theorem pv_is_tuple {d : PyData} (ha : Pv c ta ρ d) : Pv c (tCB (rIsi c.K) (tCons ta (tCons (tC (.ty "tuple")) tNil))) ρ (.bool (isTupD d)) := pv_isi ha (kit_tuple d)
theorem kit_dict : ∀ d : PyData, kitB (tyD d) "dict" = some (isDicD d)
  | .none => (by decide +kernel : kitB "NoneType" "dict" = some false)
  | .bool _ => (by decide +kernel : kitB "bool" "dict" = some false)
  | .int _ => (by decide +kernel : kitB "int" "dict" = some false)
  | .str _ => (by decide +kernel : kitB "str" "dict" = some false)
  | .list _ => (by decide +kernel : kitB "list" "dict" = some false)
  | .tuple _ => (by decide +kernel : kitB "tuple" "dict" = some false)
  | .dict _ => (by decide +kernel : kitB "dict" "dict" = some true)
theorem pv_is_dict {d : PyData} (ha : Pv c ta ρ d) : Pv c (tCB (rIsi c.K) (tCons ta (tCons (tC (.ty "dict")) tNil))) ρ (.bool (isDicD d)) := pv_isi ha (kit_dict d)

/-! ### an item -/
theorem at_rp {K : PySem.W.Frag} {I : Hp} {xs : List V} {ds : List PyData} {i : Int} {d : PyData} (r : RpAll K I xs ds) (h : atI ds i = some d) : ∃ v, atI xs i = some v ∧ Rp K I v d := by
  unfold atI at h ⊢
  rw [r.length]
  cases e : ixN ds.length i with
  | none => rw [e] at h; cases h
  | some j =>
    rw [e] at h
    exact r.get h
theorem rd_ixL {ds : List PyData} {i : Int} {d : PyData} (h : atI ds i = some d) : Rd2 c (rIxL c.K) (.list ds) (.int i) (fun x => x = d) := fun I H n x y Q w r1 r2 k => by
  obtain ⟨a, xs, rfl, hs, hr⟩ := r1.lst_inv
  obtain ⟨v, h1, h2⟩ := at_rp hr h
  exact ⟨a, xs, i, v, rfl, r2.int_inv, (SqL.of (w.ih _ _ hs)), h1, k v d I H Gx.refl w h2 rfl⟩
theorem rd_ixT {ds : List PyData} {i : Int} {d : PyData} (h : atI ds i = some d) : Rd2 c (rIxT c.K) (.tuple ds) (.int i) (fun x => x = d) := fun I H n x y Q w r1 r2 k => by
  obtain ⟨a, xs, rfl, hs, hr⟩ := r1.tup_inv
  obtain ⟨v, h1, h2⟩ := at_rp hr h
  exact ⟨a, xs, i, v, rfl, r2.int_inv, seqT_mono w.ih hs, h1, k v d I H Gx.refl w h2 rfl⟩
theorem rd_ixLs {ds : List PyData} {i : Int} {d : PyData} (h : atI ds i = some d) : Rd2 c (rIx c.K) (.list ds) (.int i) (fun x => x = d) := fun I H n x y Q w r1 r2 k => .inl (rd_ixL h I H n x y Q w r1 r2 k)
theorem rd_ixTs {ds : List PyData} {i : Int} {d : PyData} (h : atI ds i = some d) : Rd2 c (rIx c.K) (.tuple ds) (.int i) (fun x => x = d) := fun I H n x y Q w r1 r2 k => .inr (.inl (rd_ixT h I H n x y Q w r1 r2 k))
theorem pv_scr {i : Nat} {ns : List Int} {j : Nat} {x : Int} (h : ρ[i]? = some (.scr ns)) (hb : Pv c tb ρ (.int j)) (hj : ns[j]? = some x) : Pv c (tOp (rIx c.K) (tVar i) tb) ρ (.int x) := fun σ I H n Q w e l k => by
  obtain ⟨o, h1, h2⟩ := Paired.getP e.st h
  cases o with
  | none => exact h2.elim
  | some v =>
    obtain ⟨a, rfl, q⟩ := h2
    refine ⟨_, h1, hb σ I H n _ w e l fun v d I2 H2 g2 w2 r2 p2 => ?_⟩
    subst p2
    have hx : (ns.map V.int)[j]? = some (.int x) := by rw [List.getElem?_map, hj]; rfl
    exact .inl ⟨a, _, j, .int x, rfl, r2.int_inv, w2.ih.seq (g2.ii.seq q), atI_nat hx, k _ _ I2 H2 g2 w2 (.int _) rfl⟩
theorem atI_of {ds : List PyData} {i : Int} (h0 : 0 ≤ i) (h1 : i < ds.length) : ∃ d, atI ds i = some d ∧ d ∈ ds := by
  have hj : i.toNat < ds.length := by omega
  refine ⟨ds[i.toNat], ?_, List.getElem_mem hj⟩
  have := atI_nat (xs := ds) (j := i.toNat) (List.getElem?_eq_getElem hj)
  rwa [show ((i.toNat : Nat) : Int) = i by omega] at this
/-- one of a list, at a drawn place -/
theorem ev_pick {m : Nat} (ha : Ev c ta ρ C1 (fun d => ∃ ds, d = .list ds ∧ ds.length = m ∧ ∀ x ∈ ds, P x)) (hb : Ev c tb ρ C2 (fun d => ∃ i : Int, d = .int i ∧ 0 ≤ i ∧ i < m)) (hC : C1 + C2 ≤ C) : Ev c (tOp (rIx c.K) ta tb) ρ C P :=
  ev_op ha (P2 := fun _ d => ∃ i : Int, d = .int i ∧ 0 ≤ i ∧ i < m) (fun _ _ => hb) (fun d1 d2 p1 p2 => by
    obtain ⟨ds, rfl, hl, hP⟩ := p1
    obtain ⟨i, rfl, h0, h1⟩ := p2
    obtain ⟨d, hd, hm⟩ := atI_of (ds := ds) h0 (by omega)
    exact fun I H n x y Q w r1 r2 k => rd_ixLs hd I H n x y Q w r1 r2 fun v d' I2 H2 g2 w2 r2 p2 => k v d' I2 H2 g2 w2 r2 (by rw [p2]; exact hP d hm)) hC

/-! ### in -/
def flatD : PyData → Bool
  | .none => true
  | .bool _ => true
  | .int _ => true
  | .str _ => true
  | _ => false
theorem Rp.flat {K : PySem.W.Frag} {I : Hp} {v : V} {d : PyData} (r : Rp K I v d) (h : flatD d = true) : flatV v = true := by
  cases r <;> first | rfl | exact absurd h (by decide) | (simp [flatD] at h)
theorem eqV_eqv {K : PySem.W.Frag} {I : Hp} {v w : V} {d e : PyData} (r : Rp K I v d) (q : Rp K I w e) (h : flatD d = true) (h' : flatD e = true) : eqV v w = PyData.eqv d e := by
  cases r <;> first | (simp [flatD] at h; done) | (cases q <;> first | (simp [flatD] at h'; done) | (simp [eqV, PyData.eqv]))
theorem RpAll.flat {K : PySem.W.Frag} {I : Hp} : ∀ {ds : List PyData} {vs : List V}, RpAll K I vs ds → ds.all flatD = true → vs.all flatV = true
  | [], _, .nil, _ => rfl
  | d :: ds, _, .cons h r, e => by
    rw [List.all_cons, Bool.and_eq_true] at e
    rw [List.all_cons, h.flat e.1, RpAll.flat r e.2]
    rfl
theorem inV_any {K : PySem.W.Frag} {I : Hp} {w : V} {e : PyData} (q : Rp K I w e) (h' : flatD e = true) : ∀ {ds : List PyData} {vs : List V}, RpAll K I vs ds → ds.all flatD = true → inV w vs = ds.any fun y => PyData.eqv y e
  | [], _, .nil, _ => rfl
  | d :: ds, _, .cons h r, f => by
    rw [List.all_cons, Bool.and_eq_true] at f
    unfold inV
    rw [List.any_cons, List.any_cons, eqV_eqv h q f.1 h']
    have := inV_any q h' r f.2
    unfold inV at this
    rw [this]
def itemsD : PyData → Option (List PyData)
  | .list ds => some ds
  | .tuple ds => some ds
  | _ => none
theorem Rp.items {K : PySem.W.Frag} {I : Hp} {v : V} {d : PyData} {ds : List PyData} (r : Rp K I v d) (h : itemsD d = some ds) : ∃ a xs, v = .ref a ∧ (SqL K I a xs ∨ SqT K I a xs) ∧ RpAll K I xs ds := by
  cases r with
  | lst h1 h2 => cases h; exact ⟨_, _, rfl, .inl (SqL.of h1), h2⟩
  | tup h1 h2 => cases h; exact ⟨_, _, rfl, .inr h1, h2⟩
  | _ => cases h
theorem rd_in {neg : Bool} {d e : PyData} {ds : List PyData} (h : itemsD e = some ds) (hd : flatD d = true) (hs : ds.all flatD = true) : Rd2 c (rIn c.K neg) d e (fun x => x = .bool (if neg then !(ds.any fun y => PyData.eqv y d) else ds.any fun y => PyData.eqv y d)) := fun I H n x y Q w r1 r2 k => by
  obtain ⟨a, xs, rfl, hq, hr⟩ := r2.items h
  refine ⟨a, xs, rfl, hq.elim (fun z => .inl (w.ih.seq z)) (fun z => .inr (seqT_mono w.ih z)), r1.flat hd, hr.flat hs, ?_⟩
  rw [inV_any r1 hd hr hs]
  exact k _ _ I H Gx.refl w (.bl _) rfl

/-! ### slices -/
def cutD (xs : List PyData) (lo hi : Option Int) : List PyData := (xs.drop (HT.sIx xs.length 0 lo)).take (HT.sIx xs.length xs.length hi - HT.sIx xs.length 0 lo)
theorem cut_rp {K : PySem.W.Frag} {I : Hp} {xs : List V} {ds : List PyData} (r : RpAll K I xs ds) (lo hi : Option Int) : RpAll K I (cutV xs lo hi) (cutD ds lo hi) := by
  unfold cutV cutD
  rw [r.length]
  exact (r.drop _).take _
def Pp (c : Ctx) (t : TO) (ρ : List Ent) (o : Option Int) : Prop := ∀ (σ : Sl) (I H : Hp) (n : Nat) (Q : Option Int → Hp → Prop), Wd c I H n → EnvR c I H σ ρ → n ≤ NMAX →
    (∀ I2 H2, Gx c.b I H I2 H2 → Wd c I2 H2 n → Q o H2) → t σ H Q
theorem pp_no : Pp c tNoPart ρ none := fun σ I H n Q w e l k => k I H Gx.refl w
theorem pp_some {i : Int} (h : Pv c te ρ (.int i)) : Pp c (tPart te) ρ (some i) := fun σ I H n Q w e l k =>
  h σ I H n _ w e (by omega) fun v d I2 H2 g2 w2 r2 p2 => by
    subst p2
    exact ⟨i, r2.int_inv, k I2 H2 g2 w2⟩
theorem pv_slL {tl th : TO} {ds : List PyData} {lo hi : Option Int} (ha : Pv c te ρ (.list ds)) (hl : Pp c tl ρ lo) (hh : Pp c th ρ hi) : Pv c (tSl (rSlL c.K) te tl th) ρ (.list (cutD ds lo hi)) := fun σ I H n Q w e l k => by
  refine ha σ I H n _ w e l fun v d I2 H2 g2 w2 r2 p2 => ?_
  subst p2
  refine hl σ I2 H2 n _ w2 (e.go g2) (by omega) fun I3 H3 g3 w3 => hh σ I3 H3 n _ w3 (e.go (g2.trans g3)) (by omega) fun I4 H4 g4 w4 => ?_
  obtain ⟨a, xs, rfl, hs, hr⟩ := (r2.mono (g3.ii.trans g4.ii)).lst_inv
  refine ⟨a, xs, rfl, (SqL.of (w4.ih _ _ hs)), fun p np => ?_⟩
  exact k _ _ _ _ (((g2.trans g3).trans g4).trans (new_go w4.ih np)) (w4.new np) (.lst upd_same ((cut_rp hr lo hi).mono (new_go (b := none) w4.ih np).ii)) rfl
theorem sIx_whole {α : Type} (xs : List α) (lo hi : Option Int) (h : HT.sIx xs.length 0 lo = 0 ∧ HT.sIx xs.length xs.length hi = xs.length) : (xs.drop (HT.sIx xs.length 0 lo)).take (HT.sIx xs.length xs.length hi - HT.sIx xs.length 0 lo) = xs := by
  rw [h.1, h.2]
  simp
theorem pv_slT {tl th : TO} {ds : List PyData} {lo hi : Option Int} (ha : Pv c te ρ (.tuple ds)) (hl : Pp c tl ρ lo) (hh : Pp c th ρ hi) : Pv c (tSl (rSlA c.K) te tl th) ρ (.tuple (cutD ds lo hi)) := fun σ I H n Q w e l k => by
  refine ha σ I H n _ w e l fun v d I2 H2 g2 w2 r2 p2 => ?_
  subst p2
  refine hl σ I2 H2 n _ w2 (e.go g2) (by omega) fun I3 H3 g3 w3 => hh σ I3 H3 n _ w3 (e.go (g2.trans g3)) (by omega) fun I4 H4 g4 w4 => ?_
  have rr := r2.mono (g3.ii.trans g4.ii)
  obtain ⟨a, xs, rfl, hs, hr⟩ := rr.tup_inv
  refine ⟨a, xs, rfl, seqT_mono w4.ih hs, fun hw => ?_, fun hw p np => ?_⟩
  · have e1 : cutD ds lo hi = ds := by
      unfold cutD
      exact sIx_whole ds lo hi (by rw [← hr.length]; exact hw)
    rw [e1] at k
    exact k _ _ _ _ ((g2.trans g3).trans g4) w4 rr rfl
  · exact k _ _ _ _ (((g2.trans g3).trans g4).trans (new_go w4.ih np)) (w4.new np) (.tup (.inl (.inl upd_same)) ((cut_rp hr lo hi).mono (new_go (b := none) w4.ih np).ii)) rfl
theorem rd_catL {ds es : List PyData} (h : ds.length + es.length ≤ 1000) : True := trivial
end
end Hh

set_option Elab.async false
set_option linter.all false
set_option maxRecDepth 100000
set_option maxHeartbeats 1000000
namespace Hh
set_option autoImplicit false
open PySem PySem.Spec PyProof.Rows L2
section
variable {c : Ctx} {ρ : List Ent} {ta tb te : TE} {tr : TA} {C C0 C1 C2 : Nat} {P P1 : PyData → Prop}

/-! ### wiped slots -/
theorem wipe_get (σ : Sl) (j : Nat) : ∀ vs : List Nat, (wipe σ vs)[j]? = if j ∈ vs then σ[j]?.map (fun _ => none) else σ[j]?
  | [] => by simp [wipe]
  | v :: vs => by
    unfold wipe
    by_cases e : j = v
    · subst e
      rw [if_pos List.mem_cons_self, List.getElem?_set_self', wipe_get σ j vs]
      split <;> cases σ[j]? <;> rfl
    · rw [List.getElem?_set_ne (Ne.symm e), wipe_get σ j vs]
      by_cases h : j ∈ vs
      · rw [if_pos h, if_pos (List.mem_cons_of_mem _ h)]
      · rw [if_neg h, if_neg (fun z => (List.mem_cons.mp z).elim e h)]
theorem wipe_set {σ : Sl} {i : Nat} {x : Option V} {vs : List Nat} (h : i ∈ vs) : wipe (σ.set i x) vs = wipe σ vs := by
  apply List.ext_getElem?
  intro j
  rw [wipe_get, wipe_get]
  by_cases e : j ∈ vs
  · rw [if_pos e, if_pos e]
    by_cases z : i = j
    · subst z
      rw [List.getElem?_set_self']
      cases σ[i]? <;> rfl
    · rw [List.getElem?_set_ne z]
  · rw [if_neg e, if_neg e, List.getElem?_set_ne (fun z : i = j => e (by rw [← z]; exact h))]
def wipeE (ρ : List Ent) : List Nat → List Ent
  | [] => ρ
  | v :: vs => (wipeE ρ vs).set v .any
theorem EnvR.wipe {I H : Hp} {σ : Sl} (h : EnvR c I H σ ρ) : ∀ vs : List Nat, EnvR c I H (L2.wipe σ vs) (wipeE ρ vs)
  | [] => h
  | v :: vs => by
    unfold L2.wipe wipeE
    exact (EnvR.wipe h vs).set v True.intro (fun _ z => nomatch z)

/-! ### targets -/
def Tg (c : Ctx) (g : TG) (tgs : List Nat) (d : PyData) (f : List Ent → List Ent) : Prop := ∀ (σ : Sl) (ρ : List Ent) (I H : Hp) (n : Nat) (x : V) (Q : L2.St → Hp → Prop), Wd c I H n → EnvR c I H σ ρ → Rp c.K I x d →
  (∀ σ2, EnvR c I H σ2 (f ρ) → (∀ vs, (∀ t ∈ tgs, t ∈ vs) → wipe σ2 vs = wipe σ vs) → Q σ2 H) → g x σ H Q
def TgL (c : Ctx) (g : TGs) (tgs : List Nat) (ds : List PyData) (f : List Ent → List Ent) : Prop := ∀ (σ : Sl) (ρ : List Ent) (I H : Hp) (n : Nat) (xs : List V) (Q : L2.St → Hp → Prop), Wd c I H n → EnvR c I H σ ρ → RpAll c.K I xs ds →
  (∀ σ2, EnvR c I H σ2 (f ρ) → (∀ vs, (∀ t ∈ tgs, t ∈ vs) → wipe σ2 vs = wipe σ vs) → Q σ2 H) → g xs σ H Q
theorem tg_name {i : Nat} {d : PyData} : Tg c (gName i) [i] d (fun ρ => ρ.set i (.dat d)) := fun σ ρ I H n x Q w e r k =>
  k _ (e.set i (show Rp c.K I x d from r) (fun _ z => nomatch z)) fun vs h => wipe_set (h i List.mem_cons_self)
theorem tgl_nil : TgL c gNil [] [] id := fun σ ρ I H n xs Q w e r k => by
  cases r
  exact ⟨rfl, k σ e fun _ _ => rfl⟩
theorem tgl_cons {g : TG} {gs : TGs} {t1 t2 : List Nat} {d : PyData} {ds : List PyData} {f1 f2 : List Ent → List Ent} (h1 : Tg c g t1 d f1) (h2 : TgL c gs t2 ds f2) : TgL c (gCons g gs) (t1 ++ t2) (d :: ds) (fun ρ => f2 (f1 ρ)) := fun σ ρ I H n xs Q w e r k => by
  cases r with
  | cons a b =>
    refine ⟨_, _, rfl, h1 σ ρ I H n _ _ w e a fun σ2 e2 s2 => h2 σ2 _ I H n _ _ w e2 b fun σ3 e3 s3 => k σ3 e3 fun vs hv => ?_⟩
    exact (s3 vs fun t ht => hv t (List.mem_append_right _ ht)).trans (s2 vs fun t ht => hv t (List.mem_append_left _ ht))
theorem tg_tup {gs : TGs} {tgs : List Nat} {m : Nat} {ds : List PyData} {f : List Ent → List Ent} (h : TgL c gs tgs ds f) (hm : ds.length = m) : Tg c (gTup c.K m gs) tgs (.tuple ds) f := fun σ ρ I H n x Q w e r k => by
  obtain ⟨a, xs, rfl, hs, hr⟩ := r.tup_inv
  exact ⟨a, xs, rfl, seqT_mono w.ih hs, hr.length.trans hm, h σ ρ I H n xs Q w e hr k⟩
theorem tg_two {i j : Nat} {a b : PyData} : Tg c (gTup c.K 2 (gCons (gName i) (gCons (gName j) gNil))) [i, j] (.tuple [a, b]) (fun ρ => (ρ.set i (.dat a)).set j (.dat b)) := tg_tup (tgl_cons tg_name (tgl_cons tg_name tgl_nil)) rfl
theorem tg_three {i j k : Nat} {a b d : PyData} : Tg c (gTup c.K 3 (gCons (gName i) (gCons (gName j) (gCons (gName k) gNil)))) [i, j, k] (.tuple [a, b, d]) (fun ρ => ((ρ.set i (.dat a)).set j (.dat b)).set k (.dat d)) := tg_tup (tgl_cons tg_name (tgl_cons tg_name (tgl_cons tg_name tgl_nil))) rfl

/-! ### what is walked -/
structure IterOk (c : Ctx) (I1 : Hp) (J : It) (g : TG) (tgs : List Nat) (f : PyData → List Ent → List Ent) (items : List PyData) : Prop where
  go : ∀ i I H n, Same I1 I → Wd c I H n → i < items.length → J.go i H
  yl : ∀ i d I H n x H' σ ρ Q, Same I1 I → Wd c I H n → EnvR c I H σ ρ → items[i]? = some d → J.yld i H x H' →
    (∀ σ2 I2 H2, Gx c.b I H I2 H2 → Wd c I2 H2 n → EnvR c I2 H2 σ2 (f d ρ) → (∀ vs, (∀ t ∈ tgs, t ∈ vs) → wipe σ2 vs = wipe σ vs) → Q σ2 H2) → g x σ H' Q
  st : ∀ i I H n, Same I1 I → Wd c I H n → items.length ≤ i → J.stop i H
def Iw (c : Ctx) (wi : TI) (g : TG) (ρ : List Ent) (C : Nat) (tgs : List Nat) (f : PyData → List Ent → List Ent) (Pi : List PyData → Prop) : Prop :=
  ∀ (σ : Sl) (I H : Hp) (n : Nat) (R : It → Hp → Prop), Wd c I H n → EnvR c I H σ ρ → n + C ≤ NMAX →
    (∀ J I1 H1 items, Gx c.b I H I1 H1 → Wd c I1 H1 (n + C) → IterOk c I1 J g tgs f items → Pi items → R J H1) → wi σ H R
variable {g : TG} {tgs : List Nat} {f : PyData → List Ent → List Ent} {Pi : List PyData → Prop}
theorem iw_list (ha : Ev c ta ρ C (fun d => ∃ ds, d = .list ds ∧ Pi ds)) (ht : ∀ ds, Pi ds → ∀ d ∈ ds, Tg c g tgs d (f d)) : Iw c (iList c.K ta) g ρ C tgs f Pi := fun σ I H n R w e l k =>
  ha σ I H n _ w e l fun v d I2 H2 g2 w2 r2 p2 => by
    obtain ⟨ds, rfl, hp⟩ := p2
    obtain ⟨a, xs, rfl, hs, hr⟩ := r2.lst_inv
    refine ⟨a, rfl, ⟨xs, SqL.of (w2.ih _ _ hs)⟩, k _ I2 H2 ds g2 w2 ⟨fun i I H n s w h => ?_, fun i d I H n x H' σ ρ Q s w e hd hy kk => ?_, fun i I H n s w h => ?_⟩ hp⟩
    · have hi : i < xs.length := by rw [hr.length]; exact h
      exact ⟨xs, xs[i], SqL.of (s.trans w.ih _ _ hs), List.getElem?_eq_getElem hi⟩
    · obtain ⟨rfl, hy⟩ := hy
      obtain ⟨v, hv, rv⟩ := hr.get hd
      have ex : x = v := Option.some.inj ((hy xs (SqL.of (s.trans w.ih _ _ hs))).symm.trans hv)
      subst ex
      exact ht ds hp d (List.mem_of_getElem? hd) σ ρ I H' n x Q w e (rv.mono s) fun σ2 e2 s2 => kk σ2 I H' Gx.refl w e2 s2
    · exact ⟨xs, SqL.of (s.trans w.ih _ _ hs), by rw [hr.length]; exact h⟩
theorem iw_tup (ha : Ev c ta ρ C (fun d => ∃ ds, d = .tuple ds ∧ Pi ds)) (ht : ∀ ds, Pi ds → ∀ d ∈ ds, Tg c g tgs d (f d)) : Iw c (iTup c.K ta) g ρ C tgs f Pi := fun σ I H n R w e l k =>
  ha σ I H n _ w e l fun v d I2 H2 g2 w2 r2 p2 => by
    obtain ⟨ds, rfl, hp⟩ := p2
    obtain ⟨a, xs, rfl, hs, hr⟩ := r2.tup_inv
    refine ⟨a, rfl, ⟨xs, seqT_mono w2.ih hs⟩, k _ I2 H2 ds g2 w2 ⟨fun i I H n s w h => ?_, fun i d I H n x H' σ ρ Q s w e hd hy kk => ?_, fun i I H n s w h => ?_⟩ hp⟩
    · have hi : i < xs.length := by rw [hr.length]; exact h
      exact ⟨xs, xs[i], seqT_mono (s.trans w.ih) hs, List.getElem?_eq_getElem hi⟩
    · obtain ⟨rfl, hy⟩ := hy
      obtain ⟨v, hv, rv⟩ := hr.get hd
      have ex : x = v := Option.some.inj ((hy xs (seqT_mono (s.trans w.ih) hs)).symm.trans hv)
      subst ex
      exact ht ds hp d (List.mem_of_getElem? hd) σ ρ I H' n x Q w e (rv.mono s) fun σ2 e2 s2 => kk σ2 I H' Gx.refl w e2 s2
    · exact ⟨xs, seqT_mono (s.trans w.ih) hs, by rw [hr.length]; exact h⟩
def rngD (lo : Int) (m : Nat) : List PyData := (List.range m).map fun k => .int (lo + (k : Nat))
theorem rngD_len (lo : Int) (m : Nat) : (rngD lo m).length = m := by simp [rngD]
theorem rngD_get {lo : Int} {m i : Nat} {d : PyData} (h : (rngD lo m)[i]? = some d) : i < m ∧ d = .int (lo + (i : Nat)) := by
  unfold rngD at h
  rw [List.getElem?_map] at h
  by_cases hi : i < m
  · rw [List.getElem?_range hi] at h
    exact ⟨hi, (Option.some.inj h).symm⟩
  · rw [List.getElem?_eq_none (by simp; omega)] at h
    cases h
theorem iter_range {lo : Int} {m : Nat} {I1 : Hp} (ht : ∀ d ∈ rngD lo m, Tg c g tgs d (f d)) : IterOk c I1 (Itr lo m) g tgs f (rngD lo m) := by
  refine ⟨fun i I H n s w h => ?_, fun i d I H n x H' σ ρ Q s w e hd hy kk => ?_, fun i I H n s w h => ?_⟩
  · rw [rngD_len] at h; exact h
  · obtain ⟨rfl, rfl⟩ := hy
    obtain ⟨hi, rfl⟩ := rngD_get hd
    exact ht _ (List.mem_of_getElem? hd) σ ρ I H' n _ Q w e (.int _) fun σ2 e2 s2 => kk σ2 I H' Gx.refl w e2 s2
  · rw [rngD_len] at h; exact h
theorem iw_range1 {Pn : Int → Prop} (ha : Ev c ta ρ C (fun d => ∃ i : Int, d = .int i ∧ Pn i)) (hb : ∀ i, Pn i → -(2 ^ 62) ≤ i ∧ i < 2 ^ 62) (ht : ∀ i, Pn i → ∀ d ∈ rngD 0 i.toNat, Tg c g tgs d (f d)) :
    Iw c (iRng1 (tCons ta tNil)) g ρ C tgs f (fun items => ∃ i : Int, Pn i ∧ items = rngD 0 i.toNat) := fun σ I H n R w e l k =>
  ha σ I H n _ w e l fun v d I2 H2 g2 w2 r2 p2 => by
    obtain ⟨i, rfl, hp⟩ := p2
    exact ⟨i, by rw [r2.int_inv], (hb i hp).1, (hb i hp).2, k _ I2 H2 _ g2 w2 (iter_range (ht i hp)) ⟨i, hp, rfl⟩⟩
theorem iw_range2 {i j : Int} (ha : Pv c ta ρ (.int i)) (hb : Pv c tb ρ (.int j)) (h : -(2 ^ 62) ≤ i ∧ i < 2 ^ 62 ∧ -(2 ^ 62) ≤ j ∧ j < 2 ^ 62) (ht : ∀ d ∈ rngD i (j - i).toNat, Tg c g tgs d (f d)) :
    Iw c (iRng2 (tCons ta (tCons tb tNil))) g ρ 0 tgs f (fun items => items = rngD i (j - i).toNat) := fun σ I H n R w e l k =>
  ha σ I H n _ w e l fun v d I2 H2 g2 w2 r2 p2 => by
    subst p2
    refine hb σ I2 H2 n _ w2 (e.go g2) l fun v3 d3 I3 H3 g3 w3 r3 p3 => ?_
    subst p3
    exact ⟨i, j, by rw [r2.int_inv, r3.int_inv], h, k _ I3 H3 _ (g2.trans g3) w3 (iter_range ht) rfl⟩
/-- zip of two lists or two tuples -/
def zipD (xs ys : List PyData) : List PyData := (xs.zip ys).map fun p => .tuple [p.1, p.2]
theorem zipD_len (xs ys : List PyData) : (zipD xs ys).length = min xs.length ys.length := by simp [zipD]
theorem zipD_get {xs ys : List PyData} {i : Nat} {d : PyData} (h : (zipD xs ys)[i]? = some d) : ∃ x y, xs[i]? = some x ∧ ys[i]? = some y ∧ d = .tuple [x, y] := by
  unfold zipD at h
  rw [List.getElem?_map] at h
  cases e : (xs.zip ys)[i]? with
  | none => rw [e] at h; cases h
  | some p =>
    rw [e] at h
    obtain ⟨h1, h2⟩ := List.getElem?_zip_eq_some.mp e
    exact ⟨p.1, p.2, h1, h2, (Option.some.inj h).symm⟩
theorem iw_zipT {xs ys : List PyData} (ha : Pv c ta ρ (.tuple xs)) (hb : Pv c tb ρ (.tuple ys)) (ht : ∀ d ∈ zipD xs ys, Tg c g tgs d (f d)) :
    Iw c (RZ.iZipA c.K (tCons ta (tCons tb tNil))) g ρ 0 tgs f (fun items => items = zipD xs ys) := fun σ I H n R w e l k =>
  ha σ I H n _ w e l fun v d I2 H2 g2 w2 r2 p2 => by
    subst p2
    refine hb σ I2 H2 n _ w2 (e.go g2) l fun v3 d3 I3 H3 g3 w3 r3 p3 => ?_
    subst p3
    obtain ⟨a, us, rfl, hs, hr⟩ := (r2.mono g3.ii).tup_inv
    obtain ⟨b, ws, rfl, hs', hr'⟩ := r3.tup_inv
    refine ⟨a, b, us, ws, rfl, .inr ⟨seqT_mono w3.ih hs, seqT_mono w3.ih hs', k _ I3 H3 _ (g2.trans g3) w3 ⟨fun i I H n s w h => ?_, fun i d I H n x H' σ ρ Q s w e hd hy kk => ?_, fun i I H n s w h => ?_⟩ rfl⟩⟩
    · rw [zipD_len] at h
      have h1 : i < us.length := by rw [hr.length]; omega
      have h2 : i < ws.length := by rw [hr'.length]; omega
      exact ⟨us, ws, us[i], ws[i], seqT_mono (s.trans w.ih) hs, seqT_mono (s.trans w.ih) hs', List.getElem?_eq_getElem h1, List.getElem?_eq_getElem h2⟩
    · obtain ⟨T, x1, x2, rfl, nT, rfl, f1, f2⟩ := hy
      obtain ⟨d1, d2, e1, e2, rfl⟩ := zipD_get hd
      obtain ⟨v1, hv1, q1⟩ := hr.get e1
      obtain ⟨v2, hv2, q2⟩ := hr'.get e2
      have ex1 : x1 = v1 := Option.some.inj ((f1 us (seqT_mono (s.trans w.ih) hs)).symm.trans hv1)
      have ex2 : x2 = v2 := Option.some.inj ((f2 ws (seqT_mono (s.trans w.ih) hs')).symm.trans hv2)
      subst ex1 ex2
      have gn : Gx c.b I H (upd I T (.tup [x1, x2])) (upd H T (.tup [x1, x2])) := new_go w.ih nT
      exact ht _ (List.mem_of_getElem? hd) σ ρ (upd I T (.tup [x1, x2])) (upd H T (.tup [x1, x2])) n _ Q (w.new nT) (e.go gn) (.tup (.inl (.inl upd_same)) (.cons ((q1.mono s).mono gn.ii) (.cons ((q2.mono s).mono gn.ii) .nil)))
        fun σ2 e2 s2 => kk σ2 _ _ gn (w.new nT) e2 s2
    · rw [zipD_len] at h
      exact ⟨us, ws, seqT_mono (s.trans w.ih) hs, seqT_mono (s.trans w.ih) hs', by rw [hr.length, hr'.length]; omega⟩
/-- reversed of a list or a tuple -/
theorem iw_rev {d0 : PyData} {ds : List PyData} (ha : Pv c ta ρ d0) (hd : itemsD d0 = some ds) (ht : ∀ d ∈ ds, Tg c g tgs d (f d)) : Iw c (RT.iRevA c.K ta) g ρ 0 tgs f (fun items => items = ds.reverse) := fun σ I H n R w e l k =>
  ha σ I H n _ w e l fun v d I2 H2 g2 w2 r2 p2 => by
    subst p2
    obtain ⟨a, xs, rfl, hs, hr⟩ := r2.items hd
    have hl := hr.length
    rcases hs with hs | hs
    · refine ⟨a, xs, rfl, .inl ⟨w2.ih.seq hs, k _ I2 H2 _ g2 w2 ⟨fun i I H n s w h => ?_, fun i d I H n x H' σ ρ Q s w e hd hy kk => ?_, fun i I H n s w h => ?_⟩ rfl⟩⟩
      · rw [List.length_reverse, ← hl] at h
        exact ⟨h, xs, xs[xs.length - 1 - i], (s.trans w.ih).seq hs, List.getElem?_eq_getElem (by omega)⟩
      · obtain ⟨rfl, hy⟩ := hy
        obtain ⟨v, hv, rv⟩ := hr.rev.get hd
        have hi := (List.getElem?_eq_some_iff.mp hd).1
        rw [List.length_reverse, ← hl] at hi
        rw [List.getElem?_reverse hi] at hv
        have ex : x = v := Option.some.inj ((hy xs ((s.trans w.ih).seq hs)).symm.trans hv)
        subst ex
        exact ht d (List.mem_reverse.mp (List.mem_of_getElem? hd)) σ ρ I H' n x Q w e (rv.mono s) fun σ2 e2 s2 => kk σ2 I H' Gx.refl w e2 s2
      · rw [List.length_reverse, ← hl] at h
        exact h
    · refine ⟨a, xs, rfl, .inr ⟨seqT_mono w2.ih hs, k _ I2 H2 _ g2 w2 ⟨fun i I H n s w h => ?_, fun i d I H n x H' σ ρ Q s w e hd hy kk => ?_, fun i I H n s w h => ?_⟩ rfl⟩⟩
      · rw [List.length_reverse, ← hl] at h
        exact ⟨h, xs, xs[xs.length - 1 - i], seqT_mono (s.trans w.ih) hs, List.getElem?_eq_getElem (by omega)⟩
      · obtain ⟨rfl, hy⟩ := hy
        obtain ⟨v, hv, rv⟩ := hr.rev.get hd
        have hi := (List.getElem?_eq_some_iff.mp hd).1
        rw [List.length_reverse, ← hl] at hi
        rw [List.getElem?_reverse hi] at hv
        have ex : x = v := Option.some.inj ((hy xs (seqT_mono (s.trans w.ih) hs)).symm.trans hv)
        subst ex
        exact ht d (List.mem_reverse.mp (List.mem_of_getElem? hd)) σ ρ I H' n x Q w e (rv.mono s) fun σ2 e2 s2 => kk σ2 I H' Gx.refl w e2 s2
      · rw [List.length_reverse, ← hl] at h
        exact h

/-! ### comprehensions -/
inductive Bt (Pt : PyData → Bool → Prop) (Pe : PyData → PyData → Prop) : List PyData → List PyData → Prop
  | nil : Bt Pt Pe [] []
  | keep {is os : List PyData} {d x : PyData} : Bt Pt Pe is os → Pt d true → Pe d x → Bt Pt Pe (is ++ [d]) (os ++ [x])
  | drop {is os : List PyData} {d : PyData} : Bt Pt Pe is os → Pt d false → Bt Pt Pe (is ++ [d]) os
theorem Bt.len {Pt : PyData → Bool → Prop} {Pe : PyData → PyData → Prop} {is os : List PyData} (h : Bt Pt Pe is os) : os.length ≤ is.length := by
  induction h with
  | nil => exact Nat.le_refl _
  | keep _ _ _ ih => simp only [List.length_append, List.length_cons, List.length_nil]; omega
  | drop _ _ ih => simp only [List.length_append, List.length_cons, List.length_nil]; omega
theorem Wd.own {I H : Hp} {n : Nat} {D : Addr} {xs : List V} (w : Wd c I H n) (h0 : c.H0 D = none) (hI : I D = none) (hb : some D ≠ c.b) : Wd c I (upd H D (.lst xs)) n := by
  refine ⟨fun q o e => ?_, w.i0, fun q o ne e => ?_, w.nw, fun p e => ?_⟩
  · rw [upd_ne (ne_of_none e hI)]; exact w.ih q o e
  · rw [upd_ne (ne_of_none e h0)]; exact w.h0 q o ne e
  · obtain ⟨h1, h2, x, h3, r⟩ := w.bg p e
    exact ⟨h1, h2, x, by rw [upd_ne (fun q : p = D => hb (by rw [← q]; exact e.symm))]; exact h3, r⟩
theorem EnvR.own {I H : Hp} {σ : Sl} {D : Addr} {xs : List V} (e : EnvR c I H σ ρ) (hM : ∀ (i : Nat) (M : Hp → Addr → HO → Prop), ρ[i]? = some (Ent.mu M) → σ[i]? ≠ some (some (V.ref D))) (hD : ∀ (i : Nat) (ds : List PyData), ρ[i]? = some (Ent.own ds) → σ[i]? ≠ some (some (V.ref D))) : EnvR c I (upd H D (.lst xs)) σ ρ := by
  refine ⟨?_, e.ap⟩
  have gen : ∀ (σ : Sl) (ρ : List Ent), Paired (EntR c I H) σ ρ → (∀ (i : Nat) (M : Hp → Addr → HO → Prop), ρ[i]? = some (Ent.mu M) → σ[i]? ≠ some (some (V.ref D))) → (∀ (i : Nat) (ds : List PyData), ρ[i]? = some (Ent.own ds) → σ[i]? ≠ some (some (V.ref D))) → Paired (EntR c I (upd H D (.lst xs))) σ ρ := by
    intro σ ρ h
    induction h with
    | nil => exact fun _ _ => .nil
    | @cons a b l m x r ih =>
      intro hm hh
      refine .cons ?_ (ih (fun i M h1 => hm (i + 1) M (by simpa using h1)) fun i ds h1 => hh (i + 1) ds (by simpa using h1))
      cases b with
      | any => cases a <;> exact True.intro
      | dat d => cases a with
        | none => exact x
        | some v => exact x
      | bag | memo _ => cases a with
        | none => exact x
        | some v => exact x
      | raw u => cases a with
        | none => exact x
        | some v => exact x
      | scr ns => cases a with
        | none => exact x
        | some v => exact x
      | own ds => cases a with
        | none => exact x
        | some v =>
          obtain ⟨p, ys, rfl, h1, r⟩ := x
          have ne : p ≠ D := fun z => hh 0 ds rfl (by rw [z]; rfl)
          exact ⟨p, ys, rfl, by rw [upd_ne ne]; exact h1, r⟩
      | mu M => cases a with
        | none => exact x
        | some v =>
          obtain ⟨p, o, rfl, h1, h2, r⟩ := x
          have ne : p ≠ D := fun z => hm 0 M rfl (by rw [z]; rfl)
          exact ⟨p, o, rfl, by rw [upd_ne ne]; exact h1, h2, r⟩
  exact gen σ ρ e.st hM hD
theorem noL_of {H : Hp} {D : Addr} (h : H D = none) : ∀ o, H D = some o → ∃ ys, o = HO.lst ys := fun o e => by rw [h] at e; cases e
theorem isL_of {H : Hp} {D : Addr} {xs : List V} (h : H D = some (.lst xs)) : ∀ o, H D = some o → ∃ ys, o = HO.lst ys := fun o e => ⟨xs, (Option.some.inj (h.symm.trans e)).symm⟩
theorem EnvR.noM {I H : Hp} {σ : Sl} {D : Addr} (e : EnvR c I H σ ρ) (hL : ∀ o, H D = some o → ∃ ys, o = HO.lst ys) : ∀ (i : Nat) (M : Hp → Addr → HO → Prop), ρ[i]? = some (Ent.mu M) → σ[i]? ≠ some (some (V.ref D)) := fun i M h1 h2 => by
  obtain ⟨o, h3, h4⟩ := Paired.getP e.st h1
  rw [h2] at h3
  cases h3
  obtain ⟨p, o, e1, h5, h6, _⟩ := h4
  cases e1
  obtain ⟨ys, e2⟩ := hL _ h5
  exact h6 ys e2
theorem EnvR.noD {I H : Hp} {σ : Sl} {D : Addr} (e : EnvR c I H σ ρ) (h : H D = none) : ∀ (i : Nat) (ds : List PyData), ρ[i]? = some (Ent.own ds) → σ[i]? ≠ some (some (V.ref D)) := fun i ds h1 h2 => by
  obtain ⟨o, h3, h4⟩ := Paired.getP e.st h1
  rw [h2] at h3
  cases h3
  obtain ⟨p, xs, e1, h5, _⟩ := h4
  cases e1
  rw [h] at h5
  cases h5
theorem Wd.h0n {I H : Hp} {n : Nat} {D : Addr} (w : Wd c I H n) (h : H D = none) : c.H0 D = none := by
  cases e : c.H0 D with
  | none => rfl
  | some o =>
    by_cases hb : c.b = some D
    · obtain ⟨_, _, x, h3, _⟩ := w.bg D hb
      rw [h] at h3; cases h3
    · rw [w.h0 D o (fun z => hb z.symm) e] at h; cases h
theorem Wd.bne {I H : Hp} {n : Nat} {D : Addr} (w : Wd c I H n) (h : H D = none) : some D ≠ c.b := fun e => by
  obtain ⟨_, _, x, h3, _⟩ := w.bg D e.symm
  rw [h] at h3; cases h3
/-- what is told is a new list -/
def EvF (c : Ctx) (t : TE) (ρ : List Ent) (C : Nat) (P : PyData → Prop) : Prop :=
  ∀ (σ : Sl) (I H : Hp) (n : Nat) (Q : VK), Wd c I H n → EnvR c I H σ ρ → n + C ≤ NMAX →
    (∀ v d I2 H2, Gx c.b I H I2 H2 → Wd c I2 H2 (n + C) → Rp c.K I2 v d → P d → (∃ p, v = .ref p ∧ H p = none) → Q v H2) → t σ H Q
theorem EvF.ev {t : TE} {C : Nat} {P : PyData → Prop} (h : EvF c t ρ C P) : Ev c t ρ C P := fun σ I H n Q w e l k => h σ I H n Q w e l fun v d I2 H2 g w2 r p _ => k v d I2 H2 g w2 r p
theorem EvF.imp {t : TE} {C C' : Nat} {P P' : PyData → Prop} (h : EvF c t ρ C P) (hC : C ≤ C') (hP : ∀ d, P d → P' d) : EvF c t ρ C' P' :=
  fun σ I H n Q w e l k => h σ I H n Q w e (by omega) fun v d I2 H2 g w2 r p f => k v d I2 H2 g (w2.bgN (by omega)) r (hP d p) f
theorem ev_lcF {wi : TI} {tt : TT} {vs : List Nat} {Pt : PyData → Bool → Prop} {Pe : PyData → PyData → Prop} {Ct Ce : Nat} (hi : Iw c wi g ρ C0 tgs f Pi) (hC : C0 ≤ C) (hv : ∀ t ∈ tgs, t ∈ vs)
    (hb : ∀ items, Pi items → items.length < sizeLine ∧ C0 + items.length * (Ct + Ce) ≤ C)
    (ht : ∀ items, Pi items → ∀ d ∈ items, Et c tt (f d (wipeE ρ vs)) Ct (Pt d)) (he : ∀ items, Pi items → ∀ d ∈ items, Pt d true → Ev c te (f d (wipeE ρ vs)) Ce (Pe d))
    (hP : ∀ items out, Pi items → Bt Pt Pe items out → P (.list out)) : EvF c (tLc wi g tt te vs) ρ C P := fun σ I H n Q w e l k => by
  refine hi σ I H n _ w e (by omega) fun J I1 H1 items g1 w1 it hpi => ?_
  obtain ⟨hlen, hcost⟩ := hb items hpi
  intro D nD
  have d0 : c.H0 D = none := w1.h0n nD
  have dI : I1 D = none := w1.ih.free nD
  have db : some D ≠ c.b := w1.bne nD
  have e1 : EnvR c I1 H1 (wipe σ vs) (wipeE ρ vs) := (e.go g1).wipe vs
  have nD1 := e1.noD nD
  refine ⟨fun i m H' => m = items.length - i ∧ i ≤ items.length ∧ ∃ I' xs out, H' D = some (.lst xs) ∧ I' D = none ∧ RpAll c.K I' xs out ∧ Bt Pt Pe (items.take i) out ∧ Wd c I' H' (n + C0 + i * (Ct + Ce)) ∧
      (∀ q o, q ≠ D → some q ≠ c.b → H1 q = some o → H' q = some o) ∧ (∀ q, H1 q ≠ none → I' q = I1 q) ∧ (∀ q, H1 q ≠ none → H' q ≠ none) ∧ Same I1 I' ∧ EnvR c I' H' (wipe σ vs) (wipeE ρ vs),
    ⟨items.length, by simp, Nat.zero_le _, I1, [], [], upd_same, dI, .nil, by rw [List.take_zero]; exact .nil, by rw [Nat.zero_mul]; exact w1.own d0 dI db, fun q o n1 _ h => by rw [upd_ne n1]; exact h, fun _ _ => rfl, fun q h => by
        by_cases z : q = D
        · subst z; exact absurd nD h
        · rw [upd_ne z]; exact h, Same.refl _, e1.own (e1.noM (noL_of nD)) nD1⟩, ?_⟩
  rintro i m H' ⟨rfl, hi', I', xs, out, hD, hI, hr, bt, w', hk, hn, hth, hs, e'⟩
  by_cases hlt : i < items.length
  · refine .inr ⟨it.go i I' H' _ hs w' hlt, fun H'' => (i + 1 ≤ items.length ∧ ∃ I' xs out, H'' D = some (.lst xs) ∧ I' D = none ∧ RpAll c.K I' xs out ∧ Bt Pt Pe (items.take (i + 1)) out ∧ Wd c I' H'' (n + C0 + (i + 1) * (Ct + Ce)) ∧
      (∀ q o, q ≠ D → some q ≠ c.b → H1 q = some o → H'' q = some o) ∧ (∀ q, H1 q ≠ none → I' q = I1 q) ∧ (∀ q, H1 q ≠ none → H'' q ≠ none) ∧ Same I1 I' ∧ EnvR c I' H'' (wipe σ vs) (wipeE ρ vs)), fun H'' h => ⟨items.length - (i + 1), by omega, rfl, h.1, h.2⟩, fun x H'' hy => ?_⟩
    have hget : items[i]? = some items[i] := List.getElem?_eq_getElem hlt
    have hmem : items[i] ∈ items := List.getElem_mem hlt
    have hmul : (i + 1) * (Ct + Ce) ≤ items.length * (Ct + Ce) := Nat.mul_le_mul_right _ (by omega)
    have hadd : (i + 1) * (Ct + Ce) = i * (Ct + Ce) + (Ct + Ce) := by rw [Nat.add_mul, Nat.one_mul]
    refine it.yl i items[i] I' H' _ x H'' (wipe σ vs) (wipeE ρ vs) _ hs w' e' hget hy fun σ2 I2 H2 g2 w2 e2 s2 => ?_
    have hw : wipe σ2 vs = wipe σ vs := by
      rw [s2 vs hv]
      apply List.ext_getElem?
      intro j
      rw [wipe_get, wipe_get]
      split <;> cases σ[j]? <;> rfl
    refine ⟨hw, ht items hpi _ hmem σ2 I2 H2 _ _ w2 e2 (by omega) fun b I3 H3 g3 w3 pb => ?_⟩
    have bs : ∀ {I4 H4 : Hp}, Gx c.b I' H' I4 H4 → H4 D = some (.lst xs) ∧ I4 D = none ∧ RpAll c.K I4 xs out ∧ (∀ q o, q ≠ D → some q ≠ c.b → H1 q = some o → H4 q = some o) ∧ (∀ q, H1 q ≠ none → I4 q = I1 q) ∧ (∀ q, H1 q ≠ none → H4 q ≠ none) ∧ Same I1 I4 ∧ EnvR c I4 H4 (wipe σ vs) (wipeE ρ vs) := fun {I4 H4} g4 =>
      ⟨g4.hh _ _ db hD, by rw [g4.nw D (by rw [hD]; exact fun z => nomatch z)]; exact hI, hr.mono g4.ii, fun q o n1 n2 h => g4.hh q o n2 (hk q o n1 n2 h), fun q h => (g4.nw q (hth q h)).trans (hn q h), fun q h => g4.th q (hth q h), hs.trans g4.ii, e'.go g4⟩
    have htk : items.take (i + 1) = items.take i ++ [items[i]] := by rw [List.take_add_one, hget]; rfl
    cases b with
    | true =>
      rw [if_pos rfl]
      refine he items hpi _ hmem pb σ2 I3 H3 _ _ w3 (e2.go g3) (by omega) fun v d I4 H4 g4 w4 r4 p4 => ?_
      obtain ⟨b1, b2, b3, b4, b5, b6, b7, b8⟩ := bs ((g2.trans g3).trans g4)
      have hle := bt.len
      rw [List.length_take] at hle
      have hxl : xs.length < sizeLine := by rw [hr.length]; omega
      have nD4 := nD1
      refine ⟨xs, b1, hxl, hlt, I4, xs ++ [v], out ++ [d], upd_same, b2, b3.append (.one r4), by rw [htk]; exact .keep bt pb p4, (w4.own d0 b2 db).bgN (by omega), fun q o n1 n2 h => by rw [upd_ne n1]; exact b4 q o n1 n2 h, b5, fun q h => ?_, b7, b8.own (e1.noM (noL_of nD)) nD4⟩
      by_cases z : q = D
      · subst z; rw [upd_same]; exact fun z => nomatch z
      · rw [upd_ne z]; exact b6 q h
    | false =>
      rw [if_neg Bool.false_ne_true]
      obtain ⟨b1, b2, b3, b4, b5, b6, b7, b8⟩ := bs (g2.trans g3)
      exact ⟨hlt, I3, xs, out, b1, b2, b3, by rw [htk]; exact .drop bt pb, w3.bgN (by omega), b4, b5, b6, b7, b8⟩
  · have ei : i = items.length := by omega
    subst ei
    refine .inl ⟨it.st _ I' H' _ hs w' (Nat.le_refl _), ?_⟩
    rw [List.take_length] at bt
    have s1 : Same I' (upd I' D (.lst xs)) := fun q o h => by rw [upd_ne (ne_of_none h hI)]; exact h
    refine k (.ref D) (.list out) (upd I' D (.lst xs)) H' (g1.trans ⟨hs.trans s1, fun q o n1 h => ?_, fun q h => ?_, hth⟩) ?_ (.lst upd_same (hr.mono s1)) (hP items out hpi bt) ⟨D, rfl, ?_⟩
    · exact hk q o (ne_of_none h nD) n1 h
    · rw [upd_ne (fun z => h (by rw [z]; exact nD))]; exact hn q h
    · refine Wd.bgN (n := n + C0 + items.length * (Ct + Ce)) ⟨fun q o h => ?_, w'.i0.trans s1, w'.h0, fun q h => ?_, w'.bg⟩ (by omega)
      · by_cases z : q = D
        · subst z; rw [upd_same] at h; cases h; exact hD
        · rw [upd_ne z] at h; exact w'.ih q o h
      · rw [upd_ne (fun z => h (by rw [z]; exact d0))]; exact w'.nw q h
    · cases hd : H D with
      | none => rfl
      | some o => exact absurd nD (g1.th D (by rw [hd]; exact fun z => nomatch z))
theorem ev_lc {wi : TI} {tt : TT} {vs : List Nat} {Pt : PyData → Bool → Prop} {Pe : PyData → PyData → Prop} {Ct Ce : Nat} (hi : Iw c wi g ρ C0 tgs f Pi) (hC : C0 ≤ C) (hv : ∀ t ∈ tgs, t ∈ vs)
    (hb : ∀ items, Pi items → items.length < sizeLine ∧ C0 + items.length * (Ct + Ce) ≤ C)
    (ht : ∀ items, Pi items → ∀ d ∈ items, Et c tt (f d (wipeE ρ vs)) Ct (Pt d)) (he : ∀ items, Pi items → ∀ d ∈ items, Pt d true → Ev c te (f d (wipeE ρ vs)) Ce (Pe d))
    (hP : ∀ items out, Pi items → Bt Pt Pe items out → P (.list out)) : Ev c (tLc wi g tt te vs) ρ C P := (ev_lcF hi hC hv hb ht he hP).ev
end
end Hh

set_option Elab.async false
set_option linter.all false
set_option maxRecDepth 100000
set_option maxHeartbeats 1000000
namespace Hh
set_option autoImplicit false
open PySem PySem.Spec PyProof.Rows L2
section
variable {c : Ctx} {ρ : List Ent} {ta tb te : TE} {tr : TA} {C C0 C1 C2 : Nat} {P P1 : PyData → Prop} {g : TG} {tgs : List Nat} {f : PyData → List Ent → List Ent} {Pi : List PyData → Prop}
/-! ### comprehensions, simple forms -/
theorem et_yes : Pt c tYes ρ true := fun σ I H n Q w e l k => k _ I H Gx.refl w rfl
theorem Bt.map {F : PyData → PyData} {is os : List PyData} (h : Bt (fun _ b => b = true) (fun d x => x = F d) is os) : os = is.map F := by
  induction h with
  | nil => rfl
  | keep _ _ e ih => rw [e, ih, List.map_append]; rfl
  | drop _ e _ => cases e
theorem Bt.filt {p : PyData → Bool} {F : PyData → PyData} {is os : List PyData} (h : Bt (fun d b => b = p d) (fun d x => x = F d) is os) : os = (is.filter p).map F := by
  induction h with
  | nil => rfl
  | keep _ a e ih => rw [e, ih, List.filter_append, List.map_append, List.filter_cons, ← a]; rfl
  | drop _ a ih => rw [ih, List.filter_append, List.filter_cons, ← a]; simp
theorem pv_map {wi : TI} {vs : List Nat} {items : List PyData} (F : PyData → PyData) (hi : Iw c wi g ρ 0 tgs f (fun x => x = items)) (he : ∀ d ∈ items, Pv c te (f d (wipeE ρ vs)) (F d)) (hl : items.length < sizeLine) (hv : ∀ t ∈ tgs, t ∈ vs := by decide) :
    Pv c (tLc wi g tYes te vs) ρ (.list (items.map F)) :=
  ev_lc (Ct := 0) (Ce := 0) (Pt := fun _ b => b = true) (Pe := fun d x => x = F d) hi (Nat.le_refl _) hv (fun is e => by subst e; exact ⟨hl, by simp⟩) (fun is e d hd => et_yes) (fun is e d hd _ => by subst e; exact he d hd) fun is out e b => by subst e; rw [b.map]
theorem pv_filt {wi : TI} {vs : List Nat} {tt : TT} {items : List PyData} (p : PyData → Bool) (F : PyData → PyData) (hi : Iw c wi g ρ 0 tgs f (fun x => x = items)) (ht : ∀ d ∈ items, Pt c tt (f d (wipeE ρ vs)) (p d)) (he : ∀ d ∈ items, p d = true → Pv c te (f d (wipeE ρ vs)) (F d)) (hl : items.length < sizeLine) (hv : ∀ t ∈ tgs, t ∈ vs := by decide) :
    Pv c (tLc wi g tt te vs) ρ (.list ((items.filter p).map F)) :=
  ev_lc (Ct := 0) (Ce := 0) (Pt := fun d b => b = p d) (Pe := fun d x => x = F d) hi (Nat.le_refl _) hv (fun is e => by subst e; exact ⟨hl, by simp⟩) (fun is e d hd => by subst e; exact ht d hd) (fun is e d hd q => by subst e; exact he d hd q.symm) fun is out e b => by subst e; rw [b.filt]
theorem Bt.all {Pe : PyData → Prop} {is os : List PyData} (h : Bt (fun _ b => b = true) (fun _ x => Pe x) is os) : os.length = is.length ∧ ∀ x ∈ os, Pe x := by
  induction h with
  | nil => exact ⟨rfl, fun _ h => nomatch h⟩
  | keep _ _ e ih =>
    refine ⟨by rw [List.length_append, List.length_append, ih.1]; rfl, fun x hx => ?_⟩
    rcases List.mem_append.mp hx with h | h
    · exact ih.2 x h
    · rw [List.mem_singleton.mp h]; exact e
  | drop _ e _ => cases e
/-- each element drawn -/
theorem ev_draws {wi : TI} {vs : List Nat} {Pe : PyData → Prop} {Ce m : Nat} (hi : Iw c wi g ρ C0 tgs f Pi) (hm : ∀ is, Pi is → is.length ≤ m) (hl : m < sizeLine) (he : ∀ is, Pi is → ∀ d ∈ is, Ev c te (f d (wipeE ρ vs)) Ce Pe) (hC : C0 + m * Ce ≤ C)
    (hP : ∀ is os, Pi is → os.length = is.length → (∀ x ∈ os, Pe x) → P (.list os)) (hv : ∀ t ∈ tgs, t ∈ vs := by decide) : Ev c (tLc wi g tYes te vs) ρ C P :=
  ev_lc (Ct := 0) (Ce := Ce) (Pt := fun _ b => b = true) (Pe := fun _ x => Pe x) hi (by omega) hv (fun is e => ⟨by have := hm is e; omega, by
    have h1 := Nat.mul_le_mul_right Ce (hm is e)
    rw [Nat.zero_add]; omega⟩) (fun is e d hd => et_yes) (fun is e d hd _ => he is e d hd) fun is out e b => hP is out e b.all.1 b.all.2

/-! ### statements -/
structure Out where
  nx : List Ent → Prop := fun _ => False
  rt : PyData → Prop := fun _ => False
  bk : List Ent → Prop := fun _ => False
  ct : List Ent → Prop := fun _ => False
  /-- what is told is a new list, the asker's own -/
  fr : Bool := false
def Fresh (c : Ctx) (v : V) : Prop := ∃ p, v = .ref p ∧ c.H0 p = none
def Out.ret (O : Out) (c : Ctx) (v : V) (d : PyData) : Prop := O.rt d ∧ (O.fr = true → Fresh c v)
def Go1 (c : Ctx) (I : Hp) (m : Nat) (N : List Ent → Prop) (D : L2.St → Hp → Prop) : Prop := ∀ σ' ρ' I' H', Same I I' → Wd c I' H' m → EnvR c I' H' σ' ρ' → N ρ' → D σ' H'
def Bk (c : Ctx) (t : TS) (ρ : List Ent) (C : Nat) (O : Out) : Prop := ∀ (σ : Sl) (I H : Hp) (n : Nat) (D : Ends), Wd c I H n → EnvR c I H σ ρ → n + C ≤ NMAX →
  Go1 c I (n + C) O.nx D.nx → (∀ v d I' H', Same I I' → Wd c I' H' (n + C) → Rp c.K I' v d → O.ret c v d → D.rt v H') → Go1 c I (n + C) O.bk D.bk → Go1 c I (n + C) O.ct D.ct → t D σ H
theorem Bk.imp {t : TS} {O O' : Out} (h : Bk c t ρ C O) (hC : C ≤ C1) (h1 : ∀ x, O.nx x → O'.nx x) (h2 : ∀ x, O.rt x → O'.rt x) (h3 : ∀ x, O.bk x → O'.bk x := by intro _ z; exact z) (h4 : ∀ x, O.ct x → O'.ct x := by intro _ z; exact z) (h5 : O'.fr = true → O.fr = true := by intro z; exact z) : Bk c t ρ C1 O' :=
  fun σ I H n D w e l k1 k2 k3 k4 => h σ I H n D w e (by omega) (fun a b i j s w r p => k1 a b i j s (w.bgN (by omega)) r (h1 _ p)) (fun a b i j s w r p => k2 a b i j s (w.bgN (by omega)) r ⟨h2 _ p.1, fun z => p.2 (h5 z)⟩)
    (fun a b i j s w r p => k3 a b i j s (w.bgN (by omega)) r (h3 _ p)) (fun a b i j s w r p => k4 a b i j s (w.bgN (by omega)) r (h4 _ p))
theorem bk_next {O : Out} (h : O.nx ρ) : Bk c tNext ρ C O := fun σ I H n D w e l k1 k2 k3 k4 => k1 σ ρ I H (Same.refl _) (w.bgN (by omega)) e h
theorem bk_seq {t u : TS} {O : Out} {N : List Ent → Prop} (h1 : Bk c t ρ C1 { O with nx := N }) (h2 : ∀ ρ', N ρ' → Bk c u ρ' C2 O) (hC : C1 + C2 ≤ C) : Bk c (tSeq t u) ρ C O := fun σ I H n D w e l k1 k2 k3 k4 => by
  refine h1 σ I H n { D with nx := u D } w e (by omega) (fun σ' ρ' I' H' s w' e' hn => ?_) (fun a b i j s w r p => k2 a b i j s (w.bgN (by omega)) r p) (fun a b i j s w r p => k3 a b i j s (w.bgN (by omega)) r p) (fun a b i j s w r p => k4 a b i j s (w.bgN (by omega)) r p)
  exact h2 ρ' hn σ' I' H' (n + C1) D w' e' (by omega) (fun a b i j s2 w r p => k1 a b i j (s.trans s2) (w.bgN (by omega)) r p) (fun a b i j s2 w r p => k2 a b i j (s.trans s2) (w.bgN (by omega)) r p) (fun a b i j s2 w r p => k3 a b i j (s.trans s2) (w.bgN (by omega)) r p) (fun a b i j s2 w r p => k4 a b i j (s.trans s2) (w.bgN (by omega)) r p)
theorem bk_asg {O : Out} (ha : Ev c te ρ C P) (ht : ∀ d, P d → Tg c g tgs d (f d)) (hn : ∀ d, P d → O.nx (f d ρ)) : Bk c (tAsg te g) ρ C O := fun σ I H n D w e l k1 k2 k3 k4 =>
  ha σ I H n _ w e l fun v d I2 H2 g2 w2 r2 p2 => ht d p2 σ ρ I2 H2 _ v _ w2 (e.go g2) r2 fun σ2 e2 _ => k1 σ2 _ I2 H2 g2.ii w2 e2 (hn d p2)
theorem bk_set {i : Nat} {O : Out} (ha : Ev c te ρ C P) (hn : ∀ d, P d → O.nx (ρ.set i (.dat d))) : Bk c (tAsg te (gName i)) ρ C O := bk_asg (f := fun d ρ => ρ.set i (.dat d)) ha (fun d _ => tg_name) hn
theorem bk_ret {O : Out} (ha : Ev c te ρ C P) (hn : ∀ d, P d → O.rt d) (hf : O.fr = false := by rfl) : Bk c (tRet te) ρ C O := fun σ I H n D w e l k1 k2 k3 k4 =>
  ha σ I H n _ w e l fun v d I2 H2 g2 w2 r2 p2 => k2 v d I2 H2 g2.ii w2 r2 ⟨hn d p2, fun z => by rw [hf] at z; cases z⟩
theorem bk_retN {O : Out} (hn : O.rt .none) (hf : O.fr = false := by rfl) : Bk c tRetN ρ C O := fun σ I H n D w e l k1 k2 k3 k4 => k2 _ _ I H (Same.refl _) (w.bgN (by omega)) .non ⟨hn, fun z => by rw [hf] at z; cases z⟩
theorem bk_if {tc : TT} {t u : TS} {O : Out} {Pb : Bool → Prop} (hc : Et c tc ρ C1 Pb) (h1 : Pb true → Bk c t ρ C2 O) (h2 : Pb false → Bk c u ρ C2 O) (hC : C1 + C2 ≤ C) : Bk c (tIfS tc t u) ρ C O := fun σ I H n D w e l k1 k2 k3 k4 => by
  refine hc σ I H n _ w e (by omega) fun b I2 H2 g2 w2 p2 => ?_
  have go : ∀ {t : TS}, Bk c t ρ C2 O → t D σ H2 := fun {t} h => h σ I2 H2 (n + C1) D w2 (e.go g2) (by omega) (fun a b i j s2 w r p => k1 a b i j (g2.ii.trans s2) (w.bgN (by omega)) r p) (fun a b i j s2 w r p => k2 a b i j (g2.ii.trans s2) (w.bgN (by omega)) r p) (fun a b i j s2 w r p => k3 a b i j (g2.ii.trans s2) (w.bgN (by omega)) r p) (fun a b i j s2 w r p => k4 a b i j (g2.ii.trans s2) (w.bgN (by omega)) r p)
  cases b with
  | true => rw [if_pos rfl]; exact go (h1 p2)
  | false => rw [if_neg Bool.false_ne_true]; exact go (h2 p2)
theorem bk_ifP {tc : TT} {t u : TS} {O : Out} {b : Bool} (hc : Pt c tc ρ b) (h1 : b = true → Bk c t ρ C O) (h2 : b = false → Bk c u ρ C O) : Bk c (tIfS tc t u) ρ C O :=
  bk_if hc (fun e => h1 e.symm) (fun e => h2 e.symm) (by omega)
theorem bk_drop {O : Out} (ha : Ev c te ρ C P) (hn : O.nx ρ) : Bk c (tDrop te) ρ C O := fun σ I H n D w e l k1 k2 k3 k4 =>
  ha σ I H n _ w e l fun v d I2 H2 g2 w2 r2 p2 => k1 σ ρ I2 H2 g2.ii w2 (e.go g2) hn
theorem bk_never {O : Out} (h : False) : Bk c tNever ρ C O := h.elim
theorem bk_break {O : Out} (h : O.bk ρ) : Bk c tBreak ρ C O := fun σ I H n D w e l k1 k2 k3 k4 => k3 σ ρ I H (Same.refl _) (w.bgN (by omega)) e h
theorem bk_cont {O : Out} (h : O.ct ρ) : Bk c tCont ρ C O := fun σ I H n D w e l k1 k2 k3 k4 => k4 σ ρ I H (Same.refl _) (w.bgN (by omega)) e h
theorem bk_for {wi : TI} {tb : TS} {O : Out} {m : Nat} (Nv : List PyData → Nat → List Ent → Prop) (hi : Iw c wi g ρ C0 tgs f Pi) (hm : ∀ is, Pi is → is.length ≤ m) (h0 : ∀ is, Pi is → Nv is 0 ρ)
    (hs : ∀ is k d ρ', Pi is → is[k]? = some d → Nv is k ρ' → Bk c tb (f d ρ') C1 { nx := Nv is (k + 1), ct := Nv is (k + 1), bk := O.nx, rt := O.rt, fr := O.fr }) (hd : ∀ is ρ', Pi is → Nv is is.length ρ' → O.nx ρ') (hC : C0 + m * C1 ≤ C) : Bk c (tFor wi g tb) ρ C O := fun σ I H n D w e l k1 k2 k3 k4 => by
  refine hi σ I H n _ w e (by omega) fun J I1 H1 items g1 w1 it hpi => ?_
  have hml := Nat.mul_le_mul_right C1 (hm items hpi)
  refine ⟨fun i mm σ' H' => mm = items.length - i ∧ i ≤ items.length ∧ ∃ ρ' I', Same I1 I' ∧ Wd c I' H' (n + C0 + i * C1) ∧ EnvR c I' H' σ' ρ' ∧ Nv items i ρ', ⟨items.length, by simp, Nat.zero_le _, ρ, I1, Same.refl _, by rw [Nat.zero_mul]; exact w1, e.go g1, h0 items hpi⟩, ?_⟩
  rintro i mm σ' H' ⟨rfl, hi', ρ', I', s', w', e', nv⟩
  by_cases hlt : i < items.length
  · have hadd : (i + 1) * C1 = i * C1 + C1 := by rw [Nat.add_mul, Nat.one_mul]
    have hmul : (i + 1) * C1 ≤ items.length * C1 := Nat.mul_le_mul_right _ (by omega)
    refine .inr ⟨it.go i I' H' _ s' w' hlt, fun σ2 H2 => ∃ ρ2 I2, Same I1 I2 ∧ Wd c I2 H2 (n + C0 + (i + 1) * C1) ∧ EnvR c I2 H2 σ2 ρ2 ∧ Nv items (i + 1) ρ2, fun σ2 H2 h => ⟨items.length - (i + 1), by omega, rfl, hlt, h⟩, fun x H2 hy => ?_⟩
    have hget : items[i]? = some items[i] := List.getElem?_eq_getElem hlt
    refine it.yl i items[i] I' H' _ x H2 σ' ρ' _ s' w' e' hget hy fun σ3 I3 H3 g3 w3 e3 _ => ?_
    have s3 : Same I I3 := (g1.ii.trans s').trans g3.ii
    refine hs items i _ ρ' hpi hget nv σ3 I3 H3 _ _ w3 e3 (by omega) (fun a b i2 j s w r p => ?_) (fun a b i2 j s w r p => k2 a b i2 j (s3.trans s) (w.bgN (by omega)) r p) (fun a b i2 j s w r p => k1 a b i2 j (s3.trans s) (w.bgN (by omega)) r p) (fun a b i2 j s w r p => ?_)
    · exact ⟨b, i2, (s'.trans g3.ii).trans s, w.bgN (by omega), r, p⟩
    · exact ⟨b, i2, (s'.trans g3.ii).trans s, w.bgN (by omega), r, p⟩
  · have ei : i = items.length := by omega
    subst ei
    exact .inl ⟨it.st _ I' H' _ s' w' (Nat.le_refl _), k1 σ' ρ' I' H' (g1.ii.trans s') (w'.bgN (by omega)) e' (hd items ρ' hpi nv)⟩
theorem ip_i {op : Int → Int → Int} {i : Nat} {x y : Int} {O : Out} (hx : ρ[i]? = some (.dat (.int x))) (ha : Pv c te ρ (.int y)) (hn : O.nx (ρ.set i (.dat (.int (op x y))))) : Bk c (tAug i te (ipI op)) ρ C O := fun σ I H n D w e l k1 k2 k3 k4 => by
  obtain ⟨o, h1, h2⟩ := Paired.getP e.st hx
  cases o with
  | none => exact h2.elim
  | some v =>
    have ev : v = .int x := Rp.int_inv h2
    subst ev
    refine ⟨_, h1, ha σ I H n _ w e (by omega) fun v d I2 H2 g2 w2 r2 p2 => ?_⟩
    subst p2
    exact ⟨x, y, rfl, r2.int_inv, k1 _ _ I2 H2 g2.ii (w2.bgN (by omega)) ((e.go g2).set i (o := some (.int (op x y))) (e := .dat (.int (op x y))) (show Rp c.K I2 (.int (op x y)) (.int (op x y)) from .int _) (fun _ z => nomatch z)) hn⟩

/-! ### a list of one's own -/
theorem bk_own {i : Nat} {ds : List PyData} {O : Out} (ha : Pa c tr ρ (dats ds)) (hl : ds.length ≤ 1000) (hn : O.nx (ρ.set i (.own ds))) : Bk c (tAsg (tLst tr) (gName i)) ρ C O := fun σ I H n D w e l k1 k2 k3 k4 =>
  ha σ I H n _ w e (by omega) fun vs es I2 H2 g2 w2 r2 p2 => by
    subst p2
    have r := args_all r2
    refine ⟨by rw [r.length]; exact Nat.le_of_lt (small1000 hl), fun p np => ?_⟩
    have d0 := w2.h0n np
    have dI := w2.ih.free np
    have db := w2.bne np
    have e2 := e.go g2
    refine k1 _ (ρ.set i (.own ds)) I2 (upd H2 p (.lst vs)) g2.ii ((w2.own d0 dI db).bgN (by omega)) ?_ hn
    have e3 : EnvR c I2 (upd H2 p (.lst vs)) σ ρ := e2.own (e2.noM (noL_of np)) (e2.noD np)
    refine ⟨Paired.setP (show EntR c I2 (upd H2 p (.lst vs)) (some (.ref p)) (.own ds) from ⟨p, vs, rfl, upd_same, d0, db, dI, r⟩) i e3.st, fun j k q as bs h1 h2 h3 h4 => ?_⟩
    have key : ∀ (j : Nat) (as : List PyData), (ρ.set i (.own ds))[j]? = some (.own as) → (σ.set i (some (V.ref p)))[j]? = some (some (V.ref q)) → (j = i ∧ q = p) ∨ (j ≠ i ∧ q ≠ p ∧ ρ[j]? = some (.own as) ∧ σ[j]? = some (some (V.ref q))) := fun j as h1 h2 => by
      by_cases z : j = i
      · subst z
        left
        rw [List.getElem?_set_self'] at h2
        cases q2 : σ[j]? with
        | none => rw [q2] at h2; cases h2
        | some o => rw [q2] at h2; cases h2; exact ⟨rfl, rfl⟩
      · right
        rw [List.getElem?_set_ne (Ne.symm z)] at h1 h2
        exact ⟨z, fun zz => e2.noD np j as h1 (by rw [← zz]; exact h2), h1, h2⟩
    rcases key j as h1 h3 with ⟨a1, a2⟩ | ⟨a1, a2, a3, a4⟩
    · rcases key k bs h2 h4 with ⟨b1, b2⟩ | ⟨b1, b2, b3, b4⟩
      · rw [a1, b1]
      · exact absurd a2 b2
    · rcases key k bs h2 h4 with ⟨b1, b2⟩ | ⟨b1, b2, b3, b4⟩
      · exact absurd b2 a2
      · exact e.ap j k q as bs a3 b3 a4 b4
theorem bk_ownE {i : Nat} {O : Out} {Pd : List PyData → Prop} (ha : Ea c tr ρ C (fun es => ∃ ds, es = dats ds ∧ Pd ds)) (hl : ∀ ds, Pd ds → ds.length ≤ 1000) (hn : ∀ ds, Pd ds → O.nx (ρ.set i (.own ds))) : Bk c (tAsg (tLst tr) (gName i)) ρ C O := fun σ I H n D w e l k1 k2 k3 k4 =>
  ha σ I H n _ w e l fun vs es I2 H2 g2 w2 r2 ⟨ds, ep, pd⟩ => by
    subst ep
    have hl := hl ds pd
    have hn := hn ds pd
    have r := args_all r2
    refine ⟨by rw [r.length]; exact Nat.le_of_lt (small1000 hl), fun p np => ?_⟩
    have d0 := w2.h0n np
    have dI := w2.ih.free np
    have db := w2.bne np
    have e2 := e.go g2
    refine k1 _ (ρ.set i (.own ds)) I2 (upd H2 p (.lst vs)) g2.ii (w2.own d0 dI db) ?_ hn
    have e3 : EnvR c I2 (upd H2 p (.lst vs)) σ ρ := e2.own (e2.noM (noL_of np)) (e2.noD np)
    refine ⟨Paired.setP (show EntR c I2 (upd H2 p (.lst vs)) (some (.ref p)) (.own ds) from ⟨p, vs, rfl, upd_same, d0, db, dI, r⟩) i e3.st, fun j k q as bs h1 h2 h3 h4 => ?_⟩
    have key : ∀ (j : Nat) (as : List PyData), (ρ.set i (.own ds))[j]? = some (.own as) → (σ.set i (some (V.ref p)))[j]? = some (some (V.ref q)) → (j = i ∧ q = p) ∨ (j ≠ i ∧ q ≠ p ∧ ρ[j]? = some (.own as) ∧ σ[j]? = some (some (V.ref q))) := fun j as h1 h2 => by
      by_cases z : j = i
      · subst z
        left
        rw [List.getElem?_set_self'] at h2
        cases q2 : σ[j]? with
        | none => rw [q2] at h2; cases h2
        | some o => rw [q2] at h2; cases h2; exact ⟨rfl, rfl⟩
      · right
        rw [List.getElem?_set_ne (Ne.symm z)] at h1 h2
        exact ⟨z, fun zz => e2.noD np j as h1 (by rw [← zz]; exact h2), h1, h2⟩
    rcases key j as h1 h3 with ⟨a1, a2⟩ | ⟨a1, a2, a3, a4⟩
    · rcases key k bs h2 h4 with ⟨b1, b2⟩ | ⟨b1, b2, b3, b4⟩
      · rw [a1, b1]
      · exact absurd a2 b2
    · rcases key k bs h2 h4 with ⟨b1, b2⟩ | ⟨b1, b2, b3, b4⟩
      · exact absurd b2 a2
      · exact e.ap j k q as bs a3 b3 a4 b4
theorem bk_append {i : Nat} {ds : List PyData} {O : Out} (hi : ρ[i]? = some (.own ds)) (ha : Ev c te ρ C P) (hl : ds.length ≤ 1000) (hn : ∀ d, P d → O.nx (ρ.set i (.own (ds ++ [d])))) : Bk c (tDrop (tBM c.K "list" rAppend (tVar i) (tCons te tNil))) ρ C O := fun σ I H n D w e l k1 k2 k3 k4 => by
  obtain ⟨o, h1, h2⟩ := Paired.getP e.st hi
  cases o with
  | none => exact h2.elim
  | some v =>
    obtain ⟨p, xs, rfl, a1, a2, a3, a4, a5⟩ := h2
    refine ⟨.ref p, h1, .inl ⟨rfl, xs, .inl (.inl a1)⟩, ha σ I H n _ w e l fun v d I2 H2 g2 w2 r2 p2 => ?_⟩
    have hp2 : H2 p = some (.lst xs) := g2.hh _ _ a3 a1
    have ip2 : I2 p = none := by rw [g2.nw p (by rw [a1]; exact fun z => nomatch z)]; exact a4
    refine ⟨p, xs, v, rfl, rfl, hp2, by rw [a5.length]; exact small1000 hl, ?_⟩
    refine k1 σ (ρ.set i (.own (ds ++ [d]))) I2 (upd H2 p (.lst (xs ++ [v]))) g2.ii (w2.own a2 ip2 a3) ?_ (hn d p2)
    have e2 := e.go g2
    have hσ : σ.set i (some (V.ref p)) = σ := by
      apply List.ext_getElem?
      intro j
      by_cases z : i = j
      · subst z
        rw [List.getElem?_set_self', h1]
        rfl
      · rw [List.getElem?_set_ne z]
    refine ⟨?_, fun j k q as bs b1 b2 b3 b4 => ?_⟩
    · have gen : ∀ (σ : Sl) (ρ : List Ent), Paired (EntR c I2 H2) σ ρ → ∀ i, σ[i]? = some (some (V.ref p)) → (∀ (j : Nat) (es : List PyData), j ≠ i → ρ[j]? = some (Ent.own es) → σ[j]? ≠ some (some (V.ref p))) → Paired (EntR c I2 (upd H2 p (.lst (xs ++ [v])))) σ (ρ.set i (.own (ds ++ [d]))) := by
        intro σ ρ h
        induction h with
        | nil => intro i hi; cases hi
        | @cons a b l m x r ih =>
          intro i hi hne
          have upx : ∀ {a : Option V} {b : Ent}, EntR c I2 H2 a b → (∀ es, b = .own es → a ≠ some (V.ref p)) → EntR c I2 (upd H2 p (.lst (xs ++ [v]))) a b := fun {a b} x hx => by
            cases b with
            | any => cases a <;> exact True.intro
            | dat d => cases a with
              | none => exact x
              | some v => exact x
            | bag | memo _ => cases a with
              | none => exact x
              | some v => exact x
            | raw u => cases a with
              | none => exact x
              | some v => exact x
            | scr ns => cases a with
              | none => exact x
              | some v => exact x
            | own ds => cases a with
              | none => exact x
              | some v =>
                obtain ⟨q, ys, rfl, h1, r⟩ := x
                have ne : q ≠ p := fun z => hx ds rfl (by rw [z])
                exact ⟨q, ys, rfl, by rw [upd_ne ne]; exact h1, r⟩
            | mu M => cases a with
              | none => exact x
              | some v =>
                obtain ⟨q, o, rfl, h1, h2, r⟩ := x
                have ne : q ≠ p := fun z => by rw [z, hp2] at h1; exact h2 _ (Option.some.inj h1).symm
                exact ⟨q, o, rfl, by rw [upd_ne ne]; exact h1, h2, r⟩
          cases i with
          | zero =>
            have ea : a = some (V.ref p) := Option.some.inj hi
            subst ea
            refine .cons ⟨p, xs ++ [v], rfl, upd_same, a2, a3, ip2, (a5.mono g2.ii).append (.one r2)⟩ ?_
            have tl : ∀ (l : Sl) (m : List Ent), Paired (EntR c I2 H2) l m → (∀ (j : Nat) (es : List PyData), m[j]? = some (Ent.own es) → l[j]? ≠ some (some (V.ref p))) → Paired (EntR c I2 (upd H2 p (.lst (xs ++ [v])))) l m := by
              intro l m h
              induction h with
              | nil => exact fun _ => .nil
              | @cons a b l m x r ih =>
                intro hh
                exact .cons (upx x fun es eb => by subst eb; exact fun z => hh 0 es rfl (by rw [z]; rfl)) (ih fun j es h => hh (j + 1) es (by simpa using h))
            exact tl l m r fun j es h => hne (j + 1) es (by omega) (by simpa using h)
          | succ i =>
            refine .cons (upx x fun es eb => by subst eb; exact fun z => hne 0 es (by omega) rfl (by rw [z]; rfl)) (ih i (by simpa using hi) fun j es nj h => ?_)
            have := hne (j + 1) es (by omega) (by simpa using h)
            simpa using this
      exact gen σ ρ e2.st i h1 fun j es nj h z => nj (e.ap j i p es ds h hi z h1)
    · have key : ∀ (j : Nat) (as : List PyData), (ρ.set i (.own (ds ++ [d])))[j]? = some (.own as) → ∃ as', ρ[j]? = some (.own as') := fun j as h1 => by
        by_cases z : j = i
        · subst z; exact ⟨ds, hi⟩
        · rw [List.getElem?_set_ne (Ne.symm z)] at h1; exact ⟨as, h1⟩
      obtain ⟨as', b1'⟩ := key j as b1
      obtain ⟨bs', b2'⟩ := key k bs b2
      exact e.ap j k q as' bs' b1' b2' b3 b4
/-- from here on it is data -/
theorem bk_freeze {i : Nat} {ds : List PyData} {t : TS} {O : Out} (hi : ρ[i]? = some (.own ds)) (h : Bk c t (ρ.set i (.dat (.list ds))) C O) : Bk c t ρ C O := fun σ I H n D w e l k1 k2 k3 k4 => by
  obtain ⟨o, h1, h2⟩ := Paired.getP e.st hi
  cases o with
  | none => exact h2.elim
  | some v =>
    obtain ⟨p, xs, rfl, a1, a2, a3, a4, a5⟩ := h2
    have s1 : Same I (upd I p (.lst xs)) := fun q o h => by rw [upd_ne (ne_of_none h a4)]; exact h
    have hσ : σ.set i (some (V.ref p)) = σ := by
      apply List.ext_getElem?
      intro j
      by_cases z : i = j
      · subst z
        rw [List.getElem?_set_self', h1]
        rfl
      · rw [List.getElem?_set_ne z]
    have w1 : Wd c (upd I p (.lst xs)) H n := by
      refine ⟨fun q o h => ?_, w.i0.trans s1, w.h0, fun q h => ?_, w.bg⟩
      · by_cases z : q = p
        · subst z; rw [upd_same] at h; cases h; exact a1
        · rw [upd_ne z] at h; exact w.ih q o h
      · rw [upd_ne (fun z => h (by rw [z]; exact a2))]; exact w.nw q h
    have e1 : EnvR c (upd I p (.lst xs)) H σ (ρ.set i (.dat (.list ds))) := by
      refine ⟨?_, fun j k q as bs b1 b2 b3 b4 => ?_⟩
      · have gen : ∀ (σ : Sl) (ρ : List Ent), Paired (EntR c I H) σ ρ → ∀ i, σ[i]? = some (some (V.ref p)) → (∀ (j : Nat) (es : List PyData), j ≠ i → ρ[j]? = some (Ent.own es) → σ[j]? ≠ some (some (V.ref p))) → Paired (EntR c (upd I p (.lst xs)) H) σ (ρ.set i (.dat (.list ds))) := by
          intro σ ρ h
          induction h with
          | nil => intro i hi; cases hi
          | @cons a b l m x r ih =>
            intro i hi hne
            have upx : ∀ {a : Option V} {b : Ent}, EntR c I H a b → (∀ es, b = .own es → a ≠ some (V.ref p)) → EntR c (upd I p (.lst xs)) H a b := fun {a b} x hx => by
              cases b with
              | any => cases a <;> exact True.intro
              | dat d => cases a with
                | none => exact x
                | some v => exact Rp.mono s1 x
              | bag | memo _ => cases a with
                | none => exact x
                | some v => exact x
              | raw u => cases a with
                | none => exact x
                | some v => exact x
              | scr ns => cases a with
                | none => exact x
                | some v => obtain ⟨z, e1, q⟩ := x; exact ⟨z, e1, s1.seq q⟩
              | own ds => cases a with
                | none => exact x
                | some v =>
                  obtain ⟨q, ys, rfl, h1, r1, r2, r3, r4⟩ := x
                  have ne : q ≠ p := fun z => hx ds rfl (by rw [z])
                  exact ⟨q, ys, rfl, h1, r1, r2, by rw [upd_ne ne]; exact r3, r4.mono s1⟩
              | mu M => cases a with
                | none => exact x
                | some v =>
                  obtain ⟨q, o, rfl, h1, h2, r1, r2, r3, r4⟩ := x
                  have ne : q ≠ p := fun z => by rw [z, a1] at h1; exact h2 _ (Option.some.inj h1).symm
                  exact ⟨q, o, rfl, h1, h2, r1, r2, by rw [upd_ne ne]; exact r3, fun J s => r4 J (s1.trans s)⟩
            cases i with
            | zero =>
              have ea : a = some (V.ref p) := Option.some.inj hi
              subst ea
              refine .cons (show Rp c.K (upd I p (.lst xs)) (.ref p) (.list ds) from .lst upd_same (a5.mono s1)) ?_
              have tl : ∀ (l : Sl) (m : List Ent), Paired (EntR c I H) l m → (∀ (j : Nat) (es : List PyData), m[j]? = some (Ent.own es) → l[j]? ≠ some (some (V.ref p))) → Paired (EntR c (upd I p (.lst xs)) H) l m := by
                intro l m h
                induction h with
                | nil => exact fun _ => .nil
                | @cons a b l m x r ih =>
                  intro hh
                  exact .cons (upx x fun es eb => by subst eb; exact fun z => hh 0 es rfl (by rw [z]; rfl)) (ih fun j es h => hh (j + 1) es (by simpa using h))
              exact tl l m r fun j es h => hne (j + 1) es (by omega) (by simpa using h)
            | succ i =>
              refine .cons (upx x fun es eb => by subst eb; exact fun z => hne 0 es (by omega) rfl (by rw [z]; rfl)) (ih i (by simpa using hi) fun j es nj h => ?_)
              have := hne (j + 1) es (by omega) (by simpa using h)
              simpa using this
        exact gen σ ρ e.st i h1 fun j es nj h z => nj (e.ap j i p es ds h hi z h1)
      · have key : ∀ (j : Nat) (as : List PyData), (ρ.set i (.dat (.list ds)))[j]? = some (.own as) → ρ[j]? = some (.own as) := fun j as h1 => by
          by_cases z : j = i
          · subst z
            rw [List.getElem?_set_self'] at h1
            cases q2 : ρ[j]? with
            | none => rw [q2] at h1; cases h1
            | some o => rw [q2] at h1; cases h1
          · rw [List.getElem?_set_ne (Ne.symm z)] at h1; exact h1
        exact e.ap j k q as bs (key j as b1) (key k bs b2) b3 b4
    exact h σ _ H n D w1 e1 l (fun a b i2 j s w r p => k1 a b i2 j (s1.trans s) w r p) (fun a b i2 j s w r p => k2 a b i2 j (s1.trans s) w r p) (fun a b i2 j s w r p => k3 a b i2 j (s1.trans s) w r p) (fun a b i2 j s w r p => k4 a b i2 j (s1.trans s) w r p)

/-! ### a def's body -/
theorem start_env {K : PySem.W.Frag} {b : Option Addr} {B : BInv} {I H : Hp} {vs : List V} {es : List Ent} {N : List Str} (r : Paired (ArgR K b B I) vs es) : EnvR ⟨K, b, H, I, B⟩ I H (L2.start N vs) (es ++ List.replicate (N.length - es.length) .any) := by
  have no : ∀ (j : Nat) (as : List PyData), (es ++ List.replicate (N.length - es.length) Ent.any)[j]? ≠ some (.own as) := fun j as h => by
    by_cases hj : j < es.length
    · rw [List.getElem?_append_left hj] at h
      obtain ⟨v, _, hv⟩ := Paired.getP r h
      exact hv
    · rw [List.getElem?_append_right (by omega)] at h
      have := List.mem_of_getElem? h
      rw [List.mem_replicate] at this
      exact nomatch this.2
  refine ⟨?_, fun j k q as bs b1 _ _ _ => (no j as b1).elim⟩
  unfold L2.start
  rw [Paired.len r]
  have h1 : ∀ {vs : List V} {es : List Ent}, Paired (ArgR K b B I) vs es → ∀ m, Paired (EntR ⟨K, b, H, I, B⟩ I H) (vs.map some ++ List.replicate m none) (es ++ List.replicate m .any) := by
    intro vs es h
    induction h with
    | nil =>
      intro m
      induction m with
      | zero => exact .nil
      | succ m ih =>
        simp only [List.map_nil, List.nil_append, List.replicate_succ]
        exact .cons True.intro ih
    | @cons v e l m x r ih =>
      intro m
      refine .cons ?_ (ih m)
      cases e with
      | any => exact True.intro
      | dat d => exact x
      | bag | memo _ => exact x
      | raw u => exact x
      | scr ns => exact x
      | own d => exact x.elim
      | mu M => exact x.elim
  exact h1 r _
theorem fn_ok {P : Program} {w : World} {K : PySem.W.Frag} {mg : Str → Option Value} {base : Heap} {x qual : Str} {st : Stmt} {f : Addr} {fd : FuncData} {N ps : List Str} {k C : Nat} {pre : List Ent → Prop} {post : List Ent → PyData → Prop} (F : Fun K x qual st f fd) (S : FnScope N ps (defScope st))
    (hbody : ∀ (cdv : Value) (A : Around) (outer : List Env) (s : Shared) (H : Hp) (E : XK), Room k (A.deeper (envOfC qual (defScope st) s.heap.objs.size f cdv)) →
      ∃ t, PSs (cxOf CX0 P w K mg base N qual (defScope st) f cdv A outer s H E).nox (defBody st) t ∧ ∀ (b : Option Addr × BInv) (I : Hp) (es : List Ent), es.length = ps.length → pre es → Bk ⟨K, b.1, H, I, b.2⟩ t (es ++ List.replicate (N.length - es.length) .any) C { nx := fun _ => post es .none, rt := post es }) :
    FnOk P w K mg base CX0 (k + 1) f fd ps (spD K ps.length C pre post) := by
  refine F.ok S (fun vs H Q E h => ?_) (fun cdv A outer s H vs Q E hr h => ?_)
  · obtain ⟨b, B, I, n, es, h, _⟩ := h
    exact h
  · obtain ⟨b, B, I, n, es, h1, h2, h3, h4, h5, h6, h7⟩ := h
    obtain ⟨t, ht, hb⟩ := hbody cdv A outer s H E hr
    refine ⟨t, ht, ?_⟩
    have w0 : Wd ⟨K, b, H, I, B⟩ I H n := ⟨h3, Same.refl _, fun _ _ _ h => h, fun _ _ => rfl, fun p e => ⟨(h4 p e).1, (by
      obtain ⟨x, hh, _⟩ := (h4 p e).2
      show H p ≠ none
      rw [hh]; exact fun z => nomatch z), (h4 p e).2⟩⟩
    have fin : ∀ v d I' H', Same I I' → Wd ⟨K, b, H, I, B⟩ I' H' (n + C) → Rp K I' v d → post es d → Q v H' := fun v d I' H' s w r p => by
      refine h7 v d I' H' ⟨s, fun q o ne e => w.h0 q o ne e, fun q e => w.nw q e, fun q e => ?_⟩ w.ih (fun p e => (w.bg p e).2.2) r p
      by_cases hb : b = some q
      · obtain ⟨_, _, x, h3, _⟩ := w.bg q hb
        rw [h3]; exact fun z => nomatch z
      · cases h : H q with
        | none => exact absurd h e
        | some o => rw [w.h0 q o (fun z => hb z.symm) h]; exact fun z => nomatch z
    exact hb (b, B) I es (by rw [← Paired.len h2]; exact h1) h6 (L2.start N vs) I H n _ w0 (start_env h2) h5 (fun σ' ρ' I' H' s w e p => fin .non .none I' H' s w .non p) (fun v d I' H' s w r p => fin v d I' H' s w r p.1) (fun _ _ _ _ _ _ _ z => z.elim) (fun _ _ _ _ _ _ _ z => z.elim)
end
end Hh

set_option Elab.async false
set_option linter.all false
set_option maxRecDepth 100000
set_option maxHeartbeats 1000000
namespace Hh
set_option autoImplicit false
open PySem PySem.Spec PyProof.Rows L2

/-! ### defs that are called where no repr is under way -/
def Calm (A : Around) : Prop := A.guards = some []
theorem Calm.deep {A : Around} (h : Calm A) (env : Env) : Calm (A.deeper env) := h
structure FnG (P : Program) (w : World) (K : PySem.W.Frag) (mg : Str → Option Value) (base : Heap) (k : Nat) (f : Addr) (fd : FuncData) (ps : List Str) (sp : Sp) : Prop where
  many : ∀ vs H Q E, sp vs H Q E → vs.length = ps.length
  go : ∀ (A : Around) (fr : List Env) (s : Shared) (H : Hp) (ar : Args) (us : List Value) (vs : List V) (Q : VK) (E : XK), Room k A → Calm A → Env0 P w K mg base A fr s H →
    BindsTo s fd ar (ps.zip us) → Vals vs us → sp vs H Q E → codeAny (model P w) A (.call (.ref f) ar) (CR CX0 fr P w H s Q E) s
theorem FnG.of {P : Program} {w : World} {K : PySem.W.Frag} {mg : Str → Option Value} {base : Heap} {k : Nat} {f : Addr} {fd : FuncData} {ps : List Str} {sp : Sp} (F : FnOk P w K mg base CX0 k f fd ps sp) : FnG P w K mg base k f fd ps sp :=
  ⟨F.len, fun A fr s H ar us vs Q E r _ e b v h => F.run A fr s H ar us vs Q E r e b v h⟩
section
variable {X : Cx} {k : Nat} {f : Addr} {fd : FuncData} {ps : List Str} {sp : Sp} {x : Str} {p pos : Pos} {e : Expr} {es : List Expr} {t : TA}
theorem runG {pins : List (Addr × Obj)} {σ : Sl} {H : Hp} {s : Shared} {Q : VK} {us : List Value} {vs : List V} {E : XK} (F : FnG X.prog X.w X.K X.mg X.base k f fd ps sp)
    (hr : Room k X.A) (hc : Calm X.A) (hb : Binds X.K fd ps []) (I : Inv X pins σ H s) (r : Vals vs us) (h : sp vs H Q E) :
    wpAny (model X.prog X.w) X.A (call (.ref f) us) (EP X pins σ Q) X.xe s := by
  have lu : (us ++ []).length = ps.length := by rw [List.append_nil, ← r.length]; exact F.many _ _ _ _ h
  have bb := hb s us I.kIn lu
  rw [List.append_nil] at bb
  refine wpAny_call (codeAny_mono (F.go X.A X.stack s H ⟨us, []⟩ us vs Q E hr hc I.env0 bb r h) ?_)
  intro rr s' q
  match rr, q with
  | .error _, q => exact False.elim q
  | .ok (.ret u), q => exact I.after q
  | .ok .next, q => exact False.elim q
  | .ok .brk, q => exact False.elim q
  | .ok .cont, q => exact False.elim q
theorem pe_callG (F : FnG X.prog X.w X.K X.mg X.base k f fd ps sp) (hr : Room k X.A) (hc : Calm X.A) (hg : Gl X x) (hm : X.mg x = some (.ref f)) (hk : PySem.W.keepIn X.K (.ref f) = true) (hb : Binds X.K fd ps []) (ha : PA X (e :: es) t)
    (hdb : (x == ("__debug__" : Str)) = false := by decide) (he : starEach (e :: es) X.env = (false, eval e X.env) :: starEach es X.env := by rfl) (hpl : (backTo pos (starEach es X.env)).any (·.1) = false := by rfl) :
    PE X (.Call (.Name x p) (e :: es) [] pos) (tCall sp [] E0 t) := by
  constructor
  intro pins s σ H Q I h
  refine wpAny_Call_Name_kw (ld_glob I hg hm ?_ hdb)
  refine PySem.W.callWith_K (h₀ := X.base) I.ok.mod.kin hk ?_ he hpl
  refine thn (ha.run pos pins s σ H _ I h) ?_
  rintro us s1 ⟨vs, H1, I1, r, q⟩
  rw [List.append_nil] at q
  exact ⟨I1.kIn, runG F hr hc hb I1 r q⟩
end
/-- a def of the text by its body, where no repr is under way -/
theorem fnG_of {P : Program} {w : World} {K : PySem.W.Frag} {mg : Str → Option Value} {base : Heap} {k : Nat} {f : Addr} {nm qual : Str} {pa : Arguments} {bd : List Stmt} {sc : Scope} {dV kV dc pm cv ct oc : Value} {an od : Option Addr} {sl : Array (Option Value)} {N ps : List Str} {sp : Sp}
    (lk : K.lookup f = some ⟨oc, od, .func (PySem.W.fnOf nm qual pa bd sc dV kV dc pm an cv ct), sl⟩) (hcd : PySem.W.codeIn K cv qual = true) (S : FnScope N ps sc) (many : ∀ vs H Q E, sp vs H Q E → vs.length = ps.length)
    (body : ∀ (A : Around) (fr : List Env) (s : Shared) (H : Hp) (vs : List V) (Q : VK) (E : XK), Room k (A.deeper (envOfC qual sc s.heap.objs.size f cv)) → Calm (A.deeper (envOfC qual sc s.heap.objs.size f cv)) → sp vs H Q E →
      ∃ t, PSs (cxOf CX0 P w K mg base N qual sc f cv A fr s H E) bd t ∧ t { nx := fun _ H' => Q .non H', rt := Q } (L2.start N vs) H) :
    FnG P w K mg base (k + 1) f (PySem.W.fnOf nm qual pa bd sc dV kV dc pm an cv ct) ps sp := by
  constructor
  · exact many
  intro A fr s H ar us vs Q E room calm e0 bnd rv h
  have nv := many _ _ _ _ h
  have kin : K.In s.heap := e0.mod.kin.keeps fun b o q => (e0.bs b o q).1
  have lim : s.heap.NoLimit := e0.mod.nolimit.keeps fun b o q => (e0.bs b o q).1
  have kinds : ∀ y ∈ ps.zip us, sc.names.lookup y.1 = some .local ∨
      (sc.names.lookup y.1 = some .cell ∧ ((cellsFrom (s.heap.objs.size + 1) sc.names []).lookup y.1).isSome = true) := by
    rintro ⟨n, v⟩ hy
    rcases S.par n (List.of_mem_zip hy).1 with q | q
    · left; exact q
    · right; exact ⟨q, PySem.W.cellsFrom_some _ _ _ (Or.inl q)⟩
  refine codeAny_call_function room.depth (kin _ _ lk) rfl S.co S.gen rfl (PySem.W.codeRec_of kin hcd) (bnd _ _ _ _ ?_)
  refine wpAny_newFunctionEnv_cells S.kind kinds ?_
  intro env he s1 x
  subst he
  refine ⟨lim.keeps x.toInCall.keep, codeAny_func ?_⟩
  obtain ⟨t, ht, hq⟩ := body A fr s H vs Q E (room.deeper _) (calm.deep _) h
  have inv := inv_start (CX := CX0) (E := E) (N := N) S room.hd e0 nv rv x
  refine wpAny_mono (ht.run [] s1 (L2.start N vs) H _ inv hq) ?_ ?_
  · intro fl s' hs
    match fl, hs with
    | .ret u, ⟨v, σ', H', J, r', q⟩ => exact ⟨v, H', J.os, J.bare, J.base, J.hok, r', q⟩
    | .next, ⟨σ', H', J, q⟩ => exact ⟨V.non, H', J.os, J.bare, J.base, J.hok, rfl, q⟩
    | .brk, ⟨_, _, _, q⟩ => exact False.elim q
    | .cont, ⟨_, _, _, q⟩ => exact False.elim q
  · intro e s' hs
    exact hs
theorem Fun.okG {P : Program} {w : World} {K : PySem.W.Frag} {mg : Str → Option Value} {base : Heap} {x qual : Str} {st : Stmt} {f : Addr} {fd : FuncData} {N ps : List Str} {k : Nat} {sp : Sp} (F : Fun K x qual st f fd) (S : FnScope N ps (defScope st)) (many : ∀ vs H Q E, sp vs H Q E → vs.length = ps.length)
    (body : ∀ (cv : Value) (A : Around) (fr : List Env) (s : Shared) (H : Hp) (vs : List V) (Q : VK) (E : XK), Room k (A.deeper (envOfC qual (defScope st) s.heap.objs.size f cv)) → Calm (A.deeper (envOfC qual (defScope st) s.heap.objs.size f cv)) → sp vs H Q E →
      ∃ t, PSs (cxOf CX0 P w K mg base N qual (defScope st) f cv A fr s H E).nox (defBody st) t ∧ t { nx := fun _ H' => Q .non H', rt := Q } (L2.start N vs) H) : FnG P w K mg base (k + 1) f fd ps sp := by
  obtain ⟨oc, od, kV, doc, pm, an, cv, ct, sl, rfl, lk, hcd⟩ := F.ex
  refine fnG_of lk hcd S many ?_
  intro A fr s H vs Q E hr hc h
  obtain ⟨t, h1, h2⟩ := body cv A fr s H vs Q E hr hc h
  exact ⟨t, h1.nox, h2⟩
/-- the law's def is called at the top -/
theorem topG {P : Program} {w : World} {K : PySem.W.Frag} {mg mb : Str → Option Value} {k : Nat} {fa a : Addr} {fd : FuncData} {x : Str} {sp : Sp} {s₁ : Shared} {vs : List Value} {ns : List Int}
    (KX : K.In s₁.heap) (n1 : s₁.heap.Ns mainGlobals mg) (n2 : s₁.heap.Ns builtinsNs mb) (n3 : ∀ x : Str, x ≠ "__name__" → mb x = bootBuiltins x) (lim : s₁.heap.NoLimit) (gn : s₁.gens = #[])
    (ha : s₁.heap.get? a = some { cls := .type "list", data := .seq vs.toArray }) (hi : IntsAre vs ns) (hl : ns.length ≤ sizeLine) (hr : Room k callerA)
    (F : ∀ base : Heap, K.In base → base.Ns mainGlobals mg → FnG P w K mg base k fa fd [x] sp) (bind : ∀ (s : Shared) (u : Value), BindsTo s fd ⟨[u], []⟩ [(x, u)])
    (hsp : ∀ H : Hp, Only H → SqL K H a (ns.map V.int) → sp [.ref a] H (fun v _ => v = .bl true) fun _ _ _ => False) :
    codeAny (model P w) callerA (.call (.ref fa) ⟨[.ref a], []⟩) (fun r s' => r = .ok (.ret (.bool true)) ∧ OldK s₁.heap s'.heap ∧ s'.os = s₁.os ∧ AllBare s'.gens) s₁ := by
  have rv := vals_ints hi
  have lv := hi.length
  suffices core : ∀ H : Hp, Only H → SqL K H a (ns.map V.int) → HOk P w H s₁.heap → (∀ b, H b ≠ none → b = a) → (H a ≠ none → K.lookup a = none) →
      codeAny (model P w) callerA (.call (.ref fa) ⟨[.ref a], []⟩) (fun r s' => r = .ok (.ret (.bool true)) ∧ OldK s₁.heap s'.heap ∧ s'.os = s₁.os ∧ AllBare s'.gens) s₁ by
    by_cases hk : K.lookup a = none
    · refine core (fun b => if b = a then some (.frz { cls := .type "list", data := .seq vs.toArray } (.lst (ns.map V.int))) else none) ?_ (Or.inl (Or.inr ⟨_, if_pos rfl⟩)) ?_ ?_ fun _ => hk
      · intro b
        by_cases hb : b = a
        · right; exact ⟨_, _, if_pos hb⟩
        · left; exact if_neg hb
      · intro b u z
        by_cases hb : b = a
        · cases (if_pos hb).symm.trans z
          subst hb
          exact ⟨ha, by rw [List.length_map]; exact hl, vs, _, rv, ha⟩
        · cases (if_neg hb).symm.trans z
      · intro b z
        by_cases hb : b = a
        · exact hb
        · exact absurd (if_neg hb) z
    · obtain ⟨o, ho⟩ := Option.ne_none_iff_exists'.mp hk
      have e := KX a o ho
      rw [ha] at e
      cases e
      refine core (fun _ => none) (fun _ => Or.inl rfl) (Or.inr ⟨_, vs.toArray, _, ho, rfl, rfl, rfl, ?_, ?_⟩) ?_ (fun b z => absurd rfl z) (fun z => absurd rfl z)
      · rw [List.size_toArray, lv]; exact hl
      · simpa using rv
      · intro b u z
        have z' : (none : Option HO) = some u := z
        cases z'
  intro H hO hS hok hA hK
  have nodict : ∀ {b : Addr} {o : Obj} {es : Array DictEntry} {ep : Nat}, s₁.heap.get? b = some o → o.data = .dict es ep → H b = none := by
    intro b o es ep e d
    by_cases q : H b = none
    · exact q
    · obtain rfl := hA b q
      rw [ha] at e
      cases e
      have d' : Data.seq vs.toArray _ = Data.dict es ep := d
      cases d'
  have ns' : ∀ {b : Addr} {m : Str → Option Value}, s₁.heap.Ns b m → (hidT s₁.heap H).Ns b m := by
    rintro b m ⟨o, es, ep, e, d, r⟩
    exact ⟨o, es, ep, hidT_get e (nodict e d), d, r⟩
  have kb : K.In (hidT s₁.heap H) := by
    intro b o e
    refine hidT_get (KX b o e) ?_
    by_cases q : H b = none
    · exact q
    · obtain rfl := hA b q
      rw [hK q] at e
      cases e
  have hM : Mod K mg (hidT s₁.heap H) := by
    obtain ⟨mc, h1, h2⟩ := lim
    exact ⟨kb, ns' n1, ⟨mb, ns' n2, n3⟩, mc, ns' h1, h2⟩
  have e0 : Env0 P w K mg (hidT s₁.heap H) callerA [] s₁ H := by
    refine ⟨rfl, hM, fun b o e => of_hidT e, Nat.le_of_eq (hidT_size _ _), trivial, ?_, hok, .of_eq gn⟩
    intro b hb
    exact absurd (show b ∈ ([] : List Addr) from hb) List.not_mem_nil
  refine codeAny_mono ((F _ kb (ns' n1)).go callerA [] s₁ H ⟨[.ref a], []⟩ [.ref a] [.ref a] _ _ hr rfl e0 (bind s₁ (.ref a)) (.cons rfl .nil) (hsp H hO hS)) ?_
  intro r s' h
  match r, h with
  | .error e, h => exact False.elim h
  | .ok .next, h => exact False.elim h
  | .ok .brk, h => exact False.elim h
  | .ok .cont, h => exact False.elim h
  | .ok (.ret u), ⟨v, H', os, bare, un, hok', r', q⟩ =>
    have q' : v = .bl true := q
    subst q'
    obtain rfl : u = Value.bool true := r'
    refine ⟨rfl, OldK.of_keep ?_, os, bare⟩
    intro b o e
    cases q : H b with
    | none => exact un.keep b o e q (fun z => List.not_mem_nil z) List.not_mem_nil
    | some u =>
      rcases hO b with z | ⟨ob, xs, z⟩
      · rw [q] at z; cases z
      · have y := un.frzs b ob _ z
        obtain ⟨e1, _⟩ := hok b _ z
        obtain ⟨e2, _⟩ := hok' b _ y
        rw [e] at e1
        cases e1
        exact e2
theorem walkG {l : PySem.W.OpenLaw} {n k : Nat} {q : Program} {loose : List Str} {XP : (Str → Option Value) → Heap → Prop} {YP : World → Heap → Prop} {d : DefRec} {K : Params → PySem.W.Frag} {sp : World → Sp} {x : Str}
    (hn : l.most = some n) (hz : n ≤ sizeLine) (hdf : d.params.defaults = []) (hr : Room k callerA) (hY : ∀ (w : World) (h : Heap), YP w h → (K w.params).In h)
    (F : ∀ (w : World) (mg : Str → Option Value) (fa : Addr) (h : Heap), (K w.params).In h → h.Ns mainGlobals mg → mg d.name = some (.ref fa) →
      ∃ fd : FuncData, (∀ (s : Shared) (u : Value), BindsTo s fd ⟨[u], []⟩ [(x, u)]) ∧ ∀ base : Heap, (K w.params).In base → base.Ns mainGlobals mg → FnG l.prog w (K w.params) mg base k fa fd [x] (sp w))
    (hsp : ∀ (w : World) (H : Hp) (a : Addr) (ns : List Int), ns.length ≤ n → Only H → SqL (K w.params) H a (ns.map V.int) → sp w [.ref a] H (fun v _ => v = .bl true) fun _ _ _ => False) :
    PySem.W.WalkO q loose XP YP l.row.toRowW d [] (fun f vs => PySem.call f vs) := by
  refine Att.attach_call hn hdf ?_
  intro w s₀ s₁ mg mb fa o pm cd doc a vs ns G Y _ _ _ hmg hobj hints hlen hg
  have KX := hY w _ Y
  obtain ⟨fd, hb, hF⟩ := F w mg fa _ KX G.T.g hmg
  exact topG KX G.T.g G.T.b G.T.builtins G.T.nolimit hg hobj hints (Nat.le_trans hlen hz) hr hF hb fun H hO hS => hsp w H a ns hlen hO hS
end Hh

set_option Elab.async false
set_option linter.all false
set_option maxRecDepth 100000
set_option maxHeartbeats 1000000
namespace Hh
set_option autoImplicit false
open PySem PySem.Spec PyProof.Rows L2

/-! ### wide powers -/
def CPowB (i j : Int) : Prop := 0 ≤ j ∧ (Builtin.Int.intBits i : Int) * j ≤ 2 ^ 27
theorem op_powB {X : Cx} : OpR X (binaryOp .Pow) (rI CPowB fun i j => .int (i ^ j.toNat)) := opI fun _ _ _ _ _ _ _ hc q => pow_int hc.1 hc.2 q
theorem cpowB {i j : Int} {n : Nat} (hi : i.natAbs < 2 ^ n) (h0 : 0 ≤ j) (hj : (n : Int) * j ≤ 2 ^ 27) : CPowB i j := by
  refine ⟨h0, ?_⟩
  have h1 : Builtin.Int.intBits i ≤ n := intBits_le hi
  have h2 : (Builtin.Int.intBits i : Int) ≤ (n : Int) := by omega
  exact Int.le_trans (Int.mul_le_mul_of_nonneg_right h2 h0) hj

/-! ### one rule for several kinds -/
def rAddA (K : PySem.W.Frag) : R2 := fun x y H Q => rI0 (fun i j => .int (i + j)) x y H Q ∨ (rCat x y H Q ∨ (rCatA K x y H Q ∨ (∃ i j, x = .str i ∧ y = .str j ∧ i.length + j.length ≤ sizeLine ∧ Q (.str (i ++ j)) H)))
theorem op_addA {X : Cx} : OpR X (binaryOp .Add) (rAddA X.K) := op_add.or (op_cat.or (op_catA.or op_add_str))
def rLtA : R2 := fun x y H Q => rI0 (fun i j => .bl (decide (i < j))) x y H Q ∨ (∃ i j, x = .str i ∧ y = .str j ∧ Q (.bl (decide (i.cps.toList < j.cps.toList))) H)
theorem op_ltA {X : Cx} : OpR X (compareOp .Lt) rLtA := op_lt.or op_lt_str
def rSlAny (K : PySem.W.Frag) : V → Option Int → Option Int → Hp → VK → Prop := fun x lo hi H Q => rSlL K x lo hi H Q ∨ (rSlA K x lo hi H Q ∨ rSlS x lo hi H Q)
theorem sl_any {X : Cx} : SlR X (rSlAny X.K) := sl_list.or (sl_tupA.or sl_str)
theorem PI.or {X : Cx} {tg it : Expr} {w1 w2 : TI} (h1 : PI X tg it w1) (h2 : PI X tg it w2) : PI X tg it (fun σ H R => w1 σ H R ∨ w2 σ H R) :=
  ⟨fun pins s σ H R I h => h.elim (h1.run pins s σ H R I) (h2.run pins s σ H R I)⟩
def iSeq (K : PySem.W.Frag) (t : TE) : TI := fun σ H R => iList K t σ H R ∨ iTup K t σ H R
theorem pi_seq {X : Cx} {tg l : Expr} {tl : TE} (h : PE X l tl) : PI X tg l (iSeq X.K tl) := PI.or (pi_list h) (pi_tup h)

/-! ### a def of one's own by keywords alone -/
structure KwB (K : PySem.W.Frag) (fd : FuncData) (ps ks : List Str) (pi : List Nat) : Prop where
  to : ∀ (s : Shared) (ws : List Value), ws.length = ks.length → BindsTo s fd ⟨[], ks.zip ws⟩ (ps.zip (pi.filterMap fun i => ws[i]?))
  ln : pi.length = ps.length
  lt : ∀ i ∈ pi, i < ks.length
theorem Fun.kw {K : PySem.W.Frag} {x qual : Str} {st : Stmt} {f : Addr} {fd : FuncData} {ps ks : List Str} {pi : List Nat} (F : Fun K x qual st f fd)
    (h : ∀ (kV doc pm : Value) (an : Option Addr) (cdv ct : Value) (ws : List Value), ws.length = ks.length → bindArgs (PySem.W.fnOf x qual (defArgs st) (defBody st) (defScope st) .none kV doc pm an cdv ct) ⟨[], ks.zip ws⟩ = pure (ps.zip (pi.filterMap fun i => ws[i]?)))
    (ln : pi.length = ps.length) (lt : ∀ i ∈ pi, i < ks.length) : KwB K fd ps ks pi := by
  obtain ⟨oc, od, kV, doc, pm, an, cdv, ct, osl, rfl, lk, hcd⟩ := F.ex
  exact ⟨fun s ws hl => .of_eq (h kV doc pm an cdv ct ws hl), ln, lt⟩
def permV (pi : List Nat) (zs : List V) : List V := pi.filterMap fun i => zs[i]?
def tCallKw (sp : Sp) (pi : List Nat) (n : Nat) (E : XK) (t : TA) : TE := fun σ H Q => t σ H fun zs H1 => zs.length = n ∧ sp (permV pi zs) H1 Q E
theorem vals_perm {zs : List V} {ws : List Value} (r : Vals zs ws) : ∀ (pi : List Nat), (∀ i ∈ pi, i < zs.length) → Vals (permV pi zs) (pi.filterMap fun i => ws[i]?)
  | [], _ => .nil
  | i :: pi, h => by
    have hi := h i List.mem_cons_self
    obtain ⟨u, hu, ru⟩ := r.get (List.getElem?_eq_getElem hi)
    unfold permV
    rw [List.filterMap_cons, List.filterMap_cons, List.getElem?_eq_getElem hi, hu]
    exact .cons ru (vals_perm r pi fun j hj => h j (List.mem_cons_of_mem _ hj))
theorem pe_callKw {X : Cx} {k : Nat} {f : Addr} {fd : FuncData} {ps ks : List Str} {sp : Sp} {x : Str} {p pos : Pos} {kws : List Keyword} {tk : TA} {pi : List Nat} (F : FnG X.prog X.w X.K X.mg X.base k f fd ps sp) (hr : Room k X.A) (hc : Calm X.A)
    (hg : Gl X x) (hm : X.mg x = some (.ref f)) (hk : PySem.W.keepIn X.K (.ref f) = true) (hb : KwB X.K fd ps ks pi) (hkw : PK X kws tk)
    (hall : (backToKw pos (keywordEach kws X.env)).all (·.1.isSome) = true := by rfl) (hks : (backToKw pos (keywordEach kws X.env)).filterMap (·.1) = ks := by rfl) (hdb : (x == ("__debug__" : Str)) = false := by decide)
    (hpl : ((backTo pos (starEach [] X.env)).any (·.1) || (backToKw pos (keywordEach kws X.env)).any (·.1.isNone)) = false := by rfl) : PE X (.Call (.Name x p) [] kws pos) (tCallKw sp pi ks.length E0 tk) := by
  constructor
  intro pins s σ H Q I h
  refine wpAny_Call_Name_kw (ld_glob I hg hm ?_ hdb)
  refine PySem.W.callWith_KW0 (h₀ := X.base) I.ok.mod.kin hk hall ?_ hpl
  refine thn (hkw.run pos pins s σ H _ I h) ?_
  rintro ws s1 ⟨zs, H1, I1, rz, hz, q⟩
  refine ⟨I1.kIn, ?_⟩
  rw [hks]
  have rv := vals_perm rz pi fun i hi => by rw [hz]; exact hb.lt i hi
  refine wpAny_call (codeAny_mono (F.go X.A X.stack s1 H1 ⟨[], ks.zip ws⟩ _ _ Q E0 hr hc I1.env0 (hb.to s1 ws (by rw [← rz.length]; exact hz)) rv q) ?_)
  intro rr s' q
  match rr, q with
  | .error _, q => exact False.elim q
  | .ok (.ret u), q => exact I1.after q
  | .ok .next, q => exact False.elim q
  | .ok .brk, q => exact False.elim q
  | .ok .cont, q => exact False.elim q

/-! ### the same rules with the written part told -/
section
variable {X : Cx} {K : PySem.W.Frag}
theorem op_eqK (e : X.K = K) (hu : X.A.units + 64 < cLine) : OpR X (compareOp .Eq) (rEqX K) := by subst e; exact (op_eqD hu).or op_eq
theorem op_neK (e : X.K = K) (hu : X.A.units + 64 < cLine) : OpR X (compareOp .NotEq) (rNeX K) := by subst e; exact (op_neD hu).or op_ne
theorem op_addK (e : X.K = K) : OpR X (binaryOp .Add) (rAddA K) := by subst e; exact op_addA
theorem ix_K (e : X.K = K) : IxR X (rIx K) := by subst e; exact ix_seq
theorem sl_K (e : X.K = K) : SlR X (rSlAny K) := by subst e; exact sl_any
theorem op_inK (e : X.K = K) : OpR X (compareOp .In) (rIn K false) := by subst e; exact op_in_seq
theorem op_notInK (e : X.K = K) : OpR X (compareOp .NotIn) (rIn K true) := by subst e; exact op_notIn_seq
theorem call_isiK' (e : X.K = K) : CallR X (.builtin "isinstance") (rIsi K) := by subst e; exact call_isi
theorem call_lenK (e : X.K = K) : CallR X (.builtin "len") (fun xs H Q => ∃ x n, xs = [x] ∧ LenV K x H n ∧ Q (.int n) H) := by subst e; exact call_len
theorem cr_allK (e : X.K = K) (hc : X.calm = true) : CallR X (.builtin "all") (rAll K) := by subst e; exact cr_all hc
theorem cr_anyK (e : X.K = K) (hc : X.calm = true) : CallR X (.builtin "any") (rAny K) := by subst e; exact cr_any hc
theorem call_tupK (e : X.K = K) : CallR X (.type "tuple") (fun xs H Q => ∃ p ys, xs = [.ref p] ∧ ((SqL K H p ys ∧ ∀ l, H l = none → Q (.ref l) (upd H l (.tup ys))) ∨ (SqT K H p ys ∧ Q (.ref p) H))) := by subst e; exact call_tuple_of
theorem pi_seqK {tg l : Expr} {tl : TE} (e : X.K = K) (h : PE X l tl) : PI X tg l (iSeq K tl) := by subst e; exact pi_seq h
theorem pi_zipK {a b : Expr} {ta : TA} {p pos tpos : Pos} {elts : List Expr} {kk : Nat} (e : X.K = K) (hg : Gl X "zip") (hm : X.mg "zip" = none) (ha : PA X [a, b] ta)
    (hs : starEach [a, b] X.env = (false, eval a X.env) :: starEach [b] X.env := by rfl) (hpl : (backTo pos (starEach [b] X.env)).any (·.1) = false := by rfl) : PI X (.Tuple elts kk tpos) (.Call (.Name "zip" p) [a, b] [] pos) (RZ.iZipA K ta) := by
  subst e; exact RZ.pi_zipA hg hm ha hs hpl
theorem pi_revK {tg a : Expr} {te : TE} {p pos : Pos} (e : X.K = K) (hg : Gl X "reversed") (hm : X.mg "reversed" = none) (ha : PE X a te) (hs : starEach [a] X.env = (false, eval a X.env) :: starEach [] X.env := by rfl) :
    PI X tg (.Call (.Name "reversed" p) [a] [] pos) (RT.iRevA K te) := by subst e; exact RT.pi_revA hg hm ha hs
end

/-! ### repr of data -/
mutual
def noLst : PyData → Bool
  | .list _ => false
  | .tuple ds => noLsts ds
  | _ => true
def noLsts : List PyData → Bool
  | [] => true
  | d :: ds => noLst d && noLsts ds
end
mutual
def goodS : PyData → Bool
  | .none => true
  | .bool _ => true
  | .int i => decide (i.natAbs.log2 < 1920)
  | .str x => x.cps.toList.all fun c => decide (c < 16 ^ 8)
  | .list ds => noDics ds && goodSs ds
  | .tuple ds => goodSs ds && (noDics ds || noLsts ds)
  | .dict es => es.isEmpty
def goodSs : List PyData → Bool
  | [] => true
  | d :: ds => goodS d && goodSs ds
end
mutual
def szD : PyData → Nat
  | .none => 4
  | .bool _ => 5
  | .int _ => 1921
  | .str x => 10 * x.length + 2
  | .list ds => szDs ds + 2 * ds.length + 3
  | .tuple ds => szDs ds + 2 * ds.length + 3
  | .dict _ => 2
def szDs : List PyData → Nat
  | [] => 0
  | d :: ds => szD d + szDs ds
end
theorem shownAll_len : ∀ ds : List PyData, (PyData.shownAll ds).length = ds.length
  | [] => by simp [PyData.shownAll]
  | d :: ds => by simp [PyData.shownAll, shownAll_len ds]
mutual
theorem shown_len : ∀ d : PyData, goodS d = true → d.shown.length ≤ szD d
  | .none, _ => by simp only [PyData.shown, szD]; decide +kernel
  | .bool b, _ => by
    cases b <;> (simp only [PyData.shown, szD]; decide +kernel)
  | .int i, h => by
    simp only [goodS, decide_eq_true_eq] at h
    simp only [PyData.shown, szD]
    exact int_text_len_1921 h
  | .str x, h => by
    simp only [goodS, List.all_eq_true, decide_eq_true_eq] at h
    simp only [PyData.shown, szD]
    exact StrLaws.reprText_len x h
  | .list ds, h => by
    simp only [goodS, Bool.and_eq_true] at h
    have h1 := shownAll_sum ds h.2
    have h2 := listText_len_le (PyData.shownAll ds)
    rw [shownAll_len] at h2
    simp only [PyData.shown, szD]
    omega
  | .tuple ds, h => by
    simp only [goodS, Bool.and_eq_true] at h
    have h1 := shownAll_sum ds h.1
    have h2 := tupleText_len_le (PyData.shownAll ds)
    rw [shownAll_len] at h2
    simp only [PyData.shown, szD]
    omega
  | .dict es, h => by
    simp only [goodS, List.isEmpty_iff] at h
    subst h
    simp only [PyData.shown, PyData.shownKv, szD]
    decide +kernel
theorem shownAll_sum : ∀ ds : List PyData, goodSs ds = true → ((PyData.shownAll ds).map (·.length)).sum ≤ szDs ds
  | [], _ => by simp [PyData.shownAll, szDs]
  | d :: ds, h => by
    simp only [goodSs, Bool.and_eq_true] at h
    have h1 := shown_len d h.1
    have h2 := shownAll_sum ds h.2
    simp only [PyData.shownAll, szDs, List.map_cons, List.sum_cons]
    omega
end
mutual
theorem good_show : ∀ d : PyData, goodS d = true → d.showable = true
  | .none, _ => rfl
  | .bool _, _ => rfl
  | .int i, h => by simpa [goodS, PyData.showable] using h
  | .str _, _ => rfl
  | .list ds, h => by
    simp only [goodS, Bool.and_eq_true] at h
    simpa [PyData.showable] using goods_show ds h.2
  | .tuple ds, h => by
    simp only [goodS, Bool.and_eq_true] at h
    simpa [PyData.showable] using goods_show ds h.1
  | .dict es, h => by
    simp only [goodS, List.isEmpty_iff] at h
    subst h
    simp [PyData.showable, PyData.showableKv]
theorem goods_show : ∀ ds : List PyData, goodSs ds = true → PyData.showableAll ds = true
  | [], _ => by simp [PyData.showableAll]
  | d :: ds, h => by
    simp only [goodSs, Bool.and_eq_true] at h
    simp [PyData.showableAll, good_show d h.1, goods_show ds h.2]
end
mutual
theorem noDic_has : ∀ d : PyData, noDic d = true → d.hasDict = false
  | .none, _ => by simp [PyData.hasDict]
  | .bool _, _ => by simp [PyData.hasDict]
  | .int i, h => by simp [PyData.hasDict]
  | .str _, _ => by simp [PyData.hasDict]
  | .list ds, h => by
    simp only [noDic] at h
    simpa [PyData.hasDict] using noDics_has ds h
  | .tuple ds, h => by
    simp only [noDic] at h
    simpa [PyData.hasDict] using noDics_has ds h
  | .dict es, h => by simp [noDic] at h
theorem noDics_has : ∀ ds : List PyData, noDics ds = true → PyData.hasDictAll ds = false
  | [], _ => by simp [PyData.hasDictAll]
  | d :: ds, h => by
    simp only [noDics, Bool.and_eq_true] at h
    simp [PyData.hasDictAll, noDic_has d h.1, noDics_has ds h.2]
end
section
variable {X : Cx} {pins : List (Addr × Obj)} {σ : Sl} {H : Hp} {s : Shared}
mutual
theorem Rp.reads (I : Inv X pins σ H s) : ∀ {d : PyData} {v : V} {u : Value}, goodS d = true → Rp X.K H v d → RelV v u → ∃ as, Reads s.heap u d as ∧ (d.hasDict = true → sysModules ∉ as) ∧ (noLst d = true → sysModules ∉ as)
  | .none, _, _, _, .non, r => by cases r; exact ⟨_, .none, by simp⟩
  | .bool _, _, _, _, .bl b, r => by cases r; exact ⟨_, .bool b, by simp⟩
  | .int _, _, _, _, .int i, r => by obtain ⟨t, rfl⟩ := r; exact ⟨_, .int i t, by simp⟩
  | .str _, _, _, _, .str x, r => by obtain ⟨t, rfl⟩ := r; exact ⟨_, .str x t, by simp⟩
  | .list ds, _, _, e, @Rp.lst _ _ a xs _ h rr, r => by
    cases r
    simp only [goodS, Bool.and_eq_true] at e
    obtain ⟨z, its, n, rv, eo⟩ := (show ObjOk X.prog X.w H s.heap a (.lst xs) from I.hok a _ h)
    obtain ⟨as, h1, _⟩ := RpAll.reads I e.2 rr rv
    refine ⟨a :: as, .list eo rfl rfl (by simpa using h1), fun hd => ?_, fun hd => ?_⟩
    · have := noDics_has ds e.1
      simp [PyData.hasDict, this] at hd
    · simp [noLst] at hd
  | .tuple ds, _, _, e, @Rp.tup _ _ a xs _ h rr, r => by
    cases r
    simp only [goodS, Bool.and_eq_true, Bool.or_eq_true] at e
    obtain ⟨its, rv, ⟨o, eo, hc, n, hd⟩, _⟩ := I.tuple h
    obtain ⟨as, h1, h2⟩ := RpAll.reads I e.1 rr rv
    refine ⟨as, .tuple eo hc hd (by simpa using h1), fun z => ?_, fun z => h2 (by simpa [noLst] using z)⟩
    rcases e.2 with q | q
    · have := noDics_has ds q
      simp [PyData.hasDict, this] at z
    · exact h2 q
  | .dict es, _, _, e, @Rp.dic _ _ a kvs _ h rr, r => by
    cases r
    simp only [goodS, List.isEmpty_iff] at e
    subst e
    cases rr
    obtain ⟨_, hs, vs, kv, o, es, ep, eo, he, hd, _, hl, _⟩ := (show ObjOk X.prog X.w H s.heap a (.dK []) from I.hok a _ h)
    cases kv
    have hes : es.toList = [] := by
      cases q : es.toList with
      | nil => rfl
      | cons x r => rw [q] at hl; cases hl
    have ha : sysModules ∉ [a] ++ [] ++ [] := by
      simp only [List.append_nil, List.mem_singleton]
      exact fun z => by rw [← z] at hs; simp at hs
    exact ⟨[a] ++ [] ++ [], .dict (n := ep) eo he.1 hd (by rw [hes]; exact .nil) (by rw [hes]; exact .nil), fun _ => ha, fun _ => ha⟩
theorem RpAll.reads (I : Inv X pins σ H s) : ∀ {ds : List PyData} {vs : List V} {us : List Value}, goodSs ds = true → RpAll X.K H vs ds → Vals vs us → ∃ as, ReadsAll s.heap us ds as ∧ (noLsts ds = true → sysModules ∉ as)
  | [], _, _, _, .nil, .nil => ⟨[], .nil, by simp⟩
  | d :: ds, _, _, e, .cons h rr, .cons r r' => by
    simp only [goodSs, Bool.and_eq_true] at e
    obtain ⟨as, h1, _, h2⟩ := Rp.reads I e.1 h r
    obtain ⟨bs, h3, h4⟩ := RpAll.reads I e.2 rr r'
    refine ⟨as ++ bs, .cons h1 h3, fun hd hm => ?_⟩
    simp only [noLsts, Bool.and_eq_true] at hd
    rcases List.mem_append.mp hm with z | z
    · exact h2 hd.1 z
    · exact h4 hd.2 z
end
def rReprD (K : PySem.W.Frag) : List V → Hp → VK → Prop := fun xs H Q => ∃ x d, xs = [x] ∧ Rp K H x d ∧ goodS d = true ∧ szD d ≤ 2 ^ 23 ∧ PyData.depth d ≤ 60 ∧ Q (.str d.shown) H
theorem call_reprD {K : PySem.W.Frag} (e : X.K = K) (hu : X.A.units + 64 < cLine) (hc : Calm X.A) : CallR X (.builtin "repr") (rReprD K) := by
  subst e
  intro pins s σ H xs us Q I r h
  obtain ⟨x, d, rfl, hd, hg, hz, hp, q⟩ := h
  obtain ⟨u, rfl, ru⟩ := r.one
  have hl := shown_len d hg
  have sl : (2 : Nat) ^ 23 ≤ sizeLine := by decide
  have fits : d.shown.length ≤ sizeLine := Nat.le_trans hl (Nat.le_trans hz sl)
  obtain ⟨as, h1, h2, _⟩ := Rp.reads I hg hd ru
  cases h1 with
  | none => exact PySem.P.repr_of_none ⟨.str _, H, I.tok _, ⟨_, rfl⟩, q⟩
  | bool b => exact PySem.P.repr_of_bool ⟨.str _, H, I.tok _, ⟨_, rfl⟩, q⟩
  | int i t => exact PySem.P.repr_of_int (by simpa [goodS] using hg) ⟨.str _, H, I.tok _, ⟨_, rfl⟩, q⟩
  | str y t => exact PySem.P.repr_of_str ⟨.str _, H, I.tok _, ⟨_, rfl⟩, q⟩ fits
  | list a1 a2 a3 a4 => exact repr_of_reads' (.list a1 a2 a3 a4) (good_show _ hg) h2 hc (by omega) (fun _ _ e => e) (fun h' u tk hk => ⟨.str _, H, I.kept hk, ⟨u, rfl⟩, q⟩) fits
  | tuple a1 a2 a3 a4 => exact repr_of_reads' (.tuple a1 a2 a3 a4) (good_show _ hg) h2 hc (by omega) (fun _ _ e => e) (fun h' u tk hk => ⟨.str _, H, I.kept hk, ⟨u, rfl⟩, q⟩) fits
  | dict a1 a2 a3 a4 a5 => exact repr_of_reads' (.dict a1 a2 a3 a4 a5) (good_show _ hg) h2 hc (by omega) (fun _ _ e => e) (fun h' u tk hk => ⟨.str _, H, I.kept hk, ⟨u, rfl⟩, q⟩) fits
end
section
variable {c : Ctx} {ρ : List Ent} {ta tb te : TE} {tr : TA} {C C0 C1 C2 : Nat} {P P1 : PyData → Prop}
theorem pv_repr {d : PyData} (ha : Pv c ta ρ d) (hg : goodS d = true) (hz : szD d ≤ 2 ^ 23) (hp : PyData.depth d ≤ 60) : Pv c (tCB (rReprD c.K) (tCons ta tNil)) ρ (.str d.shown) := fun σ I H n Q w e l k =>
  ha σ I H n _ w e l fun v d' I2 H2 g2 w2 r2 p2 => by
    subst p2
    exact ⟨v, d', rfl, r2.mono w2.ih, hg, hz, hp, k _ _ I2 H2 g2 w2 (.str _) rfl⟩

theorem pv_isN2 {d : PyData} (ha : Pv c ta ρ d) : Pv c (tOp (fun x y H Q => y = .non ∧ Q (.bl (decide (x = .non))) H) ta (tC .non)) ρ (.bool (isNo d)) := fun σ I H n Q w e l k => by
  refine ha σ I H n _ w e l fun v d' I2 H2 g2 w2 r2 p2 => ?_
  subst p2
  refine ⟨rfl, ?_⟩
  rw [r2.isNo]
  exact k _ _ I2 H2 g2 w2 (.bl _) rfl
theorem pv_notN2 {d : PyData} (ha : Pv c ta ρ d) : Pv c (tOp (fun x y H Q => y = .non ∧ Q (.bl (!decide (x = .non))) H) ta (tC .non)) ρ (.bool (!isNo d)) := fun σ I H n Q w e l k => by
  refine ha σ I H n _ w e l fun v d' I2 H2 g2 w2 r2 p2 => ?_
  subst p2
  refine ⟨rfl, ?_⟩
  rw [r2.isNo]
  exact k _ _ I2 H2 g2 w2 (.bl _) rfl
/-! ### the kinds of + and < -/
theorem pv_addI {i j : Int} (ha : Pv c ta ρ (.int i)) (hb : Pv c tb ρ (.int j)) : Pv c (tOp (rAddA c.K) ta tb) ρ (.int (i + j)) :=
  pv_op ha hb fun I H n x y Q w r1 r2 k => .inl (rd_ii (g := fun i j => i + j) I H n x y Q w r1 r2 k)
theorem pv_addL {ds es : List PyData} (ha : Pv c ta ρ (.list ds)) (hb : Pv c tb ρ (.list es)) (h : ds.length + es.length ≤ sizeLine) : Pv c (tOp (rAddA c.K) ta tb) ρ (.list (ds ++ es)) :=
  pv_op ha hb fun I H n x y Q w r1 r2 k => by
    obtain ⟨a, xs, rfl, h1, q1⟩ := r1.lst_inv
    obtain ⟨b, ys, rfl, h2, q2⟩ := r2.lst_inv
    refine .inr (.inl ⟨a, b, xs, ys, rfl, rfl, w.ih _ _ h1, w.ih _ _ h2, by rw [q1.length, q2.length]; exact h, fun p np => ?_⟩)
    exact k _ _ (upd I p (.lst (xs ++ ys))) (upd H p (.lst (xs ++ ys))) (new_go w.ih np) (w.new np) (.lst upd_same ((q1.append q2).mono (new_go (b := none) w.ih np).ii)) rfl
theorem pv_addT {ds es : List PyData} (ha : Pv c ta ρ (.tuple ds)) (hb : Pv c tb ρ (.tuple es)) (h : ds.length + es.length ≤ sizeLine) : Pv c (tOp (rAddA c.K) ta tb) ρ (.tuple (ds ++ es)) :=
  pv_op ha hb fun I H n x y Q w r1 r2 k => by
    obtain ⟨a, xs, rfl, h1, q1⟩ := id r1.tup_inv
    obtain ⟨b, ys, rfl, h2, q2⟩ := id r2.tup_inv
    refine .inr (.inr (.inl ⟨a, b, xs, ys, rfl, rfl, seqT_mono w.ih h1, seqT_mono w.ih h2, by rw [q1.length, q2.length]; exact h, fun e => ?_, fun _ e => ?_, fun _ _ p np => ?_⟩))
    · subst e
      cases q1
      exact k _ _ I H Gx.refl w r2 rfl
    · subst e
      cases q2
      exact k _ _ I H Gx.refl w r1 (by rw [List.append_nil])
    · exact k _ _ (upd I p (.tup (xs ++ ys))) (upd H p (.tup (xs ++ ys))) (new_go w.ih np) (w.new np) (.tup (.inl (.inl upd_same)) ((q1.append q2).mono (new_go (b := none) w.ih np).ii)) rfl
theorem pv_addS {x y : Str} (ha : Pv c ta ρ (.str x)) (hb : Pv c tb ρ (.str y)) (h : x.length + y.length ≤ sizeLine) : Pv c (tOp (rAddA c.K) ta tb) ρ (.str (x ++ y)) :=
  pv_op ha hb fun I H n u v Q w r1 r2 k => .inr (.inr (.inr ⟨x, y, r1.str_inv, r2.str_inv, h, k _ _ I H Gx.refl w (.str _) rfl⟩))
theorem pv_ltI {i j : Int} (ha : Pv c ta ρ (.int i)) (hb : Pv c tb ρ (.int j)) : Pv c (tOp rLtA ta tb) ρ (.bool (decide (i < j))) :=
  pv_op ha hb fun I H n x y Q w r1 r2 k => .inl (rd_ib (g := fun i j => decide (i < j)) I H n x y Q w r1 r2 k)
theorem pv_ltS {i j : Str} (ha : Pv c ta ρ (.str i)) (hb : Pv c tb ρ (.str j)) : Pv c (tOp rLtA ta tb) ρ (.bool (decide (i.cps.toList < j.cps.toList))) :=
  pv_op ha hb fun I H n x y Q w r1 r2 k => .inr ⟨i, j, r1.str_inv, r2.str_inv, k _ _ I H Gx.refl w (.bl _) rfl⟩
theorem pv_cutL {tl th : TO} {ds : List PyData} {lo hi : Option Int} (ha : Pv c te ρ (.list ds)) (hl : Pp c tl ρ lo) (hh : Pp c th ρ hi) : Pv c (tSl (rSlAny c.K) te tl th) ρ (.list (cutD ds lo hi)) := fun σ I H n Q w e l k => by
  have := pv_slL ha hl hh σ I H n Q w e l k
  refine ha σ I H n _ w e l fun v d I2 H2 g2 w2 r2 p2 => ?_
  subst p2
  refine hl σ I2 H2 n _ w2 (e.go g2) (by omega) fun I3 H3 g3 w3 => hh σ I3 H3 n _ w3 (e.go (g2.trans g3)) (by omega) fun I4 H4 g4 w4 => ?_
  obtain ⟨a, xs, rfl, hs, hr⟩ := (r2.mono (g3.ii.trans g4.ii)).lst_inv
  refine .inl ⟨a, xs, rfl, SqL.of (w4.ih _ _ hs), fun p np => ?_⟩
  exact k _ _ _ _ (((g2.trans g3).trans g4).trans (new_go w4.ih np)) (w4.new np) (.lst upd_same ((cut_rp hr lo hi).mono (new_go (b := none) w4.ih np).ii)) rfl
theorem pv_cutT {tl th : TO} {ds : List PyData} {lo hi : Option Int} (ha : Pv c te ρ (.tuple ds)) (hl : Pp c tl ρ lo) (hh : Pp c th ρ hi) : Pv c (tSl (rSlAny c.K) te tl th) ρ (.tuple (cutD ds lo hi)) := fun σ I H n Q w e l k => by
  refine ha σ I H n _ w e l fun v d I2 H2 g2 w2 r2 p2 => ?_
  subst p2
  refine hl σ I2 H2 n _ w2 (e.go g2) (by omega) fun I3 H3 g3 w3 => hh σ I3 H3 n _ w3 (e.go (g2.trans g3)) (by omega) fun I4 H4 g4 w4 => ?_
  have rr := r2.mono (g3.ii.trans g4.ii)
  obtain ⟨a, xs, rfl, hs, hr⟩ := rr.tup_inv
  refine .inr (.inl ⟨a, xs, rfl, seqT_mono w4.ih hs, fun hw => ?_, fun hw p np => ?_⟩)
  · have e1 : cutD ds lo hi = ds := by
      unfold cutD
      exact sIx_whole ds lo hi (by rw [← hr.length]; exact hw)
    rw [e1] at k
    exact k _ _ _ _ ((g2.trans g3).trans g4) w4 rr rfl
  · exact k _ _ _ _ (((g2.trans g3).trans g4).trans (new_go w4.ih np)) (w4.new np) (.tup (.inl (.inl upd_same)) ((cut_rp hr lo hi).mono (new_go (b := none) w4.ih np).ii)) rfl
variable {g : TG} {tgs : List Nat} {f : PyData → List Ent → List Ent} {Pi : List PyData → Prop}
theorem iw_sl (ha : Ev c ta ρ C (fun d => ∃ ds, d = .list ds ∧ Pi ds)) (ht : ∀ ds, Pi ds → ∀ d ∈ ds, Tg c g tgs d (f d)) : Iw c (iSeq c.K ta) g ρ C tgs f Pi := fun σ I H n R w e l k => .inl (iw_list ha ht σ I H n R w e l k)
theorem iw_st (ha : Ev c ta ρ C (fun d => ∃ ds, d = .tuple ds ∧ Pi ds)) (ht : ∀ ds, Pi ds → ∀ d ∈ ds, Tg c g tgs d (f d)) : Iw c (iSeq c.K ta) g ρ C tgs f Pi := fun σ I H n R w e l k => .inr (iw_tup ha ht σ I H n R w e l k)

/-! ### keywords -/
theorem ev_callKw {ar m : Nat} {pi : List Nat} {pre : List Ent → Prop} {post : List Ent → PyData → Prop} {Pe : List Ent → Prop} {E : XK} (ha : Ea c tr ρ C1 Pe) (hm : ∀ es, Pe es → es.length = m) (hpi : ∀ i ∈ pi, i < m) (hl : pi.length = ar)
    (hp : ∀ es, Pe es → pre (pi.filterMap fun i => es[i]?)) (hP : ∀ es d, Pe es → post (pi.filterMap fun i => es[i]?) d → P d) (hC : C1 + C2 ≤ C) : Ev c (tCallKw (spD c.K ar C2 pre post) pi m E tr) ρ C P := fun σ I H n Q w e l k =>
  ha σ I H n _ w e (by omega) fun vs es I2 H2 g2 w2 r2 p2 => by
    have hlen := hm es p2
    have lv := Paired.len r2
    have rp : ∀ (pi : List Nat), (∀ i ∈ pi, i < m) → Paired (ArgR c.K c.b c.B I2) (permV pi vs) (pi.filterMap fun i => es[i]?) ∧ (permV pi vs).length = pi.length := by
      intro pi
      induction pi with
      | nil => exact fun _ => ⟨.nil, rfl⟩
      | cons i pi ih =>
        intro h
        have hi := h i List.mem_cons_self
        obtain ⟨ih1, ih2⟩ := ih fun j hj => h j (List.mem_cons_of_mem _ hj)
        have he : es[i]? = some (es[i]'(by omega)) := List.getElem?_eq_getElem (by omega)
        obtain ⟨v, hv, rv⟩ := Paired.getP r2 he
        unfold permV at ih1 ih2 ⊢
        rw [List.filterMap_cons, List.filterMap_cons, hv, he]
        exact ⟨.cons rv ih1, by rw [List.length_cons, ih2]; rfl⟩
    obtain ⟨q1, q2⟩ := rp pi hpi
    refine ⟨by omega, c.b, c.B, I2, n + C1, _, by rw [q2]; exact hl, q1, w2.ih, fun p e => ⟨w2.noB e, (w2.bg p e).2.2⟩, by omega, hp es p2, fun v d I3 H3 g3 ih3 hb r3 p3 => ?_⟩
    exact k v d I3 H3 (g2.trans g3) ((w2.go g3 ih3 hb).bgN (by omega)) r3 (hP _ _ p2 p3)
theorem fnG_ok {P : Program} {w : World} {K : PySem.W.Frag} {mg : Str → Option Value} {base : Heap} {x qual : Str} {st : Stmt} {f : Addr} {fd : FuncData} {N ps : List Str} {k C : Nat} {pre : List Ent → Prop} {post : List Ent → PyData → Prop} (F : Fun K x qual st f fd) (S : FnScope N ps (defScope st))
    (hbody : ∀ (cdv : Value) (A : Around) (outer : List Env) (s : Shared) (H : Hp) (E : XK), Room k (A.deeper (envOfC qual (defScope st) s.heap.objs.size f cdv)) → Calm (A.deeper (envOfC qual (defScope st) s.heap.objs.size f cdv)) →
      ∃ t, PSs (cxOf CX0 P w K mg base N qual (defScope st) f cdv A outer s H E).nox (defBody st) t ∧ ∀ (b : Option Addr × BInv) (I : Hp) (es : List Ent), es.length = ps.length → pre es → Bk ⟨K, b.1, H, I, b.2⟩ t (es ++ List.replicate (N.length - es.length) .any) C { nx := fun _ => post es .none, rt := post es }) :
    FnG P w K mg base (k + 1) f fd ps (spD K ps.length C pre post) := by
  refine Fun.okG F S (fun vs H Q E h => ?_) (fun cdv A outer s H vs Q E hr hc h => ?_)
  · obtain ⟨b, B, I, n, es, h, _⟩ := h
    exact h
  · obtain ⟨b, B, I, n, es, h1, h2, h3, h4, h5, h6, h7⟩ := h
    obtain ⟨t, ht, hb⟩ := hbody cdv A outer s H E hr hc
    refine ⟨t, ht, ?_⟩
    have w0 : Wd ⟨K, b, H, I, B⟩ I H n := ⟨h3, Same.refl _, fun _ _ _ h => h, fun _ _ => rfl, fun p e => ⟨(h4 p e).1, (by
      obtain ⟨x, hh, _⟩ := (h4 p e).2
      show H p ≠ none
      rw [hh]; exact fun z => nomatch z), (h4 p e).2⟩⟩
    have fin : ∀ v d I' H', Same I I' → Wd ⟨K, b, H, I, B⟩ I' H' (n + C) → Rp K I' v d → post es d → Q v H' := fun v d I' H' s w r p => by
      refine h7 v d I' H' ⟨s, fun q o ne e => w.h0 q o ne e, fun q e => w.nw q e, fun q e => ?_⟩ w.ih (fun p e => (w.bg p e).2.2) r p
      by_cases hb : b = some q
      · obtain ⟨_, _, x, h3, _⟩ := w.bg q hb
        rw [h3]; exact fun z => nomatch z
      · cases h : H q with
        | none => exact absurd h e
        | some o => rw [w.h0 q o (fun z => hb z.symm) h]; exact fun z => nomatch z
    exact hb (b, B) I es (by rw [← Paired.len h2]; exact h1) h6 (L2.start N vs) I H n _ w0 (start_env h2) h5 (fun σ' ρ' I' H' s w e p => fin .non .none I' H' s w .non p) (fun v d I' H' s w r p => fin v d I' H' s w r p.1) (fun _ _ _ _ _ _ _ z => z.elim) (fun _ _ _ _ _ _ _ z => z.elim)
end
end Hh

set_option Elab.async false
set_option linter.all false
set_option maxHeartbeats 1000000
namespace Hh
set_option autoImplicit false
def risingI (ns : List Int) : Bool := (ns.zip (ns.drop 1)).all fun p => decide (p.1 < p.2)
def wd (r : Int) : Int := (r - 1) / 5 * 7 + (r - 1) % 5
def rk (d : Int) : Int := d / 7 * 5 + (if 5 < d % 7 + 1 then 5 else d % 7 + 1)
def wkB (n : Int) : Bool := decide (n % 7 < 5)
def openB (ns : List Int) (n : Int) : Bool := wkB n && !(ns.any fun h => h == n)
def obF (day r h : Int) : Int := if (decide (day < h) && (wkB h && decide (h ≤ wd r))) = true then r + 1 else r
def obR (day : Int) (ns : List Int) (r : Int) : Int := ns.foldl (obF day) r
def nextO (ns : List Int) (n : Int) : Int := wd (obR (n - 1) ns (rk (n - 1) + 1))
def loF (r h : Int) : Int := if (h == wd r) = true then r - 1 else r
def loR (ns : List Int) (r : Int) : Int := ns.reverse.foldl loF r
theorem rising_pw : ∀ {ns : List Int}, risingI ns = true → ns.Pairwise (· < ·)
  | [], _ => .nil
  | [_], _ => List.pairwise_singleton _ _
  | x :: y :: r, h => by
    have h' : (decide (x < y) && risingI (y :: r)) = true := h
    rw [Bool.and_eq_true, decide_eq_true_eq] at h'
    have ih := rising_pw h'.2
    refine List.pairwise_cons.mpr ⟨fun z hz => ?_, ih⟩
    rcases List.mem_cons.mp hz with rfl | hz
    · exact h'.1
    · have := (List.pairwise_cons.mp ih).1 z hz
      omega
theorem pw_rising : ∀ {ns : List Int}, ns.Pairwise (· < ·) → risingI ns = true
  | [], _ => rfl
  | [_], _ => rfl
  | x :: y :: r, h => by
    have h1 := List.pairwise_cons.mp h
    show (decide (x < y) && risingI (y :: r)) = true
    rw [decide_eq_true (h1.1 y List.mem_cons_self), pw_rising h1.2]
    rfl
theorem wkB_iff {n : Int} : wkB n = true ↔ n % 7 < 5 := by unfold wkB; exact decide_eq_true_iff
theorem rk_wd (r : Int) : rk (wd r) = r := by unfold rk wd; split <;> omega
theorem wd_wk (r : Int) : wkB (wd r) = true := by rw [wkB_iff]; unfold wd; omega
theorem wd_lt {r s : Int} (h : r < s) : wd r < wd s := by unfold wd; omega
theorem wd_rk {d : Int} (h : wkB d = true) : wd (rk d) = d := by
  rw [wkB_iff] at h
  unfold rk wd
  split <;> omega
theorem wd_behind (d : Int) : d < wd (rk d + 1) := by unfold rk wd; split <;> omega
theorem wd_upto (d : Int) : wd (rk d) ≤ d := by unfold rk wd; split <;> omega
theorem rk_succ (d : Int) : rk (d + 1) = rk d + (if wkB (d + 1) = true then 1 else 0) := by
  unfold wkB rk
  simp only [decide_eq_true_eq]
  split <;> split <;> split <;> omega
theorem rk_le {a b : Int} (h : a ≤ b) : rk a ≤ rk b := by unfold rk; split <;> split <;> omega
theorem rk_nn {d : Int} (h : 0 ≤ d) : 1 ≤ rk d := by unfold rk; split <;> omega
theorem wd_nn {r : Int} (h : 1 ≤ r) : 0 ≤ wd r := by unfold wd; omega
theorem wd_neg {r : Int} (h : r ≤ 0) : wd r < 0 := by unfold wd; omega
/-- how many of the holidays are workdays behind a and up to b -/
def cR (ns : List Int) (a b : Int) : Nat := ns.countP fun h => decide (a < h) && (wkB h && decide (h ≤ b))
theorem cR_nil (a b : Int) : cR [] a b = 0 := rfl
theorem cR_append (xs ys : List Int) (a b : Int) : cR (xs ++ ys) a b = cR xs a b + cR ys a b := by unfold cR; rw [List.countP_append]
theorem cR_le (ns : List Int) (a b : Int) : cR ns a b ≤ ns.length := List.countP_le_length
theorem cR_same {ns : List Int} {a b b' : Int} (h : ∀ x ∈ ns, x ≤ b ∧ x ≤ b') : cR ns a b = cR ns a b' := by
  unfold cR
  refine List.countP_congr fun x hx => ?_
  obtain ⟨h1, h2⟩ := h x hx
  simp [h1, h2]
/-- how many open days there are in the m days behind a -/
def cnt (ns : List Int) (a : Int) : Nat → Nat
  | 0 => 0
  | m + 1 => cnt ns a m + (if openB ns (a + (m + 1 : Nat)) = true then 1 else 0)
theorem cR_succ {ns : List Int} {a b : Int} (hp : ns.Pairwise (· < ·)) (hab : a ≤ b) : cR ns a (b + 1) = cR ns a b + (if (wkB (b + 1) && ns.any fun h => h == b + 1) = true then 1 else 0) := by
  induction ns with
  | nil => simp [cR]
  | cons x r ih =>
    have hx := List.pairwise_cons.mp hp
    have ih' := ih hx.2
    have e1 : ∀ c, cR (x :: r) a c = cR r a c + (if (decide (a < x) && (wkB x && decide (x ≤ c))) = true then 1 else 0) := fun c => by
      unfold cR
      rw [List.countP_cons]
    rw [e1, e1, ih', List.any_cons]
    by_cases hxb : x = b + 1
    · have hr : (r.any fun h => h == b + 1) = false := by
        rw [List.any_eq_false]
        intro y hy
        have := hx.1 y hy
        simp only [beq_iff_eq]
        omega
      have q1 : decide (a < x) = true := decide_eq_true (by omega)
      have q2 : decide (x ≤ b) = false := decide_eq_false (by omega)
      have q3 : decide (x ≤ b + 1) = true := decide_eq_true (by omega)
      have q4 : (x == b + 1) = true := by rw [beq_iff_eq]; exact hxb
      rw [hr, q1, q2, q3, q4, ← hxb]
      cases wkB x <;> simp
    · have q4 : (x == b + 1) = false := by
        rw [beq_eq_false_iff_ne]; exact hxb
      have q5 : decide (x ≤ b + 1) = decide (x ≤ b) := by
        by_cases hle : x ≤ b
        · rw [decide_eq_true hle, decide_eq_true (by omega)]
        · rw [decide_eq_false hle, decide_eq_false (by omega)]
      rw [q4, q5, Bool.false_or]
      omega
theorem cnt_eq {ns : List Int} {a : Int} (hp : ns.Pairwise (· < ·)) : ∀ m : Nat, (cnt ns a m : Int) = rk (a + m) - rk a - cR ns a (a + m)
  | 0 => by
    have : cR ns a (a + (0 : Nat)) = 0 := by
      unfold cR
      rw [List.countP_eq_zero]
      intro x _
      simp only [Int.natCast_zero, Int.add_zero, Bool.and_eq_true, decide_eq_true_eq]
      omega
    rw [this]
    simp [cnt]
  | m + 1 => by
    have ih := cnt_eq (a := a) hp m
    have h1 := rk_succ (a + m)
    have h2 := cR_succ (a := a) (b := a + m) hp (by omega)
    have e : a + ((m + 1 : Nat) : Int) = a + m + 1 := by omega
    unfold cnt
    rw [e, h1, h2]
    unfold openB
    cases wkB (a + m + 1) <;> cases (ns.any fun h => h == a + m + 1) <;> simp <;> omega
def Jb (a r0 : Int) (l : List Int) (r : Int) : Prop := r = r0 + cR l a (wd r) ∧ ∀ h ∈ l, h ≠ wd r
theorem ob_inv {a r0 : Int} (hr : rk a < r0) : ∀ (rest l : List Int) (r : Int), (l ++ rest).Pairwise (· < ·) → Jb a r0 l r → Jb a r0 (l ++ rest) (rest.foldl (obF a) r)
  | [], l, r, _, j => by rw [List.append_nil]; exact j
  | h :: rest, l, r, hp, ⟨j1, j2⟩ => by
    have hp' : ((l ++ [h]) ++ rest).Pairwise (· < ·) := by rwa [List.append_assoc]
    have hlt : ∀ x ∈ l, x < h := fun x hx => (List.pairwise_append.mp hp).2.2 x hx h List.mem_cons_self
    have goal : Jb a r0 (l ++ [h]) (obF a r h) := by
      unfold obF
      by_cases hc : (decide (a < h) && (wkB h && decide (h ≤ wd r))) = true
      · rw [if_pos hc]
        simp only [Bool.and_eq_true, decide_eq_true_eq] at hc
        have hs : wd r < wd (r + 1) := wd_lt (by omega)
        refine ⟨?_, fun x hx => ?_⟩
        · rw [cR_append, cR_same (b := wd (r + 1)) (b' := wd r) fun x hx => by have := hlt x hx; omega]
          have : cR [h] a (wd (r + 1)) = 1 := by
            unfold cR
            rw [List.countP_cons, List.countP_nil, if_pos]
            simp only [Bool.and_eq_true, decide_eq_true_eq]
            exact ⟨hc.1, hc.2.1, by omega⟩
          rw [this]
          omega
        · rcases List.mem_append.mp hx with hx | hx
          · have := hlt x hx; omega
          · rw [List.mem_singleton.mp hx]; omega
      · rw [if_neg hc]
        refine ⟨?_, fun x hx => ?_⟩
        · rw [cR_append]
          have : cR [h] a (wd r) = 0 := by
            unfold cR
            rw [List.countP_cons, List.countP_nil, if_neg hc]
          rw [this]
          omega
        · rcases List.mem_append.mp hx with hx | hx
          · exact j2 x hx
          · rw [List.mem_singleton.mp hx]
            intro e
            apply hc
            have h3 : a < wd r := by
              have h1 := wd_behind a
              have h2 : rk a + 1 ≤ r := by omega
              by_cases h4 : rk a + 1 = r
              · rw [← h4]; exact h1
              · have := wd_lt (r := rk a + 1) (s := r) (by omega); omega
            rw [e, wd_wk, decide_eq_true h3, decide_eq_true (Int.le_refl _)]
            rfl
    have := ob_inv hr rest (l ++ [h]) (obF a r h) hp' goal
    rw [List.append_assoc] at this
    exact this
/-- the count-th open day behind a -/
theorem ob_spec {ns : List Int} {a : Int} {n : Nat} (hp : ns.Pairwise (· < ·)) (hn : 1 ≤ n) : ∃ m : Nat, wd (obR a ns (rk a + n)) = a + m ∧ openB ns (a + m) = true ∧ cnt ns a m = n ∧ 1 ≤ m ∧ wd (obR a ns (rk a + n)) ≤ wd (rk a + n + ns.length) := by
  obtain ⟨j1, j2⟩ := ob_inv (a := a) (r0 := rk a + n) (by omega) ns [] (rk a + n) (by simpa using hp) ⟨by rw [cR_nil]; omega, fun _ h => nomatch h⟩
  rw [List.nil_append] at j1 j2
  have er : ns.foldl (obF a) (rk a + n) = obR a ns (rk a + n) := rfl
  rw [er] at j1 j2
  have hR : rk a + 1 ≤ obR a ns (rk a + n) := by omega
  have hx : a < wd (obR a ns (rk a + n)) := by
    have h1 := wd_behind a
    by_cases h4 : rk a + 1 = obR a ns (rk a + n)
    · rw [← h4]; exact h1
    · have := wd_lt (r := rk a + 1) (s := obR a ns (rk a + n)) (by omega); omega
  refine ⟨(wd (obR a ns (rk a + n)) - a).toNat, ?_, ?_, ?_, by omega, ?_⟩
  · omega
  · have e : a + ((wd (obR a ns (rk a + n)) - a).toNat : Int) = wd (obR a ns (rk a + n)) := by omega
    rw [e]
    unfold openB
    rw [wd_wk, Bool.true_and, Bool.not_eq_true', List.any_eq_false]
    intro y hy
    simp only [beq_iff_eq]
    exact j2 y hy
  · have e : a + ((wd (obR a ns (rk a + n)) - a).toNat : Int) = wd (obR a ns (rk a + n)) := by omega
    have := cnt_eq (a := a) hp (wd (obR a ns (rk a + n)) - a).toNat
    rw [e, rk_wd] at this
    omega
  · have hle := cR_le ns a (wd (obR a ns (rk a + n)))
    by_cases h4 : obR a ns (rk a + n) = rk a + n + ns.length
    · rw [h4]; omega
    · have := wd_lt (r := obR a ns (rk a + n)) (s := rk a + n + ns.length) (by omega); omega
theorem cnt_mono (ns : List Int) (a : Int) : ∀ {m k : Nat}, m ≤ k → cnt ns a m ≤ cnt ns a k := by
  intro m k h
  induction h with
  | refl => exact Nat.le_refl _
  | @step k _ ih =>
    have e : cnt ns a (k + 1) = cnt ns a k + (if openB ns (a + ((k + 1 : Nat) : Int)) = true then 1 else 0) := rfl
    show cnt ns a m ≤ cnt ns a (k + 1)
    omega
def First (ns : List Int) (n x : Int) : Prop := n ≤ x ∧ openB ns x = true ∧ ∀ y, n ≤ y → y < x → openB ns y = false
theorem First.uniq {ns : List Int} {n x y : Int} (h : First ns n x) (k : First ns n y) : x = y := by
  obtain ⟨h1, h2, h3⟩ := h
  obtain ⟨k1, k2, k3⟩ := k
  by_cases e : x < y
  · have := k3 x h1 e; rw [h2] at this; cases this
  · by_cases e' : y < x
    · have := h3 y k1 e'; rw [k2] at this; cases this
    · omega
theorem next_first {ns : List Int} {n : Int} (hp : ns.Pairwise (· < ·)) : First ns n (nextO ns n) := by
  obtain ⟨m, e1, e2, e3, e4, _⟩ := ob_spec (a := n - 1) (n := 1) hp (Nat.le_refl 1)
  have e1' : nextO ns n = n - 1 + m := e1
  rw [e1']
  refine ⟨by omega, e2, fun y h1 h2 => ?_⟩
  cases q : openB ns y with
  | false => rfl
  | true =>
    exfalso
    have hk : ∃ k : Nat, y = n - 1 + ((k + 1 : Nat) : Int) ∧ k + 1 < m := ⟨(y - n).toNat, by omega, by omega⟩
    obtain ⟨k, ek, hkm⟩ := hk
    have c1 : cnt ns (n - 1) (k + 1) = cnt ns (n - 1) k + 1 := by
      show cnt ns (n - 1) k + (if openB ns (n - 1 + ((k + 1 : Nat) : Int)) = true then 1 else 0) = _
      rw [← ek, q]
      rfl
    obtain ⟨j, rfl⟩ : ∃ j, m = j + 1 := ⟨m - 1, by omega⟩
    have c2 : cnt ns (n - 1) (j + 1) = cnt ns (n - 1) j + 1 := by
      show cnt ns (n - 1) j + (if openB ns (n - 1 + ((j + 1 : Nat) : Int)) = true then 1 else 0) = _
      rw [e2]
      rfl
    have := cnt_mono ns (n - 1) (m := k + 1) (k := j) (by omega)
    omega
theorem next_near {ns : List Int} {n : Int} (hp : ns.Pairwise (· < ·)) (hl : ns.length ≤ 14) : nextO ns n < n + 30 := by
  obtain ⟨m, e1, e2, e3, e4, e5⟩ := ob_spec (a := n - 1) (n := 1) hp (Nat.le_refl 1)
  have h1 : nextO ns n ≤ wd (rk (n - 1) + 1 + ns.length) := e5
  have h2 : wd (rk (n - 1) + 1 + ns.length) < n + 30 := by
    unfold wd rk
    split <;> omega
  omega
theorem next_near2 {ns : List Int} {n : Int} (hp : ns.Pairwise (· < ·)) (hl : ns.length ≤ 28) : nextO ns n < n + 50 := by
  obtain ⟨m, e1, e2, e3, e4, e5⟩ := ob_spec (a := n - 1) (n := 1) hp (Nat.le_refl 1)
  have h1 : nextO ns n ≤ wd (rk (n - 1) + 1 + ns.length) := e5
  have h2 : wd (rk (n - 1) + 1 + ns.length) < n + 50 := by
    unfold wd rk
    split <;> omega
  omega
theorem cnt_below {ns : List Int} {a : Int} {m k : Nat} (h : openB ns (a + m) = true) (h1 : 1 ≤ m) (hk : k < m) : cnt ns a k < cnt ns a m := by
  obtain ⟨j, rfl⟩ : ∃ j, m = j + 1 := ⟨m - 1, by omega⟩
  have c2 : cnt ns a (j + 1) = cnt ns a j + 1 := by
    show cnt ns a j + (if openB ns (a + ((j + 1 : Nat) : Int)) = true then 1 else 0) = _
    rw [h]
    rfl
  have := cnt_mono ns a (m := k) (k := j) (by omega)
  omega
def Jl (a : Int) (l : List Int) (r : Int) : Prop := 0 ≤ r ∧ rk a ≤ r + l.length ∧ r ≤ rk a ∧ (∀ y, wkB y = true → wd r < y → y ≤ a → y ∈ l) ∧ wd r ∉ l
theorem lo_inv {a : Int} : ∀ (rest l : List Int) (r : Int), (l ++ rest).Pairwise (· > ·) → (∀ h ∈ rest, 0 ≤ h) → Jl a l r → Jl a (l ++ rest) (rest.foldl loF r)
  | [], l, r, _, _, j => by rw [List.append_nil]; exact j
  | h :: rest, l, r, hp, hn, ⟨j0, j1, j2, j3, j4⟩ => by
    have hp' : ((l ++ [h]) ++ rest).Pairwise (· > ·) := by rwa [List.append_assoc]
    have hlt : ∀ x ∈ l, x > h := fun x hx => (List.pairwise_append.mp hp).2.2 x hx h List.mem_cons_self
    have h0 := hn h List.mem_cons_self
    have goal : Jl a (l ++ [h]) (loF r h) := by
      unfold loF
      by_cases hc : (h == wd r) = true
      · rw [if_pos hc]
        rw [beq_iff_eq] at hc
        have hr1 : 1 ≤ r := by
          by_cases q : 1 ≤ r
          · exact q
          · have := wd_neg (r := r) (by omega); omega
        have hs := wd_lt (r := r - 1) (s := r) (by omega)
        refine ⟨by omega, by rw [List.length_append, List.length_singleton]; omega, by omega, fun y hy h1 h2 => ?_, fun hm => ?_⟩
        · by_cases h3 : wd r < y
          · exact List.mem_append_left _ (j3 y hy h3 h2)
          · have h4 : y = wd r := by
              rw [wkB_iff] at hy
              unfold wd at h1 h3 ⊢
              omega
            rw [h4, ← hc]
            exact List.mem_append_right _ (List.mem_singleton.mpr rfl)
        · rcases List.mem_append.mp hm with hm | hm
          · have := hlt _ hm; omega
          · have := List.mem_singleton.mp hm; omega
      · rw [if_neg hc]
        rw [beq_iff_eq] at hc
        refine ⟨j0, by rw [List.length_append, List.length_singleton]; omega, j2, fun y hy h1 h2 => List.mem_append_left _ (j3 y hy h1 h2), fun hm => ?_⟩
        rcases List.mem_append.mp hm with hm | hm
        · exact j4 hm
        · exact hc (List.mem_singleton.mp hm).symm
    have := lo_inv rest (l ++ [h]) (loF r h) hp' (fun x hx => hn x (List.mem_cons_of_mem _ hx)) goal
    rw [List.append_assoc] at this
    exact this
theorem openB_of {ns : List Int} {x : Int} (h1 : wkB x = true) (h2 : x ∉ ns) : openB ns x = true := by
  unfold openB
  rw [h1, Bool.true_and, Bool.not_eq_true', List.any_eq_false]
  intro y hy
  simp only [beq_iff_eq]
  intro e
  exact h2 (e ▸ hy)
theorem openB_not {ns : List Int} {x : Int} (h : wkB x = true → x ∈ ns) : openB ns x = false := by
  unfold openB
  cases q : wkB x with
  | false => rfl
  | true =>
    have : (ns.any fun h => h == x) = true := List.any_eq_true.mpr ⟨x, h q, by simp⟩
    rw [this]
    rfl
theorem last_spec {ns : List Int} {n : Int} (hp : ns.Pairwise (· < ·)) (h0 : ∀ x ∈ ns, 0 ≤ x) (hn : 0 ≤ n) :
    0 ≤ loR ns (rk n) ∧ rk n ≤ loR ns (rk n) + ns.length ∧ wd (loR ns (rk n)) ≤ n ∧ openB ns (wd (loR ns (rk n))) = true ∧ ∀ y, wd (loR ns (rk n)) < y → y ≤ n → openB ns y = false := by
  have hp' : ([] ++ ns.reverse).Pairwise (· > ·) := by
    rw [List.nil_append, List.pairwise_reverse]
    exact hp
  obtain ⟨j0, j1, j2, j3, j4⟩ := lo_inv (a := n) ns.reverse [] (rk n) hp' (fun x hx => h0 x (List.mem_reverse.mp hx)) ⟨by have := rk_nn hn; omega, by simp, Int.le_refl _, fun y hy h1 h2 => by
      exfalso
      have := rk_le h2
      have h4 := wd_rk hy
      by_cases q : rk y = rk n
      · rw [q] at h4; omega
      · have := wd_lt (r := rk y) (s := rk n) (by omega); omega, List.not_mem_nil⟩
  rw [List.nil_append] at j1 j3 j4
  have er : ns.reverse.foldl loF (rk n) = loR ns (rk n) := rfl
  rw [er] at j0 j1 j2 j3 j4
  rw [List.length_reverse] at j1
  refine ⟨j0, j1, ?_, openB_of (wd_wk _) fun h => j4 (List.mem_reverse.mpr h), fun y h1 h2 => openB_not fun hw => List.mem_reverse.mp (j3 y hw h1 h2)⟩
  have h1 := wd_upto n
  by_cases q : loR ns (rk n) = rk n
  · rw [q]; exact h1
  · have := wd_lt (r := loR ns (rk n)) (s := rk n) (by omega); omega
theorem last_near2 {ns : List Int} {n : Int} {r : Int} (h : rk n ≤ r + ns.length) (hl : ns.length ≤ 28) : n - 50 < wd r := by
  unfold rk at h
  unfold wd
  split at h <;> omega
theorem cnt_add (ns : List Int) (a : Int) (m : Nat) : ∀ k : Nat, cnt ns a (m + k) = cnt ns a m + cnt ns (a + m) k
  | 0 => by simp [cnt]
  | k + 1 => by
    have ih := cnt_add ns a m k
    have e1 : cnt ns a (m + (k + 1)) = cnt ns a (m + k) + (if openB ns (a + ((m + k + 1 : Nat) : Int)) = true then 1 else 0) := rfl
    have e2 : cnt ns (a + m) (k + 1) = cnt ns (a + m) k + (if openB ns (a + m + ((k + 1 : Nat) : Int)) = true then 1 else 0) := rfl
    rw [e1, e2, ih, show a + ((m + k + 1 : Nat) : Int) = a + m + ((k + 1 : Nat) : Int) by omega]
    omega
theorem cnt_uniq {ns : List Int} {a : Int} {m k : Nat} (h1 : openB ns (a + m) = true) (h2 : openB ns (a + k) = true) (m1 : 1 ≤ m) (k1 : 1 ≤ k) (e : cnt ns a m = cnt ns a k) : m = k := by
  by_cases p : m < k
  · have := cnt_below h2 k1 p; omega
  · by_cases q : k < m
    · have := cnt_below h1 m1 q; omega
    · omega
theorem wd_move (r w : Int) : wd (r + 5 * w) = wd r + 7 * w := by unfold wd; omega
theorem rk_move (d w : Int) : rk (d + 7 * w) = rk d + 5 * w := by unfold rk; split <;> split <;> omega
theorem wkB_move (d w : Int) : wkB (d + 7 * w) = wkB d := by
  unfold wkB
  rw [show (d + 7 * w) % 7 = d % 7 by omega]
theorem ob_move (a w : Int) : ∀ (ns : List Int) (r : Int), obR (a + 7 * w) (ns.map fun h => h + 7 * w) (r + 5 * w) = obR a ns r + 5 * w
  | [], r => rfl
  | h :: ns, r => by
    have st : obF (a + 7 * w) (r + 5 * w) (h + 7 * w) = obF a r h + 5 * w := by
      unfold obF
      rw [wkB_move, wd_move, show decide (a + 7 * w < h + 7 * w) = decide (a < h) by by_cases q : a < h <;> simp [q] <;> omega, show decide (h + 7 * w ≤ wd r + 7 * w) = decide (h ≤ wd r) by by_cases q : h ≤ wd r <;> simp [q] <;> omega]
      split <;> omega
    show obR (a + 7 * w) (ns.map fun h => h + 7 * w) (obF (a + 7 * w) (r + 5 * w) (h + 7 * w)) = obR a ns (obF a r h) + 5 * w
    rw [st]
    exact ob_move a w ns _
theorem last_near {ns : List Int} {n : Int} {r : Int} (h : rk n ≤ r + ns.length) (hl : ns.length ≤ 14) : n - 30 < wd r := by
  unfold rk at h
  unfold wd
  split at h <;> omega
end Hh

set_option Elab.async false
set_option linter.all false
set_option maxRecDepth 100000
set_option maxHeartbeats 1000000
namespace Hh
set_option autoImplicit false
open PySem PySem.Spec PyProof.Rows L2

/-! ### the bag: made, handed on, drawn from -/
def spNew : Sp := fun vs H Q _ => ∃ (I : Hp) (cell k : Int), vs = [.int cell, .int k] ∧ 0 ≤ k ∧ k ≤ 1000 ∧ Same I H ∧
  ∀ (p : Addr) (x y : Int) (I2 H2 : Hp), Gx none I H I2 H2 → Same I2 H2 → H2 p = none → 0 ≤ x → 0 ≤ y → y < 2 ^ 200 → Q (.ref p) (upd H2 p (.lst [.int x, .int y, .int 0]))
section
variable {c : Ctx} {ρ : List Ent} {ta tb te : TE} {tr : TA} {C C0 C1 C2 : Nat} {P P1 : PyData → Prop}
theorem ev_callBag {pre : List Ent → Prop} {post : List Ent → PyData → Prop} {E E' : XK} (ha : Ea c tr ρ 0 (fun es => ∃ cell k : Int, es = [.dat (.int cell), .dat (.int k)] ∧ 0 ≤ k ∧ k ≤ 1000)) (hp : pre [.bag]) (hP : ∀ d, post [.bag] d → P d) (hC : C ≤ NMAX) :
    Ev c (tCall (spD c.K 1 C pre post) [] E (tCons (tCall spNew [] E' tr) tNil)) ρ 0 P := fun σ I H n Q w e l kk => by
  refine ha σ I H n _ w e l fun vs es I2 H2 g2 w2 r2 ⟨cell, k, p2, h0, h1⟩ => ?_
  subst p2
  rw [List.append_nil]
  obtain ⟨v1, v2, rfl, q1, q2⟩ := pair2 r2
  have e1 : v1 = .int cell := Rp.int_inv q1
  have e2 : v2 = .int k := Rp.int_inv q2
  subst e1 e2
  refine ⟨I2, cell, k, rfl, h0, h1, w2.ih, fun p x y I2' H2' ga iha np hx hy hy2 => ?_⟩
  have ip := iha.free np
  have s1 : Same H2' (upd H2' p (.lst [.int x, .int y, .int 0])) := fun q o h => by rw [upd_ne (ne_of_none h np)]; exact h
  refine ⟨some p, bagB, I2', 0, [.bag], rfl, .cons ⟨p, rfl, rfl, rfl⟩ .nil, iha.trans s1, fun q hq => ?_, by omega, hp, fun v d I3 H3 g3 ih3 hb r3 p3 => ?_⟩
  · cases hq
    exact ⟨ip, BagAt.bat ⟨x, y, 0, upd_same, hx, hy, hy2, Int.le_refl _, Int.le_refl _⟩⟩
  · have gg : Gx none I2 H2 I3 H3 := by
      refine ga.trans ⟨g3.ii, fun q o _ h => ?_, fun q h => ?_, fun q h => ?_⟩
      · have ne : q ≠ p := ne_of_none h np
        exact g3.hh q o (fun z => ne (Option.some.inj z)) (by rw [upd_ne ne]; exact h)
      · exact g3.nw q (by rw [upd_ne (fun z => h (by rw [z]; exact np))]; exact h)
      · exact g3.th q (by rw [upd_ne (fun z => h (by rw [z]; exact np))]; exact h)
    have gc : Gx c.b I2 H2 I3 H3 := ⟨gg.ii, fun q o _ h => gg.hh q o (fun z => nomatch z) h, gg.nw, gg.th⟩
    refine kk v d I3 H3 (g2.trans gc) (w2.go (C := 0) gc ih3 fun q hq => ?_) r3 (hP d p3)
    obtain ⟨_, _, x', hh, rr⟩ := w2.bg q hq
    exact ⟨x', gg.hh q _ (fun z => nomatch z) hh, rr⟩
/-- ints with what is known of them -/
abbrev EvI (c : Ctx) (t : TE) (ρ : List Ent) (C : Nat) (R : Int → Prop) : Prop := Ev c t ρ C (fun d => ∃ x : Int, d = .int x ∧ R x)
variable {R R1 R2 : Int → Prop}
theorem evI_of {x : Int} (h : Pv c te ρ (.int x)) (hr : R x) : EvI c te ρ C R := h.imp (Nat.zero_le _) fun d e => ⟨x, e, hr⟩
theorem evI_op {g : Int → Int → Int} {D : Int → Int → Prop} (ha : EvI c ta ρ C1 R1) (hb : EvI c tb ρ C2 R2) (h : ∀ i j, R1 i → R2 j → D i j ∧ R (g i j)) (hC : C1 + C2 ≤ C) : EvI c (tOp (rI D fun i j => .int (g i j)) ta tb) ρ C R :=
  ev_op ha (P2 := fun _ d => ∃ x : Int, d = .int x ∧ R2 x) (fun _ _ => hb) (fun d1 d2 ⟨i, e1, h1⟩ ⟨j, e2, h2⟩ => by
    subst e1 e2
    obtain ⟨hD, hr⟩ := h i j h1 h2
    exact fun I H n x y Q w r1 r2 k => rd_iiC hD I H n x y Q w r1 r2 fun v d I2 H2 g w r e => k v d I2 H2 g w r ⟨_, e, hr⟩) hC
theorem evI_op0 {g : Int → Int → Int} (ha : EvI c ta ρ C1 R1) (hb : EvI c tb ρ C2 R2) (h : ∀ i j, R1 i → R2 j → R (g i j)) (hC : C1 + C2 ≤ C) : EvI c (tOp (rI0 fun i j => .int (g i j)) ta tb) ρ C R :=
  ev_op ha (P2 := fun _ d => ∃ x : Int, d = .int x ∧ R2 x) (fun _ _ => hb) (fun d1 d2 ⟨i, e1, h1⟩ ⟨j, e2, h2⟩ => by
    subst e1 e2
    exact fun I H n x y Q w r1 r2 k => rd_ii (g := g) I H n x y Q w r1 r2 fun v d I2 H2 g w r e => k v d I2 H2 g w r ⟨_, e, h i j h1 h2⟩) hC
theorem evI_add (ha : EvI c ta ρ C1 R1) (hb : EvI c tb ρ C2 R2) (h : ∀ i j, R1 i → R2 j → R (i + j)) (hC : C1 + C2 ≤ C) : EvI c (tOp (rAddA c.K) ta tb) ρ C R :=
  ev_op ha (P2 := fun _ d => ∃ x : Int, d = .int x ∧ R2 x) (fun _ _ => hb) (fun d1 d2 ⟨i, e1, h1⟩ ⟨j, e2, h2⟩ => by
    subst e1 e2
    exact fun I H n x y Q w r1 r2 k => .inl (rd_ii (g := fun i j => i + j) I H n x y Q w r1 r2 fun v d I2 H2 g w r e => k v d I2 H2 g w r ⟨_, e, h i j h1 h2⟩)) hC
theorem evI_max (ha : EvI c ta ρ C1 R1) (hb : EvI c tb ρ C2 R2) (h : ∀ i j, R1 i → R2 j → R (if j > i then j else i)) (hC : C1 + C2 ≤ C) :
    EvI c (tCB (fun xs H Q => ∃ i j, xs = [.int i, .int j] ∧ Q (.int (if j > i then j else i)) H) (tCons ta (tCons tb tNil))) ρ C R :=
  ev_cb (Pe := fun es => ∃ i j : Int, es = [.dat (.int i), .dat (.int j)] ∧ R1 i ∧ R2 j)
    (ea_cons ha (C2 := C2) (P2 := fun _ es => ∃ j : Int, es = [.dat (.int j)] ∧ R2 j) (fun _ _ => ea_cons hb (P2 := fun _ es => es = []) (fun _ _ => ea_nil) (fun d es ⟨j, e, hj⟩ e2 => ⟨j, by rw [e, e2], hj⟩) (by omega))
      (fun d es ⟨i, e, hi⟩ ⟨j, e2, hj⟩ => ⟨i, j, by rw [e, e2], hi, hj⟩) hC)
    fun es ⟨i, j, e, h1, h2⟩ => by
      subst e
      exact fun I H n vs Q w r k => rda_max I H n vs Q w r fun v d I2 H2 g w r e => k v d I2 H2 g w r ⟨_, e, h i j h1 h2⟩
/-- the bag's own numbers -/
theorem bag_at {i : Nat} (h : ρ[i]? = some .bag) {σ : Sl} {I H : Hp} {n : Nat} (w : Wd c I H n) (e : EnvR c I H σ ρ) (hn : n ≤ NMAX) : ∃ p x y z, σ[i]? = some (some (V.ref p)) ∧ c.b = some p ∧ H p = some (.lst [.int x, .int y, .int z]) ∧ 0 ≤ x ∧ 0 ≤ y ∧ y < 2 ^ 200 ∧ 0 ≤ z ∧ z ≤ n := by
  obtain ⟨o, h1, h2⟩ := Paired.getP e.st h
  cases o with
  | none => exact h2.elim
  | some v =>
    obtain ⟨p, rfl, hb, hB⟩ := h2
    obtain ⟨_, _, hw⟩ := w.bg p hb
    rw [hB] at hw
    obtain ⟨x, y, z, hp, r⟩ := hw.bag
    exact ⟨p, x, y, z, h1, hb, hp, r⟩
theorem bag_B {i : Nat} (h : ρ[i]? = some .bag) {σ : Sl} {I H : Hp} (e : EnvR c I H σ ρ) : c.B = bagB := by
  obtain ⟨o, h1, h2⟩ := Paired.getP e.st h
  cases o with
  | none => exact h2.elim
  | some v =>
    obtain ⟨p, rfl, hb, hB⟩ := h2
    exact hB
theorem evI_bag0 {i : Nat} (h : ρ[i]? = some .bag) : EvI c (tOp (rIx c.K) (tVar i) (tC (.int 0))) ρ 0 (fun x => 0 ≤ x) := fun σ I H n Q w e l k => by
  obtain ⟨p, x, y, z, h1, hb, hp, hx, _⟩ := bag_at h w e l
  exact ⟨_, h1, .inl ⟨p, _, 0, .int x, rfl, rfl, SqL.of hp, rfl, k _ _ I H Gx.refl w (.int _) ⟨x, rfl, hx⟩⟩⟩
theorem evI_bag1 {i : Nat} (h : ρ[i]? = some .bag) : EvI c (tOp (rIx c.K) (tVar i) (tC (.int 1))) ρ 0 (fun x => 0 ≤ x ∧ x < 2 ^ 200) := fun σ I H n Q w e l k => by
  obtain ⟨p, x, y, z, h1, hb, hp, hx, hy, hy2, _⟩ := bag_at h w e l
  exact ⟨_, h1, .inl ⟨p, _, 1, .int y, rfl, rfl, SqL.of hp, rfl, k _ _ I H Gx.refl w (.int _) ⟨y, rfl, hy, hy2⟩⟩⟩
theorem evI_bag2 {i : Nat} (h : ρ[i]? = some .bag) : EvI c (tOp (rIx c.K) (tVar i) (tC (.int 2))) ρ 0 (fun x => 0 ≤ x ∧ x ≤ NMAX) := fun σ I H n Q w e l k => by
  obtain ⟨p, x, y, z, h1, hb, hp, hx, hy, hy2, hz, hz2⟩ := bag_at h w e l
  exact ⟨_, h1, .inl ⟨p, _, 2, .int z, rfl, rfl, SqL.of hp, rfl, k _ _ I H Gx.refl w (.int _) ⟨z, rfl, hz, by omega⟩⟩⟩
theorem Wd.bagSet {I H : Hp} {n m : Nat} {p : Addr} {x y z : Int} (w : Wd c I H n) (hb : c.b = some p) (hB : c.B = bagB) (hx : 0 ≤ x) (hy : 0 ≤ y) (hy2 : y < 2 ^ 200) (hz : 0 ≤ z) (hz2 : z ≤ m) : Wd c I (upd H p (.lst [.int x, .int y, .int z])) m := by
  refine ⟨fun q o h => ?_, w.i0, fun q o ne h => ?_, w.nw, fun q hq => ?_⟩
  · have := w.noB hb
    rw [upd_ne (ne_of_none h this)]; exact w.ih q o h
  · rw [upd_ne (fun e => ne (by rw [e]; exact hb.symm))]; exact w.h0 q o ne h
  · have : q = p := Option.some.inj (hq.symm.trans hb)
    subst this
    exact ⟨(w.bg q hq).1, (w.bg q hq).2.1, by rw [hB]; exact BagAt.bat ⟨x, y, z, upd_same, hx, hy, hy2, hz, hz2⟩⟩
theorem EnvR.bagSet {I H : Hp} {σ : Sl} {p : Addr} {xs : List V} (e : EnvR c I H σ ρ) (hb : c.b = some p) : EnvR c I (upd H p (.lst xs)) σ ρ :=
  e.own (fun i M h1 h2 => by
    obtain ⟨o, h3, h4⟩ := Paired.getP e.st h1
    rw [h2] at h3
    cases h3
    obtain ⟨q, o, e1, _, _, _, hne, _⟩ := h4
    cases e1
    exact hne hb.symm) fun i ds h1 h2 => by
    obtain ⟨o, h3, h4⟩ := Paired.getP e.st h1
    rw [h2] at h3
    cases h3
    obtain ⟨q, ys, e1, _, _, hne, _⟩ := h4
    cases e1
    exact hne hb.symm
theorem bk_bag0 {i : Nat} {O : Out} (h : ρ[i]? = some .bag) (ha : EvI c te ρ C (fun x => 0 ≤ x)) (hn : O.nx ρ) : Bk c (tAsg te (gSub (tVar i) (tC (.int 0)) rSetL)) ρ C O := fun σ I H n D w e l k1 k2 k3 k4 =>
  ha σ I H n _ w e l fun v d I2 H2 g2 w2 r2 ⟨x', e2, hx'⟩ => by
    subst e2
    obtain rfl := r2.int_inv
    have e2 := e.go g2
    obtain ⟨p, x, y, z, h1, hb, hp, hx, hy, hy2, hz, hz2⟩ := bag_at h w2 e2 l
    refine ⟨_, h1, p, _, 0, 0, rfl, rfl, hp, rfl, ?_⟩
    exact k1 σ ρ I2 _ g2.ii (w2.bagSet hb (bag_B h e2) hx' hy hy2 hz hz2) (e2.bagSet hb) hn
/-- bag[2] = bag[2] + 1 -/
theorem bk_bag2 {i : Nat} {O : Out} (h : ρ[i]? = some .bag) (hn : O.nx ρ) : Bk c (tAsg (tOp (rAddA c.K) (tOp (rIx c.K) (tVar i) (tC (.int 2))) (tC (.int 1))) (gSub (tVar i) (tC (.int 2)) rSetL)) ρ 1 O := fun σ I H n D w e l k1 k2 k3 k4 => by
  obtain ⟨p, x, y, z, h1, hb, hp, hx, hy, hy2, hz, hz2⟩ := bag_at h w e (Nat.le_trans (Nat.le_succ n) l)
  refine ⟨_, h1, .inl ⟨p, _, 2, .int z, rfl, rfl, SqL.of hp, rfl, .inl ⟨z, 1, rfl, rfl, _, h1, p, _, 2, 2, rfl, rfl, hp, rfl, ?_⟩⟩⟩
  exact k1 σ ρ I _ (Same.refl _) (w.bagSet hb (bag_B h e) hx hy hy2 (by omega) (by omega)) (e.bagSet hb) hn
end
theorem natAbs_lt {x : Int} {n : Nat} (h0 : 0 ≤ x) (h : x < 2 ^ n) : x.natAbs < 2 ^ n := by
  have e : (2 : Int) ^ n = ((2 ^ n : Nat) : Int) := by simp
  rw [e] at h
  omega
section
variable {P : Program} {w : World} {K : PySem.W.Frag}
theorem lst_raw {c : Ctx} {ρ : List Ent} {tr : TA} {Pe : List Ent → Prop} {σ : Sl} {I H : Hp} {Q : VK} (h : Ea c tr ρ 0 Pe) (w : Wd c I H 0) (e : EnvR c I H σ ρ)
    (k : ∀ vs es I2 H2, Gx c.b I H I2 H2 → Same I2 H2 → Paired (ArgR c.K c.b c.B I2) vs es → Pe es → vs.length ≤ sizeLine ∧ ∀ p, H2 p = none → Q (.ref p) (upd H2 p (.lst vs))) : tLst tr σ H Q :=
  h σ I H 0 _ w e (Nat.zero_le _) fun vs es I2 H2 g w2 r p => k vs es I2 H2 g w2.ih r p
end
section
variable {K : PySem.W.Frag} {H : Hp} {p : Addr} {a b d : V} {Q : VK}
theorem bag0 (h : H p = some (.lst [a, b, d])) (q : Q a H) : rIx K (.ref p) (.int 0) H Q := .inl ⟨p, _, 0, a, rfl, rfl, SqL.of h, rfl, q⟩
theorem bag1 (h : H p = some (.lst [a, b, d])) (q : Q b H) : rIx K (.ref p) (.int 1) H Q := .inl ⟨p, _, 1, b, rfl, rfl, SqL.of h, rfl, q⟩
theorem bag2 (h : H p = some (.lst [a, b, d])) (q : Q d H) : rIx K (.ref p) (.int 2) H Q := .inl ⟨p, _, 2, d, rfl, rfl, SqL.of h, rfl, q⟩
end
def dipPre (es : List Ent) : Prop := ∃ m : Int, es = [.bag, .dat (.int m)] ∧ 0 < m ∧ m < 2 ^ 60
def dipPost (es : List Ent) (d : PyData) : Prop := ∃ m : Int, es = [.bag, .dat (.int m)] ∧ ∃ r : Int, d = .int r ∧ 0 ≤ r ∧ r < m
abbrev sp_dip (K : PySem.W.Frag) : Sp := spD K 2 1 dipPre dipPost
theorem cdivW {i j : Int} (h : 0 < j) (h2 : j < 2 ^ 60) : CDivW i j := wide_div (b := 60) h (by omega) (by decide) (by decide)
theorem rq_add {K : PySem.W.Frag} {H : Hp} {Q : VK} {i j : Int} (q : Q (.int (i + j)) H) : rAddA K (.int i) (.int j) H Q := .inl ⟨i, j, rfl, rfl, q⟩
section
variable {c : Ctx} {ρ : List Ent} {ta tb te : TE} {tr : TA} {C C0 C1 C2 : Nat} {P P1 : PyData → Prop}
/-- a draw -/
theorem ev_dip {i : Nat} {m : Int} {E : XK} (h : ρ[i]? = some .bag) (ha : Pv c ta ρ (.int m)) (h0 : 0 < m) (h1 : m < 2 ^ 60) : Ev c (tCall (sp_dip c.K) [] E (tCons (tVar i) (tCons ta tNil))) ρ 1 (fun d => ∃ r : Int, d = .int r ∧ 0 ≤ r ∧ r < m) :=
  ev_call (C1 := 0) (Pe := fun es => es = [.bag, .dat (.int m)]) (ea_bag h (pa_consD ha ea_nil) fun es e => by rw [e]) (fun es e => by subst e; exact ⟨rfl, m, rfl, h0, h1⟩)
    (fun es d e q => by
      subst e
      obtain ⟨m', e, r⟩ := q
      cases e
      exact r) (by omega)
end
theorem Pv.to {c : Ctx} {t : TE} {ρ : List Ent} {d d' : PyData} (h : Pv c t ρ d') (e : d' = d) : Pv c t ρ d := by subst e; exact h
theorem Pt.to {c : Ctx} {t : TT} {ρ : List Ent} {d d' : Bool} (h : Pt c t ρ d') (e : d' = d) : Pt c t ρ d := by subst e; exact h
section
variable {c : Ctx} {ρ : List Ent} {ta tb te : TE} {tr : TA} {C C0 C1 C2 : Nat} {P P1 : PyData → Prop} {tc : TT} {t u r : TS} {O : Out}
theorem bk_ifret {b : Bool} (hc : Pt c tc ρ b) (h1 : b = true → Bk c t ρ C { O with nx := fun _ => False }) (h2 : b = false → Bk c r ρ C O) : Bk c (tSeq (tIfS tc t tNext) r) ρ C O := by
  cases b with
  | true => exact bk_seq (N := fun _ => False) (C2 := 0) (bk_ifP hc (fun _ => h1 rfl) (fun e => nomatch e)) (fun _ z => z.elim) (by omega)
  | false => exact bk_seq (N := fun ρ' => ρ' = ρ) (C1 := 0) (C2 := C) (bk_ifP hc (fun e => nomatch e) (fun _ => bk_next rfl)) (fun x e => by rw [show x = ρ from e]; exact h2 rfl) (by omega)
theorem bk_let {i : Nat} (ha : Ev c te ρ C1 P) (h : ∀ d, P d → Bk c r (ρ.set i (.dat d)) C2 O) (hC : C1 + C2 ≤ C) : Bk c (tSeq (tAsg te (gName i)) r) ρ C O :=
  bk_seq (N := fun ρ' => ∃ d, P d ∧ ρ' = ρ.set i (.dat d)) (bk_set ha fun d p => ⟨d, p, rfl⟩) (fun ρ' ⟨d, p, e⟩ => by subst e; exact h d p) hC
theorem bk_letP {i : Nat} {d : PyData} (ha : Pv c te ρ d) (h : Bk c r (ρ.set i (.dat d)) C O) : Bk c (tSeq (tAsg te (gName i)) r) ρ C O :=
  bk_let ha (fun d' e => by subst e; exact h) (by omega)
theorem bk_do (ha : Ev c te ρ C1 P) (h : Bk c r ρ C2 O) (hC : C1 + C2 ≤ C) : Bk c (tSeq (tDrop te) r) ρ C O :=
  bk_seq (N := fun ρ' => ρ' = ρ) (bk_drop ha rfl) (fun ρ' e => by subst e; exact h) hC
theorem bk_retP {d : PyData} (ha : Pv c te ρ d) (h : O.rt d) (hf : O.fr = false := by rfl) : Bk c (tRet te) ρ C O := (bk_ret (O := { O with nx := fun _ => False }) ha (fun d' e => by subst e; exact h) hf).imp (by omega) (fun _ z => z.elim) (fun _ z => z)
/-- a call whose promise tells one value -/
theorem pv_callE {ar : Nat} {pre : List Ent → Prop} {post : List Ent → PyData → Prop} {es : List Ent} {E : XK} {d : PyData} (ha : Pa c tr ρ es) (hl : es.length = ar) (hp : pre es) (hq : ∀ x, post es x → x = d) : Pv c (tCall (spD c.K ar 0 pre post) [] E tr) ρ d :=
  ev_call ha (fun _ e => by subst e; exact ⟨hl, hp⟩) (fun _ _ e q => by subst e; exact hq _ q) (Nat.le_refl _)
end
section
variable {c : Ctx} {ρ : List Ent} {ta tb te : TE}
theorem pv_neg {i : Int} (ha : Pv c ta ρ (.int i)) : Pv c (tUn (rU fun i => .int (-i)) ta) ρ (.int (-i)) := fun σ I H n Q w e l k =>
  ha σ I H n _ w e l fun v d I2 H2 g2 w2 r2 p2 => by
    subst p2
    exact ⟨i, r2.int_inv, k _ _ I2 H2 g2 w2 (.int _) rfl⟩
theorem okD_int (i : Int) : okD (.int i) = true := by simp [okD, noDic, SeqAt.shaped, PyData.canLay0, PyData.depth]
theorem okD_bool (i : Bool) : okD (.bool i) = true := by simp [okD, noDic, SeqAt.shaped, PyData.canLay0, PyData.depth]
theorem okD_none : okD .none = true := by simp [okD, noDic, SeqAt.shaped, PyData.canLay0, PyData.depth]
theorem pv_eqI {i j : Int} (ha : Pv c ta ρ (.int i)) (hb : Pv c tb ρ (.int j)) : Pv c (tOp (rEqX c.K) ta tb) ρ (.bool (i == j)) := Pv.to (pv_eq ha hb (okD_int _) (okD_int _)) (by simp [PyData.eqv])
theorem pv_neI {i j : Int} (ha : Pv c ta ρ (.int i)) (hb : Pv c tb ρ (.int j)) : Pv c (tOp (rNeX c.K) ta tb) ρ (.bool (!(i == j))) := Pv.to (pv_ne ha hb (okD_int _) (okD_int _)) (by simp [PyData.eqv])
theorem pv_eqB {i j : Bool} (ha : Pv c ta ρ (.bool i)) (hb : Pv c tb ρ (.bool j)) : Pv c (tOp (rEqX c.K) ta tb) ρ (.bool (i == j)) := Pv.to (pv_eq ha hb (okD_bool _) (okD_bool _)) (by simp [PyData.eqv])
theorem pv_neB {i j : Bool} (ha : Pv c ta ρ (.bool i)) (hb : Pv c tb ρ (.bool j)) : Pv c (tOp (rNeX c.K) ta tb) ρ (.bool (!(i == j))) := Pv.to (pv_ne ha hb (okD_bool _) (okD_bool _)) (by simp [PyData.eqv])
end
/-- the law's own promise, at the top -/
abbrev spTop (K : PySem.W.Frag) : Sp := spD K 1 0 (fun es => ∃ ns : List Int, es = [.scr ns] ∧ ns.length ≤ 63) (fun _ d => d = .bool true)
theorem top_fits {K : PySem.W.Frag} {H : Hp} {a : Addr} {ns : List Int} (hl : ns.length ≤ 63) (hS : SqL K H a (ns.map V.int)) : spTop K [.ref a] H (fun v _ => v = .bl true) fun _ _ _ => False :=
  ⟨none, bagB, H, 0, [.scr ns], rfl, .cons ⟨a, rfl, hS⟩ .nil, Same.refl _, (fun _ h => (nomatch h)), Nat.zero_le _, ⟨ns, rfl, hl⟩, fun v d I2 H2 _ _ _ r e => by subst e; exact r.bl_inv⟩
end Hh

set_option Elab.async false
set_option linter.all false
set_option maxRecDepth 100000
set_option maxHeartbeats 2000000
namespace Hh
set_option autoImplicit false
open PySem PySem.Spec PyProof.Rows L2
/-! ### sorted(set(a tuple of ints)) -/
def rSetI (K : PySem.W.Frag) (w : World) : List V → Hp → VK → Prop := fun xs H Q => ∃ (l : Addr) (ns : List Int), xs = [.ref l] ∧ SqT K H l (ns.map V.int) ∧ ns.length ≤ 1000 ∧
  ∀ (p : Addr) (c : Nat), H p = none → c ≤ ns.length → Q (.ref p) (upd H p (SetO w p (fun j => decide (j ∈ ns)) c))
theorem call_setI {X : Cx} {K : PySem.W.Frag} (e : X.K = K) (hc : X.calm = true) : CallR X (.type "set") (rSetI K X.w) := by
  subst e
  intro pins s σ H xs us Q I r h
  obtain ⟨l, ns, rfl, hl, hz, q⟩ := h
  obtain ⟨u, rfl, ru⟩ := r.one
  cases ru
  obtain ⟨its, rv, pt, _⟩ := I.tuple hl
  refine call_set_tupI ns (I.ok.hd hc) (show s.heap.IsTuple l its.toArray from pt) (ints_of_vals rv) (by unfold scanBound; omega) ?_
  intro h' tk c R hcn k
  refine ⟨.ref _, upd H s.heap.objs.size (SetO X.w s.heap.objs.size (fun j => decide (j ∈ ns)) c), I.laid (t' := tk) k (Nat.le_refl _) (setO_new R), rfl, q _ c (I.hok.fresh (Nat.le_refl _)) hcn⟩
theorem upd_flip {H : Hp} {p q : Addr} {o u : HO} : True := trivial
section
variable {c : Ctx} {ρ : List Ent} {te : TE} {C : Nat} {w : World}
theorem ev_sortedSet {Pn : List Int → Prop} (ha : Ev c te ρ C (fun d => ∃ ns : List Int, d = .tuple (ns.map .int) ∧ Pn ns)) (hl : ∀ ns, Pn ns → ns.length < 64) :
    Ev c (tCB (rSortedSet w) (tCons (tCB (rSetI c.K w) (tCons te tNil)) tNil)) ρ C (fun d => ∃ ms ns : List Int, d = .list (ms.map .int) ∧ Pn ns ∧ ms.Pairwise (· < ·) ∧ (∀ k, k ∈ ms ↔ k ∈ ns) ∧ ms.length ≤ ns.length) := fun σ I H n Q wd e l k => by
  refine ha σ I H n _ wd e l fun v d I2 H2 g2 w2 r2 ⟨ns, ed, hn⟩ => ?_
  subst ed
  obtain ⟨a, xs, rfl, hs, hr⟩ := r2.tup_inv
  have ex := hr.ints
  subst ex
  have hlen := hl ns hn
  refine ⟨a, ns, rfl, seqT_mono w2.ih hs, by omega, fun p c1 np hc1 => ?_⟩
  -- the set is a thing that nobody keeps
  have s2 : Same H2 (upd H2 p (SetO w p (fun j => decide (j ∈ ns)) c1)) := fun q o h => by rw [upd_ne (ne_of_none h np)]; exact h
  refine ⟨p, _, c1, rfl, upd_same, by omega, fun ms q hp hm hml nq => ?_⟩
  have nqp : q ≠ p := fun z => by rw [z, upd_same] at nq; cases nq
  have nq2 : H2 q = none := by rw [upd_ne nqp] at nq; exact nq
  have iq : I2 q = none := w2.ih.free nq2
  have gx : Gx c.b I2 H2 (upd I2 q (.lst (ms.map V.int))) (upd (upd H2 p (SetO w p (fun j => decide (j ∈ ns)) c1)) q (.lst (ms.map V.int))) := by
    refine ⟨fun r o h => ?_, fun r o _ h => ?_, fun r h => ?_, fun r h => ?_⟩
    · rw [upd_ne (ne_of_none h iq)]; exact h
    · rw [upd_ne (ne_of_none h nq2)]; exact s2 r o h
    · rw [upd_ne (fun z => h (by rw [z]; exact nq2))]
    · rw [upd_ne (fun z => h (by rw [z]; exact nq2)), upd_ne (fun z => h (by rw [z]; exact np))]; exact h
  have ih3 : Same (upd I2 q (.lst (ms.map V.int))) (upd (upd H2 p (SetO w p (fun j => decide (j ∈ ns)) c1)) q (.lst (ms.map V.int))) := fun r o h => by
    by_cases z : r = q
    · subst z; rw [upd_same] at h ⊢; exact h
    · rw [upd_ne z] at h ⊢; exact s2 r o (w2.ih r o h)
  have w3 := w2.go (C := 0) gx ih3 fun b hb => by
    obtain ⟨_, _, x, hh, rr⟩ := w2.bg b hb
    exact ⟨x, by rw [upd_ne (ne_of_none hh nq2)]; exact s2 b _ hh, rr⟩
  have rp : ∀ ks : List Int, RpAll c.K (upd I2 q (.lst (ms.map V.int))) (ks.map V.int) (ks.map .int) := fun ks => by
    induction ks with
    | nil => exact .nil
    | cons x r ih => exact .cons (.int x) ih
  exact k _ (.list (ms.map .int)) _ _ (g2.trans gx) w3 (.lst upd_same (rp ms)) ⟨ms, ns, rfl, hn, hp, fun k => (hm k).trans (by rw [decide_eq_true_eq]), by omega⟩
/-- tuples of ints put together -/
theorem ev_catI {ta tb : TE} {C1 C2 : Nat} {P1 P2 : List Int → Prop} (ha : Ev c ta ρ C1 (fun d => ∃ ns : List Int, d = .tuple (ns.map .int) ∧ P1 ns)) (hb : Ev c tb ρ C2 (fun d => ∃ ns : List Int, d = .tuple (ns.map .int) ∧ P2 ns)) (h1 : ∀ ns, P1 ns → ns.length ≤ 1000) (h2 : ∀ ns, P2 ns → ns.length ≤ 1000) (hC : C1 + C2 ≤ C) :
    Ev c (tOp (rAddA c.K) ta tb) ρ C (fun d => ∃ ns : List Int, d = .tuple (ns.map .int) ∧ ∃ xs ys, ns = xs ++ ys ∧ P1 xs ∧ P2 ys) :=
  ev_op ha (P2 := fun _ d => ∃ ns : List Int, d = .tuple (ns.map .int) ∧ P2 ns) (fun _ _ => hb) (fun d1 d2 ⟨xs, e1, p1⟩ ⟨ys, e2, p2⟩ => by
    subst e1 e2
    have l1 := h1 xs p1
    have l2 := h2 ys p2
    have hs : (2000 : Nat) ≤ sizeLine := by decide
    intro I H n x y Q w r1 r2 k
    obtain ⟨a, us, rfl, q1, s1⟩ := id r1.tup_inv
    obtain ⟨b, vs, rfl, q2, s2⟩ := id r2.tup_inv
    have lu := s1.length
    have lv := s2.length
    rw [List.length_map] at lu lv
    refine .inr (.inr (.inl ⟨a, b, us, vs, rfl, rfl, seqT_mono w.ih q1, seqT_mono w.ih q2, by omega, fun e => ?_, fun _ e => ?_, fun _ _ p np => ?_⟩))
    · subst e
      have : xs = [] := List.length_eq_zero_iff.mp (by simpa using lu.symm)
      subst this
      exact k _ _ I H Gx.refl w r2 ⟨ys, rfl, [], ys, rfl, p1, p2⟩
    · subst e
      have : ys = [] := List.length_eq_zero_iff.mp (by simpa using lv.symm)
      subst this
      exact k _ _ I H Gx.refl w r1 ⟨xs, rfl, xs, [], by rw [List.append_nil], p1, p2⟩
    · exact k _ (.tuple ((xs ++ ys).map .int)) (upd I p (.tup (us ++ vs))) (upd H p (.tup (us ++ vs))) (new_go w.ih np) (w.new np) (.tup (.inl (.inl upd_same)) (by rw [List.map_append]; exact (s1.append s2).mono (new_go (b := none) w.ih np).ii)) ⟨xs ++ ys, rfl, xs, ys, rfl, p1, p2⟩) hC
theorem ev_tupL {Pd : List PyData → Prop} (ha : Ev c te ρ C (fun d => ∃ ds, d = .list ds ∧ Pd ds)) : Ev c (tCB (fun xs H Q => ∃ p ys, xs = [.ref p] ∧ ((SqL c.K H p ys ∧ ∀ l, H l = none → Q (.ref l) (upd H l (.tup ys))) ∨ (SqT c.K H p ys ∧ Q (.ref p) H))) (tCons te tNil)) ρ C (fun d => ∃ ds, d = .tuple ds ∧ Pd ds) :=
  ev_cb (Pe := fun es => ∃ ds, es = [.dat (.list ds)] ∧ Pd ds) (ea_cons ha (C2 := 0) (P2 := fun _ es => es = []) (fun _ _ => ea_nil) (fun d es ⟨ds, e, p⟩ e2 => ⟨ds, by rw [e, e2], p⟩) (by omega)) fun es ⟨ds, e, p⟩ => by
    subst e
    exact fun I H n vs Q w r k => rda_tupL I H n vs Q w r fun v d I2 H2 g w r e => k v d I2 H2 g w r ⟨ds, e, p⟩
theorem pv_isnotB {ta tb : TE} {a b : Bool} (ha : Pv c ta ρ (.bool a)) (hb : Pv c tb ρ (.bool b)) : Pv c (tOp (fun x y H Q => ∃ a b, x = .bl a ∧ y = .bl b ∧ Q (.bl (!decide (a = b))) H) ta tb) ρ (.bool (!decide (a = b))) :=
  pv_op ha hb fun I H n x y Q w r1 r2 k => ⟨a, b, r1.bl_inv, r2.bl_inv, k _ _ I H Gx.refl w (.bl _) rfl⟩
theorem pv_isB {ta tb : TE} {a b : Bool} (ha : Pv c ta ρ (.bool a)) (hb : Pv c tb ρ (.bool b)) : Pv c (tOp (fun x y H Q => ∃ a b, x = .bl a ∧ y = .bl b ∧ Q (.bl (decide (a = b))) H) ta tb) ρ (.bool (decide (a = b))) :=
  pv_op ha hb fun I H n x y Q w r1 r2 k => ⟨a, b, r1.bl_inv, r2.bl_inv, k _ _ I H Gx.refl w (.bl _) rfl⟩
/-- int of a truth -/
theorem pv_intB {b : Bool} (ha : Pv c te ρ (.bool b)) : Pv c (tCB (fun xs H Q => (∃ i, xs = [.int i] ∧ Q (.int i) H) ∨ ∃ k, xs = [.bl k] ∧ Q (.int (if k then 1 else 0)) H) (tCons te tNil)) ρ (.int (if b then 1 else 0)) := fun σ I H n Q wd e l k =>
  ha σ I H n _ wd e l fun v d I2 H2 g2 w2 r2 p2 => by
    subst p2
    exact .inr ⟨b, by rw [r2.bl_inv], k _ _ I2 H2 g2 w2 (.int _) rfl⟩
end
section
variable {c : Ctx} {ρ : List Ent} {te ta tb tc : TE} {C : Nat}
theorem et_notB {a : Bool} (ha : Ev c te ρ C (fun d => d = .bool a)) : Et c (tNot (tB te)) ρ C (fun b => b = !a) := fun σ I H n Q w e l k =>
  ha σ I H n _ w e l fun v d I2 H2 g2 w2 r2 p2 => by
    subst p2
    exact ⟨a, r2.bl_inv, k _ I2 H2 g2 w2 rfl⟩
theorem pv_ixL {ds : List PyData} {i : Int} {d : PyData} (ha : Pv c ta ρ (.list ds)) (hb : Pv c tb ρ (.int i)) (h : atI ds i = some d) : Pv c (tOp (rIx c.K) ta tb) ρ d := pv_op ha hb (rd_ixLs h)
theorem pv_l2a {x y : PyData} (ha : Pv c ta ρ (.list [x, y])) : Pv c (tOp (rIx c.K) ta (tC (.int 0))) ρ x := pv_ixL ha ev_int (atI_nat (j := 0) rfl)
theorem pv_l2b {x y : PyData} (ha : Pv c ta ρ (.list [x, y])) : Pv c (tOp (rIx c.K) ta (tC (.int 1))) ρ y := pv_ixL ha ev_int (atI_nat (j := 1) rfl)
theorem rd_eqI {i j : Int} {b : Bool} (h : (i == j) = b) : Rd2 c (rEqX c.K) (.int i) (.int j) (fun x => x = .bool b) := by
  have e : PyData.eqv (.int i) (.int j) = b := by rw [← h]; simp [PyData.eqv]
  rw [← e]
  exact rd_eq (okD_int _) (okD_int _)
/-- a chain of two comparisons -/
theorem pv_chainX {r r' : R2} {d1 d2 d3 : PyData} {b1 b2 : Bool} (ha : Pv c ta ρ d1) (hb : Pv c tb ρ d2) (hc : b1 = true → Pv c tc ρ d3) (h1 : Rd2 c r d1 d2 (fun x => x = .bool b1)) (h2 : Rd2 c r' d2 d3 (fun x => x = .bool b2)) :
    Pv c (tChain r r' ta tb tc) ρ (.bool (b1 && b2)) := fun σ I H n Q w e l kk => by
  refine ha σ I H n _ w e l fun v d I2 H2 g2 w2 r2 p2 => ?_
  subst p2
  refine hb σ I2 H2 n _ w2 (e.go g2) l fun v3 d3 I3 H3 g3 w3 r3 p3 => ?_
  subst p3
  refine h1 I3 H3 n v v3 _ w3 (r2.mono g3.ii) r3 fun v4 d4 I4 H4 g4 w4 r4 p4 => ?_
  subst p4
  refine ⟨b1, r4.bl_inv, ?_⟩
  cases b1 with
  | true =>
    rw [if_pos rfl]
    refine hc rfl σ I4 H4 n _ w4 (e.go ((g2.trans g3).trans g4)) l fun v5 d5 I5 H5 g5 w5 r5 p5 => ?_
    subst p5
    exact h2 I5 H5 n v3 v5 _ w5 ((r3.mono g4.ii).mono g5.ii) r5 fun v6 d6 I6 H6 g6 w6 r6 p6 => kk v6 d6 I6 H6 ((((g2.trans g3).trans g4).trans g5).trans g6) w6 r6 (by rw [p6]; rfl)
  | false =>
    rw [if_neg Bool.false_ne_true]
    exact kk _ _ I4 H4 ((g2.trans g3).trans g4) w4 (.bl _) rfl
end
end Hh

set_option Elab.async false
set_option linter.all false
set_option maxRecDepth 100000
set_option maxHeartbeats 2000000
namespace Hh
set_option autoImplicit false
open PySem PySem.Spec PyProof.Rows L2
section
variable {c : Ctx} {ρ : List Ent} {te ta tb tf : TE} {tr : TA} {C C1 C2 Ci : Nat} {P : PyData → Prop}
/-- a fresh list becomes a local's own -/
theorem own_env {I H : Hp} {σ : Sl} {p : Addr} {vs : List V} {ds : List PyData} {n : Nat} (i : Nat) (w : Wd c I H n) (e : EnvR c I H σ ρ) (np : H p = none) (r : RpAll c.K I vs ds) :
    Wd c I (upd H p (.lst vs)) n ∧ EnvR c I (upd H p (.lst vs)) (σ.set i (some (.ref p))) (ρ.set i (.own ds)) := by
  have d0 := w.h0n np
  have dI := w.ih.free np
  have db := w.bne np
  refine ⟨w.own d0 dI db, ?_⟩
  have e3 : EnvR c I (upd H p (.lst vs)) σ ρ := e.own (e.noM (noL_of np)) (e.noD np)
  refine ⟨Paired.setP (show EntR c I (upd H p (.lst vs)) (some (.ref p)) (.own ds) from ⟨p, vs, rfl, upd_same, d0, db, dI, r⟩) i e3.st, fun j k q as bs h1 h2 h3 h4 => ?_⟩
  have key : ∀ (j : Nat) (as : List PyData), (ρ.set i (.own ds))[j]? = some (.own as) → (σ.set i (some (V.ref p)))[j]? = some (some (V.ref q)) → (j = i ∧ q = p) ∨ (j ≠ i ∧ q ≠ p ∧ ρ[j]? = some (.own as) ∧ σ[j]? = some (some (V.ref q))) := fun j as h1 h2 => by
    by_cases z : j = i
    · subst z
      left
      rw [List.getElem?_set_self'] at h2
      cases q2 : σ[j]? with
      | none => rw [q2] at h2; cases h2
      | some o => rw [q2] at h2; cases h2; exact ⟨rfl, rfl⟩
    · right
      rw [List.getElem?_set_ne (Ne.symm z)] at h1 h2
      exact ⟨z, fun zz => e.noD np j as h1 (by rw [← zz]; exact h2), h1, h2⟩
  rcases key j as h1 h3 with ⟨a1, a2⟩ | ⟨a1, a2, a3, a4⟩
  · rcases key k bs h2 h4 with ⟨b1, b2⟩ | ⟨b1, b2, b3, b4⟩
    · rw [a1, b1]
    · exact absurd a2 b2
  · rcases key k bs h2 h4 with ⟨b1, b2⟩ | ⟨b1, b2, b3, b4⟩
    · exact absurd b2 a2
    · exact e.ap j k q as bs a3 b3 a4 b4
/-- xs = ys + zs, to be written on -/
theorem bk_ownAdd {i : Nat} {ds es : List PyData} {O : Out} (ha : Pv c ta ρ (.list ds)) (hb : Pv c tb ρ (.list es)) (hl : ds.length + es.length ≤ 1000) (hn : O.nx (ρ.set i (.own (ds ++ es)))) : Bk c (tAsg (tOp (rAddA c.K) ta tb) (gName i)) ρ C O := fun σ I H n D w e l k1 k2 k3 k4 =>
  ha σ I H n _ w e (by omega) fun v1 d1 I2 H2 g2 w2 r1 p1 => by
    subst p1
    refine hb σ I2 H2 n _ w2 (e.go g2) (by omega) fun v2 d2 I3 H3 g3 w3 r2 p2 => ?_
    subst p2
    have r1' := r1.mono g3.ii
    obtain ⟨a, xs, rfl, h1, q1⟩ := r1'.lst_inv
    obtain ⟨b, ys, rfl, h2, q2⟩ := r2.lst_inv
    refine .inr (.inl ⟨a, b, xs, ys, rfl, rfl, w3.ih _ _ h1, w3.ih _ _ h2, by rw [q1.length, q2.length]; exact Nat.le_trans hl (by decide), fun p np => ?_⟩)
    obtain ⟨a1, a2⟩ := own_env i (w3.bgN (m := n + C) (by omega)) ((e.go g2).go g3) np (q1.append q2)
    exact k1 _ _ I3 _ (g2.trans g3).ii a1 a2 hn
/-- a new object that nobody keeps -/
theorem lost_go {b : Option Addr} {I H : Hp} {p : Addr} {o : HO} (h : H p = none) : Gx b I H I (upd H p o) :=
  ⟨Same.refl _, fun q x _ e => by rw [upd_ne (ne_of_none e h)]; exact e, fun _ _ => rfl, fun q e => by rw [upd_ne (fun z => e (by rw [z]; exact h))]; exact e⟩
theorem Wd.lost {I H : Hp} {n : Nat} {p : Addr} {xs : List V} (w : Wd c I H n) (h : H p = none) : Wd c I (upd H p (.lst xs)) n := w.own (w.h0n h) (w.ih.free h) (w.bne h)
theorem pv_revL {ds : List PyData} (ha : Pv c ta ρ (.list ds)) : Pv c (tRevL c.K ta) ρ (.list ds.reverse) := fun σ I H n Q w e l k =>
  ha σ I H n _ w e l fun v d I2 H2 g2 w2 r2 p2 => by
    subst p2
    obtain ⟨a, xs, rfl, h1, q1⟩ := r2.lst_inv
    refine ⟨a, xs, rfl, SqL.of (w2.ih _ _ h1), fun p np => ?_⟩
    exact k _ _ (upd I2 p (.lst xs.reverse)) (upd H2 p (.lst xs.reverse)) (g2.trans (new_go w2.ih np)) (w2.new np) (.lst upd_same (q1.rev.mono (new_go (b := none) w2.ih np).ii)) rfl
theorem pv_dnew : Pv c tDNewK ρ (.dict []) := fun σ I H n Q w e l k => fun p np =>
  k _ _ (upd I p (.dK [])) (upd H p (.dK [])) (new_go w.ih np) (w.new np) (.dic upd_same .nil) rfl
end
/-! ### a call of one of several defs, picked from a list -/
def tCallOf (fs : List Addr) (sp : Sp) (tf : TE) (t : TA) : TE := fun σ H Q => tf σ H fun x H1 => (∃ f ∈ fs, x = .ref f) ∧ t σ H1 fun vs H2 => sp vs H2 Q E0
theorem pe_callOf {X : Cx} {k : Nat} {sp : Sp} {fs : List Addr} {fe e : Expr} {es : List Expr} {pos : Pos} {tf : TE} {t : TA}
    (hF : ∀ f ∈ fs, ∃ fd ps, FnG X.prog X.w X.K X.mg X.base k f fd ps sp ∧ PySem.W.keepIn X.K (.ref f) = true ∧ Binds X.K fd ps []) (hr : Room k X.A) (hc : Calm X.A) (hf : PE X fe tf) (ha : PA X (e :: es) t)
    (heq : eval (.Call fe (e :: es) [] pos) X.env = (do callWith pos (← eval fe X.env) [] (backTo pos (starEach (e :: es) X.env)) (backToKw pos (keywordEach [] X.env))) := by rfl)
    (he : starEach (e :: es) X.env = (false, eval e X.env) :: starEach es X.env := by rfl) (hpl : (backTo pos (starEach es X.env)).any (·.1) = false := by rfl) :
    PE X (.Call fe (e :: es) [] pos) (tCallOf fs sp tf t) := by
  constructor
  intro pins s σ H Q I h
  rw [heq]
  refine wpAny_bind (thn (hf.run pins s σ H _ I h) ?_)
  rintro u s1 ⟨x, H1, I1, r1, ⟨f, hfs, rfl⟩, ht⟩
  cases r1
  obtain ⟨fd, ps, F, hk, hb⟩ := hF f hfs
  refine PySem.W.callWith_K (h₀ := X.base) I1.ok.mod.kin hk ?_ he hpl
  refine thn (ha.run pos pins s1 σ H1 _ I1 ht) ?_
  rintro us s2 ⟨vs, H2, I2, r, q⟩
  exact ⟨I2.kIn, runG F hr hc hb I2 r q⟩
section
variable {c : Ctx} {ρ : List Ent} {te ta tb tf ti : TE} {tr : TA} {C C1 C2 Ci : Nat} {P : PyData → Prop}
theorem ev_callOf3 {a1 a2 a3 : Addr} {ar : Nat} {pre : List Ent → Prop} {post : List Ent → PyData → Prop} {Pe : List Ent → Prop} (hi : EvI c ti ρ Ci (fun i => 0 ≤ i ∧ i < 3)) (ha : Ea c tr ρ C1 Pe) (hp : ∀ es, Pe es → es.length = ar ∧ pre es) (hP : ∀ es d, Pe es → post es d → P d) (hC : Ci + C1 + C2 ≤ C) :
    Ev c (tCallOf [a1, a2, a3] (spD c.K ar C2 pre post) (tOp (rIx c.K) (tLst (tCons (tC (.ref a1)) (tCons (tC (.ref a2)) (tCons (tC (.ref a3)) tNil)))) ti) tr) ρ C P := fun σ I H n Q w e l k => by
  refine ⟨by show 3 ≤ sizeLine; decide, fun p np => ?_⟩
  have g1 := lost_go (b := c.b) (I := I) (o := .lst [V.ref a1, V.ref a2, V.ref a3]) np
  have w1 := w.lost (xs := [V.ref a1, V.ref a2, V.ref a3]) np
  refine hi σ I _ n _ w1 (e.go g1) (by omega) fun v d I2 H2 g2 w2 r2 ⟨i, ed, i0, i3⟩ => ?_
  subst ed
  obtain rfl := r2.int_inv
  have hp2 : H2 p = some (.lst [V.ref a1, V.ref a2, V.ref a3]) := g2.hh p _ (w.bne np) upd_same
  have pick : ∃ f ∈ [a1, a2, a3], atI [V.ref a1, V.ref a2, V.ref a3] i = some (.ref f) := by
    have : i = 0 ∨ i = 1 ∨ i = 2 := by omega
    rcases this with rfl | rfl | rfl
    · exact ⟨a1, by simp, atI_nat (j := 0) rfl⟩
    · exact ⟨a2, by simp, atI_nat (j := 1) rfl⟩
    · exact ⟨a3, by simp, atI_nat (j := 2) rfl⟩
  obtain ⟨f, hf, hat⟩ := pick
  refine .inl ⟨p, _, i, .ref f, rfl, rfl, SqL.of hp2, hat, ⟨f, hf, rfl⟩, ?_⟩
  refine ha σ I2 H2 (n + Ci) _ w2 (e.go (g1.trans g2)) (by omega) fun vs es I3 H3 g3 w3 r3 p3 => ?_
  obtain ⟨h1, h2⟩ := hp es p3
  refine ⟨c.b, c.B, I3, n + Ci + C1, es, by rw [Paired.len r3]; exact h1, r3, w3.ih, fun p e => ⟨w3.noB e, (w3.bg p e).2.2⟩, by omega, h2, fun v d I4 H4 g4 ih4 hb r4 p4 => ?_⟩
  exact k v d I4 H4 ((g1.trans g2).trans (g3.trans g4)) ((w3.go g4 ih4 hb).bgN (by omega)) r4 (hP _ _ p3 p4)
end
/-- a promise, at a higher level and under another word -/
theorem FnG.up {P : Program} {w : World} {K : PySem.W.Frag} {mg : Str → Option Value} {base : Heap} {j k : Nat} {f : Addr} {fd : FuncData} {ps : List Str} {sp sp' : Sp} (F : FnG P w K mg base j f fd ps sp) (h : j ≤ k) (hs : ∀ vs H Q E, sp' vs H Q E → sp vs H Q E) : FnG P w K mg base k f fd ps sp' :=
  ⟨fun vs H Q E q => F.many vs H Q E (hs _ _ _ _ q), fun A fr s H ar us vs Q E r hc e b v q => F.go A fr s H ar us vs Q E (r.mono h) hc e b v (hs _ _ _ _ q)⟩
theorem spD_weak {K : PySem.W.Frag} {ar C C' : Nat} {pre pre' : List Ent → Prop} {post post' : List Ent → PyData → Prop} (hC : C ≤ C') (h1 : ∀ es, pre' es → pre es) (h2 : ∀ es d, pre' es → post es d → post' es d) : ∀ vs H Q E, spD K ar C' pre' post' vs H Q E → spD K ar C pre post vs H Q E := by
  rintro vs H Q E ⟨b, B, I, n, es, hl, hp, hs, hb, hn, hpre, k⟩
  refine ⟨b, B, I, n, es, hl, hp, hs, hb, by omega, h1 es hpre, fun v d I2 H2 g s hb2 r q => k v d I2 H2 g s (fun p e => ?_) r (h2 es d hpre q)⟩
  exact (hb2 p e).mono (by omega)
end Hh

set_option Elab.async false
set_option linter.all false
set_option maxRecDepth 100000
set_option maxHeartbeats 2000000
namespace Hh
set_option autoImplicit false
open PySem PySem.Spec PyProof.Rows L2
/-! ### own classes of errors, raised; defs that may raise -/
theorem pmk_own0 {X : Cx} {C : Addr} {bmB : List Value} {B newId initId : String} {x : Str} {p pos : Pos} (F : ExcBaseFacts B newId initId bmB) (q : PySem.W.excIn X.K C bmB newId = true) (gC : X.mg x = some (.ref C)) (kC : PySem.W.keepIn X.K (.ref C) = true) (r : Raises X (.ref C)) (hg : Gl X x)
    (hdb : (x == ("__debug__" : Str)) = false := by decide) : PMk X (.Call (.Name x p) [] [] pos) (fun _ H Q => Q (.ref C) none H) := by
  intro pins s σ H Q I h
  refine wpAny_Call_Name_kw (ld_glob I hg gC ?_ hdb)
  refine PySem.W.callWith_K0 I.kIn kC ?_
  show wpAny _ _ (call (.ref C) []) _ _ _
  obtain ⟨bm, N, nm, qn, bs, hdct, sn, sub, ab, col, dd, k0, k1, k2, k3, k5, mN, hC, hN, hni, T⟩ := exc_obj I.kIn q
  obtain ⟨hp1, g1, d1, tk1, os1⟩ := s
  exact wpAny_call_exc_subT F T hC hN hni (fun h' e hm => mk_of I hm r h (I.hok.gone hm.new)) (Nat.zero_le _)
structure FnX (P : Program) (w : World) (K : PySem.W.Frag) (mg : Str → Option Value) (base : Heap) (k : Nat) (f : Addr) (fd : FuncData) (ps : List Str) (sp : Sp) : Prop where
  many : ∀ vs H Q E, sp vs H Q E → vs.length = ps.length
  go : ∀ (A : Around) (fr : List Env) (s : Shared) (H : Hp) (ar : Args) (us : List Value) (vs : List V) (Q : VK) (E : XK), Room k A → Calm A → Env0 P w K mg base A fr s H →
    BindsTo s fd ar (ps.zip us) → Vals vs us → sp vs H Q E → codeAny (model P w) A (.call (.ref f) ar) (CR (L2.CX P w) fr P w H s Q E) s
section
variable {X : Cx} {k : Nat} {f : Addr} {fd : FuncData} {ps : List Str} {sp : Sp} {x : Str} {p pos : Pos} {e : Expr} {es : List Expr} {t : TA} {W : WX}
theorem runX {pins : List (Addr × Obj)} {σ : L2.St} {H : Hp} {s : Shared} {Q : VK} {us : List Value} {vs : List V} (F : FnX X.prog X.w X.K X.mg X.base k f fd ps sp)
    (hr : Room k X.A) (hc : Calm X.A) (hb : Binds X.K fd ps []) (tk : Takes X W) (I : Inv X pins σ H s) (r : Vals vs us) (h : sp vs H Q (WE W σ)) :
    wpAny (model X.prog X.w) X.A (call (.ref f) us) (EP X pins σ Q) X.xe s := by
  have lu : (us ++ []).length = ps.length := by rw [List.append_nil, ← r.length]; exact F.many _ _ _ _ h
  have bb := hb s us I.kIn lu
  rw [List.append_nil] at bb
  refine wpAny_call (codeAny_mono (F.go X.A X.stack s H ⟨us, []⟩ us vs Q (WE W σ) hr hc I.env0 bb r h) ?_)
  intro rr s' q
  match rr, q with
  | .error u, q => exact passAt tk σ pins H s u s' I q
  | .ok (.ret u), q => exact I.after q
  | .ok .next, q => exact False.elim q
  | .ok .brk, q => exact False.elim q
  | .ok .cont, q => exact False.elim q
theorem pe_callX (F : FnX X.prog X.w X.K X.mg X.base k f fd ps sp) (tk : Takes X W) (hr : Room k X.A) (hc : Calm X.A) (hg : Gl X x) (hm : X.mg x = some (.ref f)) (hk : PySem.W.keepIn X.K (.ref f) = true) (hb : Binds X.K fd ps []) (ha : PA X (e :: es) t)
    (hdb : (x == ("__debug__" : Str)) = false := by decide) (he : starEach (e :: es) X.env = (false, eval e X.env) :: starEach es X.env := by rfl) (hpl : (backTo pos (starEach es X.env)).any (·.1) = false := by rfl) :
    PE X (.Call (.Name x p) (e :: es) [] pos) (tCallS sp (WE W) t) := by
  constructor
  intro pins s σ H Q I h
  refine wpAny_Call_Name_kw (ld_glob I hg hm ?_ hdb)
  refine PySem.W.callWith_K (h₀ := X.base) I.ok.mod.kin hk ?_ he hpl
  refine thn (ha.run pos pins s σ H _ I h) ?_
  rintro us s1 ⟨vs, H1, I1, r, q⟩
  exact ⟨I1.kIn, runX F hr hc hb tk I1 r q⟩
end
/-- a def by its body, where it may raise -/
theorem fnX_of {P : Program} {w : World} {K : PySem.W.Frag} {mg : Str → Option Value} {base : Heap} {k : Nat} {f : Addr} {nm qual : Str} {pa : Arguments} {bd : List Stmt} {sc : Scope} {dV kV dc pm cv ct oc : Value} {an od : Option Addr} {sl : Array (Option Value)} {N ps : List Str} {sp : Sp}
    (lk : K.lookup f = some ⟨oc, od, .func (PySem.W.fnOf nm qual pa bd sc dV kV dc pm an cv ct), sl⟩) (hcd : PySem.W.codeIn K cv qual = true) (S : FnScope N ps sc) (many : ∀ vs H Q E, sp vs H Q E → vs.length = ps.length)
    (body : ∀ (A : Around) (fr : List Env) (s : Shared) (H : Hp) (vs : List V) (Q : VK) (E : XK), Room k (A.deeper (envOfC qual sc s.heap.objs.size f cv)) → Calm (A.deeper (envOfC qual sc s.heap.objs.size f cv)) → sp vs H Q E →
      ∃ t, PSs (cxOf (L2.CX P w) P w K mg base N qual sc f cv A fr s H E) bd t ∧ t { nx := fun _ H' => Q .non H', rt := Q } (L2.start N vs) H) :
    FnX P w K mg base (k + 1) f (PySem.W.fnOf nm qual pa bd sc dV kV dc pm an cv ct) ps sp := by
  constructor
  · exact many
  intro A fr s H ar us vs Q E room calm e0 bnd rv h
  have nv := many _ _ _ _ h
  have kin : K.In s.heap := e0.mod.kin.keeps fun b o q => (e0.bs b o q).1
  have lim : s.heap.NoLimit := e0.mod.nolimit.keeps fun b o q => (e0.bs b o q).1
  have kinds : ∀ y ∈ ps.zip us, sc.names.lookup y.1 = some .local ∨
      (sc.names.lookup y.1 = some .cell ∧ ((cellsFrom (s.heap.objs.size + 1) sc.names []).lookup y.1).isSome = true) := by
    rintro ⟨n, v⟩ hy
    rcases S.par n (List.of_mem_zip hy).1 with q | q
    · left; exact q
    · right; exact ⟨q, PySem.W.cellsFrom_some _ _ _ (Or.inl q)⟩
  refine codeAny_call_function room.depth (kin _ _ lk) rfl S.co S.gen rfl (PySem.W.codeRec_of kin hcd) (bnd _ _ _ _ ?_)
  refine wpAny_newFunctionEnv_cells S.kind kinds ?_
  intro env he s1 x
  subst he
  refine ⟨lim.keeps x.toInCall.keep, codeAny_func ?_⟩
  obtain ⟨t, ht, hq⟩ := body A fr s H vs Q E (room.deeper _) (calm.deep _) h
  have inv := inv_start (CX := L2.CX P w) (E := E) (N := N) S room.hd e0 nv rv x
  refine wpAny_mono (ht.run [] s1 (L2.start N vs) H _ inv hq) ?_ ?_
  · intro fl s' hs
    match fl, hs with
    | .ret u, ⟨v, σ', H', J, r', q⟩ => exact ⟨v, H', J.os, J.bare, J.base, J.hok, r', q⟩
    | .next, ⟨σ', H', J, q⟩ => exact ⟨V.non, H', J.os, J.bare, J.base, J.hok, rfl, q⟩
    | .brk, ⟨_, _, _, q⟩ => exact False.elim q
    | .cont, ⟨_, _, _, q⟩ => exact False.elim q
  · intro e s' hs
    exact hs
theorem takes_def {P : Program} {w : World} {K : PySem.W.Frag} {mg : Str → Option Value} {base : Heap} {N : List Str} {qual : Str} {sc : Scope} {f : Addr} {cv : Value} {A : Around} {fr : List Env} {s : Shared} {H : Hp} {E : XK} :
    Takes (cxOf (L2.CX P w) P w K mg base N qual sc f cv A fr s H E) (fun cls d _ H' => E cls d H') := takes_of rfl rfl rfl rfl
/-- the promise of a def that draws nothing and may raise -/
def spX (K : PySem.W.Frag) (ar : Nat) (pre : List Ent → Prop) (post : List Ent → PyData → Prop) (xr : List Ent → Value → Prop) : Sp := fun vs H Q E => ∃ (I : Hp) (es : List Ent), vs.length = ar ∧ Paired (ArgR K none bagB I) vs es ∧ Same I H ∧ pre es ∧
  (∀ v d I2 H2, Gx none I H I2 H2 → Same I2 H2 → Rp K I2 v d → post es d → Q v H2) ∧ (∀ cls I2 H2, Gx none I H I2 H2 → Same I2 H2 → xr es cls → E cls none H2)
theorem Wd.gx0 {K : PySem.W.Frag} {I H I' H' : Hp} {n : Nat} (w : Wd ⟨K, none, H, I, bagB⟩ I' H' n) : Gx none I H I' H' :=
  ⟨w.i0, fun q o ne e => w.h0 q o ne e, fun q e => w.nw q e, fun q e => by
    cases h : H q with
    | none => exact absurd h e
    | some o => rw [w.h0 q o (fun z => nomatch z) h]; exact fun z => nomatch z⟩
theorem fnX_ok {P : Program} {w : World} {K : PySem.W.Frag} {mg : Str → Option Value} {base : Heap} {x qual : Str} {st : Stmt} {f : Addr} {fd : FuncData} {N ps : List Str} {k : Nat} {pre : List Ent → Prop} {post : List Ent → PyData → Prop} {xr : List Ent → Value → Prop} (F : Fun K x qual st f fd) (S : FnScope N ps (defScope st))
    (hbody : ∀ (cdv : Value) (A : Around) (outer : List Env) (s : Shared) (H : Hp) (E : XK), Room k (A.deeper (envOfC qual (defScope st) s.heap.objs.size f cdv)) → Calm (A.deeper (envOfC qual (defScope st) s.heap.objs.size f cdv)) →
      ∃ t, PSs (cxOf (L2.CX P w) P w K mg base N qual (defScope st) f cdv A outer s H E) (defBody st) t ∧ ∀ (I : Hp) (es : List Ent), es.length = ps.length → pre es → (∀ cls I2 H2, Gx none I H I2 H2 → Same I2 H2 → xr es cls → E cls none H2) →
        Bk ⟨K, none, H, I, bagB⟩ t (es ++ List.replicate (N.length - es.length) .any) 0 { nx := fun _ => post es .none, rt := post es }) :
    FnX P w K mg base (k + 1) f fd ps (spX K ps.length pre post xr) := by
  obtain ⟨oc, od, kV, doc, pm, an, cv, ct, sl, rfl, lk, hcd⟩ := F.ex
  refine fnX_of lk hcd S (fun vs H Q E ⟨I, es, h, _⟩ => h) fun A fr s H vs Q E hr hc ⟨I, es, h1, h2, h3, h4, h5, h6⟩ => ?_
  obtain ⟨t, ht, hb⟩ := hbody cv A fr s H E hr hc
  refine ⟨t, ht, ?_⟩
  have w0 : Wd ⟨K, none, H, I, bagB⟩ I H 0 := ⟨h3, Same.refl _, fun _ _ _ h => h, fun _ _ => rfl, fun p e => nomatch e⟩
  have fin : ∀ v d I' H', Same I I' → Wd ⟨K, none, H, I, bagB⟩ I' H' (0 + 0) → Rp K I' v d → post es d → Q v H' := fun v d I' H' s w r p => h5 v d I' H' w.gx0 w.ih r p
  exact hb I es (by rw [← Paired.len h2]; exact h1) h4 h6 (L2.start N vs) I H 0 _ w0 (start_env h2) (Nat.zero_le _) (fun σ' ρ' I' H' s w e p => fin .non .none I' H' s w .non p) (fun v d I' H' s w r p => fin v d I' H' s w r p.1) (fun _ _ _ _ _ _ _ z => z.elim) (fun _ _ _ _ _ _ _ z => z.elim)
/-- a def that never raises, where one that may is asked for -/
theorem FnG.toX {P : Program} {w : World} {K : PySem.W.Frag} {mg : Str → Option Value} {base : Heap} {k : Nat} {f : Addr} {fd : FuncData} {ps : List Str} {sp : Sp} (F : FnG P w K mg base k f fd ps sp) : FnX P w K mg base k f fd ps sp :=
  ⟨F.many, fun A fr s H ar us vs Q E hr hc e b v h => codeAny_mono (F.go A fr s H ar us vs Q E hr hc e b v h) fun r s' q => by
    cases r with
    | error u => exact False.elim q
    | ok fl => cases fl <;> exact q⟩
section
variable {c : Ctx} {ρ : List Ent} {tr : TA} {W : WX} {P : PyData → Prop} {O : Out} {C0 : Nat}
theorem Gx.anyb {b : Option Addr} {I H I2 H2 : Hp} (g : Gx none I H I2 H2) : Gx b I H I2 H2 := ⟨g.ii, fun q o _ e => g.hh q o (fun z => nomatch z) e, g.nw, g.th⟩
theorem args_none {K : PySem.W.Frag} {b : Option Addr} {B : BInv} {I : Hp} : ∀ {ds : List PyData} {vs : List V}, Paired (ArgR K b B I) vs (dats ds) → Paired (ArgR K none bagB I) vs (dats ds)
  | [], _, .nil => .nil
  | _ :: _, _, .cons h r => .cons h (args_none r)
/-- a call that may raise -/
theorem ev_callX {ar : Nat} {pre : List Ent → Prop} {post : List Ent → PyData → Prop} {xr : List Ent → Value → Prop} {ds : List PyData} (ha : Pa c tr ρ (dats ds)) (hl : ds.length = ar) (hp : pre (dats ds)) (hP : ∀ d, post (dats ds) d → P d)
    (hW : ∀ cls σ I2 H2 n, Wd c I2 H2 n → n ≤ NMAX → EnvR c I2 H2 σ ρ → xr (dats ds) cls → W cls none σ H2) : Ev c (tCallS (spX c.K ar pre post xr) (WE W) tr) ρ 0 P := fun σ I H n Q w e l k =>
  ha σ I H n _ w e l fun vs es I2 H2 g2 w2 r2 p2 => by
    subst p2
    have hb : ∀ {I3 H3 : Hp}, Gx none I2 H2 I3 H3 → ∀ p, c.b = some p → BAt c.B H3 p (n + 0) := fun {I3 H3} g3 p e => by
      obtain ⟨x, hh, rr⟩ := (w2.bg p e).2.2
      exact ⟨x, g3.hh p _ (fun z => nomatch z) hh, rr⟩
    refine ⟨I2, dats ds, by rw [Paired.len r2, dats, List.length_map]; exact hl, args_none r2, w2.ih, hp, fun v d I3 H3 g3 ih3 r3 p3 => ?_, fun cls I3 H3 g3 ih3 q => ?_⟩
    · exact k v d I3 H3 (g2.trans g3.anyb) (w2.go g3.anyb ih3 (hb g3)) r3 (hP d p3)
    · exact hW cls σ I3 H3 n (w2.go (C := 0) g3.anyb ih3 (hb g3)) (by omega) (e.go (g2.trans g3.anyb)) q
theorem bk_raise {C : Addr} (h : ∀ σ I H n, Wd c I H n → EnvR c I H σ ρ → W (.ref C) none σ H) : Bk c (fun _ σ H => (fun (_ : L2.St) (H : Hp) (Q : XK) => Q (Value.ref C) none H) σ H fun cls d H' => W cls d σ H') ρ C0 O := fun σ I H n D w e l k1 k2 k3 k4 => h σ I H n w e
end
/-! ### the exception that a suite holds -/
/-- isinstance(e, (C, D, ..)) -/
def rIsET (K : PySem.W.Frag) (D a : Addr) : List V → Hp → VK → Prop := fun xs H Q => ∃ (tp : Addr) (cs : List V) (us : List Value) (b : Bool), xs = [.ref a, .ref tp] ∧ H tp = some (.tup cs) ∧ Paired ClsV cs us ∧ PySem.W.kitAny K (.ref D) us = some b ∧ Q (.bl b) H
theorem call_isET {X : Cx} {a D : Addr} {oe : Obj} {pn : List (Addr × Obj)} (C : ExcC X.K D) (hz : Zc (.ref D) none oe) (hf : ∃ vs, oe.data = .fields vs) : CallR (X.suite a ((a, oe) :: pn)) (.builtin "isinstance") (rIsET X.K D a) := by
  intro pins s σ H xs us Q I r h
  obtain ⟨tp, cs, ws, b, rfl, hT, k, e, q⟩ := h
  obtain ⟨u1, u2, rfl, r1, r2⟩ := vals2 r
  cases (show u1 = Value.ref a from r1)
  cases (show u2 = Value.ref tp from r2)
  obtain ⟨hget, _⟩ := I.pin (a, oe) (List.mem_append.mpr (.inl List.mem_cons_self))
  obtain ⟨vs, hv⟩ := hf
  have J : PySem.W.InstAt s.heap a oe D none := by
    obtain ⟨oc, od, oda, osl⟩ := oe
    obtain ⟨h1, h2⟩ := hz
    dsimp only at h1 h2 hv
    subst h1 h2 hv
    exact ⟨hget, rfl, rfl, trivial⟩
  obtain ⟨_, its, rv, o, h1, h2, n, h3⟩ := (show ObjOk X.prog X.w H s.heap tp (.tup cs) from I.hok tp _ hT)
  have e3 := ClsV.all k rv
  subst e3
  obtain ⟨oc, od, dt, sl⟩ := o
  simp only at h2 h3
  subst h2 h3
  exact PySem.W.kia_tup (PySem.W.handS_kitx_exc C.hg C.hk C.hs C.hd C.ha C.hn C.ht C.hm) I.kIn J h1 e (fun z => nomatch z) fun tk => ⟨.bl b, H, I.kept (t' := tk) fun _ _ z => z, rfl, q⟩
/-- xs.count(y), flat items -/
def rCntF (K : PySem.W.Frag) : V → List V → Hp → VK → Prop := fun x xs H Q => ∃ (p : Addr) (ys : List V) (y : V), x = .ref p ∧ xs = [y] ∧ SqL K H p ys ∧ flatV y = true ∧ ys.all flatV = true ∧ Q (.int (ys.countP fun z => eqV z y : Nat)) H
theorem count_eqU {x : V} : ∀ {xs : List V} {us : List Value}, Vals xs us → xs.all flatV = true → us.countP (eqU x) = xs.countP fun y => eqV y x
  | _, _, .nil, _ => rfl
  | y :: xs, u :: us, .cons r t, f => by
    rw [List.all_cons, Bool.and_eq_true] at f
    rw [List.countP_cons, List.countP_cons, eqU_of r f.1, count_eqU t f.2]
theorem mt_countF {X : Cx} : MtR X "list.count" (rCntF X.K) := by
  intro pins s σ H x xs v us Q I rx rxs h
  obtain ⟨p, ys, y, rfl, rfl, hs, fy, fys, q⟩ := h
  cases rx
  obtain ⟨u, rfl, ru⟩ := rxs.one
  obtain ⟨its, rv, ⟨⟨cls, dd, data, sl⟩, n, ho, hc, hdn, hd⟩, hlen⟩ := I.list hs
  simp only at hc hd
  subst hc hd
  refine call_meets PySem.F.slot_list_count ⟨_, ho, rfl⟩ PySem.F.entry_list_count (PySem.F.args_list_count_2 _ _)
    (SeqAt.list_countAt p its.toArray n dd sl u (eqU y)) ⟨ho, fun z hz => mem_eqAt ru fy rv fys z (by simpa using hz), ?_⟩
  refine ⟨.int (ys.countP fun z => eqV z y : Nat), H, I.tok _, ⟨s.toks, ?_⟩, q⟩
  show Value.int ((its.toArray.toList.countP (eqU y) : Nat) : Int) s.toks = _
  rw [List.toList_toArray, count_eqU rv fys]
def rIsX (K : PySem.W.Frag) (cls : Value) (d : Option Addr) (a : Addr) : List V → Hp → VK → Prop := fun xs H Q => ∃ D, cls = .ref D ∧ d = none ∧ ExcC K D ∧ (rIsE K D a xs H Q ∨ rIsET K D a xs H Q)
theorem call_isX {X : Cx} {a : Addr} {cls : Value} {d : Option Addr} {oe : Obj} {pn : List (Addr × Obj)} (hz : Zc cls d oe) (hf : ∃ vs, oe.data = .fields vs) : CallR (X.suite a ((a, oe) :: pn)) (.builtin "isinstance") (rIsX X.K cls d a) := by
  intro pins s σ H xs us Q I r ⟨D, e1, e2, C, h⟩
  subst e1 e2
  rcases h with h | h
  · exact call_isE C hz hf pins s σ H xs us Q I r h
  · exact call_isET C hz hf pins s σ H xs us Q I r h
section
variable {c : Ctx} {ρ : List Ent} {te : TE} {r : TS} {C C1 C2 : Nat} {O : Out}
theorem bk_doP {Pp : Prop} (ha : Ev c te ρ C1 (fun _ => Pp)) (h : Pp → Bk c r ρ C2 O) (hC : C1 + C2 ≤ C) : Bk c (tSeq (tDrop te) r) ρ C O :=
  bk_seq (N := fun ρ' => ρ' = ρ ∧ Pp) (fun σ I H n D w e l k1 k2 k3 k4 => ha σ I H n _ w e l fun v d I2 H2 g2 w2 r2 p2 => k1 σ ρ I2 H2 g2.ii w2 (e.go g2) ⟨rfl, p2⟩) (fun ρ' ⟨e, p⟩ => by subst e; exact h p) hC
theorem bk_dropP {Pp : Prop} (ha : Ev c te ρ C (fun _ => Pp)) (h : Pp → O.nx ρ) : Bk c (tDrop te) ρ C O := fun σ I H n D w e l k1 k2 k3 k4 => ha σ I H n _ w e l fun v d I2 H2 g2 w2 r2 p2 => k1 σ ρ I2 H2 g2.ii w2 (e.go g2) (h p2)
end
/-! ### try -/
theorem EnvR.ctx {K : PySem.W.Frag} {H1 I1 H2 I2 I H : Hp} {σ : Sl} {ρ : List Ent} (h : EnvR ⟨K, none, H1, I1, bagB⟩ I H σ ρ) (no : ∀ (j : Nat) (e : Ent), ρ[j]? = some e → e.plain) : EnvR ⟨K, none, H2, I2, bagB⟩ I H σ ρ := by
  refine ⟨?_, fun i j p ds es h1 _ _ _ => (no i _ h1).elim⟩
  have gen : ∀ (σ : Sl) (ρ : List Ent), Paired (EntR ⟨K, none, H1, I1, bagB⟩ I H) σ ρ → (∀ (j : Nat) (e : Ent), ρ[j]? = some e → e.plain) → Paired (EntR ⟨K, none, H2, I2, bagB⟩ I H) σ ρ := by
    intro σ ρ h
    induction h with
    | nil => exact fun _ => .nil
    | @cons a b l m x r ih =>
      intro no
      refine .cons ?_ (ih fun j ds e => no (j + 1) ds (by simpa using e))
      cases b with
      | any => cases a <;> exact True.intro
      | dat d => cases a with
        | none => exact x
        | some v => exact x
      | bag | memo _ => cases a with
        | none => exact x
        | some v => exact x
      | raw u => cases a with
        | none => exact x
        | some v => exact x
      | scr ns => cases a with
        | none => exact x
        | some v => exact x
      | own ds => exact (no 0 _ rfl).elim
      | mu M => exact (no 0 _ rfl).elim
  exact gen σ ρ h.st no
def tTry (K : PySem.W.Frag) (cv : Value) (i : Nat) (ts : Addr → Value → Option Addr → TS) (Wout : WX) (tb : WX → TS) : TS := fun D σ H => tb (wAs K cv i ts Wout D) D σ H
theorem bk_try {K : PySem.W.Frag} {H0 I0 : Hp} {ρ : List Ent} {i : Nat} {cv : Value} {tb : WX → TS} {ts : Addr → Value → Option Addr → TS} {Wout : WX} {N : List Ent → Prop} {R : PyData → Prop} {Px : Value → Prop} (no : ∀ (j : Nat) (e : Ent), ρ[j]? = some e → e.plain) (ho : ∀ ρ', N ρ' → ∀ (j : Nat) (e : Ent), ρ'[j]? = some e → e.plain)
    (hb : ∀ (H1 I1 : Hp) (W : WX), (∀ cls σ I H n, Wd ⟨K, none, H1, I1, bagB⟩ I H n → n ≤ NMAX → EnvR ⟨K, none, H1, I1, bagB⟩ I H σ ρ → Px cls → W cls none σ H) → Bk ⟨K, none, H1, I1, bagB⟩ (tb W) ρ 0 { nx := N, rt := R })
    (hs : ∀ (H1 I1 : Hp) cls a, Px cls → PySem.W.exmOne K cls cv = some true ∧ Bk ⟨K, none, H1, I1, bagB⟩ (ts a cls none) (ρ.set i (.raw (.ref a))) 0 { nx := fun ρ' => N (ρ'.set i .any), rt := R }) :
    Bk ⟨K, none, H0, I0, bagB⟩ (tTry K cv i ts Wout tb) ρ 0 { nx := N, rt := R } := fun σ I H n D w e l k1 k2 k3 k4 => by
  have w1 : Wd ⟨K, none, H, I, bagB⟩ I H 0 := ⟨w.ih, Same.refl _, fun _ _ _ h => h, fun _ _ => rfl, fun _ z => nomatch z⟩
  have back : ∀ {I' H' : Hp} {m : Nat}, Wd ⟨K, none, H, I, bagB⟩ I' H' m → Wd ⟨K, none, H0, I0, bagB⟩ I' H' (n + 0) := fun {I' H' m} w' => w.go (C := 0) w'.gx0 w'.ih (fun p z => nomatch z)
  refine hb H I (wAs K cv i ts Wout D) (fun cls σ' I' H' n' w' l' e' px => ?_) σ I H 0 D w1 (e.ctx no) (Nat.zero_le _) (fun σ2 ρ2 I2 H2 s2 w2 e2 p2 => k1 σ2 ρ2 I2 H2 s2 (back w2) (e2.ctx (ho ρ2 p2)) p2) (fun v d I2 H2 s2 w2 r p => k2 v d I2 H2 s2 (back w2) r ⟨p.1, fun z => nomatch z⟩) (fun _ _ _ _ _ _ _ z => z.elim) (fun _ _ _ _ _ _ _ z => z.elim)
  refine ⟨true, (hs H I cls 0 px).1, fun _ a _ => ?_, fun z => nomatch z⟩
  refine (hs H I cls a px).2 (σ'.set i (some (.ref a))) I' H' n' _ w' (e'.set i (o := some (.ref a)) (e := .raw (.ref a)) rfl (fun _ z => nomatch z)) l' (fun σ2 ρ2 I2 H2 s2 w2 e2 p2 => ?_) (fun v d I2 H2 s2 w2 r p => k2 v d I2 H2 w2.i0 (back w2) r ⟨p.1, fun z => nomatch z⟩) (fun _ _ _ _ _ _ _ z => z.elim) (fun _ _ _ _ _ _ _ z => z.elim)
  exact k1 (σ2.set i none) (ρ2.set i .any) I2 H2 w2.i0 (back w2) ((e2.set i (o := none) (e := .any) True.intro (fun _ z => nomatch z)).ctx (ho _ p2)) p2
section
variable {c : Ctx} {ρ : List Ent} {ta : TE} {i : Nat} {a D : Addr} {b : Bool}
theorem raw_at (h : ρ[i]? = some (.raw (.ref a))) {I H : Hp} {σ : Sl} (e : EnvR c I H σ ρ) : σ[i]? = some (some (V.ref a)) := by
  obtain ⟨o, h1, h2⟩ := Paired.getP e.st h
  cases o with
  | none => exact h2.elim
  | some v => rw [h1, show v = V.ref a from h2]
theorem pv_isX1 {cV : V} {cv : Value} (h : ρ[i]? = some (.raw (.ref a))) (E : ExcC c.K D) (hc : ∀ u, RelV cV u → u = cv) (hk : PySem.W.kitOne c.K (.ref D) cv = some b) : Pv c (tCB (rIsX c.K (.ref D) none a) (tCons (tVar i) (tCons (tC cV) tNil))) ρ (.bool b) := fun σ I H n Q w e l k =>
  ⟨.ref a, raw_at h e, D, rfl, rfl, E, .inl ⟨cV, cv, b, rfl, hc, hk, k _ _ I H Gx.refl w (.bl _) rfl⟩⟩
theorem pv_isX6 {c1 c2 c3 c4 c5 c6 : Addr} (h : ρ[i]? = some (.raw (.ref a))) (E : ExcC c.K D) (hk : PySem.W.kitAny c.K (.ref D) [.ref c1, .ref c2, .ref c3, .ref c4, .ref c5, .ref c6] = some b) :
    Pv c (tCB (rIsX c.K (.ref D) none a) (tCons (tVar i) (tCons (tTup (tCons (tC (.ref c1)) (tCons (tC (.ref c2)) (tCons (tC (.ref c3)) (tCons (tC (.ref c4)) (tCons (tC (.ref c5)) (tCons (tC (.ref c6)) tNil))))))) tNil))) ρ (.bool b) := fun σ I H n Q w e l k => by
  refine ⟨.ref a, raw_at h e, by show 6 ≤ sizeLine; decide, fun p np => ⟨D, rfl, rfl, E, .inr ⟨p, _, _, b, rfl, upd_same, .cons (.own _) (.cons (.own _) (.cons (.own _) (.cons (.own _) (.cons (.own _) (.cons (.own _) .nil))))), hk, ?_⟩⟩⟩
  have g := lost_go (b := c.b) (I := I) (o := .tup [V.ref c1, V.ref c2, V.ref c3, V.ref c4, V.ref c5, V.ref c6]) np
  refine k _ _ I _ g (w.go (C := 0) g (fun q o z => ?_) fun q z => ?_) (.bl _) rfl
  · rw [upd_ne (ne_of_none (w.ih q o z) np)]; exact w.ih q o z
  · obtain ⟨x, hh, rr⟩ := (w.bg q z).2.2
    exact ⟨x, by rw [upd_ne (ne_of_none hh np)]; exact hh, rr⟩
end
section
variable {c : Ctx} {ρ : List Ent} {ta : TE}
theorem flat_bools : ∀ {bs : List Bool} {K : PySem.W.Frag} {I : Hp} {vs : List V}, RpAll K I vs (bs.map .bool) → vs = bs.map V.bl
  | [], _, _, _, .nil => rfl
  | b :: bs, _, _, _, .cons h r => by rw [h.bl_inv, flat_bools r]; rfl
theorem all_flat : ∀ bs : List Bool, (bs.map V.bl).all flatV = true
  | [] => rfl
  | b :: bs => by rw [List.map_cons, List.all_cons, all_flat bs]; rfl
/-- how many are True -/
theorem pv_countB {bs : List Bool} (ha : Pv c ta ρ (.list (bs.map .bool))) : Pv c (tBM c.K "list" (rCntF c.K) ta (tCons (tC (.bl true)) tNil)) ρ (.int (bs.countP id : Nat)) := fun σ I H n Q w e l k =>
  ha σ I H n _ w e l fun v d I2 H2 g2 w2 r2 p2 => by
    subst p2
    obtain ⟨a, xs, rfl, h1, q1⟩ := r2.lst_inv
    have ex := flat_bools q1
    subst ex
    refine ⟨.inl ⟨rfl, _, SqL.of (w2.ih _ _ h1)⟩, a, bs.map V.bl, .bl true, rfl, rfl, SqL.of (w2.ih _ _ h1), rfl, all_flat bs, ?_⟩
    have ec : ((bs.map V.bl).countP fun z => eqV z (.bl true)) = bs.countP id := by
      rw [List.countP_map]
      exact List.countP_congr fun b _ => by cases b <;> simp [eqV]
    rw [ec]
    exact k _ _ I2 H2 g2 w2 (.int _) rfl
/-- the place of the first True -/
theorem pv_indexB {bs : List Bool} {j : Nat} (ha : Pv c ta ρ (.list (bs.map .bool))) (hj : bs[j]? = some true) (hm : ∀ m, m < j → bs[m]? = some false) : Pv c (tBM c.K "list" (rIndex c.K) ta (tCons (tC (.bl true)) tNil)) ρ (.int j) := fun σ I H n Q w e l k =>
  ha σ I H n _ w e l fun v d I2 H2 g2 w2 r2 p2 => by
    subst p2
    obtain ⟨a, xs, rfl, h1, q1⟩ := r2.lst_inv
    have ex := flat_bools q1
    subst ex
    refine ⟨.inl ⟨rfl, _, SqL.of (w2.ih _ _ h1)⟩, a, bs.map V.bl, .bl true, j, .bl true, rfl, rfl, SqL.of (w2.ih _ _ h1), rfl, all_flat bs, by rw [List.getElem?_map, hj]; rfl, rfl, fun m z' hm' hz => ?_, k _ _ I2 H2 g2 w2 (.int _) rfl⟩
    rw [List.getElem?_map, hm m hm'] at hz
    cases hz
    rfl
end
theorem mt_countK {X : Cx} {K : PySem.W.Frag} (e : X.K = K) : MtR X "list.count" (rCntF K) := by subst e; exact mt_countF
theorem mt_indexK {X : Cx} {K : PySem.W.Frag} (e : X.K = K) : MtR X "list.index" (rIndex K) := by subst e; exact mt_index
theorem pe_bmK {X : Cx} {K : PySem.W.Frag} {T id : String} {name : Str} {r : V → List V → Hp → VK → Prop} {o e : Expr} {es : List Expr} {to : TE} {t : TA} {apos cpos : Pos} (hK : X.K = K) (pa : PlainAttrs T) (slot : Slot T name id) (hty : typeOf (.builtin id) = pure (.type "method_descriptor")) (hm : MtR X id r) (ho : PE X o to) (ha : PA X (e :: es) t)
    (hbase : attributeBase o name X.env (eval o X.env) = eval o X.env := by rfl)
    (hfew : ((backTo cpos (starEach (e :: es) X.env)).all (fun x => !x.1) && (backToKw cpos (keywordEach [] X.env)).all (fun x => x.1.isSome)
      && decide ((e :: es).length + ([] : List Keyword).length + (if ([] : List Keyword).isEmpty then 0 else 1) < 30)) = true := by rfl)
    (hline : (apos.endLine == cpos.line) = true := by rfl) (hs : starEach (e :: es) X.env = (false, eval e X.env) :: starEach es X.env := by rfl) (hplain : (backTo cpos (starEach es X.env)).any (·.1) = false := by rfl) :
    PE X (.Call (.Attribute o name apos) (e :: es) [] cpos) (tBM K T r to t) := by
  subst hK
  exact pe_bm pa slot hty hm ho ha hbase hfew hline hs hplain
theorem ps_tryK {X : Cx} {K : PySem.W.Frag} {x n : Str} {c : Value} {i : Nat} {body suite : List Stmt} {b₀ : Stmt} {np pos pos' : Pos} {tb : WX → TS} {ts : Addr → Value → Option Addr → TS} {Wout : WX} (hK : X.K = K) (hs : X.stack = X.env :: X.outer) (hf : X.env.frame = some X.env.locals) (hN : X.N.Nodup) (hi : X.N[i]? = some n) (hln : X.env.kindOf n = some .local) (hc : Names X x c) (tk : Takes X Wout)
    (hb : ∀ (W : WX) (pn : List (Addr × Obj)) (xe : Value → Shared → Prop), Takes (X.tr pn xe) W → PassesOwn (model X.prog X.w) X.A X.env xe → PSs (X.tr pn xe) body (tb W))
    (hsu : ∀ (a : Addr) (oe : Obj) (cls : Value) (d : Option Addr) (pn : List (Addr × Obj)), Zc cls d oe → (∃ vs, oe.data = .fields vs) → PSs (X.suite a ((a, oe) :: pn)) (b₀ :: suite) (ts a cls d)) :
    PS X (.Try body [.ExceptHandler (some (.Name x np)) (some n) (b₀ :: suite) pos'] [] [] pos) (tTry K c i ts Wout tb) := by
  subst hK
  exact ps_try_as hs hf hN hi hln hc tk hb hsu
/-! ### xs[k] = v on an own list -/
theorem RpAll.setAt {K : PySem.W.Frag} {I : Hp} {v : V} {d : PyData} (h : Rp K I v d) : ∀ {xs : List V} {ds : List PyData} (k : Nat), RpAll K I xs ds → RpAll K I (xs.set k v) (ds.set k d)
  | _, _, _, .nil => .nil
  | _, _, 0, .cons _ r => .cons h r
  | _, _, k + 1, .cons a r => .cons a (RpAll.setAt h k r)
section
variable {c : Ctx} {ρ : List Ent} {te ti : TE} {C : Nat} {P : PyData → Prop} {O : Out}
theorem own_env2 {I H : Hp} {σ : Sl} {p : Addr} {vs : List V} {ds : List PyData} {n : Nat} (i : Nat) (w : Wd c I H n) (e : EnvR c I H σ ρ) (hL : ∀ o, H p = some o → ∃ ys, o = .lst ys) (d0 : c.H0 p = none) (dI : I p = none) (db : some p ≠ c.b) (nod : ∀ (j : Nat) (ds : List PyData), ρ[j]? = some (Ent.own ds) → σ[j]? ≠ some (some (V.ref p))) (r : RpAll c.K I vs ds) :
    Wd c I (upd H p (.lst vs)) n ∧ EnvR c I (upd H p (.lst vs)) (σ.set i (some (.ref p))) (ρ.set i (.own ds)) := by
  refine ⟨w.own d0 dI db, ?_⟩
  have e3 : EnvR c I (upd H p (.lst vs)) σ ρ := e.own (e.noM hL) nod
  refine ⟨Paired.setP (show EntR c I (upd H p (.lst vs)) (some (.ref p)) (.own ds) from ⟨p, vs, rfl, upd_same, d0, db, dI, r⟩) i e3.st, fun j k q as bs h1 h2 h3 h4 => ?_⟩
  have key : ∀ (j : Nat) (as : List PyData), (ρ.set i (.own ds))[j]? = some (.own as) → (σ.set i (some (V.ref p)))[j]? = some (some (V.ref q)) → (j = i ∧ q = p) ∨ (j ≠ i ∧ q ≠ p ∧ ρ[j]? = some (.own as) ∧ σ[j]? = some (some (V.ref q))) := fun j as h1 h2 => by
    by_cases z : j = i
    · subst z
      left
      rw [List.getElem?_set_self'] at h2
      cases q2 : σ[j]? with
      | none => rw [q2] at h2; cases h2
      | some o => rw [q2] at h2; cases h2; exact ⟨rfl, rfl⟩
    · right
      rw [List.getElem?_set_ne (Ne.symm z)] at h1 h2
      exact ⟨z, fun zz => nod j as h1 (by rw [← zz]; exact h2), h1, h2⟩
  rcases key j as h1 h3 with ⟨a1, a2⟩ | ⟨a1, a2, a3, a4⟩
  · rcases key k bs h2 h4 with ⟨b1, b2⟩ | ⟨b1, b2, b3, b4⟩
    · rw [a1, b1]
    · exact absurd a2 b2
  · rcases key k bs h2 h4 with ⟨b1, b2⟩ | ⟨b1, b2, b3, b4⟩
    · exact absurd b2 a2
    · exact e.ap j k q as bs a3 b3 a4 b4
theorem bk_setOwn {i kk : Nat} {ds : List PyData} (hi : ρ[i]? = some (.own ds)) (hk : kk < ds.length) (ha : Ev c te ρ C P) (hix : Pv c ti ρ (.int kk)) (hn : ∀ d, P d → O.nx (ρ.set i (.own (ds.set kk d)))) : Bk c (tAsg te (gSub (tVar i) ti rSetL)) ρ C O := fun σ I H n D w e l k1 k2 k3 k4 =>
  ha σ I H n _ w e l fun v d I2 H2 g2 w2 r2 p2 => by
    have e2 := e.go g2
    obtain ⟨o, h1, h2⟩ := Paired.getP e2.st hi
    cases o with
    | none => exact h2.elim
    | some u =>
      obtain ⟨p, xs, rfl, a1, a2, a3, a4, a5⟩ := h2
      refine ⟨.ref p, h1, hix σ I2 H2 _ _ w2 e2 (by omega) fun y d3 I3 H3 g3 w3 r3 p3 => ?_⟩
      subst p3
      obtain rfl := r3.int_inv
      have hp3 : H3 p = some (.lst xs) := g3.hh _ _ a3 a1
      have ip3 : I3 p = none := by rw [g3.nw p (by rw [a1]; exact fun z => nomatch z)]; exact a4
      have hlx : xs.length = ds.length := a5.length
      refine ⟨p, xs, kk, kk, rfl, rfl, hp3, by unfold ixN; rw [if_pos (by omega), if_pos (by omega)]; rfl, ?_⟩
      have e3 := e2.go g3
      have hσ : σ.set i (some (V.ref p)) = σ := by
        apply List.ext_getElem?
        intro j
        by_cases z : i = j
        · subst z
          rw [List.getElem?_set_self', h1]
          rfl
        · rw [List.getElem?_set_ne z]
      have e3' : EnvR c I3 H3 σ (ρ.set i .any) := by
        have q := e3.set i (o := some (V.ref p)) (e := .any) True.intro (fun _ z => nomatch z)
        rwa [hσ] at q
      have nod : ∀ (j : Nat) (es : List PyData), (ρ.set i Ent.any)[j]? = some (Ent.own es) → σ[j]? ≠ some (some (V.ref p)) := fun j es hj hz => by
        by_cases z : i = j
        · subst z
          rw [List.getElem?_set_self'] at hj
          cases q : ρ[i]? with
          | none => rw [q] at hj; cases hj
          | some o => rw [q] at hj; cases hj
        · rw [List.getElem?_set_ne z] at hj
          exact z (e.ap i j p ds es hi hj h1 hz)
      obtain ⟨w4, e4⟩ := own_env2 i w3 e3' (isL_of hp3) a2 ip3 a3 nod (RpAll.setAt (r2.mono g3.ii) kk (a5.mono g3.ii))
      rw [hσ, List.set_set] at e4
      exact k1 σ _ I3 _ (g2.trans g3).ii (w4.bgN (by omega)) e4 (hn d p2)
end
/-! ### repr of a list that may hold {} -/
/-- the table of modules is known to be none of one's own lists -/
def Fz (H : Hp) : Prop := ∃ o u, H sysModules = some (.frz o u)
theorem Fz.ne {H : Hp} (hS : Fz H) {a : Addr} {xs : List V} (h : H a = some (.lst xs)) : a ≠ sysModules := fun z => by
  subst z
  obtain ⟨o, u, e⟩ := hS
  rw [h] at e
  cases e
section
variable {X : Cx} {pins : List (Addr × Obj)} {σ : Sl} {H : Hp} {s : Shared}
mutual
theorem Rp.readsM (I : Inv X pins σ H s) (hS : Fz H) : ∀ {d : PyData} {v : V} {u : Value}, goodS d = true → Rp X.K H v d → RelV v u → ∃ as, Reads s.heap u d as ∧ sysModules ∉ as
  | .none, _, _, _, .non, r => by cases r; exact ⟨_, .none, by simp⟩
  | .bool _, _, _, _, .bl b, r => by cases r; exact ⟨_, .bool b, by simp⟩
  | .int _, _, _, _, .int i, r => by obtain ⟨t, rfl⟩ := r; exact ⟨_, .int i t, by simp⟩
  | .str _, _, _, _, .str x, r => by obtain ⟨t, rfl⟩ := r; exact ⟨_, .str x t, by simp⟩
  | .list ds, _, _, e, @Rp.lst _ _ a xs _ h rr, r => by
    cases r
    simp only [goodS, Bool.and_eq_true] at e
    obtain ⟨z, its, n, rv, eo⟩ := (show ObjOk X.prog X.w H s.heap a (.lst xs) from I.hok a _ h)
    obtain ⟨as, h1, h2⟩ := RpAll.readsM I hS e.2 rr rv
    have := hS.ne h
    exact ⟨a :: as, .list eo rfl rfl (by simpa using h1), fun hm => (List.mem_cons.mp hm).elim (fun q => this q.symm) h2⟩
  | .tuple ds, _, _, e, @Rp.tup _ _ a xs _ h rr, r => by
    cases r
    simp only [goodS, Bool.and_eq_true, Bool.or_eq_true] at e
    obtain ⟨its, rv, ⟨o, eo, hc, n, hd⟩, _⟩ := I.tuple h
    obtain ⟨as, h1, h2⟩ := RpAll.readsM I hS e.1 rr rv
    exact ⟨as, .tuple eo hc hd (by simpa using h1), h2⟩
  | .dict es, _, _, e, @Rp.dic _ _ a kvs _ h rr, r => by
    obtain ⟨as, h1, _, h2⟩ := Rp.reads I e (.dic h rr) r
    exact ⟨as, h1, h2 rfl⟩
theorem RpAll.readsM (I : Inv X pins σ H s) (hS : Fz H) : ∀ {ds : List PyData} {vs : List V} {us : List Value}, goodSs ds = true → RpAll X.K H vs ds → Vals vs us → ∃ as, ReadsAll s.heap us ds as ∧ sysModules ∉ as
  | [], _, _, _, .nil, .nil => ⟨[], .nil, by simp⟩
  | d :: ds, _, _, e, .cons h rr, .cons r r' => by
    simp only [goodSs, Bool.and_eq_true] at e
    obtain ⟨as, h1, h2⟩ := Rp.readsM I hS e.1 h r
    obtain ⟨bs, h3, h4⟩ := RpAll.readsM I hS e.2 rr r'
    exact ⟨as ++ bs, .cons h1 h3, fun hm => (List.mem_append.mp hm).elim h2 h4⟩
end
def rReprL (K : PySem.W.Frag) : List V → Hp → VK → Prop := fun xs H Q => Fz H ∧ ∃ x ds, xs = [x] ∧ Rp K H x (.list ds) ∧ goodSs ds = true ∧ szDs ds + 2 * ds.length + 3 ≤ 2 ^ 23 ∧ PyData.depth (.list ds) ≤ 60 ∧ Q (.str (PyData.list ds).shown) H
theorem call_reprL {K : PySem.W.Frag} (e : X.K = K) (hu : X.A.units + 64 < cLine) (hc : Calm X.A) : CallR X (.builtin "repr") (rReprL K) := by
  subst e
  intro pins s σ H xs us Q I r h
  obtain ⟨hS, x, ds, rfl, hd, hg, hz, hp, q⟩ := h
  obtain ⟨u, rfl, ru⟩ := r.one
  have h1 := shownAll_sum ds hg
  have h2 := listText_len_le (PyData.shownAll ds)
  rw [shownAll_len] at h2
  have sl : (2 : Nat) ^ 23 ≤ sizeLine := by decide
  have fits : (PyData.list ds).shown.length ≤ sizeLine := by
    simp only [PyData.shown]
    omega
  obtain ⟨a, vs, rfl, h, rr⟩ := hd.lst_inv
  cases ru
  obtain ⟨z, its, n, rv, eo⟩ := (show ObjOk X.prog X.w H s.heap a (.lst vs) from I.hok a _ h)
  obtain ⟨as, k1, k2⟩ := RpAll.readsM I hS hg rr rv
  have nm := hS.ne h
  exact repr_of_reads' (.list eo rfl rfl (by simpa using k1)) (by simpa [PyData.showable] using goods_show ds hg) (fun _ hm => (List.mem_cons.mp hm).elim (fun q => nm q.symm) k2) hc (by omega) (fun _ _ e => e) (fun h' u tk hk => ⟨.str _, H, I.kept hk, ⟨u, rfl⟩, q⟩) fits
end
/-- what a def's ground knows of it -/
def Fc (c : Ctx) : Prop := Fz c.H0 ∧ some sysModules ≠ c.b
theorem Fc.fz {c : Ctx} {I H : Hp} {n : Nat} (f : Fc c) (w : Wd c I H n) : Fz H := by
  obtain ⟨o, u, e⟩ := f.1
  exact ⟨o, u, w.h0 _ _ f.2 e⟩
theorem pv_reprL {c : Ctx} {ρ : List Ent} {ta : TE} {ds : List PyData} (hF : Fc c) (ha : Pv c ta ρ (.list ds)) (hg : goodSs ds = true) (hz : szDs ds + 2 * ds.length + 3 ≤ 2 ^ 23) (hp : PyData.depth (.list ds) ≤ 60) : Pv c (tCB (rReprL c.K) (tCons ta tNil)) ρ (.str (PyData.list ds).shown) := fun σ I H n Q w e l k =>
  ha σ I H n _ w e l fun v d' I2 H2 g2 w2 r2 p2 => by
    subst p2
    exact ⟨hF.fz w2, v, ds, rfl, r2.mono w2.ih, hg, hz, hp, k _ _ I2 H2 g2 w2 (.str _) rfl⟩
/-! ### defs that know it -/
def spS (K : PySem.W.Frag) (ar : Nat) (C : Nat) (pre : List Ent → Prop) (post : List Ent → PyData → Prop) : Sp := fun vs H Q E => Fz H ∧ spD K ar C pre post vs H Q E
theorem fnG_okS {P : Program} {w : World} {K : PySem.W.Frag} {mg : Str → Option Value} {base : Heap} {x qual : Str} {st : Stmt} {f : Addr} {fd : FuncData} {N ps : List Str} {k C : Nat} {pre : List Ent → Prop} {post : List Ent → PyData → Prop} (F : Fun K x qual st f fd) (S : FnScope N ps (defScope st))
    (hbody : ∀ (cdv : Value) (A : Around) (outer : List Env) (s : Shared) (H : Hp) (E : XK), Room k (A.deeper (envOfC qual (defScope st) s.heap.objs.size f cdv)) → Calm (A.deeper (envOfC qual (defScope st) s.heap.objs.size f cdv)) →
      ∃ t, PSs (cxOf CX0 P w K mg base N qual (defScope st) f cdv A outer s H E).nox (defBody st) t ∧ ∀ (b : Option Addr × BInv) (I : Hp) (es : List Ent), Fc ⟨K, b.1, H, I, b.2⟩ → es.length = ps.length → pre es → Bk ⟨K, b.1, H, I, b.2⟩ t (es ++ List.replicate (N.length - es.length) .any) C { nx := fun _ => post es .none, rt := post es }) :
    FnG P w K mg base (k + 1) f fd ps (spS K ps.length C pre post) := by
  refine Fun.okG F S (fun vs H Q E h => ?_) (fun cdv A outer s H vs Q E hr hc h => ?_)
  · obtain ⟨_, b, B, I, n, es, h, _⟩ := h
    exact h
  · obtain ⟨hF, b, B, I, n, es, h1, h2, h3, h4, h5, h6, h7⟩ := h
    obtain ⟨t, ht, hb⟩ := hbody cdv A outer s H E hr hc
    refine ⟨t, ht, ?_⟩
    have hFc : Fc ⟨K, b, H, I, B⟩ := ⟨hF, fun z => by
      obtain ⟨x, hh, hx⟩ := (h4 _ z.symm).2
      obtain ⟨o, u, e⟩ := hF
      rw [hh] at e
      exact B.nf x n hx o u (Option.some.inj e)⟩
    have w0 : Wd ⟨K, b, H, I, B⟩ I H n := ⟨h3, Same.refl _, fun _ _ _ h => h, fun _ _ => rfl, fun p e => ⟨(h4 p e).1, (by
      obtain ⟨x, hh, _⟩ := (h4 p e).2
      show H p ≠ none
      rw [hh]; exact fun z => nomatch z), (h4 p e).2⟩⟩
    have fin : ∀ v d I' H', Same I I' → Wd ⟨K, b, H, I, B⟩ I' H' (n + C) → Rp K I' v d → post es d → Q v H' := fun v d I' H' s w r p => by
      refine h7 v d I' H' ⟨s, fun q o ne e => w.h0 q o ne e, fun q e => w.nw q e, fun q e => ?_⟩ w.ih (fun p e => (w.bg p e).2.2) r p
      by_cases hb : b = some q
      · obtain ⟨_, _, x, h3, _⟩ := w.bg q hb
        rw [h3]; exact fun z => nomatch z
      · cases h : H q with
        | none => exact absurd h e
        | some o => rw [w.h0 q o (fun z => hb z.symm) h]; exact fun z => nomatch z
    exact hb (b, B) I es hFc (by rw [← Paired.len h2]; exact h1) h6 (L2.start N vs) I H n _ w0 (start_env h2) h5 (fun σ' ρ' I' H' s w e p => fin .non .none I' H' s w .non p) (fun v d I' H' s w r p => fin v d I' H' s w r p.1) (fun _ _ _ _ _ _ _ z => z.elim) (fun _ _ _ _ _ _ _ z => z.elim)
section
variable {c : Ctx} {ρ : List Ent} {tr : TA} {P : PyData → Prop} {C C1 C2 : Nat}
theorem ev_callS {ar : Nat} {pre : List Ent → Prop} {post : List Ent → PyData → Prop} {Pe : List Ent → Prop} {E : XK} (hF : Fc c) (ha : Ea c tr ρ C1 Pe) (hp : ∀ es, Pe es → es.length = ar ∧ pre es) (hP : ∀ es d, Pe es → post es d → P d) (hC : C1 + C2 ≤ C) :
    Ev c (tCall (spS c.K ar C2 pre post) [] E tr) ρ C P := fun σ I H n Q w e l k =>
  ha σ I H n _ w e (by omega) fun vs es I2 H2 g2 w2 r2 p2 => by
    rw [List.append_nil]
    obtain ⟨h1, h2⟩ := hp es p2
    refine ⟨hF.fz w2, c.b, c.B, I2, n + C1, es, by rw [Paired.len r2]; exact h1, r2, w2.ih, fun p e => ⟨w2.noB e, (w2.bg p e).2.2⟩, by omega, h2, fun v d I3 H3 g3 ih3 hb r3 p3 => ?_⟩
    exact k v d I3 H3 (g2.trans g3) ((w2.go g3 ih3 hb).bgN (by omega)) r3 (hP _ _ p2 p3)
theorem ev_callBagS {pre : List Ent → Prop} {post : List Ent → PyData → Prop} {E E' : XK} (hF : Fc c) (ha : Ea c tr ρ 0 (fun es => ∃ cell k : Int, es = [.dat (.int cell), .dat (.int k)] ∧ 0 ≤ k ∧ k ≤ 1000)) (hp : pre [.bag]) (hP : ∀ d, post [.bag] d → P d) (hC : C ≤ NMAX) :
    Ev c (tCall (spS c.K 1 C pre post) [] E (tCons (tCall spNew [] E' tr) tNil)) ρ 0 P := fun σ I H n Q w e l kk => by
  refine ha σ I H n _ w e l fun vs es I2 H2 g2 w2 r2 ⟨cell, k, p2, h0, h1⟩ => ?_
  subst p2
  rw [List.append_nil]
  obtain ⟨v1, v2, rfl, q1, q2⟩ := pair2 r2
  have e1 : v1 = .int cell := Rp.int_inv q1
  have e2 : v2 = .int k := Rp.int_inv q2
  subst e1 e2
  refine ⟨I2, cell, k, rfl, h0, h1, w2.ih, fun p x y I2' H2' ga iha np hx hy hy2 => ?_⟩
  have ip := iha.free np
  have s1 : Same H2' (upd H2' p (.lst [.int x, .int y, .int 0])) := fun q o h => by rw [upd_ne (ne_of_none h np)]; exact h
  have hf : Fz (upd H2' p (.lst [.int x, .int y, .int 0])) := by
    obtain ⟨o, u, e⟩ := hF.fz w2
    exact ⟨o, u, s1 _ _ (ga.hh _ _ (fun z => nomatch z) e)⟩
  refine ⟨hf, some p, bagB, I2', 0, [.bag], rfl, .cons ⟨p, rfl, rfl, rfl⟩ .nil, iha.trans s1, fun q hq => ?_, by omega, hp, fun v d I3 H3 g3 ih3 hb r3 p3 => ?_⟩
  · cases hq
    exact ⟨ip, BagAt.bat ⟨x, y, 0, upd_same, hx, hy, hy2, Int.le_refl _, Int.le_refl _⟩⟩
  · have gg : Gx none I2 H2 I3 H3 := by
      refine ga.trans ⟨g3.ii, fun q o _ h => ?_, fun q h => ?_, fun q h => ?_⟩
      · have ne : q ≠ p := ne_of_none h np
        exact g3.hh q o (fun z => ne (Option.some.inj z)) (by rw [upd_ne ne]; exact h)
      · exact g3.nw q (by rw [upd_ne (fun z => h (by rw [z]; exact np))]; exact h)
      · exact g3.th q (by rw [upd_ne (fun z => h (by rw [z]; exact np))]; exact h)
    have gc : Gx c.b I2 H2 I3 H3 := ⟨gg.ii, fun q o _ h => gg.hh q o (fun z => nomatch z) h, gg.nw, gg.th⟩
    refine kk v d I3 H3 (g2.trans gc) (w2.go (C := 0) gc ih3 fun q hq => ?_) r3 (hP d p3)
    obtain ⟨_, _, x', hh, rr⟩ := w2.bg q hq
    exact ⟨x', gg.hh q _ (fun z => nomatch z) hh, rr⟩
end
/-! ### the top -/
theorem topGS {P : Program} {w : World} {K : PySem.W.Frag} {mg mb : Str → Option Value} {k : Nat} {fa a : Addr} {fd : FuncData} {x : Str} {sp : Sp} {s₁ : Shared} {vs : List Value} {ns : List Int}
    (KX : K.In s₁.heap) (hSM : K.lookup sysModules = none) (n1 : s₁.heap.Ns mainGlobals mg) (n2 : s₁.heap.Ns builtinsNs mb) (n3 : ∀ x : Str, x ≠ "__name__" → mb x = bootBuiltins x) (lim : s₁.heap.NoLimit) (gn : s₁.gens = #[])
    (ha : s₁.heap.get? a = some { cls := .type "list", data := .seq vs.toArray }) (hi : IntsAre vs ns) (hl : ns.length ≤ sizeLine) (hr : Room k callerA)
    (F : ∀ base : Heap, K.In base → base.Ns mainGlobals mg → FnG P w K mg base k fa fd [x] sp) (bind : ∀ (s : Shared) (u : Value), BindsTo s fd ⟨[u], []⟩ [(x, u)])
    (n4 : ∃ mm, s₁.heap.Ns sysModules mm) (hsp : ∀ H : Hp, Fz H → SqL K H a (ns.map V.int) → sp [.ref a] H (fun v _ => v = .bl true) fun _ _ _ => False) :
    codeAny (model P w) callerA (.call (.ref fa) ⟨[.ref a], []⟩) (fun r s' => r = .ok (.ret (.bool true)) ∧ OldK s₁.heap s'.heap ∧ s'.os = s₁.os ∧ AllBare s'.gens) s₁ := by
  have rv := vals_ints hi
  have lv := hi.length
  obtain ⟨o1, ho1⟩ : ∃ o1, s₁.heap.get? sysModules = some o1 := by
    obtain ⟨mm, o, es, ep, e, _⟩ := n4
    exact ⟨o, e⟩
  suffices core : ∀ H : Hp, (∀ b, H b = none ∨ ∃ o u, H b = some (.frz o u)) → Fz H → SqL K H a (ns.map V.int) → HOk P w H s₁.heap → (∀ b, H b ≠ none → b = a ∨ b = sysModules) → (H a ≠ none → K.lookup a = none) →
      codeAny (model P w) callerA (.call (.ref fa) ⟨[.ref a], []⟩) (fun r s' => r = .ok (.ret (.bool true)) ∧ OldK s₁.heap s'.heap ∧ s'.os = s₁.os ∧ AllBare s'.gens) s₁ by
    by_cases hk : K.lookup a = none
    · refine core (fun b => if b = a then some (.frz { cls := .type "list", data := .seq vs.toArray } (.lst (ns.map V.int))) else if b = sysModules then some (.frz o1 (.own 0)) else none) ?_ ?_ (Or.inl (Or.inr ⟨_, if_pos rfl⟩)) ?_ ?_ fun _ => hk
      · intro b
        by_cases hb : b = a
        · right; exact ⟨_, _, if_pos hb⟩
        · by_cases hc : b = sysModules
          · right; exact ⟨_, _, (if_neg hb).trans (if_pos hc)⟩
          · left; exact (if_neg hb).trans (if_neg hc)
      · by_cases hb : sysModules = a
        · exact ⟨_, _, if_pos hb⟩
        · exact ⟨_, _, (if_neg hb).trans (if_pos rfl)⟩
      · intro b u z
        by_cases hb : b = a
        · cases (if_pos hb).symm.trans z
          subst hb
          exact ⟨ha, by rw [List.length_map]; exact hl, vs, _, rv, ha⟩
        · by_cases hc : b = sysModules
          · cases ((if_neg hb).trans (if_pos hc)).symm.trans z
            subst hc
            exact ⟨ho1, o1, ho1⟩
          · cases ((if_neg hb).trans (if_neg hc)).symm.trans z
      · intro b z
        by_cases hb : b = a
        · exact .inl hb
        · by_cases hc : b = sysModules
          · exact .inr hc
          · exact absurd ((if_neg hb).trans (if_neg hc)) z
    · obtain ⟨o, ho⟩ := Option.ne_none_iff_exists'.mp hk
      have e := KX a o ho
      rw [ha] at e
      cases e
      have nm : a ≠ sysModules := fun z => by rw [z] at hk; exact hk hSM
      refine core (fun b => if b = sysModules then some (.frz o1 (.own 0)) else none) (fun b => ?_) ⟨_, _, if_pos rfl⟩ (Or.inr ⟨_, vs.toArray, _, ho, rfl, rfl, rfl, ?_, ?_⟩) ?_ (fun b z => ?_) (fun z => absurd (if_neg nm) z)
      · by_cases hc : b = sysModules
        · right; exact ⟨_, _, if_pos hc⟩
        · left; exact if_neg hc
      · rw [List.size_toArray, lv]; exact hl
      · simpa using rv
      · intro b u z
        by_cases hc : b = sysModules
        · cases (if_pos hc).symm.trans z
          subst hc
          exact ⟨ho1, o1, ho1⟩
        · cases (if_neg hc).symm.trans z
      · by_cases hc : b = sysModules
        · exact .inr hc
        · exact absurd (if_neg hc) z
  intro H hO hF hS hok hA hK
  have nodict : ∀ {b : Addr} {o : Obj} {es : Array DictEntry} {ep : Nat}, b ≠ sysModules → s₁.heap.get? b = some o → o.data = .dict es ep → H b = none := by
    intro b o es ep nb e d
    by_cases q : H b = none
    · exact q
    · obtain rfl := (hA b q).resolve_right nb
      rw [ha] at e
      cases e
      have d' : Data.seq vs.toArray _ = Data.dict es ep := d
      cases d'
  have ns' : ∀ {b : Addr} {m : Str → Option Value}, b ≠ sysModules → s₁.heap.Ns b m → (hidT s₁.heap H).Ns b m := by
    rintro b m nb ⟨o, es, ep, e, d, r⟩
    exact ⟨o, es, ep, hidT_get e (nodict nb e d), d, r⟩
  have kb : K.In (hidT s₁.heap H) := by
    intro b o e
    refine hidT_get (KX b o e) ?_
    by_cases q : H b = none
    · exact q
    · rcases hA b q with rfl | rfl
      · rw [hK q] at e
        cases e
      · rw [hSM] at e
        cases e
  have m1 : mainGlobals ≠ sysModules := by decide
  have hM : Mod K mg (hidT s₁.heap H) := by
    obtain ⟨mc, h1, h2⟩ := lim
    exact ⟨kb, ns' m1 n1, ⟨mb, ns' (by decide) n2, n3⟩, mc, ns' (by decide) h1, h2⟩
  have e0 : Env0 P w K mg (hidT s₁.heap H) callerA [] s₁ H := by
    refine ⟨rfl, hM, fun b o e => of_hidT e, Nat.le_of_eq (hidT_size _ _), trivial, ?_, hok, .of_eq gn⟩
    intro b hb
    exact absurd (show b ∈ ([] : List Addr) from hb) List.not_mem_nil
  refine codeAny_mono ((F _ kb (ns' m1 n1)).go callerA [] s₁ H ⟨[.ref a], []⟩ [.ref a] [.ref a] _ _ hr rfl e0 (bind s₁ (.ref a)) (.cons rfl .nil) (hsp H hF hS)) ?_
  intro r s' h
  match r, h with
  | .error e, h => exact False.elim h
  | .ok .next, h => exact False.elim h
  | .ok .brk, h => exact False.elim h
  | .ok .cont, h => exact False.elim h
  | .ok (.ret u), ⟨v, H', os, bare, un, hok', r', q⟩ =>
    have q' : v = .bl true := q
    subst q'
    obtain rfl : u = Value.bool true := r'
    refine ⟨rfl, OldK.of_keep ?_, os, bare⟩
    intro b o e
    cases q : H b with
    | none => exact un.keep b o e q (fun z => List.not_mem_nil z) List.not_mem_nil
    | some u =>
      rcases hO b with z | ⟨ob, xs, z⟩
      · rw [q] at z; cases z
      · have y := un.frzs b ob _ z
        obtain ⟨e1, _⟩ := hok b _ z
        obtain ⟨e2, _⟩ := hok' b _ y
        rw [e] at e1
        cases e1
        exact e2
theorem walkGS {l : PySem.W.OpenLaw} {n k : Nat} {q : Program} {loose : List Str} {XP : (Str → Option Value) → Heap → Prop} {YP : World → Heap → Prop} {d : DefRec} {K : Params → PySem.W.Frag} {sp : World → Sp} {x : Str}
    (hn : l.most = some n) (hz : n ≤ sizeLine) (hdf : d.params.defaults = []) (hr : Room k callerA) (hY : ∀ (w : World) (h : Heap), YP w h → (K w.params).In h) (hi : importsNone q = true) (hSM : ∀ w : World, (K w.params).lookup sysModules = none)
    (F : ∀ (w : World) (mg : Str → Option Value) (fa : Addr) (h : Heap), (K w.params).In h → h.Ns mainGlobals mg → mg d.name = some (.ref fa) →
      ∃ fd : FuncData, (∀ (s : Shared) (u : Value), BindsTo s fd ⟨[u], []⟩ [(x, u)]) ∧ ∀ base : Heap, (K w.params).In base → base.Ns mainGlobals mg → FnG l.prog w (K w.params) mg base k fa fd [x] (sp w))
    (hsp : ∀ (w : World) (H : Hp) (a : Addr) (ns : List Int), ns.length ≤ n → Fz H → SqL (K w.params) H a (ns.map V.int) → sp w [.ref a] H (fun v _ => v = .bl true) fun _ _ _ => False) :
    PySem.W.WalkO q loose XP YP l.row.toRowW d [] (fun f vs => PySem.call f vs) := by
  refine Att.attach_call hn hdf ?_
  intro w s₀ s₁ mg mb fa o pm cd doc a vs ns G Y _ _ _ hmg hobj hints hlen hg
  have KX := hY w _ Y
  obtain ⟨fd, hb, hF⟩ := F w mg fa _ KX G.T.g hmg
  exact topGS KX (hSM w) G.T.g G.T.b G.T.builtins G.T.nolimit hg hobj hints (Nat.le_trans hlen hz) hr hF hb (by obtain ⟨mm, h, _⟩ := (G.T.seer hi).mods; exact ⟨mm, h⟩) fun H hf hS => hsp w H a ns hlen hf hS
abbrev spTopS (K : PySem.W.Frag) : Sp := spS K 1 0 (fun es => ∃ ns : List Int, es = [.scr ns] ∧ ns.length ≤ 63) (fun _ d => d = .bool true)
theorem top_fitsS {K : PySem.W.Frag} {H : Hp} {a : Addr} {ns : List Int} (hl : ns.length ≤ 63) (hF : Fz H) (hS : SqL K H a (ns.map V.int)) : spTopS K [.ref a] H (fun v _ => v = .bl true) fun _ _ _ => False :=
  ⟨hF, none, bagB, H, 0, [.scr ns], rfl, .cons ⟨a, rfl, hS⟩ .nil, Same.refl _, (fun _ h => (nomatch h)), Nat.zero_le _, ⟨ns, rfl, hl⟩, fun v d I2 H2 _ _ _ r e => by subst e; exact r.bl_inv⟩
end Hh

set_option Elab.async false
set_option linter.all false
set_option maxRecDepth 100000
set_option maxHeartbeats 2000000
namespace Hh
set_option autoImplicit false
open PySem PySem.Spec PyProof.Rows L2
/-! ### names: what their signs are -/
def lowC (c : Nat) : Bool := decide (97 ≤ c) && decide (c ≤ 122)
def lowS (x : Str) : Bool := x.cps.toList.all lowC
theorem tbl128 : ∀ c : Fin 128, Unicode.isAlpha c.val = (lowC c.val || (decide (65 ≤ c.val) && decide (c.val ≤ 90))) ∧ Unicode.isLower c.val = lowC c.val ∧ Unicode.isUpper c.val = (decide (65 ≤ c.val) && decide (c.val ≤ 90)) ∧ Unicode.isTitle c.val = false := by decide +kernel
theorem name_signs (x : Str) : (Txt.isascii x && (Txt.isalpha x && Txt.islower x)) = (decide (0 < x.length) && lowS x) := by
  unfold Txt.isascii Txt.isalpha Txt.islower lowS
  have ea : ∀ p : Nat → Bool, x.cps.all p = x.cps.toList.all p := fun p => by simp
  have en : ∀ p : Nat → Bool, x.cps.any p = x.cps.toList.any p := fun p => by simp
  have el : x.length = x.cps.toList.length := by simp [Str.length]
  rw [ea, ea, en, en, el]
  generalize x.cps.toList = l
  rw [Bool.eq_iff_iff]
  simp only [Bool.and_eq_true, List.all_eq_true, List.any_eq_true, Bool.not_eq_true', decide_eq_true_eq, List.any_eq_false, Bool.or_eq_true, not_or, gt_iff_lt]
  constructor
  · rintro ⟨h1, ⟨h2, h3⟩, ⟨_, h5⟩⟩
    refine ⟨h2, fun c hc => ?_⟩
    obtain ⟨t1, t2, t3, t4⟩ := tbl128 ⟨c, h1 c hc⟩
    have q := h3 c hc
    have u := (h5 c hc).1
    simp only at t1 t3
    rw [t1, Bool.or_eq_true] at q
    rw [t3] at u
    rcases q with q | q
    · exact q
    · exact absurd q u
  · rintro ⟨h1, h2⟩
    have lt : ∀ c ∈ l, c < 128 := fun c hc => by
      have := h2 c hc
      simp only [lowC, Bool.and_eq_true, decide_eq_true_eq] at this
      omega
    refine ⟨lt, ⟨h1, fun c hc => ?_⟩, ?_, fun c hc => ?_⟩
    · have t := (tbl128 ⟨c, lt c hc⟩).1
      simp only at t
      rw [t, h2 c hc]; rfl
    · cases l with
      | nil => exact absurd h1 (by decide)
      | cons c r =>
        refine ⟨c, List.mem_cons_self, ?_⟩
        have t := (tbl128 ⟨c, lt c List.mem_cons_self⟩).2.1
        simp only at t
        rw [t]; exact h2 c List.mem_cons_self
    · obtain ⟨t1, t2, t3, t4⟩ := tbl128 ⟨c, lt c hc⟩
      simp only at t3 t4
      rw [t3, t4]
      have := h2 c hc
      simp only [lowC, Bool.and_eq_true, decide_eq_true_eq] at this
      refine ⟨?_, by decide⟩
      simp only [Bool.and_eq_true, decide_eq_true_eq]
      omega
/-- one to eight signs from a to z, and not the word for all -/
def nameB (x : Str) : Bool := decide (1 ≤ x.length) && (decide (x.length ≤ 8) && (lowS x && !decide (x = "public")))
section
variable {c : Ctx} {ρ : List Ent} {te ta tb tc : TE} {C : Nat}
theorem pv_strB {g : Str → Bool} {x : Str} (ha : Pv c ta ρ (.str x)) : Pv c (tM0 (fun x xs H Q => ∃ a, x = .str a ∧ xs = [] ∧ True ∧ Q (.bl (g a)) H) ta) ρ (.bool (g x)) := fun σ I H n Q w e l k =>
  ha σ I H n _ w e l fun v d I2 H2 g2 w2 r2 p2 => by
    subst p2
    obtain rfl := r2.str_inv
    exact ⟨⟨x, rfl⟩, x, rfl, rfl, trivial, k _ _ I2 H2 g2 w2 (.bl _) rfl⟩
theorem RpAll.strs {K : PySem.W.Frag} {I : Hp} : ∀ {ys : List Str} {vs : List V}, RpAll K I vs (ys.map .str) → vs = ys.map V.str
  | [], _, .nil => rfl
  | y :: ys, _, .cons h r => by rw [h.str_inv, RpAll.strs r]; rfl
theorem ev_join {a : Str} {P : List Str → Prop} {R : PyData → Prop} (ha : Pv c ta ρ (.str a)) (hb : Ev c tb ρ C (fun d => ∃ ys : List Str, d = .list (ys.map .str) ∧ P ys)) (hl : ∀ ys, P ys → (ys.map (·.length)).sum + ys.length * a.length ≤ 16777216) (hR : ∀ ys, P ys → R (.str (Txt.join a ys))) :
    Ev c (tM1 (fun x xs H Q => ∃ a p, ∃ ys : List Str, x = .str a ∧ xs = [.ref p] ∧ (SqL c.K H p (ys.map V.str) ∨ SqT c.K H p (ys.map V.str)) ∧ (ys.map (·.length)).sum + ys.length * a.length ≤ 16777216 ∧ Q (.str (Txt.join a ys)) H) ta tb) ρ C R := fun σ I H n Q w e l k =>
  ha σ I H n _ w e (by omega) fun v d I2 H2 g2 w2 r2 p2 => by
    subst p2
    obtain rfl := r2.str_inv
    refine ⟨⟨a, rfl⟩, hb σ I2 H2 n _ w2 (e.go g2) l fun v3 d3 I3 H3 g3 w3 r3 ⟨ys, ed, hy⟩ => ?_⟩
    subst ed
    obtain ⟨p, xs, rfl, h1, q1⟩ := r3.lst_inv
    have ex := q1.strs
    subst ex
    exact ⟨a, p, ys, rfl, rfl, .inl (SqL.of (w3.ih _ _ h1)), hl ys hy, k _ _ I3 H3 (g2.trans g3) w3 (.str _) (hR ys hy)⟩
theorem rd_ixS {z : Str} {i : Int} {ch : Nat} (hz : z.length ≤ sizeLine) (h : atI z.cps.toList i = some ch) : Rd2 c (rIx c.K) (.str z) (.int i) (fun x => x = .str ⟨#[ch]⟩) := fun I H n x y Q w r1 r2 k => by
  obtain rfl := r1.str_inv
  obtain rfl := r2.int_inv
  exact .inr (.inr ⟨z, i, ch, rfl, rfl, hz, h, k _ _ I H Gx.refl w (.str _) rfl⟩)
/-- a sign drawn from a text -/
theorem ev_sign {z : Str} {m : Nat} (ha : Pv c ta ρ (.str z)) (hz : z.length ≤ sizeLine) (hm : z.cps.toList.length = m) (hb : EvI c tb ρ C (fun i => 0 ≤ i ∧ i < m)) : Ev c (tOp (rIx c.K) ta tb) ρ C (fun d => ∃ ch, d = .str ⟨#[ch]⟩ ∧ ch ∈ z.cps.toList) :=
  ev_op (C1 := 0) (C2 := C) ha (P2 := fun _ d => ∃ i : Int, d = .int i ∧ 0 ≤ i ∧ i < m) (fun _ _ => hb) (fun d1 d2 e1 ⟨i, e2, i0, i1⟩ => by
    subst e1 e2
    have hj : i.toNat < z.cps.toList.length := by omega
    have hat : atI z.cps.toList i = some (z.cps.toList[i.toNat]) := by
      have q := atI_nat (xs := z.cps.toList) (j := i.toNat) (List.getElem?_eq_getElem hj)
      rwa [show ((i.toNat : Nat) : Int) = i by omega] at q
    intro I H n x y Q w r1 r2 k
    exact rd_ixS hz hat I H n x y Q w r1 r2 fun v d I2 H2 g w2 r e => k v d I2 H2 g w2 r ⟨_, e, List.getElem_mem hj⟩) (by omega)
theorem rd_notInS {ch : Nat} {z : Str} : Rd2 c rNotInS (.str ⟨#[ch]⟩) (.str z) (fun x => x = .bool (!decide (ch ∈ z.cps.toList))) := fun I H n x y Q w r1 r2 k => by
  obtain rfl := r1.str_inv
  obtain rfl := r2.str_inv
  exact ⟨ch, z, rfl, rfl, k _ _ I H Gx.refl w (.bl _) rfl⟩
end
end Hh

set_option Elab.async false
set_option linter.all false
set_option maxRecDepth 100000
set_option maxHeartbeats 4000000
namespace Hh
set_option autoImplicit false
open PySem PySem.Spec PyProof.Rows L2
section
variable {P : Program} {w : World} {A : Around} {E : Value → Shared → Prop} {s : Shared} {a : Addr}
/-- sorted of a set of hI, however many: gathered, then the list's own order -/
theorem sorted_setN {S : Int → Bool} {n : Nat} {Q : Value → Shared → Prop} (R : SetR w s.heap a S n) (hh : A.handled = none)
    (hQ : ∀ s' p (out : Array Value) (c : Nat) (ns : List Int), (∀ b o, s.heap.get? b = some o → s'.heap.get? b = some o) → s'.gens = s.gens → s'.os = s.os → s.heap.objs.size ≤ p →
      s'.heap.get? p = some (seqObj "list" out c) → IntsAre out.toList ns → ns.Pairwise (· < ·) → (∀ k, k ∈ ns ↔ S k = true) → ns.length = n → Q (.ref p) s') :
    wpAny (model P w) A (call (.builtin "sorted") [.ref a]) Q E s := by
  obtain ⟨o, es, ep, t, ho, hex, hd, g, nd, hm, hb, hf, hn, hr, hl⟩ := R
  refine Calls.call_function_entry kind_sorted plain_sorted entry_sorted (args_sorted1 _) ?_
  unfold Builtin.«sorted»
  refine wpAny_bind (m := checkCount "sorted" 1 1 _) (wpAny_pure ?_)
  refine wpAny_bind (collect_set (A := A.in1) hh ⟨o, ho, hex.1, hd⟩ hf hb hr hl fun s1 vs k1 hz g1 o1 pm => ?_)
  have len : vs.length = n := by rw [pm.length_eq, List.length_map, Array.length_toList]; exact hn
  have fit : vs.length ≤ sizeLine := by rw [len, ← hn]; exact fits_of_scanBound hb
  have hI : IntsAre vs (vs.map Builtin.Re.reRawOf) := ints_of vs fun v hv => by
    obtain ⟨e, he, q⟩ := List.mem_map.mp (pm.mem_iff.mp hv)
    obtain ⟨k, tk, h1, _⟩ := g e he
    exact ⟨k, tk, by rw [← q]; exact h1⟩
  have perm : (vs.map Builtin.Re.reRawOf).Perm (es.toList.map keyOf) := by
    have q := pm.map Builtin.Re.reRawOf
    rw [List.map_map] at q
    exact q
  refine wpAny_bind (wpAny_newList ?_ fit)
  have new : (s1.heap.push (seqObj "list" vs.toArray 0)).get? s1.heap.objs.size = some (seqObj "list" vs.toArray 0) := Heap.get?_push_size _ rfl
  refine wpAny_bind (wpAny_holding (wpAny_call_entry slot_list_sort ⟨_, new, rfl⟩ entry_list_sort (SrtO.list_sort_ord SrtO.swo_int new fit (fun h2 => SrtO.ints_sortable hI h2) fun out hs hb => ⟨_, rfl, ?_⟩) (args_list_sort _)))
  obtain ⟨k1', k2, k3⟩ := SrtO.ints_out hI hs hb
  obtain ⟨c, hc⟩ := sortedHeap_at (vs := vs) (out := out.toArray) new
  have pn : (out.map SrtO.iv).Perm (es.toList.map keyOf) := k2.trans perm
  refine wpAny_pure ⟨_, rfl, hQ _ s1.heap.objs.size out.toArray c (out.map SrtO.iv) (fun b u e => ?_) g1 o1 hz hc (by rw [List.toList_toArray]; exact k1') (lt_of_le_nodup _ k3 (pn.nodup_iff.mpr nd)) (fun k => by rw [pn.mem_iff, ← hm k]) ?_⟩
  · have q := k1 b u e
    have hlt := Heap.lt_size q
    show (sortedHeap (s1.heap.push (seqObj "list" vs.toArray 0)) s1.heap.objs.size vs out.toArray).get? b = some u
    rw [sortedHeap_old (Nat.ne_of_lt hlt) (by rw [size_push']; exact Nat.lt_succ_of_lt hlt)]
    exact Heap.get?_push_of_some _ q
  · rw [pn.length_eq, List.length_map, Array.length_toList]; exact hn
end
end Hh

set_option Elab.async false
set_option linter.all false
set_option maxRecDepth 100000
set_option maxHeartbeats 4000000
namespace Hh
set_option autoImplicit false
open PySem PySem.Spec PyProof.Rows L2
/-! ### set(a list), whatever its items: the update loop is told apart -/
abbrev emS (w : World) : Obj := { cls := .type "set", dict := none, data := .set #[] 0 (.fresh 0 0 (!w.params.followText "set-order")) }
section
variable {P : Program} {w : World} {A : Around} {E : Value → Shared → Prop} {s : Shared}
/-- what a set's update loop is to keep: the set at S becomes Pf -/
def Fills (P : Program) (w : World) (items : Array Value) (Pf : Heap → Addr → Prop) : Prop :=
  ∀ (A2 : Around) (I S : Addr) (fp wr : List Addr) (G : Array GenState → Array GenState → Prop) (St : Nat → Shared → Prop) (R : Result → Shared → Prop) (s2 : Shared),
    WalksS P w A2.in1 I fp wr G items.size (fun i v => items[i]? = some v) St → S ∉ fp → St 0 s2 → s2.heap.get? S = some (emS w) →
    (∀ s', Moved (S :: wr) G s2 s' → Pf s'.heap S → R (.ok (.ret .none)) s') → codeAny (model P w) A2 (.builtin "set.update.loop" ⟨[.ref S, .ref I], []⟩) R s2
set_option maxHeartbeats 3200000 in
theorem call_setL {l : Addr} {items : Array Value} {Pf : Heap → Addr → Prop} {Q : Value → Shared → Prop} (hn : A.handled = none) (hl : s.heap.IsList l items) (hF : Fills P w items Pf)
    (hQ : ∀ (h' : Heap) (tk : Nat), Pf h' s.heap.objs.size → (∀ b o, s.heap.get? b = some o → h'.get? b = some o) → Q (.ref s.heap.objs.size) { s with heap := h', toks := tk }) :
    wpAny (model P w) A (call (.type "set") [.ref l]) Q E s := by
  obtain ⟨mc, mt, hm⟩ := F.called_set.mro
  have g1 := F.called_set.made; have g2 := F.called_set.sub
  refine wpAny_call (codeAny_of_tree ?_)
  show wpAny _ _ (callAny (.type "set") _) _ _ _
  refine wpAny_pure ⟨Code.quiet_builtin _ (by decide +kernel), codeAny_builtin F.entry_type_call ?_⟩; rw [Around.under_plain (weight_type_call_type "set" [.ref l] []) rfl]
  have g3 := F.called_set.notType; have g4 := F.called_set.canCreate
  have g5 := F.typeCall_set_1 (.ref l)
  repeat (any_goals (first | assumption | wp_step))
  refine codeAny_mono (code_set_led1 (.ref l) (E := E) (Q₁ := fun x s₁ => x = .ref s.heap.objs.size ∧ s₁ = { s with heap := s.heap.push (emS w) }) ⟨rfl, rfl⟩) fun r s₁ hr => ?_
  match r, hr with
  | .error e, hr => exact hr
  | .ok (.ret x), hr =>
    obtain ⟨rfl, rfl⟩ := hr
    have at0 : (s.heap.push (emS w)).get? s.heap.objs.size = some (emS w) := Heap.get?_push_size _ rfl
    have ty0 : Shared.TypeIs { s with heap := s.heap.push (emS w) } (.ref s.heap.objs.size) "set" := ⟨_, at0, rfl⟩
    have b1 := F.called_set.init.lookup
    have b2 := F.called_set.init.bind (.ref s.heap.objs.size)
    repeat (any_goals (first | assumption | wp_step))
    refine codeAny_mono (codeAny_call_builtin (R := wants (fun r s₂ => r = .none ∧ ∃ h' tk, s₂ = { s with heap := h', toks := tk } ∧ Pf h' s.heap.objs.size ∧ ∀ b o, s.heap.get? b = some o → h'.get? b = some o) E) F.called_set.init.plain F.entry_set_init (check_set_init_1 ty0 ?_)) fun r₂ s₂ hr₂ => ?_
    · obtain ⟨⟨oc, od, dt, sl⟩, ho, hc, nl, hd⟩ := hl
      simp only at hc hd; subst hc; subst hd
      have ho' : (s.heap.push (emS w)).get? l = some { cls := .type "list", dict := od, data := .seq items nl, slots := sl } := Heap.get?_push_of_some _ ho
      have c1 := F.sub_list_set; have c2 := F.sub_list_frozenset
      have c3 : (Value.type "list" == Value.type "dict") = false := by decide
      have il : (s.heap.push (emS w)).IsList l items := ⟨_, ho', rfl, nl, rfl⟩
      unfold Builtin.«set.__init__» noKeywords Builtin.Frozenset.updateFrom
      generalize hp : pyIter = pI
      wp_walk
      subst hp
      refine wpAny_pyIter_list il ?_
      refine wpAny_bind (wpAny_runValue ?_)
      have lt : l < s.heap.objs.size := Heap.lt_size ho
      have hn3 : A.in1.in1.in1.handled = none := by simp [hn]
      have nI : l ≠ (s.heap.push (emS w)).objs.size := by rw [Heap.size_push]; exact Nat.ne_of_lt (Nat.lt_succ_of_lt lt)
      have nS : s.heap.objs.size ∉ [(s.heap.push (emS w)).objs.size, l] := by
        rw [Heap.size_push]; simp only [List.mem_cons, List.not_mem_nil, or_false, not_or]
        exact ⟨Nat.ne_of_lt (Nat.lt_succ_self _), Nat.ne_of_gt lt⟩
      refine hF _ _ s.heap.objs.size _ _ _ _ _ _ ((Walks.list hn3 _ l nI items).toS) nS ⟨⟨_, Heap.get?_push_size _ rfl, rfl, rfl⟩, (il.push _)⟩ (Heap.get?_push_of_some _ at0) fun s' hm hS' => ?_
      obtain ⟨h', gg, dd, tk', oo⟩ := s'
      have eg : gg = s.gens := hm.gens
      have ed : dd = s.drawn := hm.drawn
      have eo : oo = s.os := hm.os
      subst eg; subst ed; subst eo
      show wpAny _ _ _ _ _ _
      refine wpAny_pure ?_
      show wpAny _ _ (ret Value.none) _ _ _
      refine wpAny_pure ⟨rfl, h', tk', rfl, hS', fun b o e => ?_⟩
      have lb : b < s.heap.objs.size := Heap.lt_size e
      refine hm.heap b o ?_ (Heap.get?_push_of_some _ (Heap.get?_push_of_some _ e))
      simp only [List.mem_cons, List.not_mem_nil, or_false, not_or, Heap.size_push]
      exact ⟨Nat.ne_of_lt lb, Nat.ne_of_lt (Nat.lt_succ_of_lt lb)⟩
    · match r₂, hr₂ with
      | .error e, hr₂ => exact hr₂
      | .ok (.ret r), hr₂ =>
        obtain ⟨rfl, h', tk, rfl, hS', hk⟩ := hr₂
        repeat (any_goals (first | assumption | wp_step))
        exact hQ _ _ hS' hk
      | .ok .next, hr₂ => exact hr₂.elim
      | .ok .brk, hr₂ => exact hr₂.elim
      | .ok .cont, hr₂ => exact hr₂.elim
  | .ok .next, hr => exact hr.elim
  | .ok .brk, hr => exact hr.elim
  | .ok .cont, hr => exact hr.elim
/-! ### ints -/
theorem fills_ints {items : Array Value} {ns : List Int} (hi : IntsAre items.toList ns) (hb : ns.length + 1 < scanBound) : Fills P w items fun h a => ∃ c, c ≤ ns.length ∧ SetR w h a (fun j => decide (j ∈ ns)) c := by
  intro A2 I S fp wr G St R s2 W hS h0 hg hR
  have sz : items.size = ns.length := by
    have q := hi.length
    rwa [Array.length_toList] at q
  refine set_update_ints W S hS ns sz hb (fun i v hv => ?_) (items.size - 0) 0 _ (by omega) (Nat.zero_le _) h0 ⟨0, Nat.le_refl 0, setR_new_at hg⟩ fun s' c hm hc hs => hR s' hm ⟨c, by omega, hs⟩
  have lt : i < ns.length := by rw [← sz]; exact (Array.getElem?_eq_some_iff.mp hv).1
  obtain ⟨t, e⟩ := IntsAre.int_at hi i v (by rw [Array.getElem?_toList]; exact hv)
  refine ⟨ns[i], t, List.getElem?_eq_getElem lt, ?_⟩
  rw [e, List.getD_eq_getElem?_getD, List.getElem?_eq_getElem lt] <;> rfl
/-! ### texts -/
def kOf (e : Int × Value) : Str := match e.2 with
  | .str k _ => k
  | _ => ⟨#[]⟩
def RowS (w : World) (e : Int × Value) : Prop := ∃ k u, e = (hashStr w k, .str k u)
/-- the set of texts at a, its members -/
def SetS (w : World) (h : Heap) (a : Addr) (l : List Str) : Prop :=
  ∃ (o : Obj) (es : Array (Int × Value)) (ep : Nat) (t : SetTable), h.get? a = some o ∧ o.ExactSet ∧ o.data = .set es ep t ∧ (∀ e ∈ es.toList, RowS w e) ∧ (es.toList.map kOf).Perm l ∧ l.Nodup ∧
    es.size < scanBound ∧ t.fits es.size = true ∧ Ris t.place.toList ∧ (w.params.followText "set-order" = true ∨ t.led = true)
theorem SetS.at {h h' : Heap} {a : Addr} {l : List Str} (R : SetS w h a l) (k : ∀ o, h.get? a = some o → h'.get? a = some o) : SetS w h' a l := by
  obtain ⟨o, es, ep, t, ho, r⟩ := R
  exact ⟨o, es, ep, t, k o ho, r⟩
theorem row_is {e : Int × Value} (h : RowS w e) (k : Str) : (strKind P w).is k e.2 = true ↔ kOf e = k := by
  obtain ⟨x, u, rfl⟩ := h
  show ((x == k) = true) ↔ x = k
  exact beq_iff_eq
theorem rows_elems {l : List (Int × Value)} (g : ∀ e ∈ l, RowS w e) : ElemsOf (strKind P w) l := fun e he => by
  obtain ⟨k, u, rfl⟩ := g e he
  exact ⟨⟨k, (row_is (P := P) (w := w) ⟨k, u, rfl⟩ k).2 rfl, rfl⟩, rfl⟩
/-- the last part of an add: the entries are stored, and laid anew where they are too many -/
theorem setS_tail {a : Addr} {g : Bool → Sem Unit} (hg : ∀ (b : Bool) (s₁ : Shared) (Q' : Unit → Shared → Prop), Q' () s₁ → wpAny (model P w) A (g b) Q' E s₁) {o : Obj} {es es1 : Array (Int × Value)} {ep : Nat} {t t2 : SetTable} (ho : s.heap.get? a = some o)
    (hx : o.ExactSet) (hd : o.data = .set es ep t) {l : List Str} (rw1 : ∀ e ∈ es1.toList, RowS w e) (pm1 : (es1.toList.map kOf).Perm l) (nd : l.Nodup) (sb : es1.size < scanBound) (ft : t2.fits es1.size = true) (rs : Ris t2.place.toList)
    (ld : w.params.followText "set-order" = true ∨ t2.led = true) {wd : Bool} {R : Option Bool → Shared → Prop} (hR : ∀ h', Heap.SameBut a s.heap h' → SetS w h' a l → R (some true) { s with heap := h' }) :
    wpAny (model P w) A (do
        storeSet a es1 t2
        if (!wd && t2.tooFull) = true then do
            g (relayAll t2 es1 (SetTable.grown es1.size)).2.2
            storeSet a (relayAll t2 es1 (SetTable.grown es1.size)).1 (relayAll t2 es1 (SetTable.grown es1.size)).2.1
            pure (some true)
          else pure (some true)) R E s := by
  refine wpAny_bind (wpAny_storeSet_of ho hd ?_ (fits_of_scanBound sb))
  have o1 := store_at (es' := es1) (t' := t2) ho hd; have k1 := Heap.SameBut.update s.heap a (Obj.putSet es1 t2)
  split
  · have q1 := relayAll_perm t2 es1 (SetTable.grown es1.size); have q2 := relayAll_fits t2 es1 (SetTable.grown es1.size); have q3 := relayAll_ris t2 es1 (SetTable.grown es1.size); have q4 := relayAll_led t2 es1 (SetTable.grown es1.size)
    generalize relayAll t2 es1 (SetTable.grown es1.size) = Z at q1 q2 q3 q4 ⊢
    obtain ⟨es2, t3, gv⟩ := Z
    dsimp only at q1 q2 q3 q4 ⊢
    have zz : es2.size = es1.size := by rw [← Array.length_toList, q1.length_eq, Array.length_toList]
    refine wpAny_bind (hg _ _ _ ?_)
    refine wpAny_bind (wpAny_storeSet_of o1 rfl ?_ (fits_of_scanBound (by rw [zz]; exact sb)))
    exact wpAny_pure (hR _ (k1.trans (Heap.SameBut.update _ a _)) ⟨_, es2, _, t3, store_at (es' := es2) (t' := t3) o1 rfl, hx, rfl, fun e he => rw1 e (q1.mem_iff.mp he), (q1.map kOf).trans pm1, nd, by rw [zz]; exact sb, q2, q3, ld.imp id fun z => by rw [q4]; exact z⟩)
  · exact wpAny_pure (hR _ k1 ⟨_, es1, _, t2, o1, hx, rfl, rw1, pm1, nd, sb, ft, rs, ld⟩)
theorem setS_put {a : Addr} {l : List Str} {k : Str} {u : Tok} {Q : Bool → Shared → Prop} (R : SetS w s.heap a l) (room : l.length + 1 < scanBound)
    (hQ : ∀ h' b, Heap.SameBut a s.heap h' → SetS w h' a (if k ∈ l then l else k :: l) → Q b { s with heap := h' }) : wpAny (model P w) A (setAddHashed a (.str k u) ((strKind P w).hash k)) Q E s := by
  obtain ⟨o, es, ep, t, ho, hx, hd, hr, pm, nd, sb, ft, rs, ld⟩ := R
  have kis : (strKind P w).is k (.str k u) = true := (row_is (P := P) (w := w) (e := (hashStr w k, .str k u)) ⟨k, u, rfl⟩ k).2 rfl
  have scn : (Value.str k u).scannable = true := rfl
  have elm : ElemsOf (strKind P w) es.toList := rows_elems hr
  have len : es.size = l.length := by rw [← pm.length_eq, List.length_map, Array.length_toList]
  unfold setAddHashed setAddHashedIn
  refine wpAny_holding (wpAny_bind (wpAny_setState_of ho hd ft ?_))
  dsimp only
  rw [byScan_of scn sb elm]
  simp only [↓reduceIte]
  unfold setAddByScan
  refine wpAny_bind ?_
  refine wpAny_bind (wpAny_rule ?_)
  refine wpAny_bind (wpAny_setScan_of kis ho hd ft elm ?_)
  cases hf : List.findIdx? (fun e => (strKind P w).is k e.2) es.toList with
  | some j =>
    dsimp only
    obtain ⟨hj, pj, _⟩ := List.findIdx?_eq_some_iff_getElem.mp hf
    have mem : k ∈ l := pm.mem_iff.mp (List.mem_map.mpr ⟨es.toList[j], List.getElem_mem hj, (row_is (hr _ (List.getElem_mem hj)) k).1 pj⟩)
    have q := hQ s.heap false (Heap.SameBut.refl a s.heap) (by rw [if_pos mem]; exact ⟨o, es, ep, t, ho, hx, hd, hr, pm, nd, sb, ft, rs, ld⟩)
    exact wpAny_pure (wpAny_pure q)
  | none =>
    dsimp only
    have nm : k ∉ l := fun z => by
      obtain ⟨e, he, q⟩ := List.mem_map.mp (pm.mem_iff.mpr z)
      have c := List.findIdx?_eq_none_iff.mp hf e he
      rw [(row_is (hr e he) k).2 q] at c
      cases c
    have gw : ∀ (b : Bool) {s₁ : Shared} {Q' : Unit → Shared → Prop}, Q' () s₁ → wpAny (model P w) A (match b with | true => rule "set.scan.the-table-gave-way" | false => pure ()) Q' E s₁ := fun b s₁ Q' q => by
      cases b
      · exact wpAny_pure q
      · exact wpAny_rule q
    have p1 := layNew_perm t es ((strKind P w).hash k) (.str k u); have p2 := layNew_fits t es ((strKind P w).hash k) (.str k u); have p3 := layNew_ris t es ((strKind P w).hash k) (.str k u) rs; have p4 := layNew_led t es ((strKind P w).hash k) (.str k u)
    generalize layNew t es ((strKind P w).hash k) (.str k u) = Z at p1 p2 p3 p4 ⊢
    obtain ⟨es1, t1, wd, gv⟩ := Z
    dsimp only at p1 p2 p3 p4 ⊢
    rw [Array.toList_push] at p1
    have pc : es1.toList.Perm (((strKind P w).hash k, Value.str k u) :: es.toList) := p1.trans (List.perm_append_singleton _ _)
    have r1 : ∀ e ∈ es1.toList, RowS w e := fun e he => (List.mem_cons.mp (pc.mem_iff.mp he)).elim (fun z => ⟨k, u, z⟩) (hr e)
    have pk : (es1.toList.map kOf).Perm (k :: l) := (pc.map kOf).trans (pm.cons k)
    have n1 : (k :: l).Nodup := List.nodup_cons.mpr ⟨nm, nd⟩
    have zz : es1.size = l.length + 1 := by rw [← Array.length_toList, pc.length_eq, List.length_cons, Array.length_toList, len]
    have b1 : es1.size < scanBound := by rw [zz]; exact room
    have l1 : w.params.followText "set-order" = true ∨ t1.led = true := ld.imp id fun z => by rw [p4]; exact z
    have fin : ∀ h', Heap.SameBut a s.heap h' → SetS w h' a (k :: l) → Q true { s with heap := h' } := fun h' sm r => hQ h' true sm (by rw [if_neg nm]; exact r)
    refine wpAny_bind (gw _ ?_)
    split
    · refine wpAny_bind ?_
      rw [hashByValue_scannable 8 scn]
      refine wpAny_pure ?_
      refine setS_tail ?_ ho hx hd r1 pk n1 b1 ?_ ?_ ?_ ?_
      · intro b s₁ Q' q; exact gw b q
      · first | (split <;> first | exact p2 | exact SetTable.fits_plain_off p2) | exact p2
      · first | (split <;> exact p3) | exact p3
      · first | (split <;> exact l1) | exact l1
      · intro h' sm r; dsimp only; exact wpAny_pure (fin h' sm r)
    · refine wpAny_bind (wpAny_pure ?_)
      simp only [↓reduceIte]
      refine setS_tail ?_ ho hx hd r1 pk n1 b1 p2 p3 l1 ?_
      · intro b s₁ Q' q; exact gw b q
      · intro h' sm r; dsimp only; exact wpAny_pure (fin h' sm r)
/-- the members put in one after another -/
def gath : List Str → List Str → List Str
  | l, [] => l
  | l, x :: r => gath (if x ∈ l then l else x :: l) r
theorem gath_mem {x : Str} : ∀ (xs l : List Str), x ∈ gath l xs ↔ x ∈ l ∨ x ∈ xs
  | [], l => by simp [gath]
  | y :: r, l => by
    rw [gath, gath_mem r]
    by_cases h : y ∈ l
    · rw [if_pos h]
      constructor
      · rintro (q | q)
        · exact .inl q
        · exact .inr (List.mem_cons_of_mem _ q)
      · rintro (q | q)
        · exact .inl q
        · rcases List.mem_cons.mp q with z | z
          · exact .inl (by rw [z]; exact h)
          · exact .inr z
    · rw [if_neg h]
      simp only [List.mem_cons]
      constructor
      · rintro ((q | q) | q)
        · exact .inr (.inl q)
        · exact .inl q
        · exact .inr (.inr q)
      · rintro (q | q | q)
        · exact .inl (.inr q)
        · exact .inl (.inl q)
        · exact .inr q
theorem gath_len : ∀ (xs l : List Str), (gath l xs).length ≤ l.length + xs.length
  | [], l => by simp [gath]
  | y :: r, l => by
    have := gath_len r (if y ∈ l then l else y :: l)
    rw [gath]
    by_cases h : y ∈ l
    · rw [if_pos h] at this ⊢; rw [List.length_cons]; omega
    · rw [if_neg h] at this ⊢; rw [List.length_cons] at this ⊢; omega
theorem gath_snoc (x : Str) : ∀ (xs l : List Str), gath l (xs ++ [x]) = if x ∈ gath l xs then gath l xs else x :: gath l xs
  | [], l => rfl
  | y :: r, l => gath_snoc x r _
theorem fills_strs {items : Array Value} {ss : List Str} (hi : StrsAre items.toList ss) (hb : ss.length + 1 < scanBound) : Fills P w items fun h a => SetS w h a (gath [] ss) := by
  intro A2 I S fp wr G St R s2 W hS h0 hg hR
  have sz : items.size = ss.length := by
    have q := hi.length
    rwa [Array.length_toList] at q
  have hval : ∀ (i : Nat) (v : Value), items[i]? = some v → ∃ k t, ss[i]? = some k ∧ v = Value.str k t := fun (i : Nat) (v : Value) hv => by
    obtain ⟨y, t, e1, e2⟩ := hi.item i v (by rw [Array.getElem?_toList]; exact hv)
    exact ⟨y, t, e2, e1⟩
  have nS : S ∉ wr := fun h => hS (W.sub _ h)
  have sub : ∀ b ∈ wr, b ∈ S :: wr := fun b hb => List.mem_cons_of_mem _ hb
  suffices go : ∀ (k i : Nat) (s : Shared), items.size - i = k → i ≤ items.size → St i s → SetS w s.heap S (gath [] (ss.take i)) → (∀ s', Moved (S :: wr) G s s' → SetS w s'.heap S (gath [] ss) → R (.ok (.ret .none)) s') →
      codeAny (model P w) A2 (.builtin "set.update.loop" ⟨[.ref S, .ref I], []⟩) R s by
    refine go _ 0 s2 rfl (Nat.zero_le _) h0 ?_ hR
    refine ⟨_, #[], 0, _, hg, ⟨rfl, rfl, rfl⟩, rfl, (fun e he => by simp at he), by simp [gath], List.nodup_nil, by decide, by rfl, List.Pairwise.nil, ?_⟩
    show _ ∨ (!w.params.followText "set-order") = true
    cases w.params.followText "set-order"
    · exact .inr rfl
    · exact .inl rfl
  intro k
  induction k with
  | zero =>
    intro i s hk hle hst hs hr
    obtain rfl : i = items.size := by omega
    refine codeAny_builtin F.entry_set_update_loop ?_
    rw [Around.under_plainId F.plain_set_update_loop _]; show wpAny _ A2.in1 (pyNext (.ref I) >>= _) _ _ s
    refine wpAny_bind (W.done s _ _ hst fun s' hm => ?_)
    show wpAny _ A2.in1 (ret Value.none) _ _ s'
    rw [List.take_of_length_le (by omega)] at hs
    exact wpAny_pure (hr s' (hm.mono sub) (hs.at fun o e => hm.heap S o nS e))
  | succ k ih =>
    intro i s hk hle hst hs hr
    have lt : i < items.size := by omega
    refine codeAny_builtin F.entry_set_update_loop ?_
    rw [Around.under_plainId F.plain_set_update_loop _]; show wpAny _ A2.in1 (pyNext (.ref I) >>= _) _ _ s
    refine wpAny_bind (W.item i s _ _ lt hst fun v s' hP hst' hm => ?_)
    obtain ⟨z, t, hz, rfl⟩ := hval i v hP
    have hs' : SetS w s'.heap S (gath [] (ss.take i)) := hs.at fun o e => hm.heap S o nS e
    show wpAny _ A2.in1 (holding [Value.str z t] (setAdd S (.str z t)) >>= _) _ _ s'
    refine wpAny_bind (wpAny_holding ?_)
    unfold setAdd
    refine wpAny_holding ?_
    have kis : (strKind P w).is z (.str z t) = true := (row_is (P := P) (w := w) (e := (hashStr w z, .str z t)) ⟨z, t, rfl⟩ z).2 rfl
    refine wpAny_bind ((strKind P w).pyHash (k := z) kis ?_)
    have few : (gath [] (ss.take i)).length + 1 < scanBound := by
      have q := gath_len (ss.take i) []
      have q2 : (ss.take i).length ≤ ss.length := List.length_take_le' ..
      simp only [List.length_nil] at q
      omega
    refine setS_put (s := { s' with toks := s'.toks + 1 }) hs' few fun h' b sm hS2 => ?_
    rw [← gath_snoc, ← show ss.take (i + 1) = ss.take i ++ [z] by rw [List.take_add_one, hz]; rfl] at hS2
    refine wpAny_pure ⟨plainId_quiet F.plain_set_update_loop _, ih (i + 1) _ (by omega) lt (W.frame _ s' _ _ hst' (Nat.le_succ _) fun b hb o e => ?_) hS2 fun s'' hm'' hS'' => ?_⟩
    · rw [sm.2 b (fun h : b = S => hS (by rw [← h]; exact hb))]; exact e
    · refine hr s'' (Moved.trans W.gtrans ((hm.mono sub).then_heap (Nat.le_succ _) fun b o hb e => ?_) hm'') hS''
      rw [sm.2 b (fun h : b = S => hb (by rw [h]; exact List.mem_cons_self))]; exact e
end
end Hh

set_option Elab.async false
set_option linter.all false
set_option maxRecDepth 100000
set_option maxHeartbeats 4000000
namespace Hh
set_option autoImplicit false
open PySem PySem.Spec PyProof.Rows L2
/-! ### set(xs) and sorted of it, for lists of ints and of texts -/
def rSetLI (K : PySem.W.Frag) (w : World) : List V → Hp → VK → Prop := fun xs H Q => ∃ (l : Addr) (ns : List Int), xs = [.ref l] ∧ SqL K H l (ns.map V.int) ∧ ns.length ≤ 1000 ∧
  ∀ (p : Addr) (c : Nat), H p = none → c ≤ ns.length → Q (.ref p) (upd H p (SetO w p (fun j => decide (j ∈ ns)) c))
theorem call_setLI {X : Cx} {K : PySem.W.Frag} (e : X.K = K) (hc : X.calm = true) : CallR X (.type "set") (rSetLI K X.w) := by
  subst e
  intro pins s σ H xs us Q I r ⟨l, ns, ex, hl, hz, q⟩
  subst ex
  obtain ⟨u, rfl, ru⟩ := r.one
  cases ru
  obtain ⟨its, rv, pl, _⟩ := I.list hl
  refine call_setL (I.ok.hd hc) pl.isList (fills_ints (ints_of_vals rv) (by unfold scanBound; omega)) ?_
  rintro h' tk ⟨c, hcn, R⟩ k
  exact ⟨.ref _, upd H s.heap.objs.size (SetO X.w s.heap.objs.size (fun j => decide (j ∈ ns)) c), I.laid (t' := tk) k (Nat.le_refl _) (setO_new R), rfl, q _ c (I.hok.fresh (Nat.le_refl _)) hcn⟩
def rSortedN (w : World) : List V → Hp → VK → Prop := fun vs H Q => ∃ (a : Addr) (S : Int → Bool) (n : Nat), vs = [V.ref a] ∧ H a = some (SetO w a S n) ∧ n ≤ 1000 ∧
  ∀ (ns : List Int) (p : Addr), ns.Pairwise (· < ·) → (∀ k : Int, k ∈ ns ↔ S k = true) → ns.length = n → H p = none → Q (.ref p) (upd H p (.lst (ns.map V.int)))
theorem inv_new {X : Cx} {pins : List (Addr × Obj)} {σ : Sl} {H : Hp} {s s' : Shared} {p : Addr} {out : Array Value} {c : Nat} {xs : List V} (I : Inv X pins σ H s) (k : ∀ b o, s.heap.get? b = some o → s'.heap.get? b = some o) (g : s'.gens = s.gens) (o : s'.os = s.os)
    (hp : s.heap.objs.size ≤ p) (hg : s'.heap.get? p = some (seqObj "list" out c)) (hv : Vals xs out.toList) (hl : xs.length ≤ sizeLine) : Inv X pins σ (upd H p (.lst xs)) s' := by
  have fr : H p = none := I.hok.fresh hp
  have J : Inv X pins σ (upd H p (.lst xs)) { s with heap := s'.heap, gens := s'.gens, drawn := s'.drawn, toks := s'.toks } :=
    I.call (ch := []) (Un.laid k hp fr) (I.hok.laid k hp ⟨hl, out.toList, c, hv, hg⟩) (by rw [g]; exact I.bare) fun _ z => nomatch z
  have e : s' = { s with heap := s'.heap, gens := s'.gens, drawn := s'.drawn, toks := s'.toks } := by
    obtain ⟨a1, a2, a3, a4, a5⟩ := s'
    obtain ⟨b1, b2, b3, b4, b5⟩ := s
    simp only at o
    subst o
    rfl
  rw [e]
  exact J
theorem cr_sortedN {X : Cx} (hc : X.calm = true) : CallR X (.builtin "sorted") (rSortedN X.w) := by
  intro pins s σ H vs us Q I r ⟨a, S, n, ev, ha, hz, q⟩
  subst ev
  rw [Vals.ref1 r]
  refine sorted_setN (setO_get I ha) (I.ok.hd hc) fun s' p out c ns k g o hp hg hi hs hm hl => ?_
  exact ⟨.ref p, _, inv_new I k g o hp hg (vals_of_ints hi) (by rw [List.length_map, hl, sizeLine_eq]; omega), rfl, q ns p hs hm hl (I.hok.fresh hp)⟩
def SetSO (w : World) (a : Addr) (l : List Str) : HO := .ext fun h => SetS w h a l
def rSetLS (K : PySem.W.Frag) (w : World) : List V → Hp → VK → Prop := fun xs H Q => ∃ (l : Addr) (ss : List Str), xs = [.ref l] ∧ SqL K H l (ss.map V.str) ∧ ss.length ≤ 3000 ∧
  ∀ (p : Addr), H p = none → Q (.ref p) (upd H p (SetSO w p (gath [] ss)))
theorem call_setLS {X : Cx} {K : PySem.W.Frag} (e : X.K = K) (hc : X.calm = true) : CallR X (.type "set") (rSetLS K X.w) := by
  subst e
  intro pins s σ H xs us Q I r ⟨l, ss, ex, hl, hz, q⟩
  subst ex
  obtain ⟨u, rfl, ru⟩ := r.one
  cases ru
  obtain ⟨its, rv, pl, _⟩ := I.list hl
  refine call_setL (I.ok.hd hc) pl.isList (fills_strs (by simpa using strsAre_of rv) (by unfold scanBound; omega)) ?_
  intro h' tk R k
  have ob : ObjOk X.prog X.w (upd H s.heap.objs.size (SetSO X.w s.heap.objs.size (gath [] ss))) h' s.heap.objs.size (SetSO X.w s.heap.objs.size (gath [] ss)) := by
    have ⟨o, _, _, _, ho, _⟩ := R
    exact ⟨R, ⟨o, ho⟩, fun h1 h2 p k => SetS.at p k⟩
  exact ⟨.ref _, _, I.laid (t' := tk) k (Nat.le_refl _) ob, rfl, q _ (I.hok.fresh (Nat.le_refl _))⟩
def strOf : Value → Str
  | .str k _ => k
  | _ => ⟨#[]⟩
theorem strs_map : ∀ {vs : List Value}, (∀ v ∈ vs, ∃ k t, v = Value.str k t) → StrsAre vs (vs.map strOf)
  | [], _ => .nil
  | v :: r, h => by
    obtain ⟨k, t, rfl⟩ := h v List.mem_cons_self
    exact .cons k t (strs_map fun u hu => h u (List.mem_cons_of_mem _ hu))
theorem sorted_setS {P : Program} {w : World} {A : Around} {E : Value → Shared → Prop} {s : Shared} {a : Addr} {l : List Str} {Q : Value → Shared → Prop} (R : SetS w s.heap a l) (h64 : l.length < 64) (hh : A.handled = none)
    (hQ : ∀ s' p (out : Array Value) (c : Nat) (ys : List Str), (∀ b o, s.heap.get? b = some o → s'.heap.get? b = some o) → s'.gens = s.gens → s'.os = s.os → s.heap.objs.size ≤ p → s'.heap.get? p = some (seqObj "list" out c) → StrsAre out.toList ys → ys.Perm l → sortedS ys = true → Q (.ref p) s') :
    wpAny (model P w) A (call (.builtin "sorted") [.ref a]) Q E s := by
  obtain ⟨o, es, ep, t, ho, hx, hd, hr, pm, nd, sb, ft, rs, ld⟩ := R
  refine Calls.call_function_entry kind_sorted plain_sorted entry_sorted (args_sorted1 _) ?_
  unfold Builtin.«sorted»
  refine wpAny_bind (m := checkCount "sorted" 1 1 _) (wpAny_pure ?_)
  refine wpAny_bind (collect_set (A := A.in1) hh ⟨o, ho, hx.1, hd⟩ ft sb rs ld fun s1 vs k1 hz g1 o1 pv => ?_)
  have sv : StrsAre vs (vs.map strOf) := strs_map fun v hv => by
    obtain ⟨e, he, q⟩ := List.mem_map.mp (pv.mem_iff.mp hv)
    obtain ⟨k, u, rfl⟩ := hr e he
    exact ⟨k, u, q.symm⟩
  have pl : (vs.map strOf).Perm l := by
    have q := pv.map strOf
    rw [List.map_map] at q
    exact q.trans pm
  have vl : vs.length = l.length := by rw [← pl.length_eq, List.length_map]
  refine wpAny_bind (wpAny_newList ?_ (by rw [vl, sizeLine_eq]; omega))
  have new : (s1.heap.push (seqObj "list" vs.toArray 0)).get? s1.heap.objs.size = some (seqObj "list" vs.toArray 0) := Heap.get?_push_size _ rfl
  refine wpAny_bind (wpAny_holding (wpAny_call_entry slot_list_sort ⟨_, new, rfl⟩ entry_list_sort (list_sort_treeK strKind_oneLt new sv.keysOf (fun v₁ v₂ rest e => keyKind_strs (by rw [← e]; exact sv)) (by rw [vl]; exact h64) fun st' hp hs => ⟨_, rfl, ?_⟩) (args_list_sort _)))
  obtain ⟨ys, q1, q2, q3⟩ := sorted_out_str sv hp hs
  obtain ⟨c, hc⟩ := sortedHeap_at (vs := vs) (out := (arrOf st').map (·.2)) new
  refine wpAny_pure ⟨_, rfl, hQ _ s1.heap.objs.size ((arrOf st').map (·.2)) c ys (fun b u e => ?_) g1 o1 hz hc q1 (q2.trans pl) q3⟩
  have q := k1 b u e
  have lt := Heap.lt_size q
  show (sortedHeap (s1.heap.push (seqObj "list" vs.toArray 0)) s1.heap.objs.size vs ((arrOf st').map (·.2))).get? b = some u
  rw [sortedHeap_old (Nat.ne_of_lt lt) (by rw [size_push']; exact Nat.lt_succ_of_lt lt)]
  exact Heap.get?_push_of_some _ q
def rSortedSS (w : World) : List V → Hp → VK → Prop := fun vs H Q => ∃ (a : Addr) (l : List Str), vs = [V.ref a] ∧ H a = some (SetSO w a l) ∧ l.length < 64 ∧
  ∀ (ys : List Str) (p : Addr), ys.Perm l → sortedS ys = true → H p = none → Q (.ref p) (upd H p (.lst (ys.map V.str)))
theorem cr_sortedSS {X : Cx} (hc : X.calm = true) : CallR X (.builtin "sorted") (rSortedSS X.w) := by
  intro pins s σ H vs us Q I r ⟨a, l, ev, ha, h64, q⟩
  subst ev
  rw [Vals.ref1 r]
  have R : SetS X.w s.heap a l := (I.hok a _ ha).1
  refine sorted_setS R h64 (I.ok.hd hc) fun s' p out c ys k g o hp hg hi pm hs => ?_
  exact ⟨.ref p, _, inv_new I k g o hp hg (vals_of_strs hi) (by rw [List.length_map, pm.length_eq, sizeLine_eq]; omega), rfl, q ys p pm hs (I.hok.fresh hp)⟩
section
variable {c : Ctx} {ρ : List Ent} {te : TE} {C : Nat} {w : World}
/-- what is drawn aside: a set that nobody keeps, then a list of its own -/
theorem aside {I2 H2 : Hp} {n : Nat} (w2 : Wd c I2 H2 n) {p q : Addr} {o : HO} {xs : List V} (np : H2 p = none) (nq : (upd H2 p o) q = none) :
    Gx c.b I2 H2 (upd I2 q (.lst xs)) (upd (upd H2 p o) q (.lst xs)) ∧ Wd c (upd I2 q (.lst xs)) (upd (upd H2 p o) q (.lst xs)) n := by
  have s2 : Same H2 (upd H2 p o) := fun r u h => by rw [upd_ne (ne_of_none h np)]; exact h
  have nqp : q ≠ p := fun z => by rw [z, upd_same] at nq; cases nq
  have nq2 : H2 q = none := by rw [upd_ne nqp] at nq; exact nq
  have iq : I2 q = none := w2.ih.free nq2
  have gx : Gx c.b I2 H2 (upd I2 q (.lst xs)) (upd (upd H2 p o) q (.lst xs)) := by
    refine ⟨fun r u h => ?_, fun r u _ h => ?_, fun r h => ?_, fun r h => ?_⟩
    · rw [upd_ne (ne_of_none h iq)]; exact h
    · rw [upd_ne (ne_of_none h nq2)]; exact s2 r u h
    · rw [upd_ne (fun z => h (by rw [z]; exact nq2))]
    · rw [upd_ne (fun z => h (by rw [z]; exact nq2)), upd_ne (fun z => h (by rw [z]; exact np))]; exact h
  have ih3 : Same (upd I2 q (.lst xs)) (upd (upd H2 p o) q (.lst xs)) := fun r u h => by
    by_cases z : r = q
    · subst z; rw [upd_same] at h ⊢; exact h
    · rw [upd_ne z] at h ⊢; exact s2 r u (w2.ih r u h)
  exact ⟨gx, w2.go (C := 0) gx ih3 fun b hb => by
    obtain ⟨_, _, x, hh, rr⟩ := w2.bg b hb
    exact ⟨x, by rw [upd_ne (ne_of_none hh nq2)]; exact s2 b _ hh, rr⟩⟩
theorem rp_ints {K : PySem.W.Frag} {I : Hp} : ∀ ks : List Int, RpAll K I (ks.map V.int) (ks.map .int)
  | [] => .nil
  | x :: r => .cons (.int x) (rp_ints r)
theorem rp_strs {K : PySem.W.Frag} {I : Hp} : ∀ ks : List Str, RpAll K I (ks.map V.str) (ks.map .str)
  | [] => .nil
  | x :: r => .cons (.str x) (rp_strs r)
theorem ev_sortedN {Pn : List Int → Prop} (ha : Ev c te ρ C (fun d => ∃ ns : List Int, d = .list (ns.map .int) ∧ Pn ns)) (hl : ∀ ns, Pn ns → ns.length ≤ 1000) :
    Ev c (tCB (rSortedN w) (tCons (tCB (rSetLI c.K w) (tCons te tNil)) tNil)) ρ C (fun d => ∃ ms ns : List Int, d = .list (ms.map .int) ∧ Pn ns ∧ ms.Pairwise (· < ·) ∧ (∀ k, k ∈ ms ↔ k ∈ ns) ∧ ms.length ≤ ns.length) := fun σ I H n Q wd e l k => by
  refine ha σ I H n _ wd e l fun v d I2 H2 g2 w2 r2 ⟨ns, ed, hn⟩ => ?_
  subst ed
  obtain ⟨a, xs, rfl, hs, hr⟩ := r2.lst_inv
  have ex := hr.ints
  subst ex
  have hlen := hl ns hn
  refine ⟨a, ns, rfl, SqL.of (w2.ih _ _ hs), hlen, fun p c1 np hc1 => ?_⟩
  refine ⟨p, _, c1, rfl, upd_same, by omega, fun ms q hp hm hml nq => ?_⟩
  obtain ⟨gx, w3⟩ := aside (xs := ms.map V.int) w2 np nq
  exact k _ (.list (ms.map .int)) _ _ (g2.trans gx) w3 (.lst upd_same (rp_ints ms)) ⟨ms, ns, rfl, hn, hp, fun k => (hm k).trans (by rw [decide_eq_true_eq]), by omega⟩
/-- sorted(set(texts)): they rise, each once -/
theorem ev_sortedS {Pn : List Str → Prop} (ha : Ev c te ρ C (fun d => ∃ ss : List Str, d = .list (ss.map .str) ∧ Pn ss)) (hl : ∀ ss, Pn ss → ss.length < 64) :
    Ev c (tCB (rSortedSS w) (tCons (tCB (rSetLS c.K w) (tCons te tNil)) tNil)) ρ C (fun d => ∃ ys ss : List Str, d = .list (ys.map .str) ∧ Pn ss ∧ ys.Perm (gath [] ss) ∧ sortedS ys = true) := fun σ I H n Q wd e l k => by
  refine ha σ I H n _ wd e l fun v d I2 H2 g2 w2 r2 ⟨ss, ed, hn⟩ => ?_
  subst ed
  obtain ⟨a, xs, rfl, hs, hr⟩ := r2.lst_inv
  have ex := hr.strs'
  subst ex
  have hlen := hl ss hn
  refine ⟨a, ss, rfl, SqL.of (w2.ih _ _ hs), by omega, fun p np => ?_⟩
  have gl := gath_len ss []
  simp only [List.length_nil] at gl
  refine ⟨p, _, rfl, upd_same, by omega, fun ys q hp hm nq => ?_⟩
  obtain ⟨gx, w3⟩ := aside (xs := ys.map V.str) w2 np nq
  exact k _ (.list (ys.map .str)) _ _ (g2.trans gx) w3 (.lst upd_same (rp_strs ys)) ⟨ys, ss, rfl, hn, hp, hm⟩
end
/-! ### dict([(n, True), ..]) and not in it -/
def rDictP (K : PySem.W.Frag) : List V → Hp → VK → Prop := fun xs H Q => ∃ (a : Addr) (ps : List Addr) (kvs : List (Key × V)), xs = [.ref a] ∧ SqL K H a (ps.map V.ref) ∧ Paired (fun p kv => SqT K H p [kV kv.1, kv.2]) ps kvs ∧
    ∀ p, H p = none → Q (.ref p) (upd H p (.dK (mergeK [] kvs)))
theorem call_dictPK {X : Cx} {K : PySem.W.Frag} (e : X.K = K) (hc : X.calm = true) : CallR X (.type "dict") (rDictP K) := by
  subst e
  exact call_dictP hc
def kvT (ns : List Int) : List (Key × V) := ns.map fun n => ((.inl n : Key), V.bl true)
def dicT (ns : List Int) : PyData := .dict (ns.map fun n => (.int n, .bool true))
theorem kvT_val (n : Int) : ∀ ns : List Int, (valV (kvT ns) (.inl n : Key)).isSome = ns.any fun h => h == n
  | [] => rfl
  | m :: r => by
    show (valV (((.inl m : Key), V.bl true) :: kvT r) (.inl n : Key)).isSome = (m == n || r.any fun h => h == n)
    by_cases h : m = n
    · rw [valV_pos (by rw [h]), h, beq_self_eq_true]; rfl
    · rw [valV_neg (fun z => h (Sum.inl.inj z)), kvT_val n r, beq_eq_false_iff_ne.mpr h]; rfl
theorem merge_kvT : ∀ (ms ns : List Int), (ns ++ ms).Nodup → mergeK (kvT ns) (kvT ms) = kvT (ns ++ ms)
  | [], ns, _ => by rw [List.append_nil]; rfl
  | m :: r, ns, h => by
    have nm : m ∉ ns := fun z => (List.nodup_append.mp h).2.2 m z m List.mem_cons_self rfl
    have nv : valV (kvT ns) (.inl m : Key) = none := by
      have q := kvT_val m ns
      have q2 : (ns.any fun h => h == m) = false := by
        rw [List.any_eq_false]
        intro x hx z
        exact nm (by rw [← beq_iff_eq.mp z]; exact hx)
      rw [q2] at q
      cases z : valV (kvT ns) (.inl m : Key) with
      | none => rfl
      | some u => rw [z] at q; cases q
    have e : ns ++ m :: r = (ns ++ [m]) ++ r := by rw [List.append_assoc]; rfl
    rw [e] at h ⊢
    rw [← merge_kvT r (ns ++ [m]) h]
    show mergeK (putK (kvT ns) (.inl m : Key) (V.bl true)) (kvT r) = _
    rw [putK_new _ nv]
    congr 1
    unfold kvT
    rw [List.map_append]
    rfl
theorem rp_kvT {K : PySem.W.Frag} {I : Hp} : ∀ ns : List Int, RpKv K I (kvT ns) (ns.map fun n => (.int n, .bool true))
  | [] => .nil
  | n :: r => .cons (k := .inl n) (.bl true) (rp_kvT r)
theorem kv_inv {K : PySem.W.Frag} {I : Hp} : ∀ {ns : List Int} {kvs : List (Key × V)}, RpKv K I kvs (ns.map fun n => (.int n, .bool true)) → kvs = kvT ns := by
  intro ns
  induction ns with
  | nil => intro kvs h; cases h; rfl
  | cons n r ih =>
    intro kvs h
    generalize hd : ((n :: r).map fun n => (PyData.int n, PyData.bool true)) = es at h
    cases h with
    | nil => cases hd
    | @cons k v d kvs es h1 h2 =>
      simp only [List.map_cons, List.cons.injEq, Prod.mk.injEq] at hd
      obtain ⟨⟨e1, e2⟩, e3⟩ := hd
      subst e2 e3
      rw [h1.bl_inv, ih h2]
      cases k with
      | inl i => cases e1; rfl
      | inr x => cases e1
section
variable {c : Ctx} {ρ : List Ent} {te ta tb : TE} {C : Nat}
theorem pairs_inv {K : PySem.W.Frag} {I H : Hp} (hs : Same I H) : ∀ {ns : List Int} {vs : List V}, RpAll K I vs (ns.map fun n => .tuple [.int n, .bool true]) → ∃ ps : List Addr, vs = ps.map V.ref ∧ Paired (fun p (kv : Key × V) => SqT K H p [kV kv.1, kv.2]) ps (kvT ns)
  | [], _, .nil => ⟨[], rfl, .nil⟩
  | n :: r, _, .cons h t => by
    obtain ⟨ps, e, q⟩ := pairs_inv hs t
    obtain ⟨a, xs, rfl, h1, h2⟩ := h.tup_inv
    cases h2 with
    | cons x1 t1 =>
      cases t1 with
      | cons x2 t2 =>
        cases t2
        have e1 := x1.int_inv
        have e2 := x2.bl_inv
        subst e1 e2 e
        exact ⟨a :: ps, rfl, .cons (seqT_mono hs h1) q⟩
theorem pv_dictP {ns : List Int} (ha : Pv c te ρ (.list (ns.map fun n => .tuple [.int n, .bool true]))) (hn : ns.Nodup) : Pv c (tCB (rDictP c.K) (tCons te tNil)) ρ (dicT ns) := fun σ I H n Q wd e l k => by
  refine ha σ I H n _ wd e l fun v d I2 H2 g2 w2 r2 p2 => ?_
  subst p2
  obtain ⟨a, xs, rfl, hs, hr⟩ := r2.lst_inv
  obtain ⟨ps, rfl, pp⟩ := pairs_inv w2.ih hr
  refine ⟨a, ps, kvT ns, rfl, SqL.of (w2.ih _ _ hs), pp, fun p np => ?_⟩
  have em : mergeK [] (kvT ns) = kvT ns := merge_kvT ns [] (by simpa using hn)
  rw [em]
  exact k _ _ (upd I2 p (.dK (kvT ns))) (upd H2 p (.dK (kvT ns))) (g2.trans (new_go w2.ih np)) (w2.new np) (.dic upd_same (rp_kvT ns)) rfl
def rDNot : R2 := fun x y H Q => ∃ (a : Addr) (o : Option V), y = .ref a ∧ DGet H a x o ∧ Q (.bl (!o.isSome)) H
theorem op_dnot {X : Cx} (hu : X.A.units + 64 < cLine) : OpR X (compareOp .NotIn) rDNot := by
  intro pins s σ H x y v u Q I rx ry ⟨a, o, ey, g, q⟩
  subst ey
  cases ry
  exact d_notIn (by omega) I g rx fun s' I' => ⟨.bl (!o.isSome), H, I', rfl, q⟩
theorem rd_dnot {n : Int} {ns : List Int} : Rd2 c rDNot (.int n) (dicT ns) (fun x => x = .bool (!(ns.any fun h => h == n))) := fun I H k x y Q w r1 r2 kk => by
  have e1 := r1.int_inv
  subst e1
  cases r2 with
  | dic h r =>
    have e2 := kv_inv r
    subst e2
    refine ⟨_, _, rfl, .inl ⟨_, .inl n, .inl (w.ih _ _ h), rfl, rfl⟩, ?_⟩
    rw [kvT_val]
    exact kk _ _ I H Gx.refl w (.bl _) rfl
end
end Hh

set_option Elab.async false
set_option linter.all false
set_option maxRecDepth 100000
set_option maxHeartbeats 4000000
namespace Hh
set_option autoImplicit false
open PySem PySem.Spec PyProof.Rows L2
/-! ### things of any kind that can be shown, whatever they hold -/
mutual
def goodA : PyData → Bool
  | .none => true
  | .bool _ => true
  | .int i => decide (i.natAbs.log2 < 1920)
  | .str x => x.cps.toList.all fun c => decide (c < 16 ^ 8)
  | .list ds => goodAs ds
  | .tuple ds => goodAs ds
  | .dict es => es.isEmpty
def goodAs : List PyData → Bool
  | [] => true
  | d :: ds => goodA d && goodAs ds
end
mutual
theorem shownA_len : ∀ d : PyData, goodA d = true → d.shown.length ≤ szD d
  | .none, _ => by simp only [PyData.shown, szD]; decide +kernel
  | .bool b, _ => by
    cases b <;> (simp only [PyData.shown, szD]; decide +kernel)
  | .int i, h => by
    simp only [goodA, decide_eq_true_eq] at h
    simp only [PyData.shown, szD]
    exact int_text_len_1921 h
  | .str x, h => by
    simp only [goodA, List.all_eq_true, decide_eq_true_eq] at h
    simp only [PyData.shown, szD]
    exact StrLaws.reprText_len x h
  | .list ds, h => by
    simp only [goodA] at h
    have h1 := shownAs_sum ds h
    have h2 := listText_len_le (PyData.shownAll ds)
    rw [shownAll_len] at h2
    simp only [PyData.shown, szD]
    omega
  | .tuple ds, h => by
    simp only [goodA] at h
    have h1 := shownAs_sum ds h
    have h2 := tupleText_len_le (PyData.shownAll ds)
    rw [shownAll_len] at h2
    simp only [PyData.shown, szD]
    omega
  | .dict es, h => by
    simp only [goodA, List.isEmpty_iff] at h
    subst h
    simp only [PyData.shown, PyData.shownKv, szD]
    decide +kernel
theorem shownAs_sum : ∀ ds : List PyData, goodAs ds = true → ((PyData.shownAll ds).map (·.length)).sum ≤ szDs ds
  | [], _ => by simp [PyData.shownAll, szDs]
  | d :: ds, h => by
    simp only [goodAs, Bool.and_eq_true] at h
    have h1 := shownA_len d h.1
    have h2 := shownAs_sum ds h.2
    simp only [PyData.shownAll, szDs, List.map_cons, List.sum_cons]
    omega
end
mutual
theorem goodA_show : ∀ d : PyData, goodA d = true → d.showable = true
  | .none, _ => rfl
  | .bool _, _ => rfl
  | .int i, h => by simpa [goodA, PyData.showable] using h
  | .str _, _ => rfl
  | .list ds, h => by
    simp only [goodA] at h
    simpa [PyData.showable] using goodAs_show ds h
  | .tuple ds, h => by
    simp only [goodA] at h
    simpa [PyData.showable] using goodAs_show ds h
  | .dict es, h => by
    simp only [goodA, List.isEmpty_iff] at h
    subst h
    simp [PyData.showable, PyData.showableKv]
theorem goodAs_show : ∀ ds : List PyData, goodAs ds = true → PyData.showableAll ds = true
  | [], _ => by simp [PyData.showableAll]
  | d :: ds, h => by
    simp only [goodAs, Bool.and_eq_true] at h
    simp [PyData.showableAll, goodA_show d h.1, goodAs_show ds h.2]
end
section
variable {X : Cx} {pins : List (Addr × Obj)} {σ : Sl} {H : Hp} {s : Shared}
mutual
theorem Rp.readsA (I : Inv X pins σ H s) (hS : Fz H) : ∀ {d : PyData} {v : V} {u : Value}, goodA d = true → Rp X.K H v d → RelV v u → ∃ as, Reads s.heap u d as ∧ sysModules ∉ as
  | .none, _, _, _, .non, r => by cases r; exact ⟨_, .none, by simp⟩
  | .bool _, _, _, _, .bl b, r => by cases r; exact ⟨_, .bool b, by simp⟩
  | .int _, _, _, _, .int i, r => by obtain ⟨t, rfl⟩ := r; exact ⟨_, .int i t, by simp⟩
  | .str _, _, _, _, .str x, r => by obtain ⟨t, rfl⟩ := r; exact ⟨_, .str x t, by simp⟩
  | .list ds, _, _, e, @Rp.lst _ _ a xs _ h rr, r => by
    cases r
    simp only [goodA] at e
    obtain ⟨z, its, n, rv, eo⟩ := (show ObjOk X.prog X.w H s.heap a (.lst xs) from I.hok a _ h)
    obtain ⟨as, h1, h2⟩ := RpAll.readsA I hS e rr rv
    have nm := hS.ne h
    exact ⟨a :: as, .list eo rfl rfl (by simpa using h1), fun hm => (List.mem_cons.mp hm).elim (fun q => nm q.symm) h2⟩
  | .tuple ds, _, _, e, @Rp.tup _ _ a xs _ h rr, r => by
    cases r
    simp only [goodA] at e
    obtain ⟨its, rv, ⟨o, eo, hc, n, hd⟩, _⟩ := I.tuple h
    obtain ⟨as, h1, h2⟩ := RpAll.readsA I hS e rr rv
    exact ⟨as, .tuple eo hc hd (by simpa using h1), h2⟩
  | .dict es, _, _, e, @Rp.dic _ _ a kvs _ h rr, r => by
    obtain ⟨as, h1, _, h2⟩ := Rp.reads (d := .dict es) I e (.dic h rr) r
    exact ⟨as, h1, h2 rfl⟩
theorem RpAll.readsA (I : Inv X pins σ H s) (hS : Fz H) : ∀ {ds : List PyData} {vs : List V} {us : List Value}, goodAs ds = true → RpAll X.K H vs ds → Vals vs us → ∃ as, ReadsAll s.heap us ds as ∧ sysModules ∉ as
  | [], _, _, _, .nil, .nil => ⟨[], .nil, by simp⟩
  | d :: ds, _, _, e, .cons h rr, .cons r r' => by
    simp only [goodAs, Bool.and_eq_true] at e
    obtain ⟨as, h1, h2⟩ := Rp.readsA I hS e.1 h r
    obtain ⟨bs, h3, h4⟩ := RpAll.readsA I hS e.2 rr r'
    exact ⟨as ++ bs, .cons h1 h3, fun hm => (List.mem_append.mp hm).elim h2 h4⟩
end
def rReprA (K : PySem.W.Frag) : List V → Hp → VK → Prop := fun xs H Q => Fz H ∧ ∃ x d, xs = [x] ∧ Rp K H x d ∧ goodA d = true ∧ szD d ≤ 2 ^ 23 ∧ PyData.depth d ≤ 60 ∧ Q (.str d.shown) H
theorem call_reprA {K : PySem.W.Frag} (e : X.K = K) (hu : X.A.units + 64 < cLine) (hc : Calm X.A) : CallR X (.builtin "repr") (rReprA K) := by
  subst e
  intro pins s σ H xs us Q I r ⟨hS, x, d, ex, hd, hg, hz, hp, q⟩
  subst ex
  obtain ⟨u, rfl, ru⟩ := r.one
  have sl : (2 : Nat) ^ 23 ≤ sizeLine := by decide
  have fits : d.shown.length ≤ sizeLine := Nat.le_trans (shownA_len d hg) (Nat.le_trans hz sl)
  obtain ⟨as, h1, h2⟩ := Rp.readsA I hS hg hd ru
  cases h1 with
  | none => exact PySem.P.repr_of_none ⟨.str _, H, I.tok _, ⟨_, rfl⟩, q⟩
  | bool b => exact PySem.P.repr_of_bool ⟨.str _, H, I.tok _, ⟨_, rfl⟩, q⟩
  | int i t => exact PySem.P.repr_of_int (by simpa [goodA] using hg) ⟨.str _, H, I.tok _, ⟨_, rfl⟩, q⟩
  | str y t => exact PySem.P.repr_of_str ⟨.str _, H, I.tok _, ⟨_, rfl⟩, q⟩ fits
  | list a1 a2 a3 a4 => exact repr_of_reads' (.list a1 a2 a3 a4) (goodA_show _ hg) (fun _ => h2) hc (by omega) (fun _ _ e => e) (fun h' u tk hk => ⟨.str _, H, I.kept hk, ⟨u, rfl⟩, q⟩) fits
  | tuple a1 a2 a3 a4 => exact repr_of_reads' (.tuple a1 a2 a3 a4) (goodA_show _ hg) (fun _ => h2) hc (by omega) (fun _ _ e => e) (fun h' u tk hk => ⟨.str _, H, I.kept hk, ⟨u, rfl⟩, q⟩) fits
  | dict a1 a2 a3 a4 a5 => exact repr_of_reads' (.dict a1 a2 a3 a4 a5) (goodA_show _ hg) (fun _ => h2) hc (by omega) (fun _ _ e => e) (fun h' u tk hk => ⟨.str _, H, I.kept hk, ⟨u, rfl⟩, q⟩) fits
end
/-- it can be shown; its size, how deep it is -/
structure Wz (s k : Nat) (d : PyData) : Prop where
  g : goodA d = true
  z : szD d ≤ s
  p : PyData.depth d ≤ k
structure Ws (s k : Nat) (ds : List PyData) : Prop where
  g : goodAs ds = true
  z : szDs ds + 2 * ds.length ≤ s
  p : PyData.depthAll ds ≤ k
theorem pv_reprA {c : Ctx} {ρ : List Ent} {ta : TE} {d : PyData} {s k : Nat} (hF : Fc c) (ha : Pv c ta ρ d) (hw : Wz s k d) (hs : s ≤ 2 ^ 23 := by decide) (hk : k ≤ 60 := by decide) : Pv c (tCB (rReprA c.K) (tCons ta tNil)) ρ (.str d.shown) := fun σ I H n Q w e l kk =>
  ha σ I H n _ w e l fun v d' I2 H2 g2 w2 r2 p2 => by
    subst p2
    exact ⟨hF.fz w2, v, d', rfl, r2.mono w2.ih, hw.g, Nat.le_trans hw.z hs, Nat.le_trans hw.p hk, kk _ _ I2 H2 g2 w2 (.str _) rfl⟩
section
variable {s t k j : Nat} {d : PyData} {ds es : List PyData}
theorem Wz.mono (h : Wz s k d) (a : s ≤ t := by omega) (b : k ≤ j := by omega) : Wz t j d := ⟨h.g, Nat.le_trans h.z a, Nat.le_trans h.p b⟩
theorem Ws.mono (h : Ws s k ds) (a : s ≤ t := by omega) (b : k ≤ j := by omega) : Ws t j ds := ⟨h.g, Nat.le_trans h.z a, Nat.le_trans h.p b⟩
theorem Ws.nil : Ws 0 0 [] := ⟨rfl, Nat.le_refl _, by simp [PyData.depthAll]⟩
theorem Ws.cons (h : Wz s k d) (r : Ws t k ds) : Ws (s + t + 2) k (d :: ds) := ⟨by show (goodA d && goodAs ds) = true; rw [h.g, r.g]; rfl, by
  have a := h.z
  have b := r.z
  show szD d + szDs ds + 2 * (ds.length + 1) ≤ _
  omega, by
  have a := h.p
  have b := r.p
  rw [PyData.depthAll]
  omega⟩
theorem Ws.one (h : Wz s k d) : Ws (s + 2) k [d] := by
  have q := Ws.cons h (Ws.nil.mono (t := 0) (j := k) (Nat.le_refl _) (Nat.zero_le _))
  exact q
theorem Ws.head (h : Ws s k (d :: ds)) : Wz s k d ∧ Ws s k ds := by
  obtain ⟨g, z, p⟩ := h
  have g' : (goodA d && goodAs ds) = true := g
  rw [Bool.and_eq_true] at g'
  have z' : szD d + szDs ds + 2 * (ds.length + 1) ≤ s := z
  rw [PyData.depthAll] at p
  exact ⟨⟨g'.1, by omega, by omega⟩, ⟨g'.2, by omega, by omega⟩⟩
theorem Ws.app : ∀ {ds : List PyData} {s : Nat}, Ws s k ds → Ws t k es → Ws (s + t) k (ds ++ es)
  | [], s, _, r => r.mono
  | d :: ds, s, h, r => by
    obtain ⟨g, z, p⟩ := h
    have g' : (goodA d && goodAs ds) = true := g
    rw [Bool.and_eq_true] at g'
    have z' : szD d + szDs ds + 2 * (ds.length + 1) ≤ s := z
    rw [PyData.depthAll] at p
    have q := Ws.cons (s := szD d) (t := szDs ds + 2 * ds.length + t) ⟨g'.1, Nat.le_refl _, by omega⟩ (Ws.app (s := szDs ds + 2 * ds.length) ⟨g'.2, Nat.le_refl _, by omega⟩ r)
    exact q.mono
theorem Ws.mem : ∀ {ds : List PyData}, Ws s k ds → ∀ x ∈ ds, Wz s k x
  | d :: ds, h, x, hx => by
    rcases List.mem_cons.mp hx with q | q
    · rw [q]; exact h.head.1
    · exact h.head.2.mem x q
theorem Ws.drop : ∀ {ds : List PyData} (n : Nat), Ws s k ds → Ws s k (ds.drop n)
  | _, 0, h => h
  | [], _ + 1, h => h
  | _ :: _, n + 1, h => h.head.2.drop n
theorem szDs_take : ∀ (n : Nat) (ds : List PyData), szDs (ds.take n) + 2 * (ds.take n).length ≤ szDs ds + 2 * ds.length ∧ (goodAs ds = true → goodAs (ds.take n) = true) ∧ PyData.depthAll (ds.take n) ≤ PyData.depthAll ds
  | 0, ds => ⟨by show 0 + 2 * 0 ≤ _; omega, fun _ => rfl, by rw [List.take_zero]; simp [PyData.depthAll]⟩
  | _ + 1, [] => ⟨Nat.le_refl _, id, Nat.le_refl _⟩
  | n + 1, d :: ds => by
    obtain ⟨a, b, c⟩ := szDs_take n ds
    refine ⟨?_, fun h => ?_, ?_⟩
    · show szD d + szDs (ds.take n) + 2 * ((ds.take n).length + 1) ≤ szD d + szDs ds + 2 * (ds.length + 1)
      omega
    · have h' : (goodA d && goodAs ds) = true := h
      rw [Bool.and_eq_true] at h'
      show (goodA d && goodAs (ds.take n)) = true
      rw [h'.1, b h'.2]
      rfl
    · rw [List.take_succ_cons, PyData.depthAll, PyData.depthAll]
      omega
theorem Ws.take (n : Nat) (h : Ws s k ds) : Ws s k (ds.take n) := by
  obtain ⟨a, b, c⟩ := szDs_take n ds
  exact ⟨b h.g, Nat.le_trans a h.z, Nat.le_trans c h.p⟩
theorem Ws.rev : ∀ {ds : List PyData} {s : Nat}, Ws s k ds → Ws s k ds.reverse
  | [], s, h => h
  | d :: ds, s, h => by
    obtain ⟨g, z, p⟩ := h
    have g' : (goodA d && goodAs ds) = true := g
    rw [Bool.and_eq_true] at g'
    have z' : szD d + szDs ds + 2 * (ds.length + 1) ≤ s := z
    rw [PyData.depthAll] at p
    rw [List.reverse_cons]
    have q := Ws.app (Ws.rev (s := szDs ds + 2 * ds.length) ⟨g'.2, Nat.le_refl _, by omega⟩) (Ws.one (s := szD d) (k := k) ⟨g'.1, Nat.le_refl _, by omega⟩)
    exact q.mono
theorem Ws.cut (h : Ws s k ds) (lo hi : Option Int) : Ws s k (cutD ds lo hi) := (h.drop _).take _
theorem Ws.tup (h : Ws s k ds) : Wz (s + 3) (k + 1) (.tuple ds) := ⟨h.g, by have := h.z; show szDs ds + 2 * ds.length + 3 ≤ _; omega, by have := h.p; rw [PyData.depth]; omega⟩
theorem Ws.lst (h : Ws s k ds) : Wz (s + 3) (k + 1) (.list ds) := ⟨h.g, by have := h.z; show szDs ds + 2 * ds.length + 3 ≤ _; omega, by have := h.p; rw [PyData.depth]; omega⟩
theorem Wz.tup_inv (h : Wz s k (.tuple ds)) : Ws s k ds := by
  obtain ⟨g, z, p⟩ := h
  have z' : szDs ds + 2 * ds.length + 3 ≤ s := z
  rw [PyData.depth] at p
  exact ⟨g, by omega, by omega⟩
theorem Wz.lst_inv (h : Wz s k (.list ds)) : Ws s k ds := by
  obtain ⟨g, z, p⟩ := h
  have z' : szDs ds + 2 * ds.length + 3 ≤ s := z
  rw [PyData.depth] at p
  exact ⟨g, by omega, by omega⟩
theorem Ws.len (h : Ws s k ds) : 2 * ds.length ≤ s := by have := h.z; omega
theorem Wz.none : Wz 4 0 .none := ⟨rfl, Nat.le_refl _, by simp [PyData.depth]⟩
theorem Wz.bool (b : Bool) : Wz 5 0 (.bool b) := ⟨rfl, Nat.le_refl _, by simp [PyData.depth]⟩
theorem Wz.int {i : Int} (h0 : -(2 ^ 100) ≤ i := by omega) (h1 : i ≤ 2 ^ 100 := by omega) : Wz 1921 0 (.int i) := ⟨by
  show decide (i.natAbs.log2 < 1920) = true
  rw [decide_eq_true_eq]
  have : i.natAbs < 2 ^ 101 := by omega
  exact Nat.lt_trans (PySem.Flt.log2_lt_of (by decide) this) (by decide), Nat.le_refl _, by simp [PyData.depth]⟩
/-- a text of few signs -/
def sgnS (n : Nat) (x : Str) : Bool := decide (x.length ≤ n) && x.cps.toList.all fun c => decide (c < 200)
theorem Wz.str {x : Str} {n : Nat} (h : sgnS n x = true) : Wz (10 * n + 2) 0 (.str x) := by
  unfold sgnS at h
  rw [Bool.and_eq_true, decide_eq_true_eq, List.all_eq_true] at h
  refine ⟨?_, ?_, by simp [PyData.depth]⟩
  · show (x.cps.toList.all fun c => decide (c < 16 ^ 8)) = true
    rw [List.all_eq_true]
    intro c hc
    have q := h.2 c hc
    rw [decide_eq_true_eq] at q ⊢
    omega
  · show 10 * x.length + 2 ≤ 10 * n + 2
    have := h.1
    omega
end
/-! ### less than -/
def ltD : PyData → PyData → Bool
  | .int i, .int j => decide (i < j)
  | .str a, .str b => decide (a.cps.toList < b.cps.toList)
  | _, _ => false
theorem rd_ltD {c : Ctx} {d e : PyData} (h : (∃ i j, d = .int i ∧ e = .int j) ∨ ∃ a b, d = .str a ∧ e = .str b) : Rd2 c rLtA d e (fun x => x = .bool (ltD d e)) := fun I H n x y Q w r1 r2 k => by
  rcases h with ⟨i, j, rfl, rfl⟩ | ⟨i, j, rfl, rfl⟩
  · exact .inl (rd_ib (g := fun i j => decide (i < j)) I H n x y Q w r1 r2 k)
  · exact .inr ⟨i, j, r1.str_inv, r2.str_inv, k _ _ I H Gx.refl w (.bl _) rfl⟩
def risD (ds : List PyData) : Bool := (ds.zip (ds.drop 1)).all fun p => ltD p.1 p.2
/-- all whole numbers, or all texts -/
def Homo (ds : List PyData) : Prop := (∀ d ∈ ds, ∃ i, d = .int i) ∨ ∀ d ∈ ds, ∃ a, d = .str a
theorem Homo.two {ds : List PyData} (h : Homo ds) {d e : PyData} (hd : d ∈ ds) (he : e ∈ ds) : (∃ i j, d = .int i ∧ e = .int j) ∨ ∃ a b, d = .str a ∧ e = .str b := by
  rcases h with h | h
  · obtain ⟨i, e1⟩ := h d hd
    obtain ⟨j, e2⟩ := h e he
    exact .inl ⟨i, j, e1, e2⟩
  · obtain ⟨i, e1⟩ := h d hd
    obtain ⟨j, e2⟩ := h e he
    exact .inr ⟨i, j, e1, e2⟩
theorem risD_at : ∀ ds : List PyData, risD ds = (List.range (ds.length - 1)).all fun k => ltD (ds.getD k .none) (ds.getD (k + 1) .none)
  | [] => rfl
  | [_] => rfl
  | x :: y :: r => by
    have ih := risD_at (y :: r)
    show (ltD x y && risD (y :: r)) = _
    rw [ih, show (x :: y :: r).length - 1 = r.length + 1 from rfl, List.range_succ_eq_map, List.all_cons, List.all_map]
    rfl
end Hh

set_option Elab.async false
set_option linter.all false
set_option maxRecDepth 100000
set_option maxHeartbeats 4000000
namespace Hh
set_option autoImplicit false
open PySem PySem.Spec PyProof.Rows L2
/-! ### walks over the signs of a text, and with their places -/
section
variable {c : Ctx} {ρ : List Ent} {ta tb te : TE} {g : TG} {tgs : List Nat} {f : PyData → List Ent → List Ent} {C : Nat} {Pi : List PyData → Prop}
def sgnD (x : Str) : List PyData := x.cps.toList.map fun ch => .str ⟨#[ch]⟩
theorem iw_str {x : Str} (ha : Pv c ta ρ (.str x)) (ht : ∀ d ∈ sgnD x, Tg c g tgs d (f d)) : Iw c (iStr ta) g ρ 0 tgs f (fun items => items = sgnD x) := fun σ I H n R w e l k =>
  ha σ I H n _ w e l fun v d I2 H2 g2 w2 r2 p2 => by
    subst p2
    refine ⟨x, r2.str_inv, k _ I2 H2 _ g2 w2 ⟨fun i I H n s w h => ?_, fun i d I H n y H' σ ρ Q s w e hd hy kk => ?_, fun i I H n s w h => ?_⟩ rfl⟩
    · show i < x.cps.size
      rw [sgnD, List.length_map, Array.length_toList] at h
      exact h
    · obtain ⟨rfl, ch, hc, rfl⟩ := hy
      have ed : d = .str ⟨#[ch]⟩ := by
        rw [sgnD, List.getElem?_map, Array.getElem?_toList, hc] at hd
        exact (Option.some.inj hd).symm
      subst ed
      exact ht _ (List.mem_of_getElem? hd) σ ρ I H' n _ Q w e (.str _) fun σ2 e2 s2 => kk σ2 I H' Gx.refl w e2 s2
    · show x.cps.size ≤ i
      rw [sgnD, List.length_map, Array.length_toList] at h
      exact h
def enumD (ds : List PyData) : List PyData := ds.zipIdx.map fun p => .tuple [.int (p.2 : Nat), p.1]
theorem enumD_len (ds : List PyData) : (enumD ds).length = ds.length := by simp [enumD]
theorem enumD_get {ds : List PyData} {i : Nat} {d : PyData} (h : (enumD ds)[i]? = some d) : ∃ x, ds[i]? = some x ∧ d = .tuple [.int (i : Nat), x] := by
  unfold enumD at h
  rw [List.getElem?_map, List.getElem?_zipIdx] at h
  cases q : ds[i]? with
  | none => rw [q] at h; cases h
  | some x =>
    rw [q] at h
    exact ⟨x, rfl, by simpa using (Option.some.inj h).symm⟩
theorem iw_enum (ha : Ev c ta ρ C (fun d => ∃ ds, d = .list ds ∧ Pi ds)) (ht : ∀ ds, Pi ds → ∀ d ∈ enumD ds, Tg c g tgs d (f d)) : Iw c (iEnum c.K (tCons ta tNil)) g ρ C tgs f (fun items => ∃ ds, Pi ds ∧ items = enumD ds) := fun σ I H n R w e l k =>
  ha σ I H n _ w e l fun v d I2 H2 g2 w2 r2 ⟨ds, ed, hp⟩ => by
    subst ed
    obtain ⟨a, xs, rfl, hs, hr⟩ := r2.lst_inv
    refine ⟨a, xs, rfl, SqL.of (w2.ih _ _ hs), k _ I2 H2 _ g2 w2 ⟨fun i I H n s w h => ?_, fun i d I H n x H' σ ρ Q s w e hd hy kk => ?_, fun i I H n s w h => ?_⟩ ⟨ds, hp, rfl⟩⟩
    · rw [enumD_len] at h
      have h1 : i < xs.length := by rw [hr.length]; exact h
      exact ⟨xs, xs[i], SqL.of ((s.trans w.ih) _ _ hs), List.getElem?_eq_getElem h1⟩
    · obtain ⟨T, y, rfl, nT, rfl, f1⟩ := hy
      obtain ⟨d1, e1, rfl⟩ := enumD_get hd
      obtain ⟨v1, hv1, q1⟩ := hr.get e1
      have ex1 : y = v1 := Option.some.inj ((f1 xs (SqL.of ((s.trans w.ih) _ _ hs))).symm.trans hv1)
      subst ex1
      have gn : Gx c.b I H (upd I T (.tup [.int (i : Nat), y])) (upd H T (.tup [.int (i : Nat), y])) := new_go w.ih nT
      exact ht ds hp _ (List.mem_of_getElem? hd) σ ρ (upd I T (.tup [.int (i : Nat), y])) (upd H T (.tup [.int (i : Nat), y])) n _ Q (w.new nT) (e.go gn) (.tup (.inl (.inl upd_same)) (.cons (.int _) (.cons ((q1.mono s).mono gn.ii) .nil)))
        fun σ2 e2 s2 => kk σ2 _ _ gn (w.new nT) e2 s2
    · rw [enumD_len] at h
      exact ⟨xs, SqL.of ((s.trans w.ih) _ _ hs), by rw [hr.length]; exact h⟩
/-! ### a text so many times: none or once -/
def rMulS1 : R2 := fun x y H Q => ∃ (z : Str) (i : Int), x = .str z ∧ y = .int i ∧ (i = 0 ∨ i = 1) ∧ Q (.str (if i = 0 then Str.empty else z)) H
theorem op_mulS1 {X : Cx} : OpR X (binaryOp .Mult) rMulS1 := by
  intro pins s σ H x y v u Q I rx ry ⟨z, i, ex, ey, hi, q⟩
  subst ex ey
  obtain ⟨t1, rfl⟩ := rx
  obtain ⟨t2, rfl⟩ := ry
  rcases hi with rfl | rfl
  · exact PySem.P.mul_str_none (by decide) (by decide) ⟨.str Str.empty, H, I.tok _, ⟨_, rfl⟩, q⟩
  · refine PySem.P.mul_str (by decide) (fun _ h => absurd h (by simp)) (fun _ h => absurd h (by simp)) ?_
    rw [if_neg (by decide), if_pos (by simp)]
    exact ⟨.str z, H, I, ⟨_, rfl⟩, q⟩
theorem pv_mulS1 {z : Str} {b : Bool} (ha : Pv c ta ρ (.str z)) (hb : Pv c tb ρ (.int (if b then 1 else 0))) : Pv c (tOp rMulS1 ta tb) ρ (.str (if b then z else Str.empty)) :=
  pv_op ha hb fun I H n x y Q w r1 r2 k => ⟨z, _, r1.str_inv, r2.int_inv, by cases b <;> simp, by
    cases b
    · exact k _ _ I H Gx.refl w (.str _) rfl
    · exact k _ _ I H Gx.refl w (.str _) rfl⟩
/-! ### a list that is still written, read -/
theorem own_at {i : Nat} {ds : List PyData} (h : ρ[i]? = some (.own ds)) {σ : Sl} {I H : Hp} (e : EnvR c I H σ ρ) : ∃ p xs, σ[i]? = some (some (V.ref p)) ∧ H p = some (.lst xs) ∧ RpAll c.K I xs ds := by
  obtain ⟨o, h1, h2⟩ := Paired.getP e.st h
  cases o with
  | none => exact h2.elim
  | some u =>
    obtain ⟨p, xs, rfl, a1, a2, a3, a4, a5⟩ := h2
    exact ⟨p, xs, h1, a1, a5⟩
theorem pv_ownLen {i : Nat} {ds : List PyData} (h : ρ[i]? = some (.own ds)) : Pv c (tCB (fun xs H Q => ∃ x n, xs = [x] ∧ LenV c.K x H n ∧ Q (.int n) H) (tCons (tVar i) tNil)) ρ (.int ds.length) := fun σ I H n Q w e l k => by
  obtain ⟨p, xs, h1, h2, h3⟩ := own_at h e
  refine ⟨.ref p, h1, .ref p, ds.length, rfl, ?_, k _ _ I H Gx.refl w (.int _) rfl⟩
  rw [← h3.length]
  exact .inl ⟨xs, SqL.of h2, rfl⟩
theorem pv_ownCat {i : Nat} {ds es : List PyData} (h : ρ[i]? = some (.own ds)) (hb : Pv c tb ρ (.list es)) (hl : ds.length + es.length ≤ sizeLine) : Pv c (tOp (rAddA c.K) (tVar i) tb) ρ (.list (ds ++ es)) := fun σ I H n Q w e l k => by
  obtain ⟨p, xs, h1, h2, h3⟩ := own_at h e
  refine ⟨.ref p, h1, hb σ I H n _ w e l fun v d I2 H2 g2 w2 r2 p2 => ?_⟩
  subst p2
  obtain ⟨b, ys, rfl, k2, q2⟩ := r2.lst_inv
  obtain ⟨p', xs', h1', h2', h3'⟩ := own_at h (e.go g2)
  have ep : p' = p := by rw [h1] at h1'; exact (V.ref.inj (Option.some.inj (Option.some.inj h1'))).symm
  subst ep
  refine .inr (.inl ⟨p', b, xs', ys, rfl, rfl, h2', w2.ih _ _ k2, by rw [h3'.length, q2.length]; exact hl, fun q np => ?_⟩)
  exact k _ _ (upd I2 q (.lst (xs' ++ ys))) (upd H2 q (.lst (xs' ++ ys))) (g2.trans (new_go w2.ih np)) (w2.new np) (.lst upd_same ((h3'.append q2).mono (new_go (b := none) w2.ih np).ii)) rfl
end
/-! ### sorted of a tuple of texts -/
section
variable {P : Program} {w : World} {A : Around} {E : Value → Shared → Prop} {s : Shared}
theorem collect_tup {l : Addr} {vs : List Value} {Q : List Value → Shared → Prop} (hl : IsTup s.heap l vs.toArray) (hz : vs.length ≤ sizeLine)
    (hQ : Q vs { s with heap := (s.heap.push (seqObj "list" #[] 0)).update s.heap.objs.size (Obj.mapSeq (· ++ vs.toArray)) }) : wpAny (model P w) A (collect (.ref l)) Q E s := by
  obtain ⟨o, ho, hc, n, hd⟩ := id hl
  unfold collect
  refine wpAny_bind (wpAny_runValue (codeAny_builtin entry_proto_collect' ?_)); show wpAny _ _ (do again (.builtin "list.__iadd__" ⟨[← newList [], .ref l], []⟩)) _ _ s
  refine wpAny_bind (wpAny_newList (wpAny_pure ⟨Code.quiet_builtin _ (by decide +kernel), codeAny_builtin entry_list_iadd' ?_⟩)); show wpAny _ _ (Builtin.List.listExtendWith (.ref s.heap.objs.size) (.ref l) (.ref s.heap.objs.size)) _ _ { s with heap := s.heap.push (seqObj "list" #[] 0) }
  unfold Builtin.List.listExtendWith
  have h1 : (s.heap.push (seqObj "list" #[] 0)).get? l = some o := Heap.get?_push_of_some _ ho
  have h2 : (s.heap.push (seqObj "list" #[] 0)).get? s.heap.objs.size = some (seqObj "list" #[] 0) := Heap.get?_push_size _ rfl
  refine wpAny_bind (wpAny_typeOf (T := "tuple") ⟨o, h1, hc⟩ ?_)
  rw [if_pos (by rw [show (Value.type "tuple" == Value.type "tuple") = true by rfl]; simp)]
  refine wpAny_bind (listItems_at h1 hd ?_); refine wpAny_bind (listItems_at (xs := #[]) (n := 0) h2 rfl ?_)
  rw [if_neg (by simp)]
  refine wpAny_bind (listUpdate_at (xs := #[]) (n := 0) h2 rfl ?_ (Nat.zero_le _) (by show (#[] ++ vs.toArray).size ≤ sizeLine + 1; simp only [Array.size_append, List.size_toArray, List.length_nil]; omega))
  refine wpAny_pure ?_
  show wpAny (model P w) A (do
      let o ← load s.heap.objs.size
      match o.data with
      | .seq xs _ => pure xs.toList
      | _ => unsupported "internal:collect") Q E { s with heap := (s.heap.push (seqObj "list" #[] 0)).update s.heap.objs.size (Obj.mapSeq (· ++ vs.toArray)) }
  refine wpAny_bind (wpAny_load (get?_update_seq h2 _) ?_); show wpAny _ _ (pure ((#[] : Array Value) ++ vs.toArray).toList) Q E _
  rw [show ((#[] : Array Value) ++ vs.toArray).toList = vs by simp]
  exact wpAny_pure hQ
end
def rSortedTS (K : PySem.W.Frag) : List V → Hp → VK → Prop := fun vs H Q => ∃ (a : Addr) (xs : List Str), vs = [V.ref a] ∧ SqT K H a (xs.map V.str) ∧ xs.length < 64 ∧
  ∀ (ys : List Str) (p : Addr), ys.Perm xs → sortedS ys = true → H p = none → Q (.ref p) (upd H p (.lst (ys.map V.str)))
theorem cr_sortedTS {X : Cx} {K : PySem.W.Frag} (e : X.K = K) : CallR X (.builtin "sorted") (rSortedTS K) := by
  subst e
  intro pins s σ H vs us Q I r ⟨a, xs, ev, hs, h64, q⟩
  subst ev
  rw [Vals.ref1 r]
  obtain ⟨its, rv, hl, hz⟩ := I.tuple hs
  have sv : StrsAre its xs := strsAre_of rv
  have vl : its.length = xs.length := sv.length
  refine Calls.call_function_entry kind_sorted plain_sorted entry_sorted (args_sorted1 _) ?_
  unfold Builtin.«sorted»
  refine wpAny_bind (m := checkCount "sorted" 1 1 _) (wpAny_pure ?_)
  refine wpAny_bind (collect_tup hl (by rw [vl, sizeLine_eq]; omega) ?_)
  refine wpAny_bind (wpAny_newList ?_ (by rw [vl, sizeLine_eq]; omega))
  generalize hh : (s.heap.push (seqObj "list" #[] 0)).update s.heap.objs.size (Obj.mapSeq (· ++ its.toArray)) = h1
  have keep : ∀ b o, s.heap.get? b = some o → h1.get? b = some o := fun b o e => by
    subst hh
    rw [(Heap.SameBut.update (s.heap.push (seqObj "list" #[] 0)) s.heap.objs.size (Obj.mapSeq (· ++ its.toArray))).2 b (Nat.ne_of_lt (Heap.lt_size e))]
    exact Heap.get?_push_of_some _ e
  have hsz : s.heap.objs.size ≤ h1.objs.size := by
    subst hh
    rw [Heap.size_after_update, Heap.size_push]
    exact Nat.le_succ _
  have new : (h1.push (seqObj "list" its.toArray 0)).get? h1.objs.size = some (seqObj "list" its.toArray 0) := Heap.get?_push_size _ rfl
  refine wpAny_bind (wpAny_holding (wpAny_call_entry slot_list_sort ⟨_, new, rfl⟩ entry_list_sort (list_sort_treeK strKind_oneLt new sv.keysOf (fun v₁ v₂ rest e => keyKind_strs (by rw [← e]; exact sv)) (by rw [vl]; exact h64) fun st' hp hs => ⟨_, rfl, ?_⟩) (args_list_sort _)))
  obtain ⟨ys, q1, q2, q3⟩ := sorted_out_str sv hp hs
  obtain ⟨c, hc⟩ := sortedHeap_at (vs := its) (out := (arrOf st').map (·.2)) new
  refine wpAny_pure ⟨_, rfl, .ref h1.objs.size, _, inv_new (out := (arrOf st').map (·.2)) I (fun b u e => ?_) rfl rfl hsz hc (vals_of_strs q1) (by rw [List.length_map, q2.length_eq, sizeLine_eq]; omega), rfl, q ys _ q2 q3 (I.hok.fresh hsz)⟩
  have qe := keep b u e
  have lt := Heap.lt_size qe
  show (sortedHeap (h1.push (seqObj "list" its.toArray 0)) h1.objs.size its ((arrOf st').map (·.2))).get? b = some u
  rw [sortedHeap_old (Nat.ne_of_lt lt) (by rw [size_push']; exact Nat.lt_succ_of_lt lt)]
  exact Heap.get?_push_of_some _ qe
/-! ### len of a set of texts -/
def rLenSS (w : World) : List V → Hp → VK → Prop := fun xs H Q => ∃ (a : Addr) (l : List Str), xs = [.ref a] ∧ H a = some (SetSO w a l) ∧ Q (.int l.length) H
theorem cr_lenSS {X : Cx} : CallR X (.builtin "len") (rLenSS X.w) := by
  intro pins s σ H xs us Q I r ⟨a, l, ex, ha, q⟩
  subst ex
  rw [Vals.ref1 r]
  have R : SetS X.w s.heap a l := (I.hok a _ ha).1
  obtain ⟨o, es, ep, t, ho, hx, hd, hr, pm, nd, sb, ft, rs, ld⟩ := R
  have len : es.size = l.length := by rw [← pm.length_eq, List.length_map, Array.length_toList]
  refine call_len_set ho hx hd ft (by unfold scanBound at sb; omega) ⟨.int l.length, H, I.tok _, ⟨_, by rw [len]⟩, q⟩
section
variable {c : Ctx} {ρ : List Ent} {te : TE} {w : World}
theorem pv_lenSS {ss : List Str} (ha : Pv c te ρ (.list (ss.map .str))) (hl : ss.length ≤ 3000) : Pv c (tCB (rLenSS w) (tCons (tCB (rSetLS c.K w) (tCons te tNil)) tNil)) ρ (.int (gath [] ss).length) := fun σ I H n Q wd e l k => by
  refine ha σ I H n _ wd e l fun v d I2 H2 g2 w2 r2 p2 => ?_
  subst p2
  obtain ⟨a, xs, rfl, hs, hr⟩ := r2.lst_inv
  have ex := hr.strs'
  subst ex
  refine ⟨a, ss, rfl, SqL.of (w2.ih _ _ hs), hl, fun p np => ?_⟩
  refine ⟨p, _, rfl, upd_same, ?_⟩
  have gx : Gx c.b I2 H2 I2 (upd H2 p (SetSO w p (gath [] ss))) := lost_go np
  have w3 : Wd c I2 (upd H2 p (SetSO w p (gath [] ss))) n := w2.go (C := 0) gx (fun r u h => by rw [upd_ne (ne_of_none (w2.ih _ _ h) np)]; exact w2.ih _ _ h) fun b hb => by
    obtain ⟨_, _, x, hh, rr⟩ := w2.bg b hb
    exact ⟨x, by rw [upd_ne (ne_of_none hh np)]; exact hh, rr⟩
  exact k _ _ I2 _ (g2.trans gx) w3 (.int _) rfl
theorem ev_sortedTS {C : Nat} {Pn : List Str → Prop} (ha : Ev c te ρ C (fun d => ∃ ss : List Str, d = .tuple (ss.map .str) ∧ Pn ss)) (hl : ∀ ss, Pn ss → ss.length < 64) : Ev c (tCB (rSortedTS c.K) (tCons te tNil)) ρ C (fun d => ∃ ys ss : List Str, d = .list (ys.map .str) ∧ Pn ss ∧ ys.Perm ss ∧ sortedS ys = true) := fun σ I H n Q wd e l k => by
  refine ha σ I H n _ wd e l fun v d I2 H2 g2 w2 r2 ⟨ss, ed, hn⟩ => ?_
  subst ed
  obtain ⟨a, xs, rfl, hs, hr⟩ := r2.tup_inv
  have ex := hr.strs'
  subst ex
  refine ⟨a, ss, rfl, seqT_mono w2.ih hs, hl ss hn, fun ys p hp hm np => ?_⟩
  exact k _ (.list (ys.map .str)) (upd I2 p (.lst (ys.map V.str))) (upd H2 p (.lst (ys.map V.str))) (g2.trans (new_go w2.ih np)) (w2.new np) (.lst upd_same (rp_strs ys)) ⟨ys, ss, rfl, hn, hp, hm⟩
end
/-! ### ts[::-1] of a tuple -/
section
variable {P : Program} {w : World} {A : Around} {E : Value → Shared → Prop} {s : Shared}
theorem rev_pick (xs : Array Value) : ((List.range xs.size).filterMap fun (m : Nat) => xs[(((xs.size : Int) - 1) + (m : Int) * (-1)).toNat]?) = xs.toList.reverse := by
  have e : (List.range xs.size).filterMap (fun (m : Nat) => xs[(((xs.size : Int) - 1) + (m : Int) * (-1)).toNat]?) = ((List.range xs.size).map fun k => xs.size - 1 - k).filterMap (xs[·]?) := by
    rw [List.filterMap_map]
    congr 1
    funext k
    show xs[_]? = xs[xs.size - 1 - k]?
    rw [show (((xs.size : Int) - 1) + (k : Int) * (-1)).toNat = xs.size - 1 - k by omega]
  rw [e, PySem.W.krv_range, List.filterMap_reverse, PySem.W.krv_all]
theorem cut_back {sl : Addr} {vl vu vs : Value} {n : Nat} {Q : Int × Int × Nat → Shared → Prop} (hs : s.heap.IsSliceOf sl vl vu vs) (pl : IsPart vl none) (pu : IsPart vu none) (ps : IsPart vs (some (-1)))
    (hQ : Q ((n : Int) - 1, -1, n) s) : wpAny (model P w) A (Builtin.Slice.sliceApplied (.ref sl) (pure (n : Int))) Q E s := by
  obtain ⟨o, ho, hc, hd⟩ := id hs
  unfold Builtin.Slice.sliceApplied Builtin.Slice.sliceFields
  refine wpAny_bind (wpAny_bind (wpAny_field ho hd (x := vl) rfl (wpAny_bind (wpAny_field ho hd (x := vu) rfl (wpAny_bind (wpAny_field ho hd (x := vs) rfl (wpAny_pure ?_)))))))
  refine wpAny_bind (HT.slicePart_ ps ?_)
  show wpAny _ _ (if ((-1 : Int) == 0) = true then _ else _) _ _ s
  rw [if_neg (by decide)]
  refine wpAny_bind (HT.slicePart_ pl (wpAny_bind (HT.slicePart_ pu (wpAny_bind (wpAny_pure ?_)))))
  have ea : Builtin.Slice.sliceAdjust none none (-1) (n : Int) = ((n : Int) - 1, -1) := by
    unfold Builtin.Slice.sliceAdjust
    simp
  have ep : Builtin.Slice.slicePlaces ((n : Int) - 1) (-1) (-1) = n := by
    unfold Builtin.Slice.slicePlaces
    simp only [show ¬ ((-1 : Int) > 0) by decide, if_false]
    rw [show (- -1 : Int) = 1 by decide, Int.ediv_one]
    split <;> omega
  show wpAny _ _ (match Builtin.Slice.sliceAdjust none none (-1) (n : Int) with | (lo, hi) => pure (lo, (-1 : Int), Builtin.Slice.slicePlaces lo hi (-1))) _ _ s
  rw [ea]
  show wpAny _ _ (pure ((n : Int) - 1, (-1 : Int), Builtin.Slice.slicePlaces ((n : Int) - 1) (-1) (-1))) _ _ s
  rw [ep]
  exact wpAny_pure hQ
theorem get_back {t sl : Addr} {items : Array Value} {vl vu vs : Value} {Q : Value → Shared → Prop} (ht : IsTup s.heap t items) (hs : s.heap.IsSliceOf sl vl vu vs) (pl : IsPart vl none) (pu : IsPart vu none) (ps : IsPart vs (some (-1))) (hz : items.size ≤ sizeLine)
    (hQ : Q (.ref s.heap.objs.size) { s with heap := s.heap.push { cls := .type "tuple", data := .seq items.toList.reverse.toArray } }) : wpAny (model P w) A (getItem (.ref t) (.ref sl)) Q E s := by
  have fits : sizeOk (.seq items.toList.reverse.toArray) := by
    show items.toList.reverse.toArray.size ≤ sizeLine
    rw [List.size_toArray, List.length_reverse, Array.length_toList]
    exact hz
  obtain ⟨o, ho, hc, hd⟩ := id hs
  have ts : s.TypeIs (.ref sl) "slice" := ⟨o, ho, hc⟩
  unfold getItem
  try with_reducible refine wpAny_holding ?_
  first | refine wpAny_bind (wpAny_pure ?_) | skip
  refine wpAny_bind (wpAny_sequenceKey ht.typeIs (by decide) ?_)
  refine wpAny_bind (wpAny_callSpecial?_slot (name := Str.ofString "__getitem__") ht.typeIs PyProof.Rows.slot_tuple_getitem (wpAny_call_entry PyProof.Rows.slot_tuple_getitem ht.typeIs entry_tuple_getitem ?_ (args_tuple_getitem _ _)))
  show wpAny _ _ (Builtin.Tuple.tupleItemsOf (.ref t) >>= _) _ _ s
  refine wpAny_bind (tupleItemsOf_ ht ?_)
  refine wpAny_bind (wpAny_typeOf ts ?_)
  rw [if_pos (by decide)]
  refine wpAny_bind (cut_back hs pl pu ps ?_)
  show wpAny _ _ (if (((items.size : Int) - 1) == 0 && (-1 : Int) == 1 && items.size == items.size) = true then _ else _) _ _ s
  rw [if_neg (by rw [show ((-1 : Int) == 1) = false by decide, Bool.and_false, Bool.false_and]; decide), rev_pick]
  first
    | exact wpAny_bind (m := Builtin.Tuple.tupleExact _) (wpAny_newObj_type (wpAny_pure ⟨_, rfl, wpAny_pure hQ⟩) fits)
    | exact wpAny_bind (m := Builtin.Tuple.tupleExact _) (wpAny_newObj_type (wpAny_bind (wpAny_pure (wpAny_pure ⟨_, rfl, wpAny_pure hQ⟩))) fits)
    | exact wpAny_bind (wpAny_bind (m := Builtin.Tuple.tupleExact _) (wpAny_newObj_type (wpAny_pure (wpAny_pure ⟨_, rfl, wpAny_pure hQ⟩)) fits))
    | exact wpAny_bind (wpAny_bind (m := Builtin.Tuple.tupleExact _) (wpAny_newObj_type (wpAny_pure ⟨_, rfl, wpAny_pure hQ⟩) fits))
end
def tRevT (K : PySem.W.Frag) (te : TE) : TE := fun σ H Q => te σ H fun x H1 => ∃ a xs, x = .ref a ∧ SqT K H1 a xs ∧ ∀ p, H1 p = none → Q (.ref p) (upd H1 p (.tup xs.reverse))
theorem pe_revT {X : Cx} {e : Expr} {te : TE} {k : Nat} {p1 p2 p3 pos : Pos} (he : PE X e te) : PE X (.Subscript e (.Slice none none (some (.UnaryOp .USub (.Constant (.int 1) k p1) p2)) p3) pos) (tRevT X.K te) := by
  refine ⟨fun pins s σ H Q I h => Subscript_ (thn (he.run pins s σ H _ I h) fun v s1 ⟨x, H1, I1, r1, a, xs, ex, hx, q⟩ => ?_)⟩
  subst ex
  cases r1
  have neg : PO X (some (.UnaryOp .USub (.Constant (.int 1) k p1) p2)) (tPart (tUn (rU fun i => .int (-i)) (tC (.int 1)))) := po_some (pe_un un_neg pe_int)
  refine wpAny_Slice (thn (po_none.run pins s1 σ H1 (fun o H2 => o = none ∧ H2 = H1) I1 ⟨rfl, rfl⟩) fun v1 s2 ⟨l, H2, I2, pl, el, e2⟩ => ?_)
  subst el e2
  refine thn (po_none.run pins s2 σ H2 (fun o H3 => o = none ∧ H3 = H2) I2 ⟨rfl, rfl⟩) fun v2 s3 ⟨u, H3, I3, pu, eu, e3⟩ => ?_
  subst eu e3
  refine thn (neg.run pins s3 σ H3 (fun o H4 => o = some (-1) ∧ H4 = H3) I3 ⟨1, rfl, -1, rfl, rfl, rfl⟩) fun v3 s4 ⟨o, H4, I4, ps, eo, e4⟩ => ?_
  subst eo e4
  have I5 : Inv X pins σ H4 { s4 with heap := s4.heap.push { cls := .type "slice", data := .fields #[v1, v2, v3] } } := I4.kept (t' := s4.toks) fun b ob q => Heap.get?_push_of_some _ q
  obtain ⟨its, r, ht, hz⟩ := I5.tuple hx
  have len := r.length
  show wpAny (model X.prog X.w) X.A (subscriptTail e (.Slice none none (some (.UnaryOp .USub (.Constant (.int 1) k p1) p2)) p3) (.ref a) (.ref s4.heap.objs.size)) (EP X pins σ Q) X.xe { s4 with heap := s4.heap.push { cls := .type "slice", data := .fields #[v1, v2, v3] } }
  refine tail_any (ops := [.ref a, .ref s4.heap.objs.size]) ht.typeIs (PyProof.Rows.slot_tuple_getitem.lookup) ?_ (by with_unfolding_all rfl)
  refine get_back ht (Heap.IsSliceOf.new _ v1 v2 v3) pl pu ps (by rw [List.size_toArray, ← len]; exact hz) ?_
  refine ⟨.ref _, _, I5.laid (t' := s4.toks) (o := .tup xs.reverse) (fun b ob q => Heap.get?_push_of_some _ q) (Nat.le_refl _) ?_, rfl, q _ (I5.hok.fresh (Nat.le_refl _))⟩
  exact ⟨by rw [List.length_reverse]; exact hz, _, r.reverse, ⟨_, Heap.get?_push_size _ rfl, rfl, _, rfl⟩⟩
theorem pv_revT {c : Ctx} {ρ : List Ent} {ta : TE} {ds : List PyData} (ha : Pv c ta ρ (.tuple ds)) : Pv c (tRevT c.K ta) ρ (.tuple ds.reverse) := fun σ I H n Q w e l k =>
  ha σ I H n _ w e l fun v d I2 H2 g2 w2 r2 p2 => by
    subst p2
    obtain ⟨a, xs, rfl, hs, hr⟩ := id r2.tup_inv
    exact ⟨a, xs, rfl, seqT_mono w2.ih hs, fun p np => k _ _ (upd I2 p (.tup xs.reverse)) (upd H2 p (.tup xs.reverse)) (g2.trans (new_go w2.ih np)) (w2.new np) (.tup (.inl (.inl upd_same)) (hr.rev.mono (new_go (b := none) w2.ih np).ii)) rfl⟩
/-! ### == [] and != [], whatever the other holds -/
def rNil (K : PySem.W.Frag) (f : Bool → Bool) : R2 := fun x y H Q => ∃ (a b : Addr) (xs : List V), x = .ref a ∧ y = .ref b ∧ ((SqL K H a xs ∧ SqL K H b []) ∨ (SqT K H a xs ∧ SqT K H b [])) ∧ Q (.bl (f xs.isEmpty)) H
theorem op_eqNil {X : Cx} {K : PySem.W.Frag} (e : X.K = K) (hu : X.A.units + 64 < cLine) : OpR X (compareOp .Eq) (rNil K fun b => b) := by
  subst e
  intro pins s σ H x y v u Q I rx ry ⟨a, b, xs, ex, ey, h, q⟩
  subst ex ey
  cases rx
  cases ry
  rcases h with ⟨h1, h2⟩ | ⟨h1, h2⟩
  · obtain ⟨its, rv, p1, _⟩ := I.list h1
    obtain ⟨jts, ru, p2, _⟩ := I.list h2
    cases ru
    have len := rv.length
    cases xs with
    | nil =>
      cases rv
      refine SeqAt.RcAt.lists (e := fun _ => true) p1.isList p2.isList rfl (by omega) (fun j j1 _ => absurd j1 (by simp)) _ _ _ _ ?_
      exact ⟨.bl true, H, I, rfl, q⟩
    | cons z r =>
      refine SeqAt.RcAt.lists_lengths p1.isList p2.isList (by rw [List.size_toArray, ← len]; rfl) (by omega) _ _ _ _ ?_
      exact ⟨.bl false, H, I, rfl, q⟩
  · obtain ⟨its, rv, p1, _⟩ := I.tuple h1
    obtain ⟨jts, ru, p2, _⟩ := I.tuple h2
    cases ru
    have len := rv.length
    refine SeqAt.RcAt.tuples (e := fun _ => true) p1 p2 (by omega) (fun j _ j2 => absurd j2 (by simp)) _ _ _ _ ?_
    refine ⟨.bl xs.isEmpty, H, I, ?_, q⟩
    cases rv <;> rfl
theorem op_neNil {X : Cx} {K : PySem.W.Frag} (e : X.K = K) (hu : X.A.units + 64 < cLine) : OpR X (compareOp .NotEq) (rNil K fun b => !b) := by
  subst e
  intro pins s σ H x y v u Q I rx ry ⟨a, b, xs, ex, ey, h, q⟩
  subst ex ey
  cases rx
  cases ry
  rcases h with ⟨h1, h2⟩ | ⟨h1, h2⟩
  · obtain ⟨its, rv, p1, _⟩ := I.list h1
    obtain ⟨jts, ru, p2, _⟩ := I.list h2
    cases ru
    have len := rv.length
    cases xs with
    | nil =>
      cases rv
      refine SeqAt.RcNeAt.lists (e := fun _ => true) p1.isList p2.isList rfl (by omega) (fun j j1 _ => absurd j1 (by simp)) _ _ _ _ ?_
      exact ⟨.bl false, H, I, rfl, q⟩
    | cons z r =>
      refine SeqAt.RcNeAt.lists_lengths p1.isList p2.isList (by rw [List.size_toArray, ← len]; rfl) (by omega) _ _ _ _ ?_
      exact ⟨.bl true, H, I, rfl, q⟩
  · obtain ⟨its, rv, p1, _⟩ := I.tuple h1
    obtain ⟨jts, ru, p2, _⟩ := I.tuple h2
    cases ru
    have len := rv.length
    refine SeqAt.RcNeAt.tuples (e := fun _ => true) p1 p2 (by omega) (fun j _ j2 => absurd j2 (by simp)) _ _ _ _ ?_
    refine ⟨.bl (!xs.isEmpty), H, I, ?_, q⟩
    cases rv <;> rfl
theorem call_listK {X : Cx} {K : PySem.W.Frag} (e : X.K = K) : CallR X (.type "list") (fun xs H Q => ∃ p ys, xs = [.ref p] ∧ (SqL K H p ys ∨ SqT K H p ys) ∧ ∀ l, H l = none → Q (.ref l) (upd H l (.lst ys))) := by
  subst e
  exact call_list_of
section
variable {c : Ctx} {ρ : List Ent} {ta tb te : TE} {tt : TT} {C C1 C2 : Nat} {P : PyData → Prop}
theorem emp_len {K : PySem.W.Frag} {I : Hp} {xs : List V} {ds : List PyData} (r : RpAll K I xs ds) : xs.isEmpty = ds.isEmpty := by cases r <;> rfl
theorem pv_nilL {f : Bool → Bool} {ds : List PyData} (ha : Pv c ta ρ (.list ds)) (hb : Pv c tb ρ (.list [])) : Pv c (tOp (rNil c.K f) ta tb) ρ (.bool (f ds.isEmpty)) := pv_op ha hb fun I H n x y Q w r1 r2 k => by
  obtain ⟨a, xs, rfl, h1, q1⟩ := r1.lst_inv
  obtain ⟨b, ys, rfl, h2, q2⟩ := r2.lst_inv
  cases q2
  exact ⟨a, b, xs, rfl, rfl, .inl ⟨SqL.of (w.ih _ _ h1), SqL.of (w.ih _ _ h2)⟩, by rw [emp_len q1]; exact k _ _ I H Gx.refl w (.bl _) rfl⟩
theorem pv_nilT {f : Bool → Bool} {ds : List PyData} (ha : Pv c ta ρ (.tuple ds)) (hb : Pv c tb ρ (.tuple [])) : Pv c (tOp (rNil c.K f) ta tb) ρ (.bool (f ds.isEmpty)) := pv_op ha hb fun I H n x y Q w r1 r2 k => by
  obtain ⟨a, xs, rfl, h1, q1⟩ := id r1.tup_inv
  obtain ⟨b, ys, rfl, h2, q2⟩ := id r2.tup_inv
  cases q2
  exact ⟨a, b, xs, rfl, rfl, .inr ⟨seqT_mono w.ih h1, seqT_mono w.ih h2⟩, by rw [emp_len q1]; exact k _ _ I H Gx.refl w (.bl _) rfl⟩
theorem rda_listT {ds : List PyData} : RdA c (fun xs H Q => ∃ p ys, xs = [.ref p] ∧ (SqL c.K H p ys ∨ SqT c.K H p ys) ∧ ∀ l, H l = none → Q (.ref l) (upd H l (.lst ys))) [.dat (.tuple ds)] (fun x => x = .list ds) := fun I H n vs Q w r k => by
  obtain ⟨x, rfl, h1⟩ := pair1 r
  obtain ⟨a, xs, rfl, hs, hr⟩ := Rp.tup_inv h1
  exact ⟨a, xs, rfl, .inr (seqT_mono w.ih hs), fun l nl => k _ _ (upd I l (.lst xs)) (upd H l (.lst xs)) (new_go w.ih nl) (w.new nl) (.lst upd_same (hr.mono (new_go (b := none) w.ih nl).ii)) rfl⟩
theorem rda_listL {ds : List PyData} : RdA c (fun xs H Q => ∃ p ys, xs = [.ref p] ∧ (SqL c.K H p ys ∨ SqT c.K H p ys) ∧ ∀ l, H l = none → Q (.ref l) (upd H l (.lst ys))) [.dat (.list ds)] (fun x => x = .list ds) := fun I H n vs Q w r k => by
  obtain ⟨x, rfl, h1⟩ := pair1 r
  obtain ⟨a, xs, rfl, hs, hr⟩ := Rp.lst_inv h1
  exact ⟨a, xs, rfl, .inl (SqL.of (w.ih _ _ hs)), fun l nl => k _ _ (upd I l (.lst xs)) (upd H l (.lst xs)) (new_go w.ih nl) (w.new nl) (.lst upd_same (hr.mono (new_go (b := none) w.ih nl).ii)) rfl⟩
theorem ev_if {a : Bool} (hc : Pt c tt ρ a) (h1 : a = true → Ev c ta ρ C P) (h2 : a = false → Ev c tb ρ C P) : Ev c (tIf tt ta tb) ρ C P := fun σ I H n Q w e l k => by
  refine hc σ I H n _ w e (by omega) fun a' I2 H2 g2 w2 p2 => ?_
  subst p2
  cases a' with
  | true => exact h1 rfl σ I2 H2 n _ w2 (e.go g2) l fun v d I3 H3 g3 w3 r3 p3 => k v d I3 H3 (g2.trans g3) w3 r3 p3
  | false => exact h2 rfl σ I2 H2 n _ w2 (e.go g2) l fun v d I3 H3 g3 w3 r3 p3 => k v d I3 H3 (g2.trans g3) w3 r3 p3
/-- a draw below a drawn number -/
theorem dipE {i : Nat} {E : XK} {Rm R : Int → Prop} (h : ρ[i]? = some .bag) (ha : EvI c ta ρ C Rm) (hm : ∀ m, Rm m → 0 < m ∧ m < 2 ^ 60) (hR : ∀ m r, Rm m → 0 ≤ r → r < m → R r) : EvI c (tCall (sp_dip c.K) [] E (tCons (tVar i) (tCons ta tNil))) ρ (C + 1) R :=
  ev_call (C1 := C) (C2 := 1) (Pe := fun es => ∃ m : Int, es = [.bag, .dat (.int m)] ∧ Rm m) (ea_bag h (ea_cons (C1 := C) (C2 := 0) ha (P2 := fun _ es => es = []) (fun _ _ => ea_nil) (P := fun es => ∃ m : Int, es = [.dat (.int m)] ∧ Rm m) (fun d es ⟨x, e, h⟩ e2 => ⟨x, by rw [e, e2], h⟩) (by omega)) fun es ⟨x, e, h⟩ => ⟨x, by rw [e], h⟩) (fun es ⟨m, e, h⟩ => by subst e; exact ⟨rfl, m, rfl, hm m h⟩)
    (fun es d ⟨m, e, h⟩ ⟨m', e', r, ed, a, b⟩ => by
      rw [e] at e'
      cases e'
      exact ⟨r, ed, hR m r h a b⟩) (Nat.le_refl _)
theorem ev_pickT {m : Nat} (ha : Ev c ta ρ C1 (fun d => ∃ ds, d = .tuple ds ∧ ds.length = m ∧ ∀ x ∈ ds, P x)) (hb : Ev c tb ρ C2 (fun d => ∃ i : Int, d = .int i ∧ 0 ≤ i ∧ i < m)) (hC : C1 + C2 ≤ C) : Ev c (tOp (rIx c.K) ta tb) ρ C P :=
  ev_op ha (P2 := fun _ d => ∃ i : Int, d = .int i ∧ 0 ≤ i ∧ i < m) (fun _ _ => hb) (fun d1 d2 p1 p2 => by
    obtain ⟨ds, rfl, hl, hP⟩ := p1
    obtain ⟨i, rfl, h0, h1⟩ := p2
    obtain ⟨d, hd, hm⟩ := atI_of (ds := ds) h0 (by omega)
    exact fun I H n x y Q w r1 r2 k => rd_ixTs hd I H n x y Q w r1 r2 fun v d' I2 H2 g2 w2 r2 p2 => k v d' I2 H2 g2 w2 r2 (by rw [p2]; exact hP d hm)) hC
/-- one of a list of written things, at a drawn place -/
theorem ev_oneOf {ds : List PyData} (ha : Pv c ta ρ (.list ds)) (hb : EvI c tb ρ C (fun i => 0 ≤ i ∧ i < ds.length)) : Ev c (tOp (rIx c.K) ta tb) ρ C (fun d => d ∈ ds) :=
  ev_pick (C1 := 0) (C2 := C) (m := ds.length) (ha.imp (Nat.le_refl _) fun d e => ⟨ds, e, rfl, fun x hx => hx⟩) hb (by omega)
theorem iw_rangeP {g : TG} {tgs : List Nat} {f : PyData → List Ent → List Ent} {i : Int} (ha : Pv c ta ρ (.int i)) (hb : -(2 ^ 62) ≤ i ∧ i < 2 ^ 62) (ht : ∀ d ∈ rngD 0 i.toNat, Tg c g tgs d (f d)) : Iw c (iRng1 (tCons ta tNil)) g ρ 0 tgs f (fun items => items = rngD 0 i.toNat) := fun σ I H n R w e l k =>
  iw_range1 (Pn := fun j => j = i) (evI_of ha rfl) (fun j e => by subst e; exact hb) (fun j e => by subst e; exact ht) σ I H n R w e l fun J I1 H1 items g1 w1 it ⟨j, e1, e2⟩ => k J I1 H1 items g1 w1 it (by rw [e2, e1])
theorem cut_to {xs : List PyData} (k : Nat) : cutD xs none (some (k : Int)) = xs.take k := by
  unfold cutD
  rw [HT.sIx_none, HT.sIx_nat, List.drop_zero, Nat.sub_zero]
  by_cases h : k ≤ xs.length
  · rw [Nat.min_eq_left h]
  · rw [Nat.min_eq_right (by omega), List.take_of_length_le (Nat.le_refl _), List.take_of_length_le (by omega)]
theorem cut_from {xs : List PyData} (k : Nat) : cutD xs (some (k : Int)) none = xs.drop k := by
  unfold cutD
  rw [HT.sIx_none, HT.sIx_nat]
  by_cases h : k ≤ xs.length
  · rw [Nat.min_eq_left h]
    exact List.take_of_length_le (by rw [List.length_drop]; exact Nat.le_refl _)
  · rw [Nat.min_eq_right (by omega), List.drop_of_length_le (Nat.le_refl _), List.drop_of_length_le (by omega)]
    exact List.take_nil
end
end Hh

set_option Elab.async false
set_option linter.all false
set_option maxHeartbeats 4000000
namespace Hh
set_option autoImplicit false
open PySem PySem.Spec PyProof.Rows L2
def lastOr (ns : List Int) : Int := ns.getD (ns.length - 1) (-1)
theorem last_at (ns : List Int) : atI (ns.map PyData.int ++ [PyData.int (-1)]) ((ns.length : Int) - 1) = some (.int (lastOr ns)) := by
  cases ns with
  | nil => exact atI_last [] (PyData.int (-1))
  | cons x r =>
    have e : (((x :: r).length : Nat) : Int) - 1 = ((r.length : Nat) : Int) := by rw [List.length_cons]; omega
    rw [e]
    refine atI_nat ?_
    have h : r.length < (x :: r).length := by rw [List.length_cons]; omega
    rw [List.getElem?_append_left (by rw [List.length_map]; exact h), List.getElem?_map, lastOr, List.getD_eq_getElem?_getD, show (x :: r).length - 1 = r.length from rfl, List.getElem?_eq_getElem h]
    rfl
theorem last_up {ns : List Int} (hp : ns.Pairwise (· < ·)) : ∀ n ∈ ns, n ≤ lastOr ns := fun n hn => by
  obtain ⟨i, hi, rfl⟩ := List.getElem_of_mem hn
  have hl : ns.length - 1 < ns.length := by omega
  rw [lastOr, List.getD_eq_getElem?_getD, List.getElem?_eq_getElem hl]
  show ns[i] ≤ ns[ns.length - 1]
  by_cases q : i = ns.length - 1
  · subst q; exact Int.le_refl _
  · have := List.pairwise_iff_getElem.mp hp i (ns.length - 1) hi hl (by omega)
    omega
theorem last_bd {ns : List Int} {m : Int} (h : ∀ n ∈ ns, 0 ≤ n ∧ n ≤ m) (hm : -1 ≤ m) : -1 ≤ lastOr ns ∧ lastOr ns ≤ m := by
  by_cases q : ns.length - 1 < ns.length
  · rw [lastOr, List.getD_eq_getElem?_getD, List.getElem?_eq_getElem q]
    have := h _ (List.getElem_mem q)
    show -1 ≤ ns[ns.length - 1] ∧ ns[ns.length - 1] ≤ m
    omega
  · have e : ns = [] := List.length_eq_zero_iff.mp (by omega)
    subst e
    exact ⟨Int.le_refl _, hm⟩
/-- texts rise -/
abbrev UpS (ys : List Str) : Prop := ys.Pairwise fun a b => a.cps.toList < b.cps.toList
theorem rises_of : ∀ (p : Str) (ys : List Str), risingS p ys = true → (p :: ys).Nodup → UpS (p :: ys)
  | p, [], _, _ => List.pairwise_singleton _ _
  | p, x :: r, h, n => by
    have h' : (!ltCps x.cps.toList p.cps.toList && risingS x r) = true := h
    rw [Bool.and_eq_true, Bool.not_eq_true', ltCps_eq, decide_eq_false_iff_not] at h'
    have n1 := List.nodup_cons.mp n
    have ih := rises_of x r h'.2 n1.2
    have ne : p.cps.toList ≠ x.cps.toList := fun e => n1.1 (by
      have : p = x := by
        cases p; cases x
        simpa using e
      rw [this]; exact List.mem_cons_self)
    have lt : p.cps.toList < x.cps.toList := by
      rcases List.le_iff_lt_or_eq.mp (List.not_lt.mp h'.1) with q | q
      · exact q
      · exact absurd q ne
    refine List.pairwise_cons.mpr ⟨fun y hy => ?_, ih⟩
    rcases List.mem_cons.mp hy with q | q
    · rw [q]; exact lt
    · exact List.lt_trans lt ((List.pairwise_cons.mp ih).1 y q)
theorem sorted_up {ys : List Str} (h : sortedS ys = true) (n : ys.Nodup) : UpS ys := by
  cases ys with
  | nil => exact .nil
  | cons p r => exact rises_of p r h n
theorem shift_at {n : Nat} {s : Int} {j : Nat} (hj : j < n) (h0 : 0 ≤ s) (h1 : s < n) : ∃ k : Nat, k < n ∧ ((k : Int) + s) % n = j := by
  by_cases q : s ≤ j
  · refine ⟨(j - s).toNat, by omega, ?_⟩
    rw [show (((j - s).toNat : Nat) : Int) + s = j by omega]
    exact Int.emod_eq_of_lt (by omega) (by omega)
  · refine ⟨(j + n - s).toNat, by omega, ?_⟩
    rw [show (((j + n - s).toNat : Nat) : Int) + s = (j : Int) + n by omega, Int.add_emod_right]
    exact Int.emod_eq_of_lt (by omega) (by omega)
/-! ### lists put together; with places -/
theorem rd_addL {c : Ctx} {ds es : List PyData} (h : ds.length + es.length ≤ sizeLine) : Rd2 c (rAddA c.K) (.list ds) (.list es) (fun x => x = .list (ds ++ es)) := fun I H n x y Q w r1 r2 k => by
  obtain ⟨a, xs, rfl, h1, q1⟩ := r1.lst_inv
  obtain ⟨b, ys, rfl, h2, q2⟩ := r2.lst_inv
  refine .inr (.inl ⟨a, b, xs, ys, rfl, rfl, w.ih _ _ h1, w.ih _ _ h2, by rw [q1.length, q2.length]; exact h, fun p np => ?_⟩)
  exact k _ _ (upd I p (.lst (xs ++ ys))) (upd H p (.lst (xs ++ ys))) (new_go w.ih np) (w.new np) (.lst upd_same ((q1.append q2).mono (new_go (b := none) w.ih np).ii)) rfl
theorem ev_addL {c : Ctx} {ρ : List Ent} {ta tb : TE} {C C1 C2 : Nat} {P1 P2 : List PyData → Prop} (ha : Ev c ta ρ C1 (fun d => ∃ ds, d = .list ds ∧ P1 ds)) (hb : Ev c tb ρ C2 (fun d => ∃ ds, d = .list ds ∧ P2 ds)) (hl : ∀ ds es, P1 ds → P2 es → ds.length + es.length ≤ 1000) (hC : C1 + C2 ≤ C) : Ev c (tOp (rAddA c.K) ta tb) ρ C (fun d => ∃ ds, d = .list ds ∧ ∃ xs ys, ds = xs ++ ys ∧ P1 xs ∧ P2 ys) :=
  ev_op ha (P2 := fun _ d => ∃ ds, d = .list ds ∧ P2 ds) (fun _ _ => hb) (fun d1 d2 ⟨xs, e1, p1⟩ ⟨ys, e2, p2⟩ => by
    subst e1 e2
    intro I H n x y Q w r1 r2 k
    exact rd_addL (Nat.le_trans (hl xs ys p1 p2) (by decide)) I H n x y Q w r1 r2 fun v d I2 H2 g w2 r e => k v d I2 H2 g w2 r ⟨_, e, xs, ys, rfl, p1, p2⟩) hC

/-- tuples put together -/
theorem rd_addT {c : Ctx} {ds es : List PyData} (h : ds.length + es.length ≤ sizeLine) : Rd2 c (rAddA c.K) (.tuple ds) (.tuple es) (fun x => x = .tuple (ds ++ es)) := fun I H n x y Q w r1 r2 k => by
  obtain ⟨a, xs, rfl, h1, q1⟩ := id r1.tup_inv
  obtain ⟨b, ys, rfl, h2, q2⟩ := id r2.tup_inv
  refine .inr (.inr (.inl ⟨a, b, xs, ys, rfl, rfl, seqT_mono w.ih h1, seqT_mono w.ih h2, by rw [q1.length, q2.length]; exact h, fun e => ?_, fun _ e => ?_, fun _ _ p np => ?_⟩))
  · subst e
    cases q1
    exact k _ _ I H Gx.refl w r2 rfl
  · subst e
    cases q2
    exact k _ _ I H Gx.refl w r1 (by rw [List.append_nil])
  · exact k _ _ (upd I p (.tup (xs ++ ys))) (upd H p (.tup (xs ++ ys))) (new_go w.ih np) (w.new np) (.tup (.inl (.inl upd_same)) ((q1.append q2).mono (new_go (b := none) w.ih np).ii)) rfl
theorem ev_addT {c : Ctx} {ρ : List Ent} {ta tb : TE} {C C1 C2 : Nat} {P1 P2 : List PyData → Prop} (ha : Ev c ta ρ C1 (fun d => ∃ ds, d = .tuple ds ∧ P1 ds)) (hb : Ev c tb ρ C2 (fun d => ∃ ds, d = .tuple ds ∧ P2 ds)) (hl : ∀ ds es, P1 ds → P2 es → ds.length + es.length ≤ 4000000) (hC : C1 + C2 ≤ C) : Ev c (tOp (rAddA c.K) ta tb) ρ C (fun d => ∃ ds, d = .tuple ds ∧ ∃ xs ys, ds = xs ++ ys ∧ P1 xs ∧ P2 ys) :=
  ev_op ha (P2 := fun _ d => ∃ ds, d = .tuple ds ∧ P2 ds) (fun _ _ => hb) (fun d1 d2 ⟨xs, e1, p1⟩ ⟨ys, e2, p2⟩ => by
    subst e1 e2
    intro I H n x y Q w r1 r2 k
    exact rd_addT (Nat.le_trans (hl xs ys p1 p2) (by decide)) I H n x y Q w r1 r2 fun v d I2 H2 g w2 r e => k v d I2 H2 g w2 r ⟨_, e, xs, ys, rfl, p1, p2⟩) hC
theorem iw_enumP {c : Ctx} {ρ : List Ent} {ta : TE} {g : TG} {tgs : List Nat} {f : PyData → List Ent → List Ent} {ds : List PyData} (ha : Pv c ta ρ (.list ds)) (ht : ∀ d ∈ enumD ds, Tg c g tgs d (f d)) : Iw c (iEnum c.K (tCons ta tNil)) g ρ 0 tgs f (fun items => items = enumD ds) := fun σ I H n R w e l k =>
  iw_enum (Pi := fun es => es = ds) (ha.imp (Nat.le_refl _) fun d e => ⟨ds, e, rfl⟩) (fun es e => by subst e; exact ht) σ I H n R w e l fun J I1 H1 items g1 w1 it ⟨j, e1, e2⟩ => k J I1 H1 items g1 w1 it (by rw [e2, e1])
theorem Ws.all {s k : Nat} : ∀ {ds : List PyData}, (∀ x ∈ ds, Wz s k x) → Ws ((s + 2) * ds.length) k ds
  | [], _ => Ws.nil.mono (by simp) (Nat.zero_le _)
  | d :: r, h => by
    have q := Ws.cons (h d List.mem_cons_self) (Ws.all fun x hx => h x (List.mem_cons_of_mem _ hx))
    refine q.mono ?_ (Nat.le_refl _)
    rw [List.length_cons, Nat.mul_add]
    omega
/-! ### a bag made in the midst of a def -/
theorem EnvR.rebase {K : PySem.W.Frag} {H1 I1 H2 I2 I H : Hp} {b1 b2 : Option Addr} {B1 B2 : BInv} {σ : Sl} {ρ : List Ent} (h : EnvR ⟨K, b1, H1, I1, B1⟩ I H σ ρ) (no : ∀ (j : Nat), ρ[j]? ≠ some Ent.bag ∧ ∀ e : Ent, ρ[j]? = some e → e.plain) : EnvR ⟨K, b2, H2, I2, B2⟩ I H σ ρ := by
  refine ⟨?_, fun i j p ds es h1 _ _ _ => ((no i).2 _ h1).elim⟩
  have go : ∀ {σ : Sl} {ρ : List Ent}, Paired (EntR ⟨K, b1, H1, I1, B1⟩ I H) σ ρ → (∀ (j : Nat), ρ[j]? ≠ some Ent.bag ∧ ∀ e : Ent, ρ[j]? = some e → e.plain) → Paired (EntR ⟨K, b2, H2, I2, B2⟩ I H) σ ρ := by
    intro σ ρ h
    induction h with
    | nil => intro _; exact .nil
    | @cons o e σ ρ h1 _ ih =>
      intro no
      refine .cons ?_ (ih fun j => no (j + 1))
      cases e with
      | any => cases o <;> exact True.intro
      | scr ns => cases o <;> exact h1
      | dat d => cases o <;> exact h1
      | own ds => exact ((no 0).2 _ rfl).elim
      | mu M => exact ((no 0).2 _ rfl).elim
      | memo M => exact ((no 0).2 _ rfl).elim
      | bag => exact absurd rfl (no 0).1
      | raw v => cases o <;> exact h1
  exact go h.st no
theorem bk_newBag {K : PySem.W.Frag} {b : Option Addr} {B : BInv} {H0 I0 : Hp} {ρ : List Ent} {tr : TA} {E : XK} {i C : Nat} {r : TS} {O : Out} (ha : Ea ⟨K, b, H0, I0, B⟩ tr ρ 0 (fun es => ∃ cell k : Int, es = [.dat (.int cell), .dat (.int k)] ∧ 0 ≤ k ∧ k ≤ 1000)) (hF : Fc ⟨K, b, H0, I0, B⟩)
    (no : ∀ (j : Nat), ρ[j]? ≠ some Ent.bag ∧ ∀ e : Ent, ρ[j]? = some e → e.plain) (hC : C ≤ NMAX)
    (h : ∀ (p : Addr) (H1 I1 : Hp), Fc ⟨K, some p, H1, I1, bagB⟩ → Bk ⟨K, some p, H1, I1, bagB⟩ r (ρ.set i .bag) C { nx := fun ρ' => O.nx (ρ'.set i .any) ∧ ∀ j : Nat, (ρ'.set i Ent.any)[j]? ≠ some Ent.bag ∧ ∀ e : Ent, (ρ'.set i Ent.any)[j]? = some e → e.plain, rt := O.rt }) (hf : O.fr = false := by rfl) :
    Bk ⟨K, b, H0, I0, B⟩ (tSeq (tAsg (tCall spNew [] E tr) (gName i)) r) ρ 0 O := fun σ I H n D w e l k1 k2 k3 k4 => by
  show tAsg (tCall spNew [] E tr) (gName i) { D with nx := r D } σ H
  refine ha σ I H n _ w e l fun vs es I2 H2 g2 w2 r2 ⟨cell, k, p2, h0, h1⟩ => ?_
  subst p2
  rw [List.append_nil]
  obtain ⟨v1, v2, rfl, q1, q2⟩ := pair2 r2
  have e1 : v1 = .int cell := Rp.int_inv q1
  have e2 : v2 = .int k := Rp.int_inv q2
  subst e1 e2
  refine ⟨I2, cell, k, rfl, h0, h1, w2.ih, fun p x y I3 H3 ga iha np hx hy hy2 => ?_⟩
  have ip := iha.free np
  have gab : Gx b I2 H2 I3 H3 := ga.anyb
  have w3 : Wd ⟨K, b, H0, I0, B⟩ I3 H3 n := w2.go (C := 0) gab iha fun q z => by
    obtain ⟨_, _, x', hh, rr⟩ := w2.bg q z
    exact ⟨x', ga.hh q _ (fun z => nomatch z) hh, rr⟩
  have e3 : EnvR ⟨K, b, H0, I0, B⟩ I3 H3 σ ρ := e.go (g2.trans gab)
  have s1 : Same H3 (upd H3 p (.lst [.int x, .int y, .int 0])) := fun q o h => by rw [upd_ne (ne_of_none h np)]; exact h
  obtain ⟨oF, uF, eF⟩ := hF.fz w3
  have hF' : Fc ⟨K, some p, upd H3 p (.lst [.int x, .int y, .int 0]), I3, bagB⟩ := ⟨⟨oF, uF, s1 _ _ eF⟩, fun z => by
    have z' : sysModules = p := Option.some.inj z
    rw [← z', eF] at np
    cases np⟩
  have w4 : Wd ⟨K, some p, upd H3 p (.lst [.int x, .int y, .int 0]), I3, bagB⟩ I3 (upd H3 p (.lst [.int x, .int y, .int 0])) 0 := ⟨iha.trans s1, Same.refl _, fun _ _ _ h => h, fun _ _ => rfl, fun q z => by
    cases z
    have nn : upd H3 p (.lst [.int x, .int y, .int 0]) p ≠ none := by rw [upd_same]; exact fun z => nomatch z
    exact ⟨ip, nn, BagAt.bat ⟨x, y, 0, upd_same, hx, hy, hy2, Int.le_refl _, Int.le_refl _⟩⟩⟩
  have e4 : EnvR ⟨K, some p, upd H3 p (.lst [.int x, .int y, .int 0]), I3, bagB⟩ I3 (upd H3 p (.lst [.int x, .int y, .int 0])) (σ.set i (some (.ref p))) (ρ.set i .bag) := by
    have q : EnvR ⟨K, some p, upd H3 p (.lst [.int x, .int y, .int 0]), I3, bagB⟩ I3 H3 σ ρ := e3.rebase no
    have q2 : EnvR ⟨K, some p, upd H3 p (.lst [.int x, .int y, .int 0]), I3, bagB⟩ I3 (upd H3 p (.lst [.int x, .int y, .int 0])) σ ρ := q.bagSet rfl
    exact q2.set i (show EntR ⟨K, some p, upd H3 p (.lst [.int x, .int y, .int 0]), I3, bagB⟩ I3 (upd H3 p (.lst [.int x, .int y, .int 0])) (some (.ref p)) .bag from ⟨p, rfl, rfl, rfl⟩) fun _ z => nomatch z
  have back : ∀ {I' H' : Hp} {m : Nat}, Wd ⟨K, some p, upd H3 p (.lst [.int x, .int y, .int 0]), I3, bagB⟩ I' H' m → Wd ⟨K, b, H0, I0, B⟩ I' H' n := fun {I' H' m} w' => by
    have keep : ∀ q o, H3 q = some o → H' q = some o := fun q o a1 => w'.h0 q o (fun z => ne_of_none a1 np (Option.some.inj z)) (s1 q o a1)
    refine ⟨w'.ih, w3.i0.trans w'.i0, fun q o ne hq => keep q o (w3.h0 q o ne hq), fun q hq => ?_, fun q z => ?_⟩
    · have nn3 : H3 q ≠ none := by
        by_cases hb : b = some q
        · obtain ⟨_, _, x', hh, _⟩ := w3.bg q hb
          rw [hh]; exact fun z => nomatch z
        · obtain ⟨o, ho⟩ := Option.ne_none_iff_exists'.mp hq
          rw [w3.h0 q o (fun z => hb z.symm) ho]; exact fun z => nomatch z
      obtain ⟨o, ho⟩ := Option.ne_none_iff_exists'.mp nn3
      have nn : upd H3 p (.lst [.int x, .int y, .int 0]) q ≠ none := by rw [s1 q o ho]; exact fun z => nomatch z
      rw [w'.nw q nn]
      exact w3.nw q hq
    · obtain ⟨a1, a2, x', hh, rr⟩ := w3.bg q z
      exact ⟨a1, a2, x', keep q _ hh, rr⟩
  have s3 : Same I I3 := (g2.trans gab).ii
  refine h p _ I3 hF' (σ.set i (some (.ref p))) I3 _ 0 D w4 e4 (by omega) (fun σ2 ρ2 I' H' s' w' e' ⟨p1, p2⟩ => ?_) (fun v d I' H' s' w' r' p' => k2 v d I' H' (s3.trans s') (back w') r' ⟨p'.1, fun z => by rw [hf] at z; cases z⟩) (fun _ _ _ _ _ _ _ z => z.elim) (fun _ _ _ _ _ _ _ z => z.elim)
  have es : σ2.set i ((σ2[i]?).getD none) = σ2 := by
    apply List.ext_getElem?
    intro j
    by_cases z : i = j
    · subst z
      rw [List.getElem?_set_self']
      cases σ2[i]? <;> rfl
    · rw [List.getElem?_set_ne z]
  have q := e'.set i (o := (σ2[i]?).getD none) (e := .any) (by cases (σ2[i]?).getD none <;> exact True.intro) fun _ z => nomatch z
  rw [es] at q
  exact k1 σ2 _ I' H' (s3.trans s') (back w') (q.rebase p2) p1
end Hh

set_option Elab.async false
set_option linter.all false
set_option maxRecDepth 100000
set_option maxHeartbeats 4000000
/-! texts without one sign; printable ones -/
namespace PySem
open Builtin Builtin.Str
/-- what the table {37: None} tells of a sign -/
def Tells37 (f : L2.Key → Option Value) : Prop := ∀ c : Nat, f (.inl (c : Int)) = if c = 37 then some Value.none else none
theorem mapOf_keeps37 {prog : Program} {w : World} {h h' : Heap} {a : Addr} {f : L2.Key → Option Value} (m : h.MapOf (L2.mixKind prog w) a f) (k : ∀ b o, h.get? b = some o → h'.get? b = some o) : h'.MapOf (L2.mixKind prog w) a f := by
  obtain ⟨o, es, ep, ho, r⟩ := m
  exact ⟨o, es, ep, k _ _ ho, r⟩
section
variable {prog : Program} {w : World} {A : Around} {E : Value → Shared → Prop} {s : Shared} {d : Addr} {c : Nat}
theorem wpAny_tl37 {f : L2.Key → Option Value} {Q : Mapped → Shared → Prop} (hh : A.handled = none) (hd : (d == sysModules) = false) (hm : s.heap.MapOf (L2.mixKind prog w) d f) (hk : Tells37 f)
    (h1 : c = 37 → ∀ h' k, (∀ b o, s.heap.get? b = some o → h'.get? b = some o) → Q .drop { s with heap := h', toks := k })
    (h2 : c ≠ 37 → ∀ h' k, (∀ b o, s.heap.get? b = some o → h'.get? b = some o) → Q .keep { s with heap := h', toks := k }) : wpAny (model prog w) A (tableLookup (.ref d) c) Q E s := by
  unfold tableLookup
  refine wpAny_bind (wpAny_attempt (wpAny_bind (wpAny_mkInt ?_)))
  by_cases hw : c = 37
  · have hf : f (.inl (c : Int)) = some Value.none := by rw [hk c, if_pos hw]
    refine wpAny_getItem_of (knd := L2.mixKind prog w) (k := .inl (c : Int)) (L2.kV_is (k := .inl (c : Int)) ⟨_, rfl⟩) hm hf ?_
    exact wpAny_pure (h1 hw s.heap _ fun _ _ e => e)
  · have hf : f (.inl (c : Int)) = none := by rw [hk c, if_neg hw]
    refine wpAny_getItem_missing_of (knd := L2.mixKind prog w) (k := .inl (c : Int)) (L2.kV_is (k := .inl (c : Int)) ⟨_, rfl⟩) hd hh hm hf fun h' e hx => ?_
    show wpAny _ _ (do let b ← isInstance (.ref e) (.type "LookupError"); _) _ _ _
    obtain ⟨ob, t, ho, hc, _⟩ := hx.there
    refine wpAny_bind (wpAny_isInstance (T := "KeyError") (b := true) ⟨ob, ho, hc⟩ key_is_lookup ?_)
    show wpAny _ _ (if true = true then (do rule "str.translate.not-in-table"; pure Mapped.keep) else _) _ _ _
    rw [if_pos rfl]
    exact wpAny_bind (wpAny_rule (wpAny_pure (h2 hw h' _ hx.keeps)))
end
def not37 (c : Nat) : Bool := !decide (c = 37)
theorem pieces37 : ∀ (l : List Nat) (acc : Array Nat), List.foldl (fun acc (p : Str) => acc ++ p.cps) acc (l.map fun c => (⟨#[c]⟩ : Str)) = acc ++ l.toArray
  | [], acc => by
    show acc = acc ++ #[]
    rw [Array.append_empty]
  | c :: l, acc => by
    rw [List.map_cons, List.foldl_cons, pieces37 l]
    apply Array.toList_inj.mp
    simp
def one37 (c : Nat) : Option Nat := if c = 37 then none else some c
def TrAt37 (x : List Nat) (s : Shared) (rest : List Nat) (st : List Str × Nat × Bool × List (Nat × Option Nat) × Bool) (s' : Shared) : Prop :=
  ∃ (past : List Nat) (pieces : List Str) (known : List (Nat × Option Nat)) (h' : Heap) (k : Nat), x = past ++ rest ∧ st = (pieces, (past.filter not37).length, true, known, false) ∧ pieces.reverse = (past.filter not37).map (fun c => (⟨#[c]⟩ : Str)) ∧
    (∀ c a, List.lookup c known = some a → a = one37 c) ∧ s' = { s with heap := h', toks := k } ∧ ∀ b o, s.heap.get? b = some o → h'.get? b = some o
section
variable {x : List Nat} {s : Shared} {rest past : List Nat} {c : Nat} {pieces : List Str} {known : List (Nat × Option Nat)} {h' : Heap} {k : Nat}
theorem TrAt37.keep (hc : c ≠ 37) (h1 : x = past ++ c :: rest) (h3 : pieces.reverse = (past.filter not37).map (fun c => (⟨#[c]⟩ : Str))) (h4 : ∀ c a, List.lookup c known = some a → a = one37 c) (h6 : ∀ b o, s.heap.get? b = some o → h'.get? b = some o) :
    TrAt37 x s rest (⟨#[c]⟩ :: pieces, (past.filter not37).length + 1, true, known, false) { s with heap := h', toks := k } := by
  have e : (past ++ [c]).filter not37 = past.filter not37 ++ [c] := by rw [List.filter_append, List.filter_cons_of_pos (by unfold not37; rw [decide_eq_false hc]; rfl)]; rfl
  refine ⟨past ++ [c], ⟨#[c]⟩ :: pieces, known, h', k, ?_, ?_, ?_, h4, rfl, h6⟩
  · rw [h1, List.append_assoc] <;> rfl
  · rw [e, List.length_append] <;> rfl
  · rw [List.reverse_cons, h3, e, List.map_append] <;> rfl
theorem TrAt37.drop (hc : c = 37) (h1 : x = past ++ c :: rest) (h3 : pieces.reverse = (past.filter not37).map (fun c => (⟨#[c]⟩ : Str))) (h4 : ∀ c a, List.lookup c known = some a → a = one37 c) (h6 : ∀ b o, s.heap.get? b = some o → h'.get? b = some o) :
    TrAt37 x s rest (pieces, (past.filter not37).length, true, known, false) { s with heap := h', toks := k } := by
  have e : (past ++ [c]).filter not37 = past.filter not37 := by rw [List.filter_append, List.filter_cons_of_neg (by unfold not37; rw [decide_eq_true hc]; decide)]; exact List.append_nil _
  refine ⟨past ++ [c], pieces, known, h', k, ?_, ?_, ?_, h4, rfl, h6⟩
  · rw [h1, List.append_assoc] <;> rfl
  · rw [e]
  · rw [h3, e]
end
theorem meets_translate37 {prog : Program} {w : World} (x : List Nat) (t : Tok) (d : Addr) (hd : (d == sysModules) = false) (hz : x.length ≤ 16000000) (ha : ∀ c ∈ x, c < 128) : MeetsIn prog w («str.translate» ⟨[.str (SX.S x) t, .ref d], []⟩) (fun A R s =>
    A.handled = none ∧ (∃ f, s.heap.MapOf (L2.mixKind prog w) d f ∧ Tells37 f) ∧ ∀ (v : Value) (h' : Heap) (k : Nat), (∀ b o, s.heap.get? b = some o → h'.get? b = some o) → (∃ t', v = .str (SX.S (x.filter not37)) t') → R (.ok (.ret v)) { s with heap := h', toks := k }) := by
  refine .of_wp fun A R s h => ?_
  obtain ⟨hh, ⟨f, hm, hk⟩, h⟩ := h
  have hh1 : A.in1.handled = none := hh
  show wpAny _ _ (if ((SX.S x).length == 0) = true then (do rule "str.translate.empty"; ret (.str (SX.S x) t)) else (do
    let st ← forIn (SX.S x).cps (([], 0, (SX.S x).cps.all fun y => decide (y < 128), [], false) : List Str × Nat × Bool × List (Nat × Option Nat) × Bool) _
    _)) _ _ s
  by_cases h0 : ((SX.S x).length == 0) = true
  · rw [if_pos h0]
    have hx : x = [] := by
      rw [beq_iff_eq, SX.S_len] at h0
      exact List.eq_nil_of_length_eq_zero h0
    subst hx
    exact wpAny_bind (wpAny_rule (wpAny_pure ⟨_, rfl, h _ s.heap s.toks (fun _ _ e => e) ⟨t, rfl⟩⟩))
  · rw [if_neg h0]
    have hfast : ((SX.S x).cps.all fun y => decide (y < 128)) = true := by
      show (x.toArray.all fun y => decide (y < 128)) = true
      rw [List.all_toArray, List.all_eq_true]
      exact fun c hc => decide_eq_true (ha c hc)
    rw [hfast]
    refine wpAny_bind (MeetsSeq2.wpAny_forIn_array _ (TrAt37 x s) _ (fun c rest st s' hI => ?turn) (fun st s' hI => ?fin) (SX.S x).cps ([], 0, true, [], false) ?h0)
    case h0 =>
      refine ⟨[], [], [], s.heap, s.toks, ?_, rfl, rfl, fun c a z => ?_, rfl, fun _ _ e => e⟩
      · show x = [] ++ x.toArray.toList
        rw [List.toList_toArray, List.nil_append]
      · rw [List.lookup_nil] at z
        cases z
    case turn =>
      obtain ⟨past, pieces, known, h', k, e1, e2, e3, e4, e5, e6⟩ := hI
      subst e2
      subst e5
      have hpl : (past.filter not37).length ≤ 16000000 := by
        have q := congrArg List.length e1
        rw [List.length_append] at q
        have := List.length_filter_le not37 past
        omega
      have hm' : ({ s with heap := h', toks := k } : Shared).heap.MapOf (L2.mixKind prog w) d f := mapOf_keeps37 hm e6
      show wpAny _ _ (if tooLong (past.filter not37).length = true then _ else (if true = true then _ else _)) _ _ _
      rw [show tooLong (past.filter not37).length = false from PyProof.Rows.short24 (by omega), if_neg Bool.false_ne_true, if_pos rfl]
      have new : ∀ b, b = one37 c → ∀ c' a, List.lookup c' ((c, b) :: known) = some a → a = one37 c' := fun b hb c' a z => by
        rcases lookup_new z with ⟨q1, q2⟩ | q
        · rw [q2, hb, q1]
        · exact e4 c' a q
      cases hl : List.lookup c known with
      | some a =>
        have hac := e4 c a hl
        subst hac
        refine wpAny_bind (wpAny_pure ?_)
        by_cases hw : c = 37
        · rw [show one37 c = none from if_pos hw]
          exact wpAny_pure (TrAt37.drop hw e1 e3 e4 e6)
        · rw [show one37 c = some c from if_neg hw]
          exact wpAny_pure (TrAt37.keep hw e1 e3 e4 e6)
      | none =>
        refine wpAny_bind (wpAny_tl37 hh1 hd hm' hk (fun hw h2 k2 k3 => ?_) (fun hw h2 k2 k3 => ?_))
        · refine wpAny_bind (wpAny_pure ?_)
          exact wpAny_pure (TrAt37.drop (k := k2) (known := (c, none) :: known) hw e1 e3 (new none (by rw [show one37 c = none from if_pos hw])) (fun b o z => k3 b o (e6 b o z)))
        · refine wpAny_bind (wpAny_pure ?_)
          exact wpAny_pure (TrAt37.keep (k := k2) (known := (c, some c) :: known) hw e1 e3 (new (some c) (by rw [show one37 c = some c from if_neg hw])) (fun b o z => k3 b o (e6 b o z)))
    case fin =>
      obtain ⟨past, pieces, known, h', k, e1, e2, e3, e4, e5, e6⟩ := hI
      subst e2
      subst e5
      have ex : x = past := by rw [e1, List.append_nil]
      have hpl := List.length_filter_le not37 past
      show wpAny _ _ (if tooLong (past.filter not37).length = true then _ else retStr { cps := List.foldl (fun acc (p : Str) => acc ++ p.cps) #[] pieces.reverse }) _ _ _
      rw [show tooLong (past.filter not37).length = false from PyProof.Rows.short24 (by rw [← ex] at hpl ⊢; omega), if_neg Bool.false_ne_true, e3, pieces37, ← ex]
      have ev : (⟨#[] ++ (x.filter not37).toArray⟩ : Str) = SX.S (x.filter not37) := by
        rw [Array.empty_append] <;> rfl
      rw [ev]
      exact wpAny_bind (wpAny_mkStr (wpAny_pure ⟨_, rfl, h _ h' _ e6 ⟨_, rfl⟩⟩) (by rw [SX.S_len, sizeLine_eq]; have := List.length_filter_le not37 x; omega))
end PySem
namespace Hh
set_option autoImplicit false
open PySem PySem.Spec PyProof.Rows L2

/-! ### a list of one's own, lent to a call -/
mutual
/-- no list and no dict within -/
def noL : PyData → Bool
  | .none => true
  | .bool _ => true
  | .int _ => true
  | .str _ => true
  | .tuple ds => noLs ds
  | _ => false
def noLs : List PyData → Bool
  | [] => true
  | d :: ds => noL d && noLs ds
end
def thaw (I : Hp) (p : Addr) : Hp := fun q => if q = p then none else I q
theorem thaw_ne {I : Hp} {p q : Addr} (h : q ≠ p) : thaw I p q = I q := if_neg h
theorem thaw_at {I : Hp} {p : Addr} : thaw I p p = none := if_pos rfl
theorem thaw_seq {K : PySem.W.Frag} {I : Hp} {p a : Addr} {ys xs : List V} (hp : I p = some (.lst ys)) (h : SqT K I a xs) : SqT K (thaw I p) a xs := by
  have ne : ∀ o, I a = some o → (∀ ys, o ≠ .lst ys) → thaw I p a = some o := fun o e q => by
    by_cases z : a = p
    · subst z; rw [hp] at e; cases e; exact absurd rfl (q ys)
    · rw [thaw_ne z]; exact e
  rcases h with h | h
  · refine .inl (h.elim (fun h => .inl (ne _ h fun ys z => nomatch z)) fun ⟨o, h⟩ => .inr ⟨o, ne _ h fun ys z => nomatch z⟩)
  · exact .inr h
mutual
theorem Rp.thaw {K : PySem.W.Frag} {I : Hp} {p : Addr} {ys : List V} (hp : I p = some (.lst ys)) : ∀ {d : PyData} {v : V}, noL d = true → Rp K I v d → Rp K (Hh.thaw I p) v d
  | _, _, _, .non => .non
  | _, _, _, .bl b => .bl b
  | _, _, _, .int i => .int i
  | _, _, _, .str x => .str x
  | _, _, h, .tup s r => .tup (thaw_seq hp s) (RpAll.thaw hp h r)
  | _, _, h, .lst _ _ => nomatch h
  | _, _, h, .dic _ _ => nomatch h
theorem RpAll.thaw {K : PySem.W.Frag} {I : Hp} {p : Addr} {ys : List V} (hp : I p = some (.lst ys)) : ∀ {ds : List PyData} {vs : List V}, noLs ds = true → RpAll K I vs ds → RpAll K (Hh.thaw I p) vs ds
  | _, _, _, .nil => .nil
  | _, _, h, .cons a r => by
    have h' : (noL _ && noLs _) = true := h
    rw [Bool.and_eq_true] at h'
    exact .cons (Rp.thaw hp h'.1 a) (RpAll.thaw hp h'.2 r)
end
/-- what is told holds no list: the list that was lent is one's own again -/
theorem ev_lend {c : Ctx} {ρ : List Ent} {C : Nat} {P : PyData → Prop} {te : TE} {i : Nat} {ds : List PyData} (hi : ρ[i]? = some (.own ds)) (h : Ev c te (ρ.set i (.dat (.list ds))) C P) (hP : ∀ d, P d → noL d = true) : Ev c te ρ C P := fun σ I H n D w e l k => by
  obtain ⟨o, h1, h2⟩ := Paired.getP e.st hi
  cases o with
  | none => exact h2.elim
  | some v =>
    obtain ⟨p, xs, rfl, a1, a2, a3, a4, a5⟩ := h2
    have s1 : Same I (upd I p (.lst xs)) := fun q o h => by rw [upd_ne (ne_of_none h a4)]; exact h
    have hσ : σ.set i (some (V.ref p)) = σ := by
      apply List.ext_getElem?
      intro j
      by_cases z : i = j
      · subst z
        rw [List.getElem?_set_self', h1]
        rfl
      · rw [List.getElem?_set_ne z]
    have w1 : Wd c (upd I p (.lst xs)) H n := by
      refine ⟨fun q o h => ?_, w.i0.trans s1, w.h0, fun q h => ?_, w.bg⟩
      · by_cases z : q = p
        · subst z; rw [upd_same] at h; cases h; exact a1
        · rw [upd_ne z] at h; exact w.ih q o h
      · rw [upd_ne (fun z => h (by rw [z]; exact a2))]; exact w.nw q h
    have e1 : EnvR c (upd I p (.lst xs)) H σ (ρ.set i (.dat (.list ds))) := by
      refine ⟨?_, fun j k q as bs b1 b2 b3 b4 => ?_⟩
      · have gen : ∀ (σ : Sl) (ρ : List Ent), Paired (EntR c I H) σ ρ → ∀ i, σ[i]? = some (some (V.ref p)) → (∀ (j : Nat) (es : List PyData), j ≠ i → ρ[j]? = some (Ent.own es) → σ[j]? ≠ some (some (V.ref p))) → Paired (EntR c (upd I p (.lst xs)) H) σ (ρ.set i (.dat (.list ds))) := by
          intro σ ρ h
          induction h with
          | nil => intro i hi; cases hi
          | @cons a b l m x r ih =>
            intro i hi hne
            have upx : ∀ {a : Option V} {b : Ent}, EntR c I H a b → (∀ es, b = .own es → a ≠ some (V.ref p)) → EntR c (upd I p (.lst xs)) H a b := fun {a b} x hx => by
              cases b with
              | any => cases a <;> exact True.intro
              | dat d => cases a with
                | none => exact x
                | some v => exact Rp.mono s1 x
              | bag | memo _ => cases a with
                | none => exact x
                | some v => exact x
              | raw u => cases a with
                | none => exact x
                | some v => exact x
              | scr ns => cases a with
                | none => exact x
                | some v => obtain ⟨z, e1, q⟩ := x; exact ⟨z, e1, s1.seq q⟩
              | own ds => cases a with
                | none => exact x
                | some v =>
                  obtain ⟨q, ys, rfl, h1, r1, r2, r3, r4⟩ := x
                  have ne : q ≠ p := fun z => hx ds rfl (by rw [z])
                  exact ⟨q, ys, rfl, h1, r1, r2, by rw [upd_ne ne]; exact r3, r4.mono s1⟩
              | mu M => cases a with
                | none => exact x
                | some v =>
                  obtain ⟨q, o, rfl, h1, h2, r1, r2, r3, r4⟩ := x
                  have ne : q ≠ p := fun z => by rw [z, a1] at h1; exact h2 _ (Option.some.inj h1).symm
                  exact ⟨q, o, rfl, h1, h2, r1, r2, by rw [upd_ne ne]; exact r3, fun J s => r4 J (s1.trans s)⟩
            cases i with
            | zero =>
              have ea : a = some (V.ref p) := Option.some.inj hi
              subst ea
              refine .cons (show Rp c.K (upd I p (.lst xs)) (.ref p) (.list ds) from .lst upd_same (a5.mono s1)) ?_
              have tl : ∀ (l : Sl) (m : List Ent), Paired (EntR c I H) l m → (∀ (j : Nat) (es : List PyData), m[j]? = some (Ent.own es) → l[j]? ≠ some (some (V.ref p))) → Paired (EntR c (upd I p (.lst xs)) H) l m := by
                intro l m h
                induction h with
                | nil => exact fun _ => .nil
                | @cons a b l m x r ih =>
                  intro hh
                  exact .cons (upx x fun es eb => by subst eb; exact fun z => hh 0 es rfl (by rw [z]; rfl)) (ih fun j es h => hh (j + 1) es (by simpa using h))
              exact tl l m r fun j es h => hne (j + 1) es (by omega) (by simpa using h)
            | succ i =>
              refine .cons (upx x fun es eb => by subst eb; exact fun z => hne 0 es (by omega) rfl (by rw [z]; rfl)) (ih i (by simpa using hi) fun j es nj h => ?_)
              have := hne (j + 1) es (by omega) (by simpa using h)
              simpa using this
        exact gen σ ρ e.st i h1 fun j es nj h z => nj (e.ap j i p es ds h hi z h1)
      · have key : ∀ (j : Nat) (as : List PyData), (ρ.set i (.dat (.list ds)))[j]? = some (.own as) → ρ[j]? = some (.own as) := fun j as h1 => by
          by_cases z : j = i
          · subst z
            rw [List.getElem?_set_self'] at h1
            cases q2 : ρ[j]? with
            | none => rw [q2] at h1; cases h1
            | some o => rw [q2] at h1; cases h1
          · rw [List.getElem?_set_ne (Ne.symm z)] at h1; exact h1
        exact e.ap j k q as bs (key j as b1) (key k bs b2) b3 b4
    refine h σ _ H n D w1 e1 l fun v d I2 H2 g2 w2 r2 p2 => ?_
    have hp2 : I2 p = some (.lst xs) := g2.ii _ _ upd_same
    have s2 : Same I (thaw I2 p) := fun q o h => by
      have ne := ne_of_none h a4
      rw [thaw_ne ne]
      exact g2.ii _ _ (s1 _ _ h)
    refine k v d (thaw I2 p) H2 ⟨s2, g2.hh, fun q h => ?_, g2.th⟩ ⟨fun q o h => ?_, w.i0.trans s2, w2.h0, fun q h => ?_, w2.bg⟩ (Rp.thaw hp2 (hP d p2) r2) p2
    · by_cases z : q = p
      · subst z; rw [thaw_at, a4]
      · rw [thaw_ne z, g2.nw q h, upd_ne z]
    · by_cases z : q = p
      · subst z; rw [thaw_at] at h; cases h
      · rw [thaw_ne z] at h; exact w2.ih q o h
    · rw [thaw_ne (fun z => h (by rw [z]; exact a2))]; exact w2.nw q h

end Hh

set_option Elab.async false
set_option linter.all false
set_option maxRecDepth 100000
set_option maxHeartbeats 4000000
/-! dicts written in a def: displays, get, update -/
namespace L2
open PySem PySem.Spec PyProof.Rows
def rUpd : V → List V → Hp → VK → Prop := fun x xs H Q => ∃ a b kvs more, x = .ref a ∧ xs = [.ref b] ∧ a ≠ b ∧ H a = some (.dK kvs) ∧ H b = some (.dK more) ∧ kvs.length + more.length ≤ 1000 ∧ Q .non (upd H a (.dK (mergeK kvs more)))
theorem mt_update {X : Cx} : MtR X "dict.update" rUpd := by
  intro pins s σ H x xs v us Q I rx rv h
  obtain ⟨a, b, kvs, more, rfl, rfl, hab, ea, eb, hl, q⟩ := h
  cases rx
  cases rv with
  | cons r1 rs =>
    cases rs
    cases r1
    obtain ⟨z1, d1, vs1, k1, dd1⟩ := dk_of I.hok ea
    obtain ⟨z2, d2, vs2, k2, dd2⟩ := dk_of I.hok eb
    have sz : (1000 : Nat) ≤ sizeLine := by decide
    refine call_meetsIn F.slot_dict_update dd1.typeIs F.entry_dict_update (F.args_dict_update_2 _ _) (meets_dict_update (mixKind X.prog X.w) a b hab d2) ⟨vs1, vs2, dd1, dd2, by rw [← k1.length, ← k2.length]; omega, fun h' e1 e2 hs => ?_⟩
    have he : ∃ q, h'.get? a = some q := let ⟨q, _, _, hq, _⟩ := e1; ⟨q, hq⟩
    have hz := length_mergeK more kvs
    exact ⟨.non, _, d_write I (by rw [ea]; exact True.intro) hs he (dk_new (by omega) d1 (k2.merge k1) e1), rfl, q⟩
def rTr37 : V → List V → Hp → VK → Prop := fun x xs H Q => ∃ (t : List Nat) (d : Addr), x = .str (SX.S t) ∧ xs = [.ref d] ∧ H d = some (.dK [(.inl 37, .non)]) ∧ t.length ≤ 16000000 ∧ (∀ c ∈ t, c < 128) ∧ Q (.str (SX.S (t.filter not37))) H
theorem mt_translate37 {X : Cx} (hc : X.calm = true) : MtR X "str.translate" rTr37 := by
  intro pins s σ H x xs v us Q I rx rs h
  obtain ⟨a, d, rfl, rfl, hd, h3, h4, h⟩ := h
  obtain ⟨t, rfl⟩ := rx
  cases rs with
  | cons r1 rs =>
    cases rs
    cases r1
    obtain ⟨z1, d1, vs1, k1, dd1⟩ := dk_of I.hok hd
    refine call_meetsIn F.slot_str_translate (typeIs_str _ _ _) F.entry_str_translate (F.args_str_translate_2 _ _) (meets_translate37 a t d d1 h3 h4) ⟨I.ok.hd hc, ⟨_, dd1.mapOf, ?_⟩, ?_⟩
    · cases k1 with
      | @cons p q _ _ h1 t1 =>
        cases t1
        obtain ⟨q1, q2⟩ := q
        obtain ⟨e1, e2⟩ := h1
        simp only at e1 e2
        subst e1
        cases e2
        intro c
        unfold valueAt
        by_cases w : c = 37
        · subst w; rfl
        · rw [if_neg w, List.find?_cons_of_neg (by
            rw [decide_eq_true_eq]
            intro z
            exact w (by have := Sum.inl.inj z; omega))]
          rfl
    · intro v h' k hk ⟨t', e⟩
      subst e
      exact ⟨.str _, H, I.kept (t' := k) hk, ⟨t', rfl⟩, h⟩
end L2
namespace Hh
set_option autoImplicit false
open PySem PySem.Spec PyProof.Rows L2
def dv (kvs : List (Key × PyData)) (k : Key) : Option PyData := (kvs.find? fun kv => decide (kv.1 = k)).map (·.2)
def putD (kvs : List (Key × PyData)) (k : Key) (v : PyData) : List (Key × PyData) :=
  if (kvs.any fun kv => decide (kv.1 = k)) = true then kvs.map (fun kv => if kv.1 = k then (kv.1, v) else kv) else kvs ++ [(k, v)]
def mergeD (kvs more : List (Key × PyData)) : List (Key × PyData) := more.foldl (fun acc kv => putD acc kv.1 kv.2) kvs
def kvD (kvs : List (Key × PyData)) : PyData := .dict (kvs.map fun p => (kD p.1, p.2))
abbrev KvR (K : PySem.W.Frag) (I : Hp) (xs : List (Key × V)) (ks : List (Key × PyData)) : Prop := Paired (fun p q => p.1 = q.1 ∧ Rp K I p.2 q.2) xs ks
section
variable {K : PySem.W.Frag} {I : Hp} {xs ys : List (Key × V)} {ks ls : List (Key × PyData)}
theorem KvR.any (h : KvR K I xs ks) (k : Key) : (xs.any fun kv => decide (kv.1 = k)) = ks.any fun kv => decide (kv.1 = k) := by
  induction h with
  | nil => rfl
  | cons a r ih => rw [List.any_cons, List.any_cons, ih, a.1]
theorem KvR.map {k : Key} {v : V} {d : PyData} (h : KvR K I xs ks) (hv : Rp K I v d) : KvR K I (xs.map fun kv => if kv.1 = k then (kv.1, v) else kv) (ks.map fun kv => if kv.1 = k then (kv.1, d) else kv) := by
  induction h with
  | nil => exact .nil
  | @cons p q l m a r ih =>
    rw [List.map_cons, List.map_cons]
    refine .cons ?_ ih
    by_cases e : p.1 = k
    · rw [if_pos e, if_pos (a.1.symm.trans e)]; exact ⟨a.1, hv⟩
    · rw [if_neg e, if_neg (fun z => e (a.1.trans z))]; exact a
theorem KvR.snoc {p : Key × V} {q : Key × PyData} (h : KvR K I xs ks) (a : p.1 = q.1 ∧ Rp K I p.2 q.2) : KvR K I (xs ++ [p]) (ks ++ [q]) := by
  induction h with
  | nil => exact .cons a .nil
  | cons b r ih => exact .cons b ih
theorem KvR.put {k : Key} {v : V} {d : PyData} (h : KvR K I xs ks) (hv : Rp K I v d) : KvR K I (putK xs k v) (putD ks k d) := by
  unfold putK putD
  rw [h.any]
  split
  · exact h.map hv
  · exact h.snoc ⟨rfl, hv⟩
theorem KvR.merge (h : KvR K I ys ls) : ∀ {xs : List (Key × V)} {ks : List (Key × PyData)}, KvR K I xs ks → KvR K I (mergeK xs ys) (mergeD ks ls) := by
  induction h with
  | nil => exact fun q => q
  | @cons p q l m a r ih =>
    intro xs ks h2
    have := h2.put (k := p.1) a.2
    refine ih ?_
    show KvR K I (putK xs p.1 p.2) (putD ks q.1 q.2)
    rw [← a.1]
    exact this
theorem KvR.get (h : KvR K I xs ks) (k : Key) : (valV xs k = none ∧ dv ks k = none) ∨ ∃ v d, valV xs k = some v ∧ dv ks k = some d ∧ Rp K I v d := by
  induction h with
  | nil => exact .inl ⟨rfl, rfl⟩
  | @cons p q l m a r ih =>
    unfold valV dv at *
    by_cases e : p.1 = k
    · rw [List.find?_cons_of_pos (by rw [decide_eq_true_eq]; exact e), List.find?_cons_of_pos (by rw [decide_eq_true_eq]; exact a.1.symm.trans e)]
      exact .inr ⟨_, _, rfl, rfl, a.2⟩
    · rw [List.find?_cons_of_neg (by rw [decide_eq_true_eq]; exact e), List.find?_cons_of_neg (by rw [decide_eq_true_eq]; exact fun z => e (a.1.trans z))]
      exact ih
theorem kD_inj {a b : Key} (h : kD a = kD b) : a = b := by
  cases a <;> cases b <;> simp [kD] at h <;> rw [h]
theorem RpKv.of (h : KvR K I xs ks) : RpKv K I xs (ks.map fun p => (kD p.1, p.2)) := by
  induction h with
  | nil => exact .nil
  | @cons p q l m a r ih =>
    obtain ⟨p1, p2⟩ := p
    obtain ⟨e, h2⟩ := a
    simp only at e h2
    subst e
    exact .cons h2 ih
theorem RpKv.kv : ∀ {ks : List (Key × PyData)} {xs : List (Key × V)}, RpKv K I xs (ks.map fun p => (kD p.1, p.2)) → KvR K I xs ks := by
  intro ks
  induction ks with
  | nil => intro xs h; cases h; exact .nil
  | cons q r ih =>
    intro xs h
    generalize hd : ((q :: r).map fun p => (kD p.1, p.2)) = es at h
    cases h with
    | nil => cases hd
    | @cons k v d kvs es a b =>
      rw [List.map_cons, List.cons.injEq, Prod.mk.injEq] at hd
      obtain ⟨⟨e1, e2⟩, e3⟩ := hd
      subst e3
      exact .cons ⟨kD_inj e1.symm, by rw [e2]; exact a⟩ (ih b)
theorem KvR.mono {I' : Hp} (s : Same I I') (h : KvR K I xs ks) : KvR K I' xs ks := Paired.mapP h fun _ _ a => ⟨a.1, Rp.mono s a.2⟩
theorem key_inv {v : V} {k : Key} (h : Rp K I v (kD k)) : v = kV k := by
  cases k with
  | inl i => exact h.int_inv
  | inr x => exact h.str_inv
end
def Dp (c : Ctx) (trs : List (TE × TE)) (ρ : List Ent) (ks : List (Key × PyData)) : Prop := ∀ (σ : Sl) (I H : Hp) (n : Nat) (Q : List (V × V) → Hp → Prop), Wd c I H n → EnvR c I H σ ρ → n ≤ NMAX →
  (∀ xs I2 H2, Gx c.b I H I2 H2 → Wd c I2 H2 n → KvR c.K I2 xs ks → Q (xs.map fun kv => (kV kv.1, kv.2)) H2) → tPairs trs σ H Q
section
variable {c : Ctx} {ρ : List Ent} {ta tb tk tz : TE} {trs us : List (TE × TE)} {ks ls : List (Key × PyData)}
theorem dp_nil : Dp c [] ρ [] := fun σ I H n Q w e l k => k [] I H Gx.refl w .nil
theorem dp_cons {k : Key} {d : PyData} (ha : Pv c ta ρ (kD k)) (hb : Pv c tb ρ d) (hr : Dp c trs ρ ks) : Dp c ((ta, tb) :: trs) ρ ((k, d) :: ks) := fun σ I H n Q w e l kk =>
  ha σ I H n _ w e (by omega) fun v d1 I2 H2 g2 w2 r2 p2 => by
    subst p2
    refine hb σ I2 H2 n _ w2 (e.go g2) (by omega) fun v3 d3 I3 H3 g3 w3 r3 p3 => ?_
    subst p3
    refine hr σ I3 H3 n _ w3 (e.go (g2.trans g3)) l fun xs I4 H4 g4 w4 q => ?_
    have ev := key_inv r2
    subst ev
    exact kk ((k, v3) :: xs) I4 H4 ((g2.trans g3).trans g4) w4 (.cons ⟨rfl, Rp.mono g4.ii r3⟩ q)
theorem Wd.put {I H : Hp} {n : Nat} {D : Addr} {o : HO} (w : Wd c I H n) (h0 : c.H0 D = none) (hI : I D = none) (hb : some D ≠ c.b) : Wd c I (upd H D o) n := by
  refine ⟨fun q o e => ?_, w.i0, fun q o ne e => ?_, w.nw, fun p e => ?_⟩
  · rw [upd_ne (ne_of_none e hI)]; exact w.ih q o e
  · rw [upd_ne (ne_of_none e h0)]; exact w.h0 q o ne e
  · obtain ⟨h1, h2, x, h3, r⟩ := w.bg p e
    exact ⟨h1, h2, x, by rw [upd_ne (fun q : p = D => hb (by rw [← q]; exact e.symm))]; exact h3, r⟩
/-- what was made is data from here on -/
theorem Wd.seal {I H : Hp} {n : Nat} {D : Addr} {o : HO} (w : Wd c I H n) (h0 : c.H0 D = none) (hI : I D = none) (hb : some D ≠ c.b) : Wd c (upd I D o) (upd H D o) n := by
  have w1 := w.put (o := o) h0 hI hb
  have s1 : Same I (upd I D o) := fun q x h => by rw [upd_ne (ne_of_none h hI)]; exact h
  refine ⟨fun q x h => ?_, w.i0.trans s1, w1.h0, fun q h => ?_, w1.bg⟩
  · by_cases z : q = D
    · subst z; rw [upd_same] at h ⊢; exact h
    · rw [upd_ne z] at h; exact w1.ih q x h
  · rw [upd_ne (fun z => h (by rw [z]; exact h0))]; exact w.nw q h
/-- a new dict, its pairs made -/
theorem disp_run {σ : Sl} {I H : Hp} {n : Nat} {Q : VK} (hd : Dp c trs ρ ks) (hl : ks.length ≤ 15) (w : Wd c I H n) (e : EnvR c I H σ ρ) (l : n ≤ NMAX)
    (k : ∀ p xs I2 H2, H p = none → Gx c.b I H I2 H2 → Wd c I2 H2 n → I2 p = none → c.H0 p = none → some p ≠ c.b → KvR c.K I2 xs (mergeD [] ks) → Q (.ref p) (upd H2 p (.dK xs))) : tDisp trs σ H Q := fun p np => by
  have g1 : Gx c.b I H I (upd H p (.dK [])) := lost_go np
  have hb := w.bne np
  have w1 : Wd c I (upd H p (.dK [])) n := w.put (w.h0n np) (w.noI np) hb
  refine hd σ I _ n _ w1 (e.go g1) l fun xs I2 H2 g2 w2 q => ⟨g2.hh p _ hb upd_same, xs, rfl, by rw [show xs.length = ks.length from Paired.length q]; exact hl, ?_⟩
  refine k p _ I2 H2 np (g1.trans g2) w2 ?_ (w.h0n np) hb (q.merge .nil)
  rw [g2.nw p (by rw [upd_same]; exact fun z => nomatch z)]
  exact w.noI np
theorem seal_go {I H I2 H2 : Hp} {p : Addr} {o : HO} (g : Gx c.b I H I2 H2) (np : H p = none) (hI : I2 p = none) : Gx c.b I H (upd I2 p o) (upd H2 p o) := by
  refine ⟨fun q x h => ?_, fun q x nb h => ?_, fun q h => ?_, fun q h => ?_⟩
  · have := g.ii _ _ h
    rw [upd_ne (ne_of_none this hI)]; exact this
  · rw [upd_ne (ne_of_none h np)]; exact g.hh q x nb h
  · rw [upd_ne (fun z => h (by rw [z]; exact np))]; exact g.nw q h
  · rw [upd_ne (fun z => h (by rw [z]; exact np))]; exact g.th q h
theorem pv_disp (hd : Dp c trs ρ ks) (hl : ks.length ≤ 15) : Pv c (tDisp trs) ρ (kvD (mergeD [] ks)) := fun σ I H n Q w e l k =>
  disp_run hd hl w e (by omega) fun p xs I2 H2 np g2 w2 hI h0 hb q =>
    k _ _ (upd I2 p (.dK xs)) (upd H2 p (.dK xs)) (seal_go g2 np hI) (w2.seal h0 hI hb) (.dic upd_same (RpKv.of (q.mono fun a o h => by rw [upd_ne (ne_of_none h hI)]; exact h))) rfl
theorem pv_dget2 {k : Key} {z : PyData} (ha : Pv c ta ρ (kvD ks)) (hk : Pv c tk ρ (kD k)) (hz : Pv c tz ρ z) : Pv c (tDGet2 ta tk tz) ρ ((dv ks k).getD z) := fun σ I H n Q w e l kk =>
  ha σ I H n _ w e l fun v d I2 H2 g2 w2 r2 p2 => by
    subst p2
    unfold kvD at r2
    cases r2 with
    | @dic a xs es h1 q1 =>
      have q1 := RpKv.kv q1
      refine ⟨a, rfl, .inl ⟨xs, .inl (w2.ih _ _ h1)⟩, hk σ I2 H2 n _ w2 (e.go g2) l fun v3 d3 I3 H3 g3 w3 r3 p3 => hz σ I3 H3 n _ w3 (e.go (g2.trans g3)) l fun v4 d4 I4 H4 g4 w4 r4 p4 => ?_⟩
      subst p3 p4
      have ev := key_inv r3
      subst ev
      refine ⟨valV xs k, .inl ⟨xs, k, .inl (w4.ih _ _ (g4.ii _ _ (g3.ii _ _ h1))), rfl, rfl⟩, ?_⟩
      rcases (q1.mono (g3.ii.trans g4.ii)).get k with ⟨n1, n2⟩ | ⟨v5, d5, n1, n2, r5⟩
      · rw [n1]; exact kk _ _ I4 H4 ((g2.trans g3).trans g4) w4 r4 (by rw [n2]; rfl)
      · rw [n1]; exact kk _ _ I4 H4 ((g2.trans g3).trans g4) w4 r5 (by rw [n2]; rfl)
end
end Hh
namespace Hh
set_option autoImplicit false
open PySem PySem.Spec PyProof.Rows L2
section
variable {c : Ctx} {ρ : List Ent} {ta tb tk tz : TE} {trs us : List (TE × TE)} {ks ls : List (Key × PyData)}
theorem EnvR.noOwn {I H I' H' : Hp} {σ : Sl} (e : EnvR c I H σ ρ) (no : ∀ (j : Nat) (e : Ent), ρ[j]? = some e → e.plain) (s : Same I I') : EnvR c I' H' σ ρ := by
  refine ⟨?_, fun i j p ds es h => (no i _ h).elim⟩
  have gen : ∀ (σ : Sl) (ρ : List Ent), Paired (EntR c I H) σ ρ → (∀ (j : Nat) (e : Ent), ρ[j]? = some e → e.plain) → Paired (EntR c I' H') σ ρ := by
    intro σ ρ h
    induction h with
    | nil => exact fun _ => .nil
    | @cons a b l m x r ih =>
      intro hh
      refine .cons ?_ (ih fun i ds h1 => hh (i + 1) ds (by simpa using h1))
      cases b with
      | any => cases a <;> exact True.intro
      | dat d => cases a with
        | none => exact x
        | some v => exact Rp.mono s x
      | bag | memo _ => cases a with
        | none => exact x
        | some v => exact x
      | raw u => cases a with
        | none => exact x
        | some v => exact x
      | scr ns => cases a with
        | none => exact x
        | some v => obtain ⟨z, e1, q⟩ := x; exact ⟨z, e1, s.seq q⟩
      | own ds => exact (hh 0 _ rfl).elim
      | mu M => exact (hh 0 _ rfl).elim
  exact gen σ ρ e.st no
/-- some = {..}; some.update({..}); return some.get(k, z) -/
theorem bk_fits {i : Nat} {k : Key} {z : PyData} {O : Out} (hi : i < ρ.length) (no : ∀ (j : Nat) (e : Ent), ρ[j]? = some e → e.plain) (h1 : Dp c trs ρ ks) (l1 : ks.length ≤ 15) (h2 : ∀ v, Dp c us (ρ.set i (.raw v)) ls) (l2 : ls.length ≤ 15)
    (hlen : (mergeD [] ks).length + (mergeD [] ls).length ≤ 1000) (hk : ∀ v, Pv c tk (ρ.set i (.raw v)) (kD k)) (hz : ∀ v, Pv c tz (ρ.set i (.raw v)) z) (hO : O.rt ((dv (mergeD (mergeD [] ks) (mergeD [] ls)) k).getD z)) (hf : O.fr = false := by rfl) :
    Bk c (tSeq (tAsg (tDisp trs) (gName i)) (tSeq (tDrop (tBM c.K "dict" rUpd (tVar i) (tCons (tDisp us) tNil))) (tRet (tDGet2 (tVar i) tk tz)))) ρ 0 O := fun σ I H n D w e l k1 k2 k3 k4 => by
  show tDisp trs σ H (fun x H1 => tVar i (σ.set i (some x)) H1 fun x2 H2 => tyV c.K "dict" x2 H2 ∧ tDisp us (σ.set i (some x)) H2 fun y H3 => rUpd x2 [y] H3 fun _ H4 => tDGet2 (tVar i) tk tz (σ.set i (some x)) H4 D.rt)
  refine disp_run h1 l1 w e (by omega) fun p xs I2 H2 np g2 w2 hI h0 hb q => ?_
  have no2 : ∀ (v : V) (j : Nat) (e : Ent), (ρ.set i (.raw v))[j]? = some e → e.plain := fun v j e z => by
    by_cases w : i = j
    · subst w
      rw [List.getElem?_set_self hi] at z
      cases z
      exact True.intro
    · rw [List.getElem?_set_ne w] at z; exact no j e z
  have g3 : Gx c.b I H I2 (upd H2 p (.dK xs)) := by
    refine ⟨g2.ii, fun q x nb h => ?_, fun q h => g2.nw q h, fun q h => ?_⟩
    · rw [upd_ne (ne_of_none h np)]; exact g2.hh q x nb h
    · rw [upd_ne (fun z => h (by rw [z]; exact np))]; exact g2.th q h
  have w3 := w2.put (o := .dK xs) h0 hI hb
  have e3 : EnvR c I2 (upd H2 p (.dK xs)) (σ.set i (some (.ref p))) (ρ.set i (.raw (.ref p))) := (e.go g3).set i (show EntR c I2 _ (some (.ref p)) (.raw (.ref p)) from rfl) (fun _ z => nomatch z)
  have hσ : (σ.set i (some (V.ref p)))[i]? = some (some (V.ref p)) := by
    obtain ⟨a, b1, b2⟩ := Paired.getP e3.st (List.getElem?_set_self hi)
    rw [b1]
    cases a with
    | none => exact b2.elim
    | some v => rw [show v = .ref p from b2]
  refine ⟨.ref p, hσ, .inr (.inr (.inl ⟨rfl, .inl ⟨xs, upd_same⟩⟩)), ?_⟩
  refine disp_run (h2 _) l2 w3 e3 (by omega) fun p2 ys I4 H4 np2 g4 w4 hI4 h04 hb4 q4 => ?_
  have ne : p ≠ p2 := fun z => by subst z; rw [upd_same] at np2; cases np2
  have hp4 : H4 p = some (.dK xs) := g4.hh p _ hb upd_same
  have hI4p : I4 p = none := by rw [g4.nw p (by rw [upd_same]; exact fun z => nomatch z)]; exact hI
  refine ⟨p, p2, xs, ys, rfl, rfl, ne, by rw [upd_ne ne]; exact hp4, upd_same, by rw [show xs.length = _ from Paired.length q, show ys.length = _ from Paired.length q4]; exact hlen, ?_⟩
  have w5 : Wd c I4 (upd (upd H4 p2 (.dK ys)) p (.dK (mergeK xs ys))) n := (w4.put (o := .dK ys) h04 hI4 hb4).put h0 hI4p hb
  have e5 := EnvR.noOwn (H' := upd (upd H4 p2 (.dK ys)) p (.dK (mergeK xs ys))) e3 (no2 _) g4.ii
  refine ⟨.ref p, hσ, p, rfl, .inl ⟨_, .inl upd_same⟩, hk _ _ I4 _ n _ w5 e5 (by omega) fun v6 d6 I6 H6 g6 w6 r6 p6 => hz _ _ I6 H6 n _ w6 (e5.go g6) (by omega) fun v7 d7 I7 H7 g7 w7 r7 p7 => ?_⟩
  subst p6 p7
  have ev := key_inv r6
  subst ev
  have hp7 : H7 p = some (.dK (mergeK xs ys)) := g7.hh p _ hb (g6.hh p _ hb upd_same)
  refine ⟨valV (mergeK xs ys) k, .inl ⟨_, k, .inl hp7, rfl, rfl⟩, ?_⟩
  have qq : KvR c.K I7 (mergeK xs ys) (mergeD (mergeD [] ks) (mergeD [] ls)) := (q4.merge (q.mono g4.ii)).mono (g6.ii.trans g7.ii)
  have ss : Same I I7 := g3.ii.trans (g4.ii.trans (g6.ii.trans g7.ii))
  rcases qq.get k with ⟨n1, n2⟩ | ⟨v8, d8, n1, n2, r8⟩
  · rw [n1]; rw [n2] at hO; exact k2 _ _ I7 H7 ss (w7.bgN (by omega)) r7 ⟨hO, fun z => by rw [hf] at z; cases z⟩
  · rw [n1]; rw [n2] at hO; exact k2 _ _ I7 H7 ss (w7.bgN (by omega)) r8 ⟨hO, fun z => by rw [hf] at z; cases z⟩
def cut37 (x : Str) : Str := SX.S (x.cps.toList.filter not37)
theorem pv_tr37 {x : Str} (ha : Pv c ta ρ (.str x)) (hb : Pv c tb ρ (kvD [(.inl 37, .none)])) (hx : Txt.isascii x = true) (hl : x.length ≤ 16000000) : Pv c (tM1 rTr37 ta tb) ρ (.str (cut37 x)) := fun σ I H n Q w e l k =>
  ha σ I H n _ w e l fun v d I2 H2 g2 w2 r2 p2 => by
    subst p2
    obtain rfl := r2.str_inv
    refine ⟨⟨x, rfl⟩, hb σ I2 H2 n _ w2 (e.go g2) l fun v3 d3 I3 H3 g3 w3 r3 p3 => ?_⟩
    subst p3
    unfold kvD at r3
    cases r3 with
    | @dic a xs es h1 q1 =>
      have q1 := RpKv.kv q1
      have ex : xs = [(.inl 37, .non)] := by
        cases q1 with
        | @cons p q l m a r =>
          cases r
          obtain ⟨p1, p2⟩ := p
          obtain ⟨e1, e2⟩ := a
          simp only at e1 e2
          subst e1
          cases e2
          rfl
      subst ex
      refine ⟨x.cps.toList, a, ?_, rfl, w3.ih _ _ h1, ?_, ?_, k _ _ I3 H3 (g2.trans g3) w3 (.str _) rfl⟩
      · show V.str x = .str ⟨x.cps.toList.toArray⟩
        rw [Array.toArray_toList]
      · have : x.length = x.cps.toList.length := by simp [Str.length]
        omega
      · unfold Txt.isascii at hx
        intro ch hc
        have := (Array.all_eq_true_iff_forall_mem.mp hx) ch (by simpa using hc)
        simpa using this
end
/-! ### less than, of pairs too -/
def ltE : PyData → PyData → Bool
  | .int i, .int j => decide (i < j)
  | .str a, .str b => decide (a.cps.toList < b.cps.toList)
  | .tuple [.int a, .int b], .tuple [.int x, .int y] => HT.lexLt [a, b] [x, y]
  | _, _ => false
def rLtB (K : PySem.W.Frag) : R2 := fun x y H Q => rLtA x y H Q ∨ rLtT K x y H Q
theorem op_ltB {X : Cx} {K : PySem.W.Frag} (e : X.K = K) (hu : X.A.units + 64 < cLine) : OpR X (compareOp .Lt) (rLtB K) := by
  subst e
  exact op_ltA.or (op_ltT (by omega))
def risE (ds : List PyData) : Bool := (ds.zip (ds.drop 1)).all fun p => ltE p.1 p.2
def Pr2 (d : PyData) : Prop := ∃ a b : Int, d = .tuple [.int a, .int b]
/-- all whole numbers, all texts, or all pairs of numbers -/
def Homo3 (ds : List PyData) : Prop := (∀ d ∈ ds, ∃ i, d = .int i) ∨ (∀ d ∈ ds, ∃ a, d = .str a) ∨ ∀ d ∈ ds, Pr2 d
def Two3 (d e : PyData) : Prop := (∃ i j, d = .int i ∧ e = .int j) ∨ (∃ a b, d = .str a ∧ e = .str b) ∨ (Pr2 d ∧ Pr2 e)
theorem Homo3.two {ds : List PyData} (h : Homo3 ds) {d e : PyData} (hd : d ∈ ds) (he : e ∈ ds) : Two3 d e := by
  rcases h with h | h | h
  · obtain ⟨i, e1⟩ := h d hd
    obtain ⟨j, e2⟩ := h e he
    exact .inl ⟨i, j, e1, e2⟩
  · obtain ⟨i, e1⟩ := h d hd
    obtain ⟨j, e2⟩ := h e he
    exact .inr (.inl ⟨i, j, e1, e2⟩)
  · exact .inr (.inr ⟨h d hd, h e he⟩)
theorem pair_inv {K : PySem.W.Frag} {I : Hp} {v : V} {a b : Int} (h : Rp K I v (.tuple [.int a, .int b])) : ∃ p, v = .ref p ∧ SqT K I p [.int a, .int b] := by
  obtain ⟨p, xs, rfl, h1, h2⟩ := h.tup_inv
  cases h2 with
  | cons x1 t1 =>
    cases t1 with
    | cons x2 t2 =>
      cases t2
      have e1 := x1.int_inv
      have e2 := x2.int_inv
      subst e1 e2
      exact ⟨p, rfl, h1⟩
theorem rd_ltE {c : Ctx} {d e : PyData} (h : Two3 d e) : Rd2 c (rLtB c.K) d e (fun x => x = .bool (ltE d e)) := fun I H n x y Q w r1 r2 k => by
  rcases h with ⟨i, j, rfl, rfl⟩ | ⟨i, j, rfl, rfl⟩ | ⟨⟨a, b, rfl⟩, ⟨a', b', rfl⟩⟩
  · exact .inl (.inl (rd_ib (g := fun i j => decide (i < j)) I H n x y Q w r1 r2 k))
  · exact .inl (.inr ⟨i, j, r1.str_inv, r2.str_inv, k _ _ I H Gx.refl w (.bl _) rfl⟩)
  · obtain ⟨p, rfl, s1⟩ := pair_inv r1
    obtain ⟨q, rfl, s2⟩ := pair_inv r2
    exact .inr ⟨p, q, [a, b], [a', b'], rfl, rfl, seqT_mono w.ih s1, seqT_mono w.ih s2, k _ _ I H Gx.refl w (.bl _) rfl⟩
theorem risE_at : ∀ ds : List PyData, risE ds = (List.range (ds.length - 1)).all fun k => ltE (ds.getD k .none) (ds.getD (k + 1) .none)
  | [] => rfl
  | [_] => rfl
  | x :: y :: r => by
    have ih := risE_at (y :: r)
    show (ltE x y && risE (y :: r)) = _
    rw [ih, show (x :: y :: r).length - 1 = r.length + 1 from rfl, List.range_succ_eq_map, List.all_cons, List.all_map]
    rfl
/-! ### signs -/
theorem rda_ord {c : Ctx} {ch : Nat} : RdA c (fun xs H Q => ∃ x : Str, xs = [.str x] ∧ x.length = 1 ∧ Q (.int (x.cps.getD 0 0 : Nat)) H) [.dat (.str ⟨#[ch]⟩)] (fun y => y = .int ch) := fun I H n vs Q w r k => by
  obtain ⟨v, rfl, h1⟩ := pair1 r
  have e1 : v = .str ⟨#[ch]⟩ := Rp.str_inv h1
  subst e1
  exact ⟨_, rfl, rfl, k _ _ I H Gx.refl w (.int _) rfl⟩
/-- from the blank to the tilde, but one -/
def sgn37 (ch : Nat) : Bool := decide (32 ≤ ch) && (decide (ch ≤ 126) && !decide (ch = 37))
theorem prt128 : ∀ c : Fin 128, Unicode.isPrintable c.val = (decide (32 ≤ c.val) && decide (c.val ≤ 126)) := by decide +kernel
theorem cut37_is (x : Str) : decide (x = cut37 x) = x.cps.toList.all not37 := by
  rw [Bool.eq_iff_iff, decide_eq_true_eq, List.all_eq_true]
  constructor
  · intro h c hc
    have e : x.cps.toList = x.cps.toList.filter not37 := by
      have := congrArg (fun s : Str => s.cps.toList) h
      simpa [cut37, SX.S] using this
    rw [e] at hc
    exact (List.mem_filter.mp hc).2
  · intro h
    show x = ⟨(x.cps.toList.filter not37).toArray⟩
    rw [List.filter_eq_self.mpr h, Array.toArray_toList]
theorem text_signs (x : Str) : (Txt.isascii x && (Txt.isprintable x && decide (x = cut37 x))) = x.cps.toList.all sgn37 := by
  rw [cut37_is]
  unfold Txt.isascii Txt.isprintable
  have ea : ∀ p : Nat → Bool, x.cps.all p = x.cps.toList.all p := fun p => by simp
  rw [ea, ea]
  generalize x.cps.toList = l
  rw [Bool.eq_iff_iff, Bool.and_eq_true, Bool.and_eq_true, List.all_eq_true, List.all_eq_true, List.all_eq_true, List.all_eq_true]
  constructor
  · rintro ⟨h1, h2, h3⟩ c hc
    have q1 := h1 c hc
    have q2 := h2 c hc
    have q3 := h3 c hc
    rw [decide_eq_true_eq] at q1
    have t := prt128 ⟨c, q1⟩
    simp only at t
    rw [t, Bool.and_eq_true] at q2
    unfold sgn37
    unfold not37 at q3
    rw [q2.1, q2.2, q3]; rfl
  · intro h
    have q : ∀ c ∈ l, 32 ≤ c ∧ c ≤ 126 ∧ not37 c = true := fun c hc => by
      have := h c hc
      unfold sgn37 at this
      rw [Bool.and_eq_true, Bool.and_eq_true, decide_eq_true_eq, decide_eq_true_eq] at this
      exact this
    refine ⟨fun c hc => ?_, fun c hc => ?_, fun c hc => (q c hc).2.2⟩
    · have := q c hc
      rw [decide_eq_true_eq]; omega
    · have := q c hc
      have t := prt128 ⟨c, by omega⟩
      simp only at t
      rw [t, decide_eq_true this.1, decide_eq_true this.2.1]; rfl
def oneC : PyData → Nat
  | .str x => x.cps.getD 0 0
  | _ => 0
theorem filt37 (x : Str) : ((sgnD x).filter fun d => !sgn37 (oneC d)).isEmpty = x.cps.toList.all sgn37 := by
  unfold sgnD
  generalize x.cps.toList = l
  induction l with
  | nil => rfl
  | cons n r ih =>
    rw [List.map_cons, List.filter_cons, List.all_cons]
    have e : oneC (.str ⟨#[n]⟩) = n := rfl
    cases h : sgn37 n with
    | true =>
      rw [if_neg (by rw [e, h]; decide), ih]
      rfl
    | false =>
      rw [if_pos (by rw [e, h]; rfl)]
      rfl
theorem pe_dget2N {X : Cx} {o e f : Expr} {apos cpos : Pos} {td ty tx : TE} (hu : X.A.units + 64 < cLine) (ho : PE X o td) (he : PE X e ty) (hf : PE X f tx) (m : M2 X o "get" apos e f cpos) : PE X (.Call (.Attribute o "get" apos) [e, f] [] cpos) (tDGet2 td ty tx) := pe_dget2 (by omega) ho he hf m
theorem pv_ltIB {c : Ctx} {ρ : List Ent} {ta tb : TE} {i j : Int} (ha : Pv c ta ρ (.int i)) (hb : Pv c tb ρ (.int j)) : Pv c (tOp (rLtB c.K) ta tb) ρ (.bool (decide (i < j))) := pv_op ha hb (rd_ltE (.inl ⟨i, j, rfl, rfl⟩))
end Hh

set_option Elab.async false
set_option linter.all false
set_option maxRecDepth 100000
set_option maxHeartbeats 4000000
/-! tests that draw -/
namespace Hh
set_option autoImplicit false
open PySem PySem.Spec PyProof.Rows L2
section
variable {c : Ctx} {ρ : List Ent} {ta tb te : TE} {tt tu : TT} {C C1 C2 : Nat} {P : Bool → Prop} {Q1 : PyData → Prop}
/-- a truth, either -/
def BlD (d : PyData) : Prop := ∃ b, d = .bool b
def AnyB (_ : Bool) : Prop := True
theorem et_T (ha : Ev c te ρ C (fun d => ∃ b, d = .bool b ∧ P b)) : Et c (tTest te) ρ C P := fun σ I H n Q w e l k =>
  ha σ I H n _ w e l fun v d I2 H2 g2 w2 r2 ⟨b, ed, p⟩ => by
    subst ed
    exact ⟨b, r2.bl_inv, k _ I2 H2 g2 w2 p⟩
theorem et_A (ha : Ev c te ρ C BlD) : Et c (tTest te) ρ C AnyB := et_T (ha.imp (Nat.le_refl _) fun d ⟨b, e⟩ => ⟨b, e, trivial⟩)
theorem Pt.any {a : Bool} (h : Pt c tt ρ a) : Et c tt ρ 0 AnyB := fun σ I H n Q w e l k => h σ I H n _ w e l fun v I2 H2 g2 w2 _ => k v I2 H2 g2 w2 trivial
/-- the first told, the second drawn -/
theorem et_and {a : Bool} (ha : Pt c tt ρ a) (hb : a = true → Et c tu ρ C P) (hf : a = false → P false) : Et c (tAnd tt tu) ρ C P := fun σ I H n Q w e l k => by
  refine ha σ I H n _ w e (by omega) fun v I2 H2 g2 w2 p2 => ?_
  subst p2
  cases v with
  | true =>
    rw [if_pos rfl]
    exact hb rfl σ I2 H2 n _ w2 (e.go g2) l fun v I3 H3 g3 w3 p3 => k v I3 H3 (g2.trans g3) w3 p3
  | false =>
    rw [if_neg Bool.false_ne_true]
    exact k _ I2 H2 g2 (w2.bgN (by omega)) (hf rfl)
theorem et_or {a : Bool} (ha : Pt c tt ρ a) (hb : a = false → Et c tu ρ C P) (hf : a = true → P true) : Et c (tOr tt tu) ρ C P := fun σ I H n Q w e l k => by
  refine ha σ I H n _ w e (by omega) fun v I2 H2 g2 w2 p2 => ?_
  subst p2
  cases v with
  | false =>
    rw [if_neg Bool.false_ne_true]
    exact hb rfl σ I2 H2 n _ w2 (e.go g2) l fun v I3 H3 g3 w3 p3 => k v I3 H3 (g2.trans g3) w3 p3
  | true =>
    rw [if_pos rfl]
    exact k _ I2 H2 g2 (w2.bgN (by omega)) (hf rfl)
theorem ev_eqI {R1 R2 : Int → Prop} (ha : EvI c ta ρ C1 R1) (hb : EvI c tb ρ C2 R2) (hC : C1 + C2 ≤ C) : Ev c (tOp (rEqX c.K) ta tb) ρ C BlD :=
  ev_op ha (P2 := fun _ d => ∃ x : Int, d = .int x ∧ R2 x) (fun _ _ => hb) (fun d1 d2 ⟨i, e1, _⟩ ⟨j, e2, _⟩ => by
    subst e1 e2
    exact fun I H n x y Q w r1 r2 k => rd_eq (okD_int _) (okD_int _) I H n x y Q w r1 r2 fun v d I2 H2 g w r e => k v d I2 H2 g w r ⟨_, e⟩) hC
theorem ev_ibI {g : Int → Int → Bool} {R1 R2 : Int → Prop} (ha : EvI c ta ρ C1 R1) (hb : EvI c tb ρ C2 R2) (hC : C1 + C2 ≤ C) : Ev c (tOp (rI0 fun i j => .bl (g i j)) ta tb) ρ C BlD :=
  ev_op ha (P2 := fun _ d => ∃ x : Int, d = .int x ∧ R2 x) (fun _ _ => hb) (fun d1 d2 ⟨i, e1, _⟩ ⟨j, e2, _⟩ => by
    subst e1 e2
    exact fun I H n x y Q w r1 r2 k => rd_ib I H n x y Q w r1 r2 fun v d I2 H2 g w r e => k v d I2 H2 g w r ⟨_, e⟩) hC
/-- x if test else y, the test drawn -/
theorem ev_ifD {Pb : Bool → Prop} {P : PyData → Prop} (hc : Et c tt ρ C1 Pb) (h1 : Ev c ta ρ C2 P) (h2 : Ev c tb ρ C2 P) (hC : C1 + C2 ≤ C) : Ev c (tIf tt ta tb) ρ C P := fun σ I H n Q w e l k => by
  refine hc σ I H n _ w e (by omega) fun v I2 H2 g2 w2 p2 => ?_
  cases v with
  | true => exact h1 σ I2 H2 _ _ w2 (e.go g2) (by omega) fun v d I3 H3 g3 w3 r3 p3 => k v d I3 H3 (g2.trans g3) (w3.bgN (by omega)) r3 p3
  | false => exact h2 σ I2 H2 _ _ w2 (e.go g2) (by omega) fun v d I3 H3 g3 w3 r3 p3 => k v d I3 H3 (g2.trans g3) (w3.bgN (by omega)) r3 p3
/-- if drawn: return -/
theorem bk_ifretD {C3 : Nat} {Pb : Bool → Prop} {t r : TS} {O : Out} (hc : Et c tt ρ C1 Pb) (h1 : Bk c t ρ C3 { O with nx := fun _ => False }) (h2 : Bk c r ρ C2 O) (hC : C1 + C3 + C2 ≤ C) : Bk c (tSeq (tIfS tt t tNext) r) ρ C O :=
  bk_seq (C1 := C1 + C3) (C2 := C2) (N := fun ρ' => ρ' = ρ) (bk_if (C1 := C1) (C2 := C3) hc (fun _ => h1.imp (Nat.le_refl _) (fun _ z => z.elim) (fun _ z => z)) (fun _ => bk_next rfl) (Nat.le_refl _)) (fun ρ' e => by subst e; exact h2) hC
end
theorem Bt.src {Pt : PyData → Bool → Prop} {Pe : PyData → PyData → Prop} {is os : List PyData} (h : Bt Pt Pe is os) : ∀ x ∈ os, ∃ d ∈ is, Pt d true ∧ Pe d x := by
  induction h with
  | nil => exact fun _ h => nomatch h
  | @keep is os d y b h1 h2 ih =>
    intro x hx
    rcases List.mem_append.mp hx with q | q
    · obtain ⟨e, he, r⟩ := ih x q
      exact ⟨e, List.mem_append_left _ he, r⟩
    · rw [List.mem_singleton.mp q]
      exact ⟨d, List.mem_append_right _ List.mem_cons_self, h1, h2⟩
  | @drop is os d b h1 ih =>
    intro x hx
    obtain ⟨e, he, r⟩ := ih x hx
    exact ⟨e, List.mem_append_left _ he, r⟩
theorem dv_or (ks : List (Key × PyData)) (k : Key) (z : PyData) : (dv ks k).getD z = z ∨ ∃ p ∈ ks, (dv ks k).getD z = p.2 := by
  unfold dv
  cases h : ks.find? fun kv => decide (kv.1 = k) with
  | none => exact .inl rfl
  | some p => exact .inr ⟨p, List.mem_of_find?_eq_some h, rfl⟩
/-- d.get(k, z), both drawn -/
theorem ev_dget2 {c : Ctx} {ρ : List Ent} {ta tk tz : TE} {ks : List (Key × PyData)} {C C1 C2 : Nat} {P : PyData → Prop} (ha : Pv c ta ρ (kvD ks)) (hk : Ev c tk ρ C1 (fun d => ∃ k, d = kD k)) (hz : Ev c tz ρ C2 P) (hP : ∀ p ∈ ks, P p.2) (hC : C1 + C2 ≤ C) : Ev c (tDGet2 ta tk tz) ρ C P := fun σ I H n Q w e l kk =>
  ha σ I H n _ w e (by omega) fun v d I2 H2 g2 w2 r2 p2 => by
    subst p2
    unfold kvD at r2
    cases r2 with
    | @dic a xs es h1 q1 =>
      have q1 := RpKv.kv q1
      refine ⟨a, rfl, .inl ⟨xs, .inl (w2.ih _ _ h1)⟩, hk σ I2 H2 n _ w2 (e.go g2) (by omega) fun v3 d3 I3 H3 g3 w3 r3 ⟨k, ek⟩ => hz σ I3 H3 (n + C1) _ w3 (e.go (g2.trans g3)) (by omega) fun v4 d4 I4 H4 g4 w4 r4 p4 => ?_⟩
      subst ek
      have ev := key_inv r3
      subst ev
      refine ⟨valV xs k, .inl ⟨xs, k, .inl (w4.ih _ _ (g4.ii _ _ (g3.ii _ _ h1))), rfl, rfl⟩, ?_⟩
      rcases (q1.mono (g3.ii.trans g4.ii)).get k with ⟨n1, n2⟩ | ⟨v5, d5, n1, n2, r5⟩
      · rw [n1]; exact kk _ _ I4 H4 ((g2.trans g3).trans g4) (w4.bgN (by omega)) r4 p4
      · rw [n1]
        refine kk _ _ I4 H4 ((g2.trans g3).trans g4) (w4.bgN (by omega)) r5 ?_
        unfold dv at n2
        cases h : ks.find? fun kv => decide (kv.1 = k) with
        | none => rw [h] at n2; cases n2
        | some p =>
          rw [h] at n2
          cases n2
          exact hP p (List.mem_of_find?_eq_some h)
theorem atI_end {ds : List PyData} (h : ds ≠ []) : ∃ d, atI ds (-1) = some d ∧ d ∈ ds := by
  have hl : 0 < ds.length := List.length_pos_iff.mpr h
  have hj : ds.length - 1 < ds.length := by omega
  refine ⟨ds[ds.length - 1], ?_, List.getElem_mem hj⟩
  unfold atI
  have e : ixN ds.length (-1) = some (ds.length - 1) := by
    unfold ixN
    simp
    omega
  rw [e]
  exact List.getElem?_eq_getElem hj
/-! ### sorted(set(pairs)) -/
theorem cr_setOfTK {X : Cx} {K : PySem.W.Frag} {P : Program} {w : World} (e : X.K = K) (e2 : X.prog = P) (e3 : X.w = w) (hc : X.calm = true) (hu : X.A.units + 64 < cLine) : CallR X (.type "set") (rSetOfT K P w) := by
  subst e e2 e3
  exact cr_setOfT hc hu
theorem cr_sortedTK {X : Cx} {K : PySem.W.Frag} {P : Program} {w : World} (e : X.K = K) (e2 : X.prog = P) (e3 : X.w = w) (hc : X.calm = true) : CallR X (.builtin "sorted") (rSortedT K P w) := by
  subst e e2 e3
  exact cr_sortedT hc
def PrB (d : PyData) : Prop := ∃ a b : Int, d = .tuple [.int a, .int b] ∧ 0 ≤ a ∧ a ≤ 2 ^ 51 ∧ 0 ≤ b ∧ b ≤ 100
theorem pairs_rows {K : PySem.W.Frag} {I : Hp} : ∀ {ds : List PyData} {vs : List V}, (∀ d ∈ ds, PrB d) → RpAll K I vs ds → ∃ ks : List (Addr × List Int), vs = ks.map (fun p => V.ref p.1) ∧ ks.length = ds.length ∧ ∀ p ∈ ks, SqT K I p.1 (p.2.map V.int) ∧ ∃ a b : Int, p.2 = [a, b] ∧ 0 ≤ a ∧ a ≤ 2 ^ 51 ∧ 0 ≤ b ∧ b ≤ 100
  | [], _, _, .nil => ⟨[], rfl, rfl, fun _ h => nomatch h⟩
  | d :: ds, _, h, .cons a r => by
    obtain ⟨ks, e, hl, hk⟩ := pairs_rows (fun x hx => h x (List.mem_cons_of_mem _ hx)) r
    obtain ⟨i, j, rfl, q⟩ := h d List.mem_cons_self
    obtain ⟨p, rfl, hs⟩ := pair_inv a
    exact ⟨(p, [i, j]) :: ks, by rw [e]; rfl, by rw [List.length_cons, List.length_cons, hl], fun x hx => (List.mem_cons.mp hx).elim (fun z => by rw [z]; exact ⟨hs, i, j, rfl, q⟩) (hk x)⟩
theorem nd_len {α : Type} [DecidableEq α] : ∀ {l m : List α}, l.Nodup → (∀ x ∈ l, x ∈ m) → l.length ≤ m.length
  | [], _, _, _ => Nat.zero_le _
  | a :: l, m, h, hs => by
    have ha := hs a List.mem_cons_self
    have hn := List.nodup_cons.mp h
    have h2 := nd_len (m := m.erase a) hn.2 fun x hx => (List.mem_erase_of_ne (fun z => hn.1 (by rw [← z]; exact hx))).mpr (hs x (List.mem_cons_of_mem _ hx))
    have h3 := List.length_erase_of_mem ha
    have h4 := List.length_pos_of_mem ha
    rw [List.length_cons]
    omega
theorem rows_rp {K : PySem.W.Frag} {I : Hp} : ∀ {ks : List (Addr × List Int)}, (∀ p ∈ ks, SqT K I p.1 (p.2.map V.int)) → RpAll K I (ks.map fun p => V.ref p.1) (ks.map fun p => PyData.tuple (p.2.map .int))
  | [], _ => .nil
  | p :: r, h => .cons (.tup (h p List.mem_cons_self) (rp_ints p.2)) (rows_rp fun q hq => h q (List.mem_cons_of_mem _ hq))
section
variable {c : Ctx} {ρ : List Ent} {te : TE} {C : Nat}
theorem ev_sortedTP {P : Program} {w : World} {m : Nat} (ha : Ev c te ρ C (fun d => ∃ ds, d = .list ds ∧ ds.length ≤ m ∧ ∀ x ∈ ds, PrB x)) (hm : m < 64) :
    Ev c (tCB (rSortedT c.K P w) (tCons (tCB (rSetOfT c.K P w) (tCons te tNil)) tNil)) ρ C (fun d => ∃ ds, d = .list ds ∧ ds.length ≤ m ∧ ∀ x ∈ ds, PrB x) := fun σ I H n Q wd e l k => by
  refine ha σ I H n _ wd e l fun v d I2 H2 g2 w2 r2 ⟨ds, ed, hl, hp⟩ => ?_
  subst ed
  obtain ⟨a, xs, rfl, hs, hr⟩ := r2.lst_inv
  obtain ⟨ks, rfl, hkl, hk⟩ := pairs_rows hp hr
  refine ⟨a, ks, rfl, SqL.of (w2.ih _ _ hs), fun p hp => seqT_mono w2.ih (hk p hp).1, by omega, fun p L np hsub hall => ?_⟩
  have ne : ∀ q ∈ L, SqT c.K (upd H2 p (SetTO P w p L)) q.1 (q.2.map V.int) := fun q hq => seqT_mono (fun r u h => by rw [upd_ne (ne_of_none h np)]; exact h) (seqT_mono w2.ih (hk q (hsub q hq)).1)
  refine ⟨p, L, 2, 2 ^ 60, rfl, upd_same, ne, by decide, fun q hq => ?_, fun L' q pm nd few _ nq => ?_⟩
  · obtain ⟨_, a, b, e2, h1, h2, h3, h4⟩ := hk q (hsub q hq)
    rw [e2]
    exact ⟨rfl, fun m hm => by
      simp only [List.mem_cons, List.not_mem_nil, or_false] at hm
      rcases hm with rfl | rfl <;> omega⟩
  · obtain ⟨gx, w3⟩ := aside (xs := L'.map fun q => V.ref q.1) w2 np nq
    have hL : ∀ q ∈ L', q ∈ ks := fun q hq => hsub q (pm.mem_iff.mp hq)
    refine k _ (.list (L'.map fun p => PyData.tuple (p.2.map .int))) _ _ (g2.trans gx) w3 (.lst upd_same (rows_rp fun q hq => seqT_mono gx.ii (hk q (hL q hq)).1)) ⟨_, rfl, ?_, fun x hx => ?_⟩
    · have := nd_len nd (m := ks.map (·.2)) fun x hx => by
        obtain ⟨q, hq, rfl⟩ := List.mem_map.mp hx
        exact List.mem_map.mpr ⟨q, hL q hq, rfl⟩
      rw [List.length_map, List.length_map] at this
      rw [List.length_map]
      omega
    · obtain ⟨q, hq, rfl⟩ := List.mem_map.mp hx
      obtain ⟨_, a, b, e2, h⟩ := hk q (hL q hq)
      exact ⟨a, b, by rw [e2]; rfl, h⟩
end
theorem ev_intB {c : Ctx} {ρ : List Ent} {te : TE} {C : Nat} (ha : Ev c te ρ C BlD) : EvI c (tCB (fun xs H Q => (∃ i, xs = [.int i] ∧ Q (.int i) H) ∨ ∃ k, xs = [.bl k] ∧ Q (.int (if k then 1 else 0)) H) (tCons te tNil)) ρ C (fun x => 0 ≤ x ∧ x ≤ 1) := fun σ I H n Q wd e l k =>
  ha σ I H n _ wd e l fun v d I2 H2 g2 w2 r2 ⟨b, p2⟩ => by
    subst p2
    exact .inr ⟨b, by rw [r2.bl_inv], k _ _ I2 H2 g2 w2 (.int _) ⟨_, rfl, by cases b <;> decide⟩⟩
theorem rep_all {K : PySem.W.Frag} {I : Hp} {xs : List V} {ds : List PyData} (h : RpAll K I xs ds) : ∀ k : Nat, RpAll K I (List.replicate k xs).flatten (List.replicate k ds).flatten
  | 0 => .nil
  | k + 1 => by
    rw [List.replicate_succ, List.replicate_succ, List.flatten_cons, List.flatten_cons]
    exact h.append (rep_all h k)
/-- xs * k -/
theorem rd_rep {c : Ctx} {ds : List PyData} {k : Nat} (h : ds.length * k ≤ 1000) (h2 : k ≤ 1000) : Rd2 c rRep (.list ds) (.int k) (fun x => x = .list (List.replicate k ds).flatten) := fun I H n x y Q w r1 r2 kk => by
  obtain ⟨a, xs, rfl, h1, q1⟩ := r1.lst_inv
  have s : (1000 : Nat) ≤ sizeLine := by decide
  refine ⟨a, k, xs, rfl, r2.int_inv, w.ih _ _ h1, by omega, by omega, ?_, fun p np => ?_⟩
  · rw [q1.length, Int.toNat_natCast]; omega
  · rw [Int.toNat_natCast]
    exact kk _ _ (upd I p (.lst (List.replicate k xs).flatten)) (upd H p (.lst (List.replicate k xs).flatten)) (new_go w.ih np) (w.new np) (.lst upd_same ((rep_all q1 k).mono (new_go (b := none) w.ih np).ii)) rfl
theorem rep_mem {α : Type} {ds : List α} {k : Nat} {x : α} (h : x ∈ (List.replicate k ds).flatten) : x ∈ ds := by
  obtain ⟨l, hl, hx⟩ := List.mem_flatten.mp h
  rw [List.eq_of_mem_replicate hl] at hx
  exact hx
theorem rep_len {α : Type} {ds : List α} {k : Nat} : (List.replicate k ds).flatten.length = ds.length * k := by
  induction k with
  | zero => rfl
  | succ k ih => rw [List.replicate_succ, List.flatten_cons, List.length_append, ih, Nat.mul_succ]; omega
theorem ea_pv {c : Ctx} {ρ : List Ent} {te : TE} {tr : TA} {C : Nat} {d : PyData} {P : List Ent → Prop} (ha : Pv c te ρ d) (hr : Ea c tr ρ C (fun es => P (.dat d :: es))) : Ea c (tCons te tr) ρ C P :=
  ea_cons (C1 := 0) (C2 := C) (P1 := fun x => x = d) ha (P2 := fun _ es => P (.dat d :: es)) (fun _ _ => hr) (fun x es e h => by subst e; exact h) (by omega)
end Hh

set_option Elab.async false
set_option linter.all false
set_option maxRecDepth 100000
set_option maxHeartbeats 4000000
/-! lists that are popped, lists of ranges -/
namespace Hh
set_option autoImplicit false
open PySem PySem.Spec PyProof.Rows L2
/-- a list of one's own, otherwise now -/
theorem own_upd {c : Ctx} {ρ : List Ent} {I H : Hp} {σ : Sl} {i : Nat} {p : Addr} {ds ds2 : List PyData} {xs2 : List V} (e : EnvR c I H σ ρ) (hL : ∀ o, H p = some o → ∃ ys, o = .lst ys) (hi : ρ[i]? = some (.own ds)) (h1 : σ[i]? = some (some (V.ref p))) (a2 : c.H0 p = none) (a3 : some p ≠ c.b) (a4 : I p = none) (r2 : RpAll c.K I xs2 ds2) : EnvR c I (upd H p (.lst xs2)) σ (ρ.set i (.own ds2)) := by
  have hσ : σ.set i (some (V.ref p)) = σ := by
    apply List.ext_getElem?
    intro j
    by_cases z : i = j
    · subst z
      rw [List.getElem?_set_self', h1]
      rfl
    · rw [List.getElem?_set_ne z]
  refine ⟨?_, fun j k q as bs b1 b2 b3 b4 => ?_⟩
  · have gen : ∀ (σ : Sl) (ρ : List Ent), Paired (EntR c I H) σ ρ → ∀ i, σ[i]? = some (some (V.ref p)) → (∀ (j : Nat) (es : List PyData), j ≠ i → ρ[j]? = some (Ent.own es) → σ[j]? ≠ some (some (V.ref p))) → Paired (EntR c I (upd H p (.lst xs2))) σ (ρ.set i (.own ds2)) := by
      intro σ ρ h
      induction h with
      | nil => intro i hi; cases hi
      | @cons a b l m x r ih =>
        intro i hi hne
        have upx : ∀ {a : Option V} {b : Ent}, EntR c I H a b → (∀ es, b = .own es → a ≠ some (V.ref p)) → EntR c I (upd H p (.lst xs2)) a b := fun {a b} x hx => by
          cases b with
          | any => cases a <;> exact True.intro
          | dat d => cases a with
            | none => exact x
            | some v => exact x
          | bag | memo _ => cases a with
            | none => exact x
            | some v => exact x
          | raw u => cases a with
            | none => exact x
            | some v => exact x
          | scr ns => cases a with
            | none => exact x
            | some v => exact x
          | own ds => cases a with
            | none => exact x
            | some v =>
              obtain ⟨q, ys, rfl, h1, r⟩ := x
              have ne : q ≠ p := fun z => hx ds rfl (by rw [z])
              exact ⟨q, ys, rfl, by rw [upd_ne ne]; exact h1, r⟩
          | mu M => cases a with
            | none => exact x
            | some v =>
              obtain ⟨q, o, rfl, h1, h2, r⟩ := x
              have ne : q ≠ p := fun z => by
                rw [z] at h1
                obtain ⟨ys, e⟩ := hL _ h1
                exact h2 ys e
              exact ⟨q, o, rfl, by rw [upd_ne ne]; exact h1, h2, r⟩
        cases i with
        | zero =>
          have ea : a = some (V.ref p) := Option.some.inj hi
          subst ea
          refine .cons ⟨p, xs2, rfl, upd_same, a2, a3, a4, r2⟩ ?_
          have tl : ∀ (l : Sl) (m : List Ent), Paired (EntR c I H) l m → (∀ (j : Nat) (es : List PyData), m[j]? = some (Ent.own es) → l[j]? ≠ some (some (V.ref p))) → Paired (EntR c I (upd H p (.lst xs2))) l m := by
            intro l m h
            induction h with
            | nil => exact fun _ => .nil
            | @cons a b l m x r ih =>
              intro hh
              exact .cons (upx x fun es eb => by subst eb; exact fun z => hh 0 es rfl (by rw [z]; rfl)) (ih fun j es h => hh (j + 1) es (by simpa using h))
          exact tl l m r fun j es h => hne (j + 1) es (by omega) (by simpa using h)
        | succ i =>
          refine .cons (upx x fun es eb => by subst eb; exact fun z => hne 0 es (by omega) rfl (by rw [z]; rfl)) (ih i (by simpa using hi) fun j es nj h => ?_)
          have := hne (j + 1) es (by omega) (by simpa using h)
          simpa using this
    exact gen σ ρ e.st i h1 fun j es nj h z => nj (e.ap j i p es ds h hi z h1)
  · have key : ∀ (j : Nat) (as : List PyData), (ρ.set i (.own ds2))[j]? = some (.own as) → ∃ as', ρ[j]? = some (.own as') := fun j as h1 => by
      by_cases z : j = i
      · subst z; exact ⟨ds, hi⟩
      · rw [List.getElem?_set_ne (Ne.symm z)] at h1; exact ⟨as, h1⟩
    obtain ⟨as', b1'⟩ := key j as b1
    obtain ⟨bs', b2'⟩ := key k bs b2
    exact e.ap j k q as' bs' b1' b2' b3 b4
/-- x = list(..): a list of one's own -/
theorem bk_ownList {c : Ctx} {ρ : List Ent} {te : TE} {C i : Nat} {ds : List PyData} {O : Out} (ha : Pv c te ρ (.list ds)) (hn : O.nx (ρ.set i (.own ds))) : Bk c (tAsg (tCB (fun xs H Q => ∃ p ys, xs = [.ref p] ∧ (SqL c.K H p ys ∨ SqT c.K H p ys) ∧ ∀ l, H l = none → Q (.ref l) (upd H l (.lst ys))) (tCons te tNil)) (gName i)) ρ C O := fun σ I H n D w e l k1 k2 k3 k4 =>
  ha σ I H n _ w e (by omega) fun v d I2 H2 g2 w2 r2 p2 => by
    subst p2
    obtain ⟨a, vs, rfl, hs, r⟩ := r2.lst_inv
    refine ⟨a, vs, rfl, .inl (SqL.of (w2.ih _ _ hs)), fun p np => ?_⟩
    have d0 := w2.h0n np
    have dI := w2.ih.free np
    have db := w2.bne np
    have e2 := e.go g2
    refine k1 _ (ρ.set i (.own ds)) I2 (upd H2 p (.lst vs)) g2.ii ((w2.own d0 dI db).bgN (by omega)) ?_ hn
    have e3 : EnvR c I2 (upd H2 p (.lst vs)) σ ρ := e2.own (e2.noM (noL_of np)) (e2.noD np)
    refine ⟨Paired.setP (show EntR c I2 (upd H2 p (.lst vs)) (some (.ref p)) (.own ds) from ⟨p, vs, rfl, upd_same, d0, db, dI, r⟩) i e3.st, fun j k q as bs h1 h2 h3 h4 => ?_⟩
    have key : ∀ (j : Nat) (as : List PyData), (ρ.set i (.own ds))[j]? = some (.own as) → (σ.set i (some (V.ref p)))[j]? = some (some (V.ref q)) → (j = i ∧ q = p) ∨ (j ≠ i ∧ q ≠ p ∧ ρ[j]? = some (.own as) ∧ σ[j]? = some (some (V.ref q))) := fun j as h1 h2 => by
      by_cases z : j = i
      · subst z
        left
        rw [List.getElem?_set_self'] at h2
        cases q2 : σ[j]? with
        | none => rw [q2] at h2; cases h2
        | some o => rw [q2] at h2; cases h2; exact ⟨rfl, rfl⟩
      · right
        rw [List.getElem?_set_ne (Ne.symm z)] at h1 h2
        exact ⟨z, fun zz => e2.noD np j as h1 (by rw [← zz]; exact h2), h1, h2⟩
    rcases key j as h1 h3 with ⟨a1, a2⟩ | ⟨a1, a2, a3, a4⟩
    · rcases key k bs h2 h4 with ⟨b1, b2⟩ | ⟨b1, b2, b3, b4⟩
      · rw [a1, b1]
      · exact absurd a2 b2
    · rcases key k bs h2 h4 with ⟨b1, b2⟩ | ⟨b1, b2, b3, b4⟩
      · exact absurd b2 a2
      · exact e.ap j k q as bs a3 b3 a4 b4
/-- list(range(i, j)) -/
theorem pv_listRg {c : Ctx} {ρ : List Ent} {ta tb : TE} {i j : Int} (ha : Pv c ta ρ (.int i)) (hb : Pv c tb ρ (.int j)) (h0 : 0 ≤ i) (h1 : i ≤ 1000) (h2 : 0 ≤ j) (h3 : j ≤ 1000) : Pv c (tLstRg (tRg2 ta tb)) ρ (.list (rngD i (j - i).toNat)) := fun σ I H n Q w e l k =>
  ha σ I H n _ w e l fun v d I2 H2 g2 w2 r2 p2 => hb σ I2 H2 n _ w2 (e.go g2) l fun v3 d3 I3 H3 g3 w3 r3 p3 => by
    subst p2 p3
    refine ⟨i, j, r2.int_inv, r3.int_inv, RgOk.of_le h0 (by omega) (by omega) h2, fun p np => ?_⟩
    refine k _ _ (upd I3 p (.lst (rgV i j))) (upd H3 p (.lst (rgV i j))) ((g2.trans g3).trans (new_go w3.ih np)) (w3.new np) (.lst upd_same ?_) rfl
    unfold rgV rngD
    have gen : ∀ (J : Hp) (l : List Nat), RpAll c.K J (l.map fun k => V.int (i + (k : Nat))) (l.map fun k => PyData.int (i + (k : Nat))) := fun J l => by
      induction l with
      | nil => exact .nil
      | cons a r ih => exact .cons (.int _) ih
    exact gen _ _
theorem erase_all {K : PySem.W.Frag} {I : Hp} : ∀ {xs : List V} {ds : List PyData}, RpAll K I xs ds → ∀ k : Nat, RpAll K I (xs.eraseIdx k) (ds.eraseIdx k)
  | _, _, .nil, k => by rw [List.eraseIdx_nil, List.eraseIdx_nil]; exact .nil
  | _, _, .cons a r, 0 => r
  | _, _, .cons a r, k + 1 => .cons a (erase_all r k)
/-- return [left.pop(k) for one in some] -/
theorem bk_popLcP {c : Ctx} {ρ : List Ent} {wi : TI} {tk : TE} {i j : Nat} {ds is : List PyData} {O : Out} (hij : i ≠ j) (hi : (wipeE ρ [j])[i]? = some (.own ds)) (hw : Iw c wi (gName j) ρ 0 [j] (fun d ρ => ρ.set j (.dat d)) (fun x => x = is)) (hlen : ds.length = is.length) (hz : is.length ≤ 1000)
    (hk : ∀ (lf : List PyData) (d : PyData), lf ≠ [] → lf.length ≤ ds.length → EvI c tk (((wipeE ρ [j]).set i (.own lf)).set j (.dat d)) 1 (fun r => 0 ≤ r ∧ r < lf.length)) (hO : ∀ os : List PyData, os.Perm ds → O.rt (.list os)) :
    Bk c (tRet (tLc wi (gName j) tYes (tBM c.K "list" rPopAt (tVar i) (tCons tk tNil)) [j])) ρ is.length O := fun σ I H n Dd w e l k1 k2 k3 k4 => by
  refine hw σ I H n _ w e (by omega) fun J I1 H1 items g1 w1 it hpi => ?_
  subst hpi
  intro D nD
  have d0 : c.H0 D = none := w1.h0n nD
  have dI : I1 D = none := w1.ih.free nD
  have db : some D ≠ c.b := w1.bne nD
  have e1 : EnvR c I1 H1 (wipe σ [j]) (wipeE ρ [j]) := (e.go g1).wipe [j]
  obtain ⟨o, h1, h2⟩ := Paired.getP e1.st hi
  cases o with
  | none => exact h2.elim
  | some v =>
  obtain ⟨L, ys0, rfl, a1, a2, a3, a4, a5⟩ := h2
  have neL : L ≠ D := fun z => by rw [z, nD] at a1; cases a1
  have sE : (wipeE ρ [j]).set i (.own ds) = wipeE ρ [j] := by
    apply List.ext_getElem?
    intro q
    by_cases z : i = q
    · subst z
      rw [List.getElem?_set_self', hi]; rfl
    · rw [List.getElem?_set_ne z]
  refine ⟨fun k m H' => m = items.length - k ∧ k ≤ items.length ∧ ∃ I' xs out lf ys, H' D = some (.lst xs) ∧ I' D = none ∧ RpAll c.K I' xs out ∧ out.length = k ∧ (out ++ lf).Perm ds ∧ H' L = some (.lst ys) ∧ I' L = none ∧ RpAll c.K I' ys lf ∧ lf.length + k = ds.length ∧ True ∧ Wd c I' H' (n + 0 + k) ∧ Same I1 I' ∧ EnvR c I' H' (wipe σ [j]) ((wipeE ρ [j]).set i (.own lf)),
    ⟨items.length, by simp, Nat.zero_le _, I1, [], [], ds, ys0, upd_same, dI, .nil, rfl, List.Perm.refl _, by rw [upd_ne neL]; exact a1, a4, a5, by omega, trivial, w1.own d0 dI db, Same.refl _, by rw [sE]; exact e1.own (e1.noM (noL_of nD)) (e1.noD nD)⟩, ?_⟩
  rintro k m H' ⟨rfl, hk', I', xs, out, lf, ys, hD, hI, hr, hol, hoP, hL, hIL, hys, hlf, hlP, w', hs, e'⟩
  by_cases hlt : k < items.length
  · refine .inr ⟨it.go k I' H' _ hs w' hlt, fun H'' => (k + 1 ≤ items.length ∧ ∃ I' xs out lf ys, H'' D = some (.lst xs) ∧ I' D = none ∧ RpAll c.K I' xs out ∧ out.length = k + 1 ∧ (out ++ lf).Perm ds ∧ H'' L = some (.lst ys) ∧ I' L = none ∧ RpAll c.K I' ys lf ∧ lf.length + (k + 1) = ds.length ∧ True ∧ Wd c I' H'' (n + 0 + (k + 1)) ∧ Same I1 I' ∧ EnvR c I' H'' (wipe σ [j]) ((wipeE ρ [j]).set i (.own lf))), fun H'' h => ⟨items.length - (k + 1), by omega, rfl, h.1, h.2⟩, fun x H'' hy => ?_⟩
    have hget : items[k]? = some items[k] := List.getElem?_eq_getElem hlt
    refine it.yl k items[k] I' H' _ x H'' (wipe σ [j]) ((wipeE ρ [j]).set i (.own lf)) _ hs w' e' hget hy fun σ2 I2 H2 g2 w2 e2 s2 => ?_
    have sw := s2 [j] fun t ht => ht
    have hww : wipe (wipe σ [j]) [j] = wipe σ [j] := by
      apply List.ext_getElem?
      intro q
      rw [wipe_get, wipe_get]
      split <;> cases σ[q]? <;> rfl
    have hw2 : wipe σ2 [j] = wipe σ [j] := sw.trans hww
    refine ⟨hw2, et_yes σ2 I2 H2 _ _ w2 e2 (by omega) fun b I3 H3 g3 w3 pb => ?_⟩
    subst pb
    rw [if_pos rfl]
    have e3 := e2.go g3
    have nij : i ∉ [j] := fun h => hij (List.mem_singleton.mp h)
    have hσ : σ2[i]? = some (some (V.ref L)) := by
      have q := congrArg (fun l : Sl => l[i]?) hw2
      simp only [wipe_get, if_neg nij] at q
      rw [q]
      have q2 := h1
      rw [wipe_get, if_neg nij] at q2
      exact q2
    have g13 := g2.trans g3
    have hL3 : H3 L = some (.lst ys) := g13.hh _ _ a3 hL
    have hIL3 : I3 L = none := by rw [g13.nw L (by rw [hL]; exact fun z => nomatch z)]; exact hIL
    refine ⟨.ref L, hσ, .inl ⟨rfl, ys, .inl (.inl hL3)⟩, ?_⟩
    have hne : lf ≠ [] := fun z => by rw [z] at hlf; simp only [List.length_nil] at hlf; omega
    refine hk lf items[k] hne (by omega) σ2 I3 H3 _ _ w3 e3 (by omega) fun v4 d4 I4 H4 g4 w4 r4 ⟨r, er, hr0, hr1⟩ => ?_
    subst er
    obtain rfl := r4.int_inv
    have g14 := g13.trans g4
    have hL4 : H4 L = some (.lst ys) := g14.hh _ _ a3 hL
    have hIL4 : I4 L = none := by rw [g14.nw L (by rw [hL]; exact fun z => nomatch z)]; exact hIL
    have hD4 : H4 D = some (.lst xs) := g14.hh _ _ db hD
    have hID4 : I4 D = none := by rw [g14.nw D (by rw [hD]; exact fun z => nomatch z)]; exact hI
    have hys4 := hys.mono g14.ii
    have hyl : ys.length = lf.length := hys.length
    have hrn : r.toNat < lf.length := by omega
    obtain ⟨y, hy1, hy2⟩ := hys4.get (List.getElem?_eq_getElem hrn)
    refine ⟨L, ys, r, r.toNat, y, rfl, rfl, hL4, by omega, by omega, ?_, hy1, ?_⟩
    · simp [seqIndex?, show ¬ r < 0 by omega, hr0, show r < (ys.length : Int) by omega]
    · have ne2 : D ≠ L := Ne.symm neL
      refine ⟨xs, by rw [upd_ne ne2]; exact hD4, ?_, hlt, I4, xs ++ [y], out ++ [lf[r.toNat]], lf.eraseIdx r.toNat, ys.eraseIdx r.toNat, upd_same, hID4, (hr.mono g14.ii).append (.one hy2), by rw [List.length_append, hol]; rfl, ?_, by rw [upd_ne neL]; exact upd_same, hIL4, ?_, ?_, trivial, ?_, hs.trans g14.ii, ?_⟩
      · have s : (1001 : Nat) < sizeLine := by decide
        rw [hr.length, hol]; omega
      · rw [List.append_assoc]
        exact ((L2.erase_perm lf r.toNat _ (List.getElem?_eq_getElem hrn)).append_left out).trans hoP
      · exact erase_all hys4 r.toNat
      · rw [List.length_eraseIdx_of_lt hrn]; omega
      · exact ((w4.own a2 hIL4 a3).own d0 hID4 db).bgN (by omega)
      · have hil : i < (wipeE ρ [j]).length := (List.getElem?_eq_some_iff.mp hi).1
        have e4 := own_upd (xs2 := ys.eraseIdx r.toNat) (ds2 := lf.eraseIdx r.toNat) (e'.go g14) (isL_of hL4) (List.getElem?_set_self hil) h1 a2 a3 hIL4 (erase_all hys4 r.toNat)
        rw [List.set_set] at e4
        refine e4.own (e4.noM ?_) fun q as q1 q2 => ?_
        · rw [upd_ne ne2]; exact isL_of hD4
        by_cases z : i = q
        · subst z; rw [h1] at q2; cases q2; exact neL rfl
        · rw [List.getElem?_set_ne z] at q1; exact e1.noD nD q as q1 q2
  · have ei : k = items.length := by omega
    refine .inl ⟨it.st _ I' H' _ hs w' (by omega), ?_⟩
    have s1 : Same I' (upd I' D (.lst xs)) := fun q o h => by rw [upd_ne (ne_of_none h hI)]; exact h
    refine k2 (.ref D) (.list out) (upd I' D (.lst xs)) H' ((g1.ii.trans hs).trans s1) ?_ (.lst upd_same (hr.mono s1)) ⟨hO out (by
      have : lf = [] := List.eq_nil_of_length_eq_zero (by omega)
      rw [this, List.append_nil] at hoP
      exact hoP), fun _ => ⟨D, rfl, d0⟩⟩
    refine Wd.bgN (n := n + 0 + k) ⟨fun q o h => ?_, w'.i0.trans s1, w'.h0, fun q h => ?_, w'.bg⟩ (by omega)
    · by_cases z : q = D
      · subst z; rw [upd_same] at h; cases h; exact hD
      · rw [upd_ne z] at h; exact w'.ih q o h
    · rw [upd_ne (fun z => h (by rw [z]; exact d0))]; exact w'.nw q h
theorem bk_popLc {c : Ctx} {ρ : List Ent} {wi : TI} {tk : TE} {i j : Nat} {ds is : List PyData} {P : PyData → Prop} {O : Out} (hij : i ≠ j) (hi : (wipeE ρ [j])[i]? = some (.own ds)) (hw : Iw c wi (gName j) ρ 0 [j] (fun d ρ => ρ.set j (.dat d)) (fun x => x = is)) (hlen : ds.length = is.length) (hz : is.length ≤ 1000)
    (hk : ∀ (lf : List PyData) (d : PyData), lf ≠ [] → lf.length ≤ ds.length → EvI c tk (((wipeE ρ [j]).set i (.own lf)).set j (.dat d)) 1 (fun r => 0 ≤ r ∧ r < lf.length)) (hP : ∀ x ∈ ds, P x) (hO : ∀ os : List PyData, os.length = is.length → (∀ x ∈ os, P x) → O.rt (.list os)) :
    Bk c (tRet (tLc wi (gName j) tYes (tBM c.K "list" rPopAt (tVar i) (tCons tk tNil)) [j])) ρ is.length O :=
  bk_popLcP hij hi hw hlen hz hk fun os hp => hO os (by rw [hp.length_eq, hlen]) fun x hx => hP x (hp.mem_iff.mp hx)
theorem op_repTK {X : Cx} {K : PySem.W.Frag} (e : X.K = K) : OpR X (binaryOp .Mult) (rRepT K) := by subst e; exact op_repT
theorem pv_repT {c : Ctx} {ρ : List Ent} {ta tb : TE} {ds : List PyData} (ha : Pv c ta ρ (.tuple ds)) (hb : Pv c tb ρ (.int 2)) (hne : ds ≠ []) (hl : ds.length ≤ 1000) : Pv c (tOp (rRepT c.K) ta tb) ρ (.tuple (ds ++ ds)) := pv_op ha hb fun I H n x y Q w r1 r2 kk => by
  obtain ⟨a, xs, rfl, h1, q1⟩ := r1.tup_inv
  have hx : xs ≠ [] := fun z => by
    have := q1.length
    rw [z] at this
    exact hne (List.eq_nil_of_length_eq_zero this.symm)
  refine ⟨a, 2, xs, rfl, r2.int_inv, seqT_mono w.ih h1, hx, by omega, by omega, by rw [q1.length]; exact hl, fun p np => ?_⟩
  have e : (List.replicate (2 : Int).toNat xs).flatten = xs ++ xs := by
    show xs ++ (xs ++ []) = _
    rw [List.append_nil]
  rw [e]
  exact kk _ _ (upd I p (.tup (xs ++ xs))) (upd H p (.tup (xs ++ xs))) (new_go w.ih np) (w.new np) (.tup (SqT.of upd_same) ((q1.append q1).mono (new_go (b := none) w.ih np).ii)) rfl
theorem pv_cutS {c : Ctx} {ρ : List Ent} {te : TE} {tl th : TO} {x : Str} {lo hi : Option Int} (ha : Pv c te ρ (.str x)) (hl : Pp c tl ρ lo) (hh : Pp c th ρ hi) (hz : x.length ≤ sizeLine) : Pv c (tSl (rSlAny c.K) te tl th) ρ (.str (cutS x lo hi)) := fun σ I H n Q w e l k => by
  refine ha σ I H n _ w e l fun v d I2 H2 g2 w2 r2 p2 => ?_
  subst p2
  refine hl σ I2 H2 n _ w2 (e.go g2) (by omega) fun I3 H3 g3 w3 => hh σ I3 H3 n _ w3 (e.go (g2.trans g3)) (by omega) fun I4 H4 g4 w4 => ?_
  obtain rfl := r2.str_inv
  exact .inr (.inr ⟨x, rfl, hz, k _ _ I4 H4 ((g2.trans g3).trans g4) w4 (.str _) rfl⟩)
theorem sgnS_cut {x : Str} {n : Nat} {lo hi : Option Int} (h : sgnS n x = true) : sgnS n (cutS x lo hi) = true := by
  unfold sgnS at *
  rw [Bool.and_eq_true, decide_eq_true_eq, List.all_eq_true] at *
  refine ⟨Nat.le_trans (cutS_length x lo hi) h.1, fun c hc => h.2 c ?_⟩
  have q : c ∈ (x.cps.toList.drop (HT.sIx x.length 0 lo)).take (HT.sIx x.length x.length hi - HT.sIx x.length 0 lo) := by simpa [cutS] using hc
  exact List.mem_of_mem_drop (List.mem_of_mem_take q)
theorem sgnS_app {x y : Str} {m n : Nat} (hx : sgnS m x = true) (hy : sgnS n y = true) : sgnS (m + n) (x ++ y) = true := by
  have e : (x ++ y).cps.toList = x.cps.toList ++ y.cps.toList := Array.toList_append
  have len : ∀ z : Str, z.length = z.cps.toList.length := fun z => by simp [Str.length]
  unfold sgnS at *
  rw [Bool.and_eq_true, decide_eq_true_eq, len] at hx hy
  rw [Bool.and_eq_true, decide_eq_true_eq, len, e, List.all_append, hx.2, hy.2, List.length_append]
  exact ⟨by omega, rfl⟩
theorem ev_addS {c : Ctx} {ρ : List Ent} {ta tb : TE} {C C1 C2 m n : Nat} (ha : Ev c ta ρ C1 (fun d => ∃ x, d = .str x ∧ sgnS m x = true)) (hb : Ev c tb ρ C2 (fun d => ∃ x, d = .str x ∧ sgnS n x = true)) (hl : m + n ≤ 1000) (hC : C1 + C2 ≤ C) : Ev c (tOp (rAddA c.K) ta tb) ρ C (fun d => ∃ x, d = .str x ∧ sgnS (m + n) x = true) :=
  ev_op ha (P2 := fun _ d => ∃ x, d = .str x ∧ sgnS n x = true) (fun _ _ => hb) (fun d1 d2 ⟨x, e1, p1⟩ ⟨y, e2, p2⟩ => by
    subst e1 e2
    have q1 := p1
    have q2 := p2
    unfold sgnS at q1 q2
    rw [Bool.and_eq_true, decide_eq_true_eq] at q1 q2
    have s : (1000 : Nat) ≤ sizeLine := by decide
    exact fun I H n u v Q w r1 r2 k => .inr (.inr (.inr ⟨x, y, r1.str_inv, r2.str_inv, by omega, k _ _ I H Gx.refl w (.str _) ⟨_, rfl, sgnS_app p1 p2⟩⟩))) hC
/-- x = a + b: a list of one's own -/
theorem bk_ownAdd2 {c : Ctx} {ρ : List Ent} {ta tb : TE} {C i : Nat} {ds : List PyData} {P : List PyData → Prop} {O : Out} (ha : Pv c ta ρ (.list ds)) (hb : Ev c tb ρ C (fun d => ∃ fs, d = .list fs ∧ P fs)) (hl : ∀ fs, P fs → ds.length + fs.length ≤ 1000) (hn : ∀ fs, P fs → O.nx (ρ.set i (.own (ds ++ fs)))) : Bk c (tAsg (tOp (rAddA c.K) ta tb) (gName i)) ρ C O := fun σ I H n D w e l k1 k2 k3 k4 =>
  ha σ I H n _ w e (by omega) fun v d I2 H2 g2 w2 r2 p2 => hb σ I2 H2 n _ w2 (e.go g2) l fun v3 d3 I3 H3 g3 w3 r3 ⟨fs, p3, hP⟩ => by
    subst p2 p3
    have gg := g2.trans g3
    obtain ⟨a, xs, rfl, hs, q1⟩ := (r2.mono g3.ii).lst_inv
    obtain ⟨b, ys, rfl, hs2, q2⟩ := r3.lst_inv
    have r : RpAll c.K I3 (xs ++ ys) (ds ++ fs) := q1.append q2
    have hn := hn fs hP
    have hl := hl fs hP
    have s : (1000 : Nat) ≤ sizeLine := by decide
    refine .inr (.inl ⟨a, b, xs, ys, rfl, rfl, w3.ih _ _ hs, w3.ih _ _ hs2, by rw [q1.length, q2.length]; omega, fun p np => ?_⟩)
    have d0 := w3.h0n np
    have dI := w3.ih.free np
    have db := w3.bne np
    have e2 := e.go gg
    refine k1 _ (ρ.set i (.own (ds ++ fs))) I3 (upd H3 p (.lst (xs ++ ys))) gg.ii ((w3.own d0 dI db).bgN (by omega)) ?_ hn
    have e3 : EnvR c I3 (upd H3 p (.lst (xs ++ ys))) σ ρ := e2.own (e2.noM (noL_of np)) (e2.noD np)
    refine ⟨Paired.setP (show EntR c I3 (upd H3 p (.lst (xs ++ ys))) (some (.ref p)) (.own (ds ++ fs)) from ⟨p, xs ++ ys, rfl, upd_same, d0, db, dI, r⟩) i e3.st, fun j k q as bs h1 h2 h3 h4 => ?_⟩
    have key : ∀ (j : Nat) (as : List PyData), (ρ.set i (.own (ds ++ fs)))[j]? = some (.own as) → (σ.set i (some (V.ref p)))[j]? = some (some (V.ref q)) → (j = i ∧ q = p) ∨ (j ≠ i ∧ q ≠ p ∧ ρ[j]? = some (.own as) ∧ σ[j]? = some (some (V.ref q))) := fun j as h1 h2 => by
      by_cases z : j = i
      · subst z
        left
        rw [List.getElem?_set_self'] at h2
        cases q2 : σ[j]? with
        | none => rw [q2] at h2; cases h2
        | some o => rw [q2] at h2; cases h2; exact ⟨rfl, rfl⟩
      · right
        rw [List.getElem?_set_ne (Ne.symm z)] at h1 h2
        exact ⟨z, fun zz => e2.noD np j as h1 (by rw [← zz]; exact h2), h1, h2⟩
    rcases key j as h1 h3 with ⟨a1, a2⟩ | ⟨a1, a2, a3, a4⟩
    · rcases key k bs h2 h4 with ⟨b1, b2⟩ | ⟨b1, b2, b3, b4⟩
      · rw [a1, b1]
      · exact absurd a2 b2
    · rcases key k bs h2 h4 with ⟨b1, b2⟩ | ⟨b1, b2, b3, b4⟩
      · exact absurd b2 a2
      · exact e.ap j k q as bs a3 b3 a4 b4
end Hh

set_option Elab.async false
set_option linter.all false
set_option maxRecDepth 100000
set_option maxHeartbeats 2000000
namespace Hh
set_option autoImplicit false
open PySem PySem.Spec PyProof.Rows L2
/-! ### sets and dicts of one's own -/
def MSet (w : World) (ns : List Int) : Hp → Addr → HO → Prop := fun _ p o => ∃ n, n ≤ ns.length ∧ o = SetO w p (fun j => decide (j ∈ ns)) n
section
variable {c : Ctx} {ρ : List Ent} {ta te tb : TE} {tr : TA} {C C1 : Nat} {O : Out} {w : World}
theorem EnvR.newM {I H : Hp} {σ : Sl} {p : Addr} {o : HO} {M : Hp → Addr → HO → Prop} {n : Nat} (i : Nat) (w : Wd c I H n) (e : EnvR c I H σ ρ) (np : H p = none) (nl : ∀ xs, o ≠ .lst xs) (hM : ∀ J, Same I J → M J p o) : Wd c I (upd H p o) n ∧ EnvR c I (upd H p o) (σ.set i (some (.ref p))) (ρ.set i (.mu M)) := by
  have d0 := w.h0n np
  have dI := w.ih.free np
  have db := w.bne np
  refine ⟨w.put d0 dI db, ?_⟩
  exact (e.go (lost_go np)).set i (o := some (.ref p)) (e := .mu M) ⟨p, o, rfl, upd_same, nl, d0, db, dI, hM⟩ (fun _ z => nomatch z)
/-- no other set or dict of one's own is there -/
theorem EnvR.updM {I H : Hp} {σ : Sl} {p : Addr} {o o' : HO} (e : EnvR c I H σ ρ) (hp : H p = some o) (nl : ∀ xs, o ≠ .lst xs) (no : ∀ (j : Nat) (M : Hp → Addr → HO → Prop), ρ[j]? ≠ some (.mu M)) : EnvR c I (upd H p o') σ ρ := by
  refine ⟨?_, e.ap⟩
  have gen : ∀ (σ : Sl) (ρ : List Ent), Paired (EntR c I H) σ ρ → (∀ (j : Nat) (M : Hp → Addr → HO → Prop), ρ[j]? ≠ some (.mu M)) → Paired (EntR c I (upd H p o')) σ ρ := by
    intro σ ρ h
    induction h with
    | nil => exact fun _ => .nil
    | @cons a b l m x r ih =>
      intro hh
      refine .cons ?_ (ih fun i M h1 => hh (i + 1) M (by simpa using h1))
      cases b with
      | any => cases a <;> exact True.intro
      | dat d => cases a with
        | none => exact x
        | some v => exact x
      | bag | memo _ => cases a with
        | none => exact x
        | some v => exact x
      | raw u => cases a with
        | none => exact x
        | some v => exact x
      | scr ns => cases a with
        | none => exact x
        | some v => exact x
      | own ds => cases a with
        | none => exact x
        | some v =>
          obtain ⟨q, ys, rfl, h1, r⟩ := x
          have ne : q ≠ p := fun z => by rw [z, hp] at h1; exact nl _ (Option.some.inj h1)
          exact ⟨q, ys, rfl, by rw [upd_ne ne]; exact h1, r⟩
      | mu M => exact absurd rfl (hh 0 M)
  exact gen σ ρ e.st no
/-- the one of them is otherwise now -/
theorem EnvR.setM {I H : Hp} {σ : Sl} {p : Addr} {o o' : HO} {M : Hp → Addr → HO → Prop} {i : Nat} {n : Nat} (w : Wd c I H n) (e : EnvR c I H σ ρ) (hi : σ[i]? = some (some (.ref p))) (hp : H p = some o) (nl : ∀ xs, o ≠ .lst xs) (nl' : ∀ xs, o' ≠ .lst xs) (h0 : c.H0 p = none) (hb : some p ≠ c.b) (hI : I p = none)
    (no : ∀ (j : Nat) (M : Hp → Addr → HO → Prop), j ≠ i → ρ[j]? ≠ some (.mu M)) (hM : ∀ J, Same I J → M J p o') : Wd c I (upd H p o') n ∧ EnvR c I (upd H p o') σ (ρ.set i (.mu M)) := by
  refine ⟨w.put h0 hI hb, ?_⟩
  have hσ : σ.set i (some (V.ref p)) = σ := by
    apply List.ext_getElem?
    intro j
    by_cases z : i = j
    · subst z
      rw [List.getElem?_set_self', hi]
      rfl
    · rw [List.getElem?_set_ne z]
  have e1 : EnvR c I H σ (ρ.set i .any) := by
    have q := e.set i (o := some (V.ref p)) (e := .any) True.intro (fun _ z => nomatch z)
    rwa [hσ] at q
  have e2 := e1.updM (o' := o') hp nl fun j M z => by
    by_cases y : i = j
    · subst y
      rw [List.getElem?_set_self'] at z
      cases q : ρ[i]? with
      | none => rw [q] at z; cases z
      | some x => rw [q] at z; cases z
    · rw [List.getElem?_set_ne y] at z
      exact no j M (fun y' => y y'.symm) z
  have q := e2.set i (o := some (V.ref p)) (e := .mu M) ⟨p, o', rfl, upd_same, nl', h0, hb, hI, hM⟩ (fun _ z => nomatch z)
  rwa [hσ, List.set_set] at q
theorem setO_nl {p : Addr} {S : Int → Bool} {n : Nat} : ∀ xs, SetO w p S n ≠ .lst xs := fun _ z => nomatch z
/-- x = set() -/
theorem bk_set0 {i : Nat} (hn : O.nx (ρ.set i (.mu (MSet w [])))) : Bk c (tAsg (tCB (rSet0 w) tNil) (gName i)) ρ C O := fun σ I H n D ww e l k1 k2 k3 k4 => by
  refine ⟨rfl, fun p np => ?_⟩
  obtain ⟨w1, e1⟩ := EnvR.newM (M := MSet w []) (o := SetO w p (fun _ => false) 0) i ww e np setO_nl (fun J _ => ⟨0, Nat.le_refl _, by congr⟩)
  exact k1 _ _ I _ (Same.refl _) (w1.bgN (by omega)) e1 hn
/-- k not in x -/
theorem pt_snotin {i : Nat} {k : Int} {ns : List Int} (ha : Pv c ta ρ (.int k)) (hi : ρ[i]? = some (.mu (MSet w ns))) : Pt c (tTest (tOp (rSNotIn w) ta (tVar i))) ρ (!decide (k ∈ ns)) := fun σ I H n Q ww e l kk =>
  ha σ I H n _ ww e l fun v d I2 H2 g2 w2 r2 p2 => by
    subst p2
    obtain rfl := r2.int_inv
    obtain ⟨o, h1, h2⟩ := Paired.getP (e.go g2).st hi
    cases o with
    | none => exact h2.elim
    | some u =>
      obtain ⟨p, o, rfl, a1, a2, a3, a4, a5, a6⟩ := h2
      obtain ⟨m, _, rfl⟩ := a6 I2 (Same.refl _)
      exact ⟨_, h1, k, p, _, m, rfl, rfl, a1, _, rfl, kk _ I2 H2 g2 w2 rfl⟩
/-- x.add(k) -/
theorem bk_sadd {i : Nat} {k : Int} {ns : List Int} (hi : ρ[i]? = some (.mu (MSet w ns))) (ha : Pv c ta ρ (.int k)) (hl : ns.length ≤ 1000) (no : ∀ (j : Nat) (M : Hp → Addr → HO → Prop), j ≠ i → ρ[j]? ≠ some (.mu M)) (hn : O.nx (ρ.set i (.mu (MSet w (ns ++ [k]))))) :
    Bk c (tDrop (tSAdd w (tVar i) (tCons ta tNil))) ρ C O := fun σ I H n D ww e l k1 k2 k3 k4 => by
  obtain ⟨o, h1, h2⟩ := Paired.getP e.st hi
  cases o with
  | none => exact h2.elim
  | some u =>
    obtain ⟨p, o, rfl, a1, a2, a3, a4, a5, a6⟩ := h2
    obtain ⟨m, hm, rfl⟩ := a6 I (Same.refl _)
    refine ⟨_, h1, ⟨p, _, m, rfl, a1⟩, ha σ I H n _ ww e (by omega) fun v d I2 H2 g2 w2 r2 p2 => ?_⟩
    subst p2
    obtain rfl := r2.int_inv
    have hp2 : H2 p = some (SetO w p (fun j => decide (j ∈ ns)) m) := g2.hh _ _ a4 a1
    have hI2 : I2 p = none := by rw [g2.nw p (by rw [a1]; exact fun z => nomatch z)]; exact a5
    refine ⟨p, k, _, m, rfl, rfl, hp2, ?_, ?_⟩
    · have : (1002 : Nat) < scanBound := by decide
      omega
    · obtain ⟨w3, e3⟩ := EnvR.setM (M := MSet w (ns ++ [k])) (o' := SetO w p (fun j => decide (j ∈ ns) || decide (j = k)) (if decide (k ∈ ns) = true then m else m + 1)) w2 (e.go g2) h1 hp2 setO_nl setO_nl a3 a4 hI2 no (fun J _ => ⟨if decide (k ∈ ns) = true then m else m + 1, by
          rw [List.length_append]
          simp only [List.length_singleton]
          split <;> omega, by
        have e : (fun j => decide (j ∈ ns) || decide (j = k)) = fun j => decide (j ∈ ns ++ [k]) := funext fun j => by
          rw [← Bool.decide_or]
          congr 1
          simp
        rw [e]⟩)
      exact k1 _ _ I2 _ g2.ii (w3.bgN (by omega)) e3 hn
end
/-! ### sorted of rows (whole number, whole number, anything), no two alike in their first two -/
section
variable {prog : Program} {w : World} {A : Around} {E : Value → Shared → Prop} {s : Shared}
open SrtO Srt
def IsRow3 (h : Heap) (v : Value) (x y : Int) : Prop := ∃ a o t u z n, v = .ref a ∧ h.get? a = some o ∧ o.cls = .type "tuple" ∧ o.data = .seq #[.int x t, .int y u, z] n
theorem IsRow3.keeps {h h' : Heap} {v : Value} {x y : Int} (p : IsRow3 h v x y) (k : ∀ b o, h.get? b = some o → o.cls = .type "tuple" → h'.get? b = some o) : IsRow3 h' v x y := by
  obtain ⟨a, o, t, u, z, n, e, ho, hc, hd⟩ := p
  exact ⟨a, o, t, u, z, n, e, k _ _ ho hc, hc, hd⟩
theorem firsts_of3 {h : Heap} : ∀ {vs : List Value}, (∀ v ∈ vs, ∃ x y, IsRow3 h v x y) → ∃ fs : List Value, PySem.W.KatTups h vs fs ∧ fs.length = vs.length ∧ ∀ f ∈ fs, ∃ x t, f = Value.int x t
  | [], _ => ⟨[], PySem.W.KatTups.nil, rfl, fun _ hm => by simp at hm⟩
  | v :: vs, hp => by
    obtain ⟨fs, h1, h2, h3⟩ := firsts_of3 (vs := vs) fun v' hm => hp v' (List.mem_cons_of_mem _ hm)
    obtain ⟨x, y, a, o, t, u, z, n, e, ho, hc, hd⟩ := hp v (List.mem_cons_self ..)
    subst e
    refine ⟨.int x t :: fs, PySem.W.KatTups.cons ho hc hd rfl h1, by rw [List.length_cons, List.length_cons, h2], fun f hm => ?_⟩
    rcases List.mem_cons.mp hm with e | hm
    · exact ⟨x, t, e⟩
    · exact h3 f hm
theorem row3_cmp {vs : List Value} {k : Value → Int × Int} (hp : ∀ v ∈ vs, IsRow3 s.heap v (k v).1 (k v).2) (hj : ∀ v ∈ vs, ∀ u ∈ vs, k v = k u → v = u) : SrtO.Cmp prog w A s (tuples' true) (fun p => p.1 ∈ vs) (lt2 fun v u => lexB (k v) (k u)) := by
  intro p q hm hm'
  have h1 := hp _ hm
  have h2 := hp _ hm'
  have h3 := hj _ hm _ hm'
  show wpAny (model prog w) A (keyLt' (tuples' true) p.1 q.1) (fun r s' => s' = s ∧ r = lexB (k p.1) (k q.1)) (fun _ _ => False) s
  unfold lexB
  have h4 : (k p.1).1 = (k q.1).1 → (k p.1).2 = (k q.1).2 → p.1 = q.1 := fun a b => h3 (Prod.ext a b)
  generalize (k p.1).1 = x at h1 h4 ⊢
  generalize (k p.1).2 = y at h1 h4 ⊢
  generalize (k q.1).1 = x' at h2 h4 ⊢
  generalize (k q.1).2 = y' at h2 h4 ⊢
  obtain ⟨a, o, t, u, z, n, e, ho, hc, hd⟩ := h1
  obtain ⟨a', o', t', u', z', n', e', ho', hc', hd'⟩ := h2
  rw [e, e'] at h4
  rw [e, e']
  refine PySem.W.kat_lt ho hd ho' hd' ?_
  show PySem.W.KatLex prog w A true (decide (3 < 3)) _ [(.int x t, .int x' t'), (.int y u, .int y' u'), (z, z')] 0 s
  refine PySem.W.kat_cons (SeqAt.EqAt.int_int x t x' t' prog w _ _ ?_)
  refine PySem.W.kat_go (fun e1 => ?_) (fun e1 => ?_)
  · have ex : x = x' := by simpa using e1
    refine PySem.W.kat_yes (PySem.W.kat_cons (SeqAt.EqAt.int_int y u y' u' prog w _ _ ?_))
    refine PySem.W.kat_go (fun e2 => ?_) (fun e2 => ?_)
    · have ey : y = y' := by simpa using e2
      have ea := h4 ex ey
      cases ea
      rw [ho] at ho'
      cases ho'
      rw [hd] at hd'
      cases hd'
      have e3 : (if x = x then decide (y < y) else decide (x < x)) = false := by
        rw [if_pos rfl]
        exact decide_eq_false (Int.lt_irrefl _)
      refine PySem.W.kat_yes (PySem.W.kat_cons (SeqAt.EqAt.same z prog w _ _ ?_))
      exact PySem.W.kat_yes (PySem.W.kat_nil ⟨rfl, e3.symm⟩)
    · have e3 : (if x = x' then decide (y < y') else decide (x < x')) = decide (y < y') := if_pos ex
      refine PySem.W.kat_no (PySem.W.kat_one _ _ (PyProof.Rows.lt_int ?_))
      exact (show s = s ∧ decide (y < y') = (if x = x' then decide (y < y') else decide (x < x')) from ⟨rfl, e3.symm⟩)
  · have ex : ¬ x = x' := by simpa using e1
    have e3 : (if x = x' then decide (y < y') else decide (x < x')) = decide (x < x') := if_neg ex
    exact PySem.W.kat_no (oneLt_int ⟨rfl, e3.symm⟩)
theorem rows3_sortable {a : Addr} {vs : List Value} {k : Value → Int × Int} (h0 : 0 < vs.length) (hp : ∀ v ∈ vs, IsRow3 s.heap v (k v).1 (k v).2) (hj : ∀ v ∈ vs, ∀ u ∈ vs, k v = k u → v = u) (ha : ∀ o, s.heap.get? a = some o → o.cls ≠ .type "tuple") : SortableO prog w A s a vs fun v u => lexB (k v) (k u) := by
  intro h' keep
  have hp' : ∀ v ∈ vs, IsRow3 h' v (k v).1 (k v).2 := fun v hm => (hp v hm).keeps fun b o e c => keep b o (fun z => by subst z; exact ha o e c) e
  obtain ⟨fs, h1, h2, h3⟩ := firsts_of3 fun v hm => ⟨_, _, hp' v hm⟩
  refine ⟨tuples' true, fun Q E hq => ?_, row3_cmp hp' hj⟩
  refine PySem.W.kat_kind (T := .type "int") h1 (by omega) (fun f hm => ?_) (by rfl) ?_
  · obtain ⟨x, t, rfl⟩ := h3 f hm
    exact PySem.W.Looks.now
  · have e : (Value.type "int" != Value.type "tuple") = true := by first | decide +kernel | rfl | decide
    rw [e]
    exact hq
theorem sorted_rows3 {l : Addr} {vs : List Value} {k : Value → Int × Int} {Q : Value → Shared → Prop} (hl : s.heap.IsList l vs.toArray) (hz : vs.length ≤ sizeLine) (hp : ∀ v ∈ vs, IsRow3 s.heap v (k v).1 (k v).2) (hj : ∀ v ∈ vs, ∀ u ∈ vs, k v = k u → v = u)
    (h : ∀ (h' : Heap) (d : Addr) (out : List Value), Srtd (fun v u => lexB (k v) (k u)) out → Stb (fun v u => lexB (k v) (k u)) out vs → (∀ b o, s.heap.get? b = some o → h'.get? b = some o) → s.heap.objs.size ≤ d → (∃ n, h'.get? d = some (seqObj "list" out.toArray n)) → Q (.ref d) { s with heap := h' }) :
    wpAny (model prog w) A (call (.builtin "sorted") [.ref l]) Q E s := by
  refine sorted_ord (swo_lex k) hl hz (fun h2 h₁ a ha kk => ?_) fun out hs hb => ?_
  · refine rows3_sortable (s := { s with heap := h₁ }) (by omega) (fun v hm => (hp v hm).keeps fun b o e _ => (kk b o e).2) hj fun o e => ?_
    have e' : some o = some (seqObj "list" vs.toArray 0) := e.symm.trans ha
    cases e'
    intro c
    exact absurd (Value.type.inj c) (by decide)
  · exact h _ _ out hs hb (fun b o e => sortedAll_old e) (Nat.le_succ _) (sortedAll_at s.heap vs out.toArray)
end
theorem vals_3 {x y z : V} {us : List Value} (h : Vals [x, y, z] us) : ∃ a b c, us = [a, b, c] ∧ RelV x a ∧ RelV y b ∧ RelV z c := by
  cases h with
  | cons h1 r => cases r with
    | cons h2 r => cases r with
      | cons h3 r => cases r with
        | nil => exact ⟨_, _, _, rfl, h1, h2, h3⟩
theorem perm_map_inv {α β : Type} {f : α → β} {m1 m2 : List β} (h : m1.Perm m2) : ∀ {l : List α}, l.map f = m1 → ∃ l' : List α, l'.Perm l ∧ l'.map f = m2 := by
  induction h with
  | nil => intro l e; exact ⟨[], by rw [List.map_eq_nil_iff.mp e], rfl⟩
  | cons x _ ih =>
    intro l e
    cases l with
    | nil => cases e
    | cons a r =>
      rw [List.map_cons, List.cons.injEq] at e
      obtain ⟨l', h1, h2⟩ := ih e.2
      exact ⟨a :: l', h1.cons a, by rw [List.map_cons, h2, e.1]⟩
  | swap x y r =>
    intro l e
    cases l with
    | nil => cases e
    | cons a l => cases l with
      | nil => rw [List.map_cons] at e; cases e
      | cons b l =>
        rw [List.map_cons, List.map_cons, List.cons.injEq, List.cons.injEq] at e
        exact ⟨b :: a :: l, List.Perm.swap _ _ _, by rw [List.map_cons, List.map_cons, e.1, e.2.1, e.2.2]⟩
  | trans _ _ ih1 ih2 =>
    intro l e
    obtain ⟨l1, a1, a2⟩ := ih1 e
    obtain ⟨l2, b1, b2⟩ := ih2 a2
    exact ⟨l2, b1.trans a1, b2⟩
abbrev ltK {α : Type} (k : α → Int × Int) (x y : α) : Bool := SrtO.lexB (k x) (k y)
theorem lexB_total {p q : Int × Int} (h1 : SrtO.lexB p q = false) (h2 : SrtO.lexB q p = false) : p = q := by
  have a := SrtO.lexB_no.mp h1
  have b := SrtO.lexB_no.mp h2
  exact Prod.ext (by omega) (by omega)
theorem lexB_tr {p q r : Int × Int} (h1 : SrtO.lexB q p = false) (h2 : SrtO.lexB r q = false) : SrtO.lexB r p = false := by
  have a := SrtO.lexB_no.mp h1
  have b := SrtO.lexB_no.mp h2
  refine SrtO.lexB_no.mpr ?_
  omega
theorem lexB_as {p q : Int × Int} (h : SrtO.lexB p q = true) : SrtO.lexB q p = false := by
  have a := SrtO.lexB_iff.mp h
  refine SrtO.lexB_no.mpr ?_
  omega
/-- sorted by keys, each once: there is just one such list -/
theorem srtK_uniq {α : Type} {k : α → Int × Int} : ∀ {l m : List α}, SrtO.Srtd (ltK k) l → SrtO.Srtd (ltK k) m → l.Perm m → (∀ x ∈ l, ∀ y ∈ l, k x = k y → x = y) → l = m
  | [], m, _, _, h, _ => (List.Perm.eq_nil h.symm).symm
  | x :: l, [], _, _, h, _ => absurd h.length_eq (by simp)
  | x :: l, y :: m, hl, hm, h, hj => by
    have h1 := List.pairwise_cons.mp hl
    have h2 := List.pairwise_cons.mp hm
    have hx : x ∈ y :: m := h.mem_iff.mp List.mem_cons_self
    have hy : y ∈ x :: l := h.mem_iff.mpr List.mem_cons_self
    have e : x = y := by
      rcases List.mem_cons.mp hx with e | hx'
      · exact e
      · rcases List.mem_cons.mp hy with e | hy'
        · exact e.symm
        · exact hj x List.mem_cons_self y hy (lexB_total (h2.1 x hx') (h1.1 y hy'))
    subst e
    rw [srtK_uniq h1.2 h2.2 h.cons_inv fun a ha b hb => hj a (List.mem_cons_of_mem _ ha) b (List.mem_cons_of_mem _ hb)]
def insB {α : Type} (k : α → Int × Int) (x : α) : List α → List α
  | [] => [x]
  | y :: r => if ltK k y x = true then y :: insB k x r else x :: y :: r
def sortB {α : Type} (k : α → Int × Int) (l : List α) : List α := l.foldr (insB k) []
theorem insB_perm {α : Type} {k : α → Int × Int} {x : α} : ∀ l : List α, (insB k x l).Perm (x :: l)
  | [] => List.Perm.refl _
  | y :: r => by
    unfold insB
    split
    · exact ((insB_perm r).cons y).trans (List.Perm.swap _ _ _)
    · exact List.Perm.refl _
theorem sortB_perm {α : Type} {k : α → Int × Int} : ∀ l : List α, (sortB k l).Perm l
  | [] => List.Perm.refl _
  | y :: r => (insB_perm _).trans ((sortB_perm r).cons y)
theorem insB_srt {α : Type} {k : α → Int × Int} {x : α} : ∀ {l : List α}, SrtO.Srtd (ltK k) l → SrtO.Srtd (ltK k) (insB k x l)
  | [], _ => List.pairwise_singleton _ _
  | y :: r, h => by
    have h1 := List.pairwise_cons.mp h
    unfold insB
    split
    · rename_i c
      refine List.pairwise_cons.mpr ⟨fun z hz => ?_, insB_srt h1.2⟩
      rcases List.mem_cons.mp ((insB_perm r).mem_iff.mp hz) with e | q
      · rw [e]; exact lexB_as c
      · exact h1.1 z q
    · rename_i c
      have c' : ltK k y x = false := by simpa using c
      refine List.pairwise_cons.mpr ⟨fun z hz => ?_, h⟩
      rcases List.mem_cons.mp hz with e | q
      · rw [e]; exact c'
      · exact lexB_tr (p := k x) (q := k y) (r := k z) c' (h1.1 z q)
theorem sortB_srt {α : Type} {k : α → Int × Int} : ∀ l : List α, SrtO.Srtd (ltK k) (sortB k l)
  | [] => List.Pairwise.nil
  | _ :: r => insB_srt (sortB_srt r)
theorem nodup_inj {α : Type} {k : α → Int × Int} {l : List α} (h : (l.map k).Nodup) : ∀ x ∈ l, ∀ y ∈ l, k x = k y → x = y := by
  induction l with
  | nil => exact fun _ h => nomatch h
  | cons a r ih =>
    rw [List.map_cons, List.nodup_cons] at h
    intro x hx y hy e
    rcases List.mem_cons.mp hx with rfl | hx'
    · rcases List.mem_cons.mp hy with rfl | hy'
      · rfl
      · exact absurd (List.mem_map.mpr ⟨y, hy', e.symm⟩) h.1
    · rcases List.mem_cons.mp hy with rfl | hy'
      · exact absurd (List.mem_map.mpr ⟨x, hx', e⟩) h.1
      · exact ih h.2 x hx' y hy' e
theorem sortB_uniq {α : Type} {k : α → Int × Int} {l m : List α} (h : m.Perm l) (hs : SrtO.Srtd (ltK k) m) (hn : (l.map k).Nodup) : m = sortB k l :=
  srtK_uniq hs (sortB_srt l) (h.trans (sortB_perm l).symm) fun x hx y hy => nodup_inj hn x (h.mem_iff.mp hx) y (h.mem_iff.mp hy)
theorem IsRow3.uniq {h : Heap} {v : Value} {x y x' y' : Int} (a : IsRow3 h v x y) (b : IsRow3 h v x' y') : x = x' ∧ y = y' := by
  obtain ⟨p, o, t, u, z, n, e, ho, hc, hd⟩ := a
  obtain ⟨p', o', t', u', z', n', e', ho', hc', hd'⟩ := b
  rw [e] at e'
  cases e'
  rw [ho] at ho'
  cases ho'
  rw [hd] at hd'
  cases hd'
  exact ⟨rfl, rfl⟩
open Classical in
noncomputable def keyIn (h : Heap) (v : Value) : Int × Int := if q : ∃ p : Int × Int, IsRow3 h v p.1 p.2 then Classical.choose q else (0, 0)
theorem keyIn_is {h : Heap} {v : Value} {p : Int × Int} (r : IsRow3 h v p.1 p.2) : keyIn h v = p := by
  unfold keyIn
  rw [dif_pos ⟨p, r⟩]
  have q := Classical.choose_spec (⟨p, r⟩ : ∃ p : Int × Int, IsRow3 h v p.1 p.2)
  obtain ⟨a, b⟩ := q.uniq r
  exact Prod.ext a b
/-- sorted of rows (whole number, whole number, anything): each with its key -/
def rSorted3 (K : PySem.W.Frag) : List V → Hp → VK → Prop := fun vs H Q => ∃ (a : Addr) (ks : List (V × Int × Int)), vs = [V.ref a] ∧ SqL K H a (ks.map (·.1)) ∧ (∀ p ∈ ks, ∃ t z, p.1 = V.ref t ∧ SqT K H t [.int p.2.1, .int p.2.2, z]) ∧ (ks.map (·.2)).Nodup ∧
  ∀ (ys : List (V × Int × Int)) (p : Addr), SrtO.Srtd (ltK (·.2)) ys → ys.Perm ks → H p = none → Q (.ref p) (upd H p (.lst (ys.map (·.1))))
theorem cr_sorted3 {X : Cx} {K : PySem.W.Frag} (e : X.K = K) : CallR X (.builtin "sorted") (rSorted3 K) := by
  subst e
  intro pins s σ H vs us Q I r h
  obtain ⟨a, ks, rfl, hs, hx, hj, q⟩ := h
  obtain ⟨its, rv, hl, hz⟩ := I.list hs
  obtain ⟨u, rfl, ru⟩ := vals1 r
  obtain rfl : u = Value.ref a := ru
  obtain ⟨e1, e2⟩ := refs_back rv fun x m => by
    obtain ⟨p, hp, rfl⟩ := List.mem_map.mp m
    obtain ⟨t, z, e, _⟩ := hx p hp
    exact ⟨t, e⟩
  have row : ∀ p ∈ ks, ∀ u, RelV p.1 u → IsRow3 s.heap u p.2.1 p.2.2 := fun p hp u hu => by
    obtain ⟨t, z, e, ht⟩ := hx p hp
    rw [e] at hu
    cases hu
    obtain ⟨its2, r2, ⟨o, ho, hc, n, hd⟩, _⟩ := I.tuple ht
    obtain ⟨u1, u2, u3, rfl, ri, rj, rz⟩ := vals_3 r2
    obtain ⟨t1, rfl⟩ := ri
    obtain ⟨t2, rfl⟩ := rj
    exact ⟨t, o, t1, t2, u3, n, rfl, ho, hc, hd⟩
  have key : ∀ (ks : List (V × Int × Int)) (its : List Value), Vals (ks.map (·.1)) its → (∀ p ∈ ks, ∀ u, RelV p.1 u → IsRow3 s.heap u p.2.1 p.2.2) → (∀ u ∈ its, ∃ a, u = Value.ref a) → ks = its.map fun u => (backV u, keyIn s.heap u) := by
    intro ks
    induction ks with
    | nil => intro its h _ _; cases h; rfl
    | cons p r ih =>
      intro its h hr hu
      cases its with
      | nil => cases h
      | cons u us =>
        cases h with
        | cons h1 h2 =>
          obtain ⟨a, rfl⟩ := hu u List.mem_cons_self
          have hk := keyIn_is (p := p.2) (hr p List.mem_cons_self _ h1)
          rw [List.map_cons, ← ih us h2 (fun q hq => hr q (List.mem_cons_of_mem _ hq)) fun u hq => hu u (List.mem_cons_of_mem _ hq)]
          congr 1
          refine Prod.ext ?_ hk.symm
          obtain ⟨v, w⟩ := p
          cases v <;> first | (exact congrArg V.ref (Value.ref.inj h1).symm) | (cases h1; done) | (obtain ⟨t, e⟩ := h1; cases e)
  have ek := key ks its rv row e2
  have hin : ∀ v ∈ its, IsRow3 s.heap v (keyIn s.heap v).1 (keyIn s.heap v).2 := fun v hv => by
    have : (backV v, keyIn s.heap v) ∈ ks := by rw [ek]; exact List.mem_map.mpr ⟨v, hv, rfl⟩
    obtain ⟨t, rfl⟩ := e2 v hv
    exact row _ this _ rfl
  refine sorted_rows3 (k := keyIn s.heap) hl.isList (by rw [← rv.length]; exact hz) hin (fun v hv u hu he => ?_) fun h' d out h1 h2 kp hd hn => ?_
  · have hnd : (its.map (keyIn s.heap)).Nodup := by
      rw [ek, List.map_map] at hj
      exact hj
    exact nodup_inj hnd v hv u hu he
  · have h3 : ∀ u ∈ out, ∃ a, u = Value.ref a := fun u hu => e2 u (h2.perm.mem_iff.mp hu)
    obtain ⟨n, hn⟩ := hn
    have hb : (out.map fun u => (backV u, keyIn s.heap u)).Perm ks := by
      rw [ek]
      exact h2.perm.map _
    have e4 : (out.map fun u => (backV u, keyIn s.heap u)).map (·.1) = out.map backV := by rw [List.map_map]; rfl
    have q2 := q (out.map fun u => (backV u, keyIn s.heap u)) d (List.pairwise_map.mpr h1) hb (I.hok.fresh hd)
    rw [e4] at q2
    refine ⟨.ref d, upd H d (.lst (out.map backV)), I.laid (t' := s.toks) kp hd ⟨?_, out, n, vals_back h3, hn⟩, rfl, q2⟩
    rw [List.length_map, h2.perm.length_eq, ← rv.length]
    exact hz
def row3 (k : PyData → Int × Int) (d : PyData) : PyData := .tuple [.int (k d).1, .int (k d).2, d]
theorem pv_sorted3 {c : Ctx} {ρ : List Ent} {te : TE} {k : PyData → Int × Int} {ds : List PyData} (ha : Pv c te ρ (.list (ds.map (row3 k)))) (hn : (ds.map k).Nodup) : Pv c (tCB (rSorted3 c.K) (tCons te tNil)) ρ (.list ((sortB k ds).map (row3 k))) := fun σ I H n Q w e l kk =>
  ha σ I H n _ w e l fun v d I2 H2 g2 w2 r2 p2 => by
    subst p2
    obtain ⟨a, xs, rfl, h1, q1⟩ := r2.lst_inv
    have hlen : xs.length = ds.length := by rw [q1.length, List.length_map]
    have hL1 : ((xs.zip ds).map fun p => (p.1, k p.2)).map (·.1) = xs := by
      rw [List.map_map]
      exact List.map_fst_zip (by omega)
    have hL2 : (xs.zip ds).map (·.2) = ds := List.map_snd_zip (by omega)
    have hrow : ∀ p ∈ xs.zip ds, Rp c.K I2 p.1 (row3 k p.2) := fun p hp => by
      obtain ⟨i, hi⟩ := List.mem_iff_getElem?.mp hp
      obtain ⟨e1, e2⟩ := List.getElem?_zip_eq_some.mp hi
      obtain ⟨v, hv, r⟩ := q1.get (i := i) (d := row3 k p.2) (by rw [List.getElem?_map, e2]; rfl)
      rw [e1] at hv
      cases hv
      exact r
    refine ⟨a, (xs.zip ds).map fun p => (p.1, k p.2), rfl, by rw [hL1]; exact SqL.of (w2.ih _ _ h1), fun p hp => ?_, ?_, fun ys p hs hp np => ?_⟩
    · obtain ⟨q, hq, rfl⟩ := List.mem_map.mp hp
      obtain ⟨t, us, e1, h2, h3⟩ := (hrow q hq).tup_inv
      cases h3 with
      | cons r1 h3 => cases h3 with
        | cons r2 h3 => cases h3 with
          | cons r3 h3 =>
            cases h3
            rw [r1.int_inv, r2.int_inv] at h2
            exact ⟨t, _, e1, seqT_mono w2.ih h2⟩
    · rw [List.map_map]
      have : ((fun p : V × Int × Int => p.2) ∘ fun p : V × PyData => (p.1, k p.2)) = k ∘ (·.2) := rfl
      rw [this, ← List.map_map, hL2]
      exact hn
    · obtain ⟨L, hL, rfl⟩ := perm_map_inv hp.symm rfl
      have es : L.map (·.2) = sortB k ds := sortB_uniq (by have := hL.map (·.2); rwa [hL2] at this) (List.pairwise_map.mpr (List.pairwise_map.mp hs)) hn
      have hr : ∀ (M : List (V × PyData)), (∀ p ∈ M, p ∈ xs.zip ds) → RpAll c.K I2 (M.map (·.1)) ((M.map (·.2)).map (row3 k)) := by
        intro M
        induction M with
        | nil => exact fun _ => .nil
        | cons p r ih => exact fun h => .cons (hrow p (h p List.mem_cons_self)) (ih fun q hq => h q (List.mem_cons_of_mem _ hq))
      have r3 := hr L fun p hp => hL.mem_iff.mp hp
      rw [es] at r3
      have e5 : (L.map fun p => (p.1, k p.2)).map (·.1) = L.map (·.1) := by rw [List.map_map]; rfl
      rw [e5]
      exact kk _ _ (upd I2 p (.lst (L.map (·.1)))) (upd H2 p (.lst (L.map (·.1)))) (g2.trans (new_go w2.ih np)) (w2.new np) (.lst upd_same (r3.mono (new_go (b := none) w2.ih np).ii)) rfl
end Hh
namespace Hh
set_option autoImplicit false
open PySem PySem.Spec PyProof.Rows L2
/-! ### told lists that are the asker's own -/
section
variable {c : Ctx} {ρ : List Ent} {te ta tb : TE} {tr : TA} {C C1 C2 : Nat} {P : PyData → Prop} {O : Out}
theorem bk_retF (ha : EvF c te ρ C P) (hn : ∀ d, P d → O.rt d) : Bk c (tRet te) ρ C O := fun σ I H n D w e l k1 k2 k3 k4 =>
  ha σ I H n _ w e l fun v d I2 H2 g2 w2 r2 p2 ⟨p, ev, hp⟩ => k2 v d I2 H2 g2.ii w2 r2 ⟨hn d p2, fun _ => ⟨p, ev, w.h0n hp⟩⟩
/-- a def's promise, its answer a new list -/
def spF (K : PySem.W.Frag) (ar : Nat) (C : Nat) (pre : List Ent → Prop) (post : List Ent → PyData → Prop) : Sp := fun vs H Q _ => ∃ (b : Option Addr) (B : BInv) (I : Hp) (n : Nat) (es : List Ent), vs.length = ar ∧ Paired (ArgR K b B I) vs es ∧ Same I H ∧
  (∀ p, b = some p → I p = none ∧ BAt B H p n) ∧ n + C ≤ NMAX ∧ pre es ∧
  ∀ v d I2 H2, Gx b I H I2 H2 → Same I2 H2 → (∀ p, b = some p → BAt B H2 p (n + C)) → Rp K I2 v d → post es d → (∃ p, v = .ref p ∧ H p = none) → Q v H2
theorem fnG_okF {P : Program} {w : World} {K : PySem.W.Frag} {mg : Str → Option Value} {base : Heap} {x qual : Str} {st : Stmt} {f : Addr} {fd : FuncData} {N ps : List Str} {k C : Nat} {pre : List Ent → Prop} {post : List Ent → PyData → Prop} (F : Fun K x qual st f fd) (S : FnScope N ps (defScope st))
    (hbody : ∀ (cdv : Value) (A : Around) (outer : List Env) (s : Shared) (H : Hp) (E : XK), Room k (A.deeper (envOfC qual (defScope st) s.heap.objs.size f cdv)) → Calm (A.deeper (envOfC qual (defScope st) s.heap.objs.size f cdv)) →
      ∃ t, PSs (cxOf CX0 P w K mg base N qual (defScope st) f cdv A outer s H E).nox (defBody st) t ∧ ∀ (b : Option Addr × BInv) (I : Hp) (es : List Ent), es.length = ps.length → pre es → Bk ⟨K, b.1, H, I, b.2⟩ t (es ++ List.replicate (N.length - es.length) .any) C { rt := post es, fr := true }) :
    FnG P w K mg base (k + 1) f fd ps (spF K ps.length C pre post) := by
  refine Fun.okG F S (fun vs H Q E h => ?_) (fun cdv A outer s H vs Q E hr hc h => ?_)
  · obtain ⟨b, B, I, n, es, h, _⟩ := h
    exact h
  · obtain ⟨b, B, I, n, es, h1, h2, h3, h4, h5, h6, h7⟩ := h
    obtain ⟨t, ht, hb⟩ := hbody cdv A outer s H E hr hc
    refine ⟨t, ht, ?_⟩
    have w0 : Wd ⟨K, b, H, I, B⟩ I H n := ⟨h3, Same.refl _, fun _ _ _ h => h, fun _ _ => rfl, fun p e => ⟨(h4 p e).1, (by
      obtain ⟨x, hh, _⟩ := (h4 p e).2
      show H p ≠ none
      rw [hh]; exact fun z => nomatch z), (h4 p e).2⟩⟩
    have fin : ∀ v d I' H', Same I I' → Wd ⟨K, b, H, I, B⟩ I' H' (n + C) → Rp K I' v d → post es d → (∃ p, v = .ref p ∧ H p = none) → Q v H' := fun v d I' H' s w r p f => by
      refine h7 v d I' H' ⟨s, fun q o ne e => w.h0 q o ne e, fun q e => w.nw q e, fun q e => ?_⟩ w.ih (fun p e => (w.bg p e).2.2) r p f
      by_cases hb : b = some q
      · obtain ⟨_, _, x, h3, _⟩ := w.bg q hb
        rw [h3]; exact fun z => nomatch z
      · cases h : H q with
        | none => exact absurd h e
        | some o => rw [w.h0 q o (fun z => hb z.symm) h]; exact fun z => nomatch z
    exact hb (b, B) I es (by rw [← Paired.len h2]; exact h1) h6 (L2.start N vs) I H n _ w0 (start_env h2) h5 (fun _ _ _ _ _ _ _ z => z.elim) (fun v d I' H' s w r p => fin v d I' H' s w r p.1 (p.2 rfl)) (fun _ _ _ _ _ _ _ z => z.elim) (fun _ _ _ _ _ _ _ z => z.elim)
theorem ev_callF {ar : Nat} {pre : List Ent → Prop} {post : List Ent → PyData → Prop} {Pe : List Ent → Prop} {E : XK} (ha : Ea c tr ρ C1 Pe) (hp : ∀ es, Pe es → es.length = ar ∧ pre es) (hP : ∀ es d, Pe es → post es d → P d) (hC : C1 + C2 ≤ C) :
    EvF c (tCall (spF c.K ar C2 pre post) [] E tr) ρ C P := fun σ I H n Q w e l k =>
  ha σ I H n _ w e (by omega) fun vs es I2 H2 g2 w2 r2 p2 => by
    rw [List.append_nil]
    obtain ⟨h1, h2⟩ := hp es p2
    refine ⟨c.b, c.B, I2, n + C1, es, by rw [Paired.len r2]; exact h1, r2, w2.ih, fun p e => ⟨w2.noB e, (w2.bg p e).2.2⟩, by omega, h2, fun v d I3 H3 g3 ih3 hb r3 p3 ⟨p, ev, hpn⟩ => ?_⟩
    refine k v d I3 H3 (g2.trans g3) ((w2.go g3 ih3 hb).bgN (by omega)) r3 (hP _ _ p2 p3) ⟨p, ev, ?_⟩
    cases hd : H p with
    | none => rfl
    | some o => exact absurd hpn (g2.th p (by rw [hd]; exact fun z => nomatch z))
/-- x = f(..), a new list: from here on one's own -/
theorem bk_ownF {i : Nat} {Pd : List PyData → Prop} (ha : EvF c te ρ C (fun d => ∃ ds, d = .list ds ∧ noLs ds = true ∧ Pd ds)) (hn : ∀ ds, Pd ds → O.nx (ρ.set i (.own ds))) : Bk c (tAsg te (gName i)) ρ C O := fun σ I H n D w e l k1 k2 k3 k4 =>
  ha σ I H n _ w e l fun v d I2 H2 g2 w2 r2 ⟨ds, ed, hno, hpd⟩ ⟨p, ev, hp⟩ => by
    subst ed ev
    obtain ⟨a, xs, e1, hI2, q⟩ := r2.lst_inv
    cases e1
    have hIp : I p = none := w.ih.free hp
    have h0 : c.H0 p = none := w.h0n hp
    have hb : some p ≠ c.b := w.bne hp
    have hH2 : H2 p = some (.lst xs) := w2.ih _ _ hI2
    have s2 : Same I (thaw I2 p) := fun q o h => by
      rw [thaw_ne (ne_of_none h hIp)]
      exact g2.ii _ _ h
    have gt : Gx c.b I H (thaw I2 p) H2 := ⟨s2, g2.hh, fun q h => by
      have ne : q ≠ p := fun z => h (by rw [z]; exact hp)
      rw [thaw_ne ne]; exact g2.nw q h, g2.th⟩
    have w3 : Wd c (thaw I2 p) H2 (n + C) := by
      refine ⟨fun q o h => ?_, w.i0.trans s2, w2.h0, fun q h => ?_, w2.bg⟩
      · by_cases z : q = p
        · subst z; rw [thaw_at] at h; cases h
        · rw [thaw_ne z] at h; exact w2.ih q o h
      · rw [thaw_ne (fun z => h (by rw [z]; exact h0))]; exact w2.nw q h
    have e3 := e.go gt
    have r3 : RpAll c.K (thaw I2 p) xs ds := RpAll.thaw hI2 hno q
    have np : ∀ (j : Nat) (as : List PyData), ρ[j]? = some (Ent.own as) → σ[j]? ≠ some (some (V.ref p)) := e.noD hp
    have up : upd H2 p (.lst xs) = H2 := by
      funext q
      by_cases z : q = p
      · subst z; rw [upd_same, hH2]
      · rw [upd_ne z]
    have q2 := own_env2 i w3 e3 (isL_of hH2) h0 thaw_at hb np r3
    rw [up] at q2
    exact k1 _ _ _ _ s2 q2.1 q2.2 (hn ds hpd)
/-- what a local held is forgotten -/
theorem bk_forget {i : Nat} {t : TS} (h : Bk c t (ρ.set i .any) C O) : Bk c t ρ C O := fun σ I H n D w e l k1 k2 k3 k4 => by
  have es : σ.set i ((σ[i]?).getD none) = σ := by
    apply List.ext_getElem?
    intro j
    by_cases z : i = j
    · subst z
      rw [List.getElem?_set_self']
      cases σ[i]? <;> rfl
    · rw [List.getElem?_set_ne z]
  have q := e.set i (o := (σ[i]?).getD none) (e := .any) (by cases (σ[i]?).getD none <;> exact True.intro) fun _ z => nomatch z
  rw [es] at q
  exact h σ I H n D w q l k1 k2 k3 k4
/-- [f(x) for x in xs], a new list -/
theorem evF_map {wi : TI} {g : TG} {tgs vs : List Nat} {f : PyData → List Ent → List Ent} {items : List PyData} (F : PyData → PyData) (hi : Iw c wi g ρ 0 tgs f (fun x => x = items)) (he : ∀ d ∈ items, Pv c te (f d (wipeE ρ vs)) (F d)) (hl : items.length < sizeLine) (hv : ∀ t ∈ tgs, t ∈ vs := by decide) : EvF c (tLc wi g tYes te vs) ρ 0 (fun x => x = .list (items.map F)) :=
  ev_lcF (Ct := 0) (Ce := 0) hi (Nat.le_refl _) hv (fun is e => by subst e; exact ⟨hl, by omega⟩) (fun is e d hd => et_yes) (fun is e d hd _ => by subst e; exact he d hd) (fun is out e h => by subst e; rw [Bt.map h])
/-- all([f(x) for x in xs]), xs a list -/
theorem pv_allL {i : Nat} {vs : List Nat} {ds : List PyData} {f : PyData → Bool} (ha : Pv c ta ρ (.list ds)) (he : ∀ d ∈ ds, Pv c te ((wipeE ρ vs).set i (.dat d)) (.bool (f d))) (hz : ds.length < sizeLine) (hi : i ∈ vs) :
    Pv c (tCB (rAll c.K) (tCons (tLc (iSeq c.K ta) (gName i) tYes te vs) tNil)) ρ (.bool (ds.all f)) := by
  refine Pv.to (pv_cb (pa_consD (Pv.to (pv_map (vs := vs) (f := fun d ρ => ρ.set i (.dat d)) (fun d => .bool (f d)) (iw_sl (Pi := fun x => x = ds) (ha.imp (Nat.le_refl _) fun x e => ⟨ds, e, rfl⟩) fun _ _ d _ => tg_name) (fun d hd => he d hd) hz (fun t ht => by rw [List.mem_singleton.mp ht]; exact hi)) (congrArg PyData.list (List.map_map (f := f) (g := PyData.bool)).symm)) ea_nil) (rda_all (bs := ds.map f))) ?_
  rw [List.all_map]
  rfl
/-- while, its test told -/
theorem bk_while {tc : TT} {tb : TS} (Nv : Nat → List Ent → Prop) {m : Nat} (h0 : Nv m ρ) (hs : ∀ m ρ', Nv m ρ' → ∃ b, Pt c tc ρ' b ∧ (b = true → Bk c tb ρ' 0 { nx := fun ρ2 => ∃ m', m' < m ∧ Nv m' ρ2, ct := fun ρ2 => ∃ m', m' < m ∧ Nv m' ρ2, bk := O.nx, rt := O.rt, fr := O.fr }) ∧ (b = false → O.nx ρ')) : Bk c (tWhile tc tb) ρ C O := fun σ I H n D w e l k1 k2 k3 k4 => by
  refine ⟨fun m σ' H' => ∃ ρ' I', Same I I' ∧ Wd c I' H' n ∧ EnvR c I' H' σ' ρ' ∧ Nv m ρ', ⟨m, ρ, I, Same.refl _, w, e, h0⟩, ?_⟩
  rintro m σ' H' ⟨ρ', I', s', w', e', nv⟩
  obtain ⟨b, ht, h1, h2⟩ := hs m ρ' nv
  refine ht σ' I' H' n _ w' e' (by omega) fun b' I2 H2 g2 w2 eb => ?_
  subst eb
  cases b' with
  | false =>
    rw [if_neg Bool.false_ne_true]
    exact k1 σ' ρ' I2 H2 (s'.trans g2.ii) (w2.bgN (by omega)) (e'.go g2) (h2 rfl)
  | true =>
    rw [if_pos rfl]
    refine ⟨fun σ2 H3 => ∃ m', m' < m ∧ ∃ ρ2 I3, Same I I3 ∧ Wd c I3 H3 n ∧ EnvR c I3 H3 σ2 ρ2 ∧ Nv m' ρ2, fun σ2 H3 h => h, ?_⟩
    refine h1 rfl σ' I2 H2 n _ (w2.bgN (by omega)) (e'.go g2) (by omega) (fun a b i2 j s w r p => ?_) (fun a b i2 j s w r p => k2 a b i2 j ((s'.trans g2.ii).trans s) (w.bgN (by omega)) r p) (fun a b i2 j s w r p => k1 a b i2 j ((s'.trans g2.ii).trans s) (w.bgN (by omega)) r p) (fun a b i2 j s w r p => ?_)
    · obtain ⟨m', hm, nv'⟩ := p
      exact ⟨m', hm, b, i2, (s'.trans g2.ii).trans s, w.bgN (by omega), r, nv'⟩
    · obtain ⟨m', hm, nv'⟩ := p
      exact ⟨m', hm, b, i2, (s'.trans g2.ii).trans s, w.bgN (by omega), r, nv'⟩
/-- isinstance(x, (list, tuple)) -/
theorem kitAny2 (K : PySem.W.Frag) (d : PyData) : PySem.W.kitAny K (.type (tyD d)) [.type "list", .type "tuple"] = some (isListD d || isTupD d) := by
  have h1 := kit_ty (K := K) (kit_list d)
  have h2 := kit_ty (K := K) (kit_tuple d)
  unfold PySem.W.kitAny
  rw [h1]
  cases h : isListD d with
  | true => rfl
  | false =>
    show PySem.W.kitAny K _ _ = _
    unfold PySem.W.kitAny
    rw [h2]
    cases isTupD d <;> rfl
theorem pv_isLT {d : PyData} (ha : Pv c ta ρ d) : Pv c (tCB (rIsiT c.K) (tCons ta (tCons (tTup (tCons (tC (.ty "list")) (tCons (tC (.ty "tuple")) tNil))) tNil))) ρ (.bool (isListD d || isTupD d)) := fun σ I H n Q w e l k =>
  ha σ I H n _ w e l fun v d' I2 H2 g2 w2 r2 p2 => by
    subst p2
    refine ⟨by show 2 ≤ sizeLine; decide, fun p np => ?_⟩
    have g := lost_go (b := c.b) (I := I2) (o := .tup [V.ty "list", V.ty "tuple"]) np
    have w3 : Wd c I2 (upd H2 p (.tup [V.ty "list", V.ty "tuple"])) (n + 0) := w2.put (w2.h0n np) (w2.noI np) (w2.bne np)
    exact ⟨v, p, _, .type (tyD d'), [.type "list", .type "tuple"], _, rfl, upd_same, .cons (.ty _) (.cons (.ty _) .nil), r2.ty w3.ih, kitAny2 c.K d', k _ _ I2 _ (g2.trans g) w3 (.bl _) rfl⟩
theorem call_isiTK {X : Cx} {K : PySem.W.Frag} (e : X.K = K) : CallR X (.builtin "isinstance") (rIsiT K) := by subst e; exact call_isiT
/-- a promise that is never asked for -/
theorem FnG.never {P : Program} {w : World} {K : PySem.W.Frag} {mg : Str → Option Value} {base : Heap} {k : Nat} {f : Addr} {fd : FuncData} {ps : List Str} {ar C : Nat} {pre : List Ent → Prop} {post : List Ent → PyData → Prop} (n : ∀ es, ¬ pre es) : FnG P w K mg base k f fd ps (spD K ar C pre post) :=
  ⟨fun _ _ _ _ ⟨_, _, _, _, _, _, _, _, _, _, h, _⟩ => (n _ h).elim, fun _ _ _ _ _ _ _ _ _ _ _ _ _ _ ⟨_, _, _, _, _, _, _, _, _, _, h, _⟩ => (n _ h).elim⟩
/-- a test that reads a list of one's own -/
theorem et_lend {i : Nat} {ds : List PyData} {tt : TT} {Pb : Bool → Prop} (hi : ρ[i]? = some (.own ds)) (h : Et c tt (ρ.set i (.dat (.list ds))) C Pb) : Et c tt ρ C Pb := fun σ I H n D w e l k => by
  refine ev_lend (te := fun σ H Q => tt σ H fun b H1 => Q (.bl b) H1) (P := fun d => ∃ b, d = .bool b ∧ Pb b) hi (fun σ I H n Q w e l kk => h σ I H n _ w e l fun b I2 H2 g w2 p => kk (.bl b) (.bool b) I2 H2 g w2 (.bl b) ⟨b, rfl, p⟩) (fun d ⟨b, e, _⟩ => by subst e; rfl) σ I H n (fun v H2 => match v with | .bl b => D b H2 | _ => True) w e l fun v d I2 H2 g w2 r ⟨b, ed, p⟩ => ?_
  subst ed
  rw [r.bl_inv]
  exact k b I2 H2 g w2 p
end
end Hh

set_option Elab.async false
set_option linter.all false
set_option maxRecDepth 100000
set_option maxHeartbeats 2000000
namespace Hh
set_option autoImplicit false
open PySem PySem.Spec PyProof.Rows L2
theorem risE_of : ∀ ds : List PyData, ds.Pairwise (fun a b => ltE a b = true) → risE ds = true
  | [], _ => rfl
  | [_], _ => rfl
  | x :: y :: r, h => by
    have h1 := List.pairwise_cons.mp h
    show (ltE x y && risE (y :: r)) = true
    rw [h1.1 y List.mem_cons_self, risE_of (y :: r) h1.2]
    rfl
theorem up_ltE {ys : List Str} (h : UpS ys) : (ys.map PyData.str).Pairwise (fun a b => ltE a b = true) := List.pairwise_map.mpr (h.imp fun q => by
  show decide _ = true
  exact decide_eq_true q)
theorem ints_ltE {ns : List Int} (h : ns.Pairwise (· < ·)) : (ns.map PyData.int).Pairwise (fun a b => ltE a b = true) := List.pairwise_map.mpr (h.imp fun q => by
  show decide _ = true
  exact decide_eq_true q)
/-- what is kept of a list is part of it, in its order -/
theorem Bt.sub {Pt : PyData → Bool → Prop} {F : PyData → PyData} {is os : List PyData} (h : Bt Pt (fun d x => x = F d) is os) : os.Sublist (is.map F) := by
  induction h with
  | nil => exact List.Sublist.refl _
  | keep _ _ e ih =>
    rw [List.map_append, List.map_singleton, e]
    exact ih.append (List.Sublist.refl _)
  | drop _ _ ih =>
    rw [List.map_append]
    exact ih.trans (List.sublist_append_left _ _)
theorem pairs_rows2 {K : PySem.W.Frag} {I : Hp} : ∀ {ds : List PyData} {vs : List V}, (∀ d ∈ ds, PrB d) → RpAll K I vs ds → ∃ ks : List (Addr × List Int), vs = ks.map (fun p => V.ref p.1) ∧ ks.length = ds.length ∧ ∀ p ∈ ks, SqT K I p.1 (p.2.map V.int) ∧ PyData.tuple (p.2.map .int) ∈ ds ∧ ∃ a b : Int, p.2 = [a, b] ∧ 0 ≤ a ∧ a ≤ 2 ^ 51 ∧ 0 ≤ b ∧ b ≤ 100
  | [], _, _, .nil => ⟨[], rfl, rfl, fun _ h => nomatch h⟩
  | d :: ds, _, h, .cons a r => by
    obtain ⟨ks, e, hl, hk⟩ := pairs_rows2 (fun x hx => h x (List.mem_cons_of_mem _ hx)) r
    obtain ⟨i, j, rfl, q⟩ := h d List.mem_cons_self
    obtain ⟨p, rfl, hs⟩ := pair_inv a
    exact ⟨(p, [i, j]) :: ks, by rw [e]; rfl, by rw [List.length_cons, List.length_cons, hl], fun x hx => (List.mem_cons.mp hx).elim (fun z => by rw [z]; exact ⟨hs, List.mem_cons_self, i, j, rfl, q⟩) fun m => ⟨(hk x m).1, List.mem_cons_of_mem _ (hk x m).2.1, (hk x m).2.2⟩⟩
section
variable {c : Ctx} {ρ : List Ent} {te ta tb : TE} {C C1 C2 : Nat}
theorem ev_sortedTP2 {P : Program} {w : World} {m : Nat} {Pd : PyData → Prop} (ha : Ev c te ρ C (fun d => ∃ ds, d = .list ds ∧ ds.length ≤ m ∧ ∀ x ∈ ds, PrB x ∧ Pd x)) (hm : m < 64) :
    Ev c (tCB (rSortedT c.K P w) (tCons (tCB (rSetOfT c.K P w) (tCons te tNil)) tNil)) ρ C (fun d => ∃ ds, d = .list ds ∧ ds.length ≤ m ∧ risE ds = true ∧ ∀ x ∈ ds, PrB x ∧ Pd x) := fun σ I H n Q wd e l k => by
  refine ha σ I H n _ wd e l fun v d I2 H2 g2 w2 r2 ⟨ds, ed, hl, hp⟩ => ?_
  subst ed
  obtain ⟨a, xs, rfl, hs, hr⟩ := r2.lst_inv
  obtain ⟨ks, rfl, hkl, hk⟩ := pairs_rows2 (fun d hd => (hp d hd).1) hr
  refine ⟨a, ks, rfl, SqL.of (w2.ih _ _ hs), fun p hp => seqT_mono w2.ih (hk p hp).1, by omega, fun p L np hsub hall => ?_⟩
  have ne : ∀ q ∈ L, SqT c.K (upd H2 p (SetTO P w p L)) q.1 (q.2.map V.int) := fun q hq => seqT_mono (fun r u h => by rw [upd_ne (ne_of_none h np)]; exact h) (seqT_mono w2.ih (hk q (hsub q hq)).1)
  have bd : ∀ q ∈ L, q.2.length = 2 ∧ TS.Bd (2 ^ 60) q.2 := fun q hq => by
    obtain ⟨_, _, a, b, e2, h1, h2, h3, h4⟩ := hk q (hsub q hq)
    rw [e2]
    exact ⟨rfl, fun m hm => by
      simp only [List.mem_cons, List.not_mem_nil, or_false] at hm
      rcases hm with rfl | rfl <;> omega⟩
  refine ⟨p, L, 2, 2 ^ 60, rfl, upd_same, ne, by decide, bd, fun L' q pm nd few cd nq => ?_⟩
  obtain ⟨gx, w3⟩ := aside (xs := L'.map fun q => V.ref q.1) w2 np nq
  have hL' : ∀ q ∈ L', q ∈ L := fun q hq => pm.mem_iff.mp hq
  have hL : ∀ q ∈ L', q ∈ ks := fun q hq => hsub q (hL' q hq)
  refine k _ (.list (L'.map fun p => PyData.tuple (p.2.map .int))) _ _ (g2.trans gx) w3 (.lst upd_same (rows_rp fun q hq => seqT_mono gx.ii (hk q (hL q hq)).1)) ⟨_, rfl, ?_, ?_, fun x hx => ?_⟩
  · have := nd_len nd (m := ks.map (·.2)) fun x hx => by
      obtain ⟨q, hq, rfl⟩ := List.mem_map.mp hx
      exact List.mem_map.mpr ⟨q, hL q hq, rfl⟩
    rw [List.length_map, List.length_map] at this
    rw [List.length_map]
    omega
  · refine risE_of _ (List.pairwise_map.mpr ?_)
    have nd' := List.pairwise_map.mp nd
    refine List.Pairwise.imp_of_mem (R := fun q r : Addr × List Int => TS.code (2 ^ 60) q.2 ≤ TS.code (2 ^ 60) r.2 ∧ q.2 ≠ r.2) (fun {x y} hx hy h => ?_) (cd.and nd')
    obtain ⟨_, _, a, b, e2, _⟩ := hk x (hL x hx)
    obtain ⟨_, _, a', b', e2', _⟩ := hk y (hL y hy)
    have b1 := (bd x (hL' x hx)).2
    have b2 := (bd y (hL' y hy)).2
    rw [e2, e2'] at h
    rw [e2] at b1
    rw [e2'] at b2
    have q := code_lex b1 b2 h.1
    show ltE (.tuple ((x.2).map .int)) (.tuple ((y.2).map .int)) = true
    rw [e2, e2']
    show HT.lexLt [a, b] [a', b'] = true
    rw [HT.lexLt_cons]
    by_cases z : a = a'
    · rw [if_pos z, HT.lexLt_cons]
      by_cases y : b = b'
      · exact absurd (by rw [z, y]) h.2
      · rw [if_neg y, decide_eq_true_eq]; omega
    · rw [if_neg z, decide_eq_true_eq]; omega
  · obtain ⟨q, hq, rfl⟩ := List.mem_map.mp hx
    obtain ⟨_, hm, a, b, e2, h⟩ := hk q (hL q hq)
    exact ⟨⟨a, b, by rw [e2]; rfl, h⟩, (hp _ hm).2⟩
/-- a list of what there is, as data -/
theorem pv_listC {ds : List PyData} (ha : Pv c ta ρ (.list ds)) : Pv c (tCB (fun xs H Q => ∃ p ys, xs = [.ref p] ∧ (SqL c.K H p ys ∨ SqT c.K H p ys) ∧ ∀ l, H l = none → Q (.ref l) (upd H l (.lst ys))) (tCons ta tNil)) ρ (.list ds) := fun σ I H n Q w e l k =>
  ha σ I H n _ w e l fun v d I2 H2 g2 w2 r2 p2 => by
    subst p2
    obtain ⟨a, xs, rfl, h1, q1⟩ := r2.lst_inv
    refine ⟨a, xs, rfl, .inl (SqL.of (w2.ih _ _ h1)), fun p np => ?_⟩
    exact k _ _ (upd I2 p (.lst xs)) (upd H2 p (.lst xs)) (g2.trans (new_go w2.ih np)) (w2.new np) (.lst upd_same (q1.mono (new_go (b := none) w2.ih np).ii)) rfl
theorem nodup_injS {α β : Type} {k : α → β} {l : List α} (h : (l.map k).Nodup) : ∀ x ∈ l, ∀ y ∈ l, k x = k y → x = y := by
  induction l with
  | nil => exact fun _ h => nomatch h
  | cons a r ih =>
    rw [List.map_cons, List.nodup_cons] at h
    intro x hx y hy e
    rcases List.mem_cons.mp hx with rfl | hx'
    · rcases List.mem_cons.mp hy with rfl | hy'
      · rfl
      · exact absurd (List.mem_map.mpr ⟨y, hy', e.symm⟩) h.1
    · rcases List.mem_cons.mp hy with rfl | hy'
      · exact absurd (List.mem_map.mpr ⟨x, hx', e⟩) h.1
      · exact ih h.2 x hx' y hy' e
/-- the first drawn, then the second -/
theorem et_andE {tt tu : TT} {P1 P : Bool → Prop} (ha : Et c tt ρ C1 P1) (hb : P1 true → Et c tu ρ C2 P) (hf : P1 false → P false) (hC : C1 + C2 ≤ C) : Et c (tAnd tt tu) ρ C P := fun σ I H n Q w e l k =>
  ha σ I H n _ w e (by omega) fun b I2 H2 g2 w2 p2 => by
    cases b with
    | false =>
      rw [if_neg Bool.false_ne_true]
      exact k false I2 H2 g2 (w2.bgN (by omega)) (hf p2)
    | true =>
      rw [if_pos rfl]
      exact hb p2 σ I2 H2 _ _ w2 (e.go g2) (by omega) fun b3 I3 H3 g3 w3 p3 => k b3 I3 H3 (g2.trans g3) (w3.bgN (by omega)) p3
end
theorem bk_newBag0 {K : PySem.W.Frag} {b : Option Addr} {B : BInv} {H0 I0 : Hp} {ρ : List Ent} {tr : TA} {E : XK} {i C : Nat} {r : TS} {O : Out} (ha : Ea ⟨K, b, H0, I0, B⟩ tr ρ 0 (fun es => ∃ cell k : Int, es = [.dat (.int cell), .dat (.int k)] ∧ 0 ≤ k ∧ k ≤ 1000))
    (no : ∀ (j : Nat), ρ[j]? ≠ some Ent.bag ∧ ∀ e : Ent, ρ[j]? = some e → e.plain) (hC : C ≤ NMAX)
    (h : ∀ (p : Addr) (H1 I1 : Hp), Bk ⟨K, some p, H1, I1, bagB⟩ r (ρ.set i .bag) C { nx := fun ρ' => O.nx (ρ'.set i .any) ∧ ∀ j : Nat, (ρ'.set i Ent.any)[j]? ≠ some Ent.bag ∧ ∀ e : Ent, (ρ'.set i Ent.any)[j]? = some e → e.plain, rt := O.rt }) (hf : O.fr = false := by rfl) :
    Bk ⟨K, b, H0, I0, B⟩ (tSeq (tAsg (tCall spNew [] E tr) (gName i)) r) ρ 0 O := fun σ I H n D w e l k1 k2 k3 k4 => by
  show tAsg (tCall spNew [] E tr) (gName i) { D with nx := r D } σ H
  refine ha σ I H n _ w e l fun vs es I2 H2 g2 w2 r2 ⟨cell, k, p2, h0, h1⟩ => ?_
  subst p2
  rw [List.append_nil]
  obtain ⟨v1, v2, rfl, q1, q2⟩ := pair2 r2
  have e1 : v1 = .int cell := Rp.int_inv q1
  have e2 : v2 = .int k := Rp.int_inv q2
  subst e1 e2
  refine ⟨I2, cell, k, rfl, h0, h1, w2.ih, fun p x y I3 H3 ga iha np hx hy hy2 => ?_⟩
  have ip := iha.free np
  have gab : Gx b I2 H2 I3 H3 := ga.anyb
  have w3 : Wd ⟨K, b, H0, I0, B⟩ I3 H3 n := w2.go (C := 0) gab iha fun q z => by
    obtain ⟨_, _, x', hh, rr⟩ := w2.bg q z
    exact ⟨x', ga.hh q _ (fun z => nomatch z) hh, rr⟩
  have e3 : EnvR ⟨K, b, H0, I0, B⟩ I3 H3 σ ρ := e.go (g2.trans gab)
  have s1 : Same H3 (upd H3 p (.lst [.int x, .int y, .int 0])) := fun q o h => by rw [upd_ne (ne_of_none h np)]; exact h
  have w4 : Wd ⟨K, some p, upd H3 p (.lst [.int x, .int y, .int 0]), I3, bagB⟩ I3 (upd H3 p (.lst [.int x, .int y, .int 0])) 0 := ⟨iha.trans s1, Same.refl _, fun _ _ _ h => h, fun _ _ => rfl, fun q z => by
    cases z
    have nn : upd H3 p (.lst [.int x, .int y, .int 0]) p ≠ none := by rw [upd_same]; exact fun z => nomatch z
    exact ⟨ip, nn, BagAt.bat ⟨x, y, 0, upd_same, hx, hy, hy2, Int.le_refl _, Int.le_refl _⟩⟩⟩
  have e4 : EnvR ⟨K, some p, upd H3 p (.lst [.int x, .int y, .int 0]), I3, bagB⟩ I3 (upd H3 p (.lst [.int x, .int y, .int 0])) (σ.set i (some (.ref p))) (ρ.set i .bag) := by
    have q : EnvR ⟨K, some p, upd H3 p (.lst [.int x, .int y, .int 0]), I3, bagB⟩ I3 H3 σ ρ := e3.rebase no
    have q2 : EnvR ⟨K, some p, upd H3 p (.lst [.int x, .int y, .int 0]), I3, bagB⟩ I3 (upd H3 p (.lst [.int x, .int y, .int 0])) σ ρ := q.bagSet rfl
    exact q2.set i (show EntR ⟨K, some p, upd H3 p (.lst [.int x, .int y, .int 0]), I3, bagB⟩ I3 (upd H3 p (.lst [.int x, .int y, .int 0])) (some (.ref p)) .bag from ⟨p, rfl, rfl, rfl⟩) fun _ z => nomatch z
  have back : ∀ {I' H' : Hp} {m : Nat}, Wd ⟨K, some p, upd H3 p (.lst [.int x, .int y, .int 0]), I3, bagB⟩ I' H' m → Wd ⟨K, b, H0, I0, B⟩ I' H' n := fun {I' H' m} w' => by
    have keep : ∀ q o, H3 q = some o → H' q = some o := fun q o a1 => w'.h0 q o (fun z => ne_of_none a1 np (Option.some.inj z)) (s1 q o a1)
    refine ⟨w'.ih, w3.i0.trans w'.i0, fun q o ne hq => keep q o (w3.h0 q o ne hq), fun q hq => ?_, fun q z => ?_⟩
    · have nn3 : H3 q ≠ none := by
        by_cases hb : b = some q
        · obtain ⟨_, _, x', hh, _⟩ := w3.bg q hb
          rw [hh]; exact fun z => nomatch z
        · obtain ⟨o, ho⟩ := Option.ne_none_iff_exists'.mp hq
          rw [w3.h0 q o (fun z => hb z.symm) ho]; exact fun z => nomatch z
      obtain ⟨o, ho⟩ := Option.ne_none_iff_exists'.mp nn3
      have nn : upd H3 p (.lst [.int x, .int y, .int 0]) q ≠ none := by rw [s1 q o ho]; exact fun z => nomatch z
      rw [w'.nw q nn]
      exact w3.nw q hq
    · obtain ⟨a1, a2, x', hh, rr⟩ := w3.bg q z
      exact ⟨a1, a2, x', keep q _ hh, rr⟩
  have s3 : Same I I3 := (g2.trans gab).ii
  refine h p _ I3 (σ.set i (some (.ref p))) I3 _ 0 D w4 e4 (by omega) (fun σ2 ρ2 I' H' s' w' e' ⟨p1, p2⟩ => ?_) (fun v d I' H' s' w' r' p' => k2 v d I' H' (s3.trans s') (back w') r' ⟨p'.1, fun z => by rw [hf] at z; cases z⟩) (fun _ _ _ _ _ _ _ z => z.elim) (fun _ _ _ _ _ _ _ z => z.elim)
  have es : σ2.set i ((σ2[i]?).getD none) = σ2 := by
    apply List.ext_getElem?
    intro j
    by_cases z : i = j
    · subst z
      rw [List.getElem?_set_self']
      cases σ2[i]? <;> rfl
    · rw [List.getElem?_set_ne z]
  have q := e'.set i (o := (σ2[i]?).getD none) (e := .any) (by cases (σ2[i]?).getD none <;> exact True.intro) fun _ z => nomatch z
  rw [es] at q
  exact k1 σ2 _ I' H' (s3.trans s') (back w') (q.rebase p2) p1
/-- neither a bag nor what is still written -/
def Qt (e : Ent) : Prop := e ≠ .bag ∧ e.plain
theorem qt_any : Qt .any := ⟨(fun z => nomatch z), trivial⟩
theorem qt_dat (d : PyData) : Qt (.dat d) := ⟨(fun z => nomatch z), trivial⟩
theorem qt_scr (ns : List Int) : Qt (.scr ns) := ⟨(fun z => nomatch z), trivial⟩
theorem no_of {ρ : List Ent} (h : ∀ e ∈ ρ, Qt e) (j : Nat) : ρ[j]? ≠ some Ent.bag ∧ ∀ e : Ent, ρ[j]? = some e → e.plain :=
  ⟨fun z => (h _ (List.mem_of_getElem? z)).1 rfl, fun e z => (h _ (List.mem_of_getElem? z)).2⟩
theorem qts_cons {e : Ent} {r : List Ent} (h : Qt e) (q : ∀ x ∈ r, Qt x) : ∀ x ∈ e :: r, Qt x := fun x hx => (List.mem_cons.mp hx).elim (fun z => by rw [z]; exact h) (q x)
theorem qts_nil : ∀ x ∈ ([] : List Ent), Qt x := fun _ h => nomatch h
end Hh

set_option Elab.async false
set_option linter.all false
set_option maxRecDepth 100000
set_option maxHeartbeats 2000000
namespace Hh
set_option autoImplicit false
open PySem PySem.Spec PyProof.Rows L2
/-! ### a dict that is gone over stands still -/
theorem thaw_seqD {K : PySem.W.Frag} {I : Hp} {p a : Addr} {ys : List (Key × V)} {xs : List V} (hp : I p = some (.dK ys)) (h : SqT K I a xs) : SqT K (thaw I p) a xs := by
  have ne : ∀ o, I a = some o → (∀ ys, o ≠ .dK ys) → thaw I p a = some o := fun o e q => by
    by_cases z : a = p
    · subst z; rw [hp] at e; cases e; exact absurd rfl (q ys)
    · rw [thaw_ne z]; exact e
  rcases h with h | h
  · refine .inl (h.elim (fun h => .inl (ne _ h fun ys z => nomatch z)) fun ⟨o, h⟩ => .inr ⟨o, ne _ h fun ys z => nomatch z⟩)
  · exact .inr h
theorem thaw_lstD {K : PySem.W.Frag} {I : Hp} {p a : Addr} {ys : List (Key × V)} {xs : List V} (hp : I p = some (.dK ys)) (h : SqL K I a xs) : SqL K (thaw I p) a xs := by
  have ne : ∀ o, I a = some o → (∀ ys, o ≠ .dK ys) → thaw I p a = some o := fun o e q => by
    by_cases z : a = p
    · subst z; rw [hp] at e; cases e; exact absurd rfl (q ys)
    · rw [thaw_ne z]; exact e
  rcases h with h | h
  · refine .inl (h.elim (fun h => .inl (ne _ h fun ys z => nomatch z)) fun ⟨o, h⟩ => .inr ⟨o, ne _ h fun ys z => nomatch z⟩)
  · exact .inr h
mutual
theorem Rp.hideD {K : PySem.W.Frag} {I : Hp} {p : Addr} {ys : List (Key × V)} (hp : I p = some (.dK ys)) : ∀ {d : PyData} {v : V}, noDic d = true → Rp K I v d → Rp K (thaw I p) v d
  | _, _, _, .non => .non
  | _, _, _, .bl b => .bl b
  | _, _, _, .int i => .int i
  | _, _, _, .str x => .str x
  | _, _, h, .tup s r => .tup (thaw_seqD hp s) (RpAll.hideD hp (by simpa [noDic] using h) r)
  | _, _, h, .lst (a := a) s r => .lst (by
      rw [thaw_ne (fun z => by rw [z, hp] at s; cases s)]
      exact s) (RpAll.hideD hp (by simpa [noDic] using h) r)
  | _, _, h, .dic _ _ => by simp [noDic] at h
theorem RpAll.hideD {K : PySem.W.Frag} {I : Hp} {p : Addr} {ys : List (Key × V)} (hp : I p = some (.dK ys)) : ∀ {ds : List PyData} {vs : List V}, noDics ds = true → RpAll K I vs ds → RpAll K (thaw I p) vs ds
  | _, _, _, .nil => .nil
  | _, _, h, .cons a r => by
    have h' : (noDic _ && noDics _) = true := h
    rw [Bool.and_eq_true] at h'
    exact .cons (Rp.hideD hp h'.1 a) (RpAll.hideD hp h'.2 r)
end
theorem KvR.hideD {K : PySem.W.Frag} {I : Hp} {p : Addr} {ys xs : List (Key × V)} {ks : List (Key × PyData)} (hp : I p = some (.dK ys)) (hn : ∀ q ∈ ks, noDic q.2 = true) (h : KvR K I xs ks) : KvR K (thaw I p) xs ks := by
  induction h with
  | nil => exact .nil
  | @cons a b l m x r ih => exact .cons ⟨x.1, Rp.hideD hp (hn b List.mem_cons_self) x.2⟩ (ih fun q hq => hn q (List.mem_cons_of_mem _ hq))
/-- two dicts that can't be one: the first values are unlike -/
def isRefD : PyData → Bool
  | .list _ => true
  | .tuple _ => true
  | .dict _ => true
  | _ => false
def Apart (ks ls : List (Key × PyData)) : Prop := ks.length ≠ ls.length ∨ ∃ p q, ks.head? = some p ∧ ls.head? = some q ∧ isRefD p.2 ≠ isRefD q.2
theorem Rp.isRef {K : PySem.W.Frag} {I : Hp} {v : V} {d : PyData} (h : Rp K I v d) : (∃ a, v = .ref a) ↔ isRefD d = true := by
  cases h <;> simp [isRefD]
theorem Apart.no {K : PySem.W.Frag} {I : Hp} {xs : List (Key × V)} {ks ls : List (Key × PyData)} (a : Apart ks ls) (h1 : KvR K I xs ks) (h2 : KvR K I xs ls) : False := by
  rcases a with a | ⟨p, q, e1, e2, r1⟩
  · exact a ((Paired.length h1).symm.trans (Paired.length h2))
  · cases h1 with
    | nil => cases e1
    | cons x1 t1 => cases h2 with
      | cons x2 t2 =>
        cases e1
        cases e2
        apply r1
        rw [Bool.eq_iff_iff, ← Rp.isRef x1.2, ← Rp.isRef x2.2]
/-- it may stay while a dict of ks is gone over -/
def Hides (ks : List (Key × PyData)) : Ent → Prop
  | .dat d => noDic d = true ∨ ∃ ls, d = kvD ls ∧ (∀ q ∈ ls, noDic q.2 = true) ∧ Apart ks ls
  | .own ds => noDics ds = true
  | .mu M => ∀ J J' p o, M J p o → M J' p o
  | _ => True
/-- the ground while it is gone over -/
structure Lk (c : Ctx) (d : Addr) (ks : List (Key × PyData)) : Prop where
  at' : ∃ od kvs, c.H0 d = some (.frz od (.dK kvs)) ∧ KvR c.K c.I0 kvs ks
  nb : some d ≠ c.b
section
variable {K : PySem.W.Frag} {b : Option Addr} {B : BInv} {H0 I0 I H : Hp} {n : Nat} {d : Addr} {kvs : List (Key × V)} {ks : List (Key × PyData)} {od : Obj} {σ : Sl} {ρ : List Ent}
theorem lock_wd (w : Wd ⟨K, b, H0, I0, B⟩ I H n) (hI : I d = some (.dK kvs)) : Wd ⟨K, b, upd H0 d (.frz od (.dK kvs)), thaw I d, B⟩ (thaw I d) (upd H d (.frz od (.dK kvs))) n := by
  have hH := w.ih _ _ hI
  refine ⟨fun q o h => ?_, Same.refl _, fun q o nb h => ?_, fun q h => rfl, fun p e => ?_⟩
  · by_cases z : q = d
    · subst z; rw [thaw_at] at h; cases h
    · rw [thaw_ne z] at h
      rw [upd_ne z]; exact w.ih _ _ h
  · by_cases z : q = d
    · subst z
      have h' : upd H0 q (.frz od (.dK kvs)) q = some o := h
      rw [upd_same] at h' ⊢; exact h'
    · have h' : upd H0 d (.frz od (.dK kvs)) q = some o := h
      rw [upd_ne z] at h' ⊢
      exact w.h0 q o nb h'
  · obtain ⟨h1, h2, x, h3, r⟩ := w.bg p e
    have ne : p ≠ d := fun q => by
      have i1 : I p = none := (w.nw p h2).trans h1
      rw [q, hI] at i1; cases i1
    refine ⟨?_, ?_, x, by rw [upd_ne ne]; exact h3, r⟩
    · show thaw I d p = none
      rw [thaw_ne ne, w.nw p h2]; exact h1
    · show upd H0 d (.frz od (.dK kvs)) p ≠ none
      rw [upd_ne ne]; exact h2
theorem lock_env (e : EnvR ⟨K, b, H0, I0, B⟩ I H σ ρ) (hI : I d = some (.dK kvs)) (hH : H d = some (.dK kvs)) (hk : KvR K I kvs ks) (hh : ∀ (j : Nat) (x : Ent), ρ[j]? = some x → Hides ks x) : EnvR ⟨K, b, upd H0 d (.frz od (.dK kvs)), thaw I d, B⟩ (thaw I d) (upd H d (.frz od (.dK kvs))) σ ρ := by
  refine ⟨?_, e.ap⟩
  have gen : ∀ (σ : Sl) (ρ : List Ent), Paired (EntR ⟨K, b, H0, I0, B⟩ I H) σ ρ → (∀ (j : Nat) (x : Ent), ρ[j]? = some x → Hides ks x) → Paired (EntR ⟨K, b, upd H0 d (.frz od (.dK kvs)), thaw I d, B⟩ (thaw I d) (upd H d (.frz od (.dK kvs)))) σ ρ := by
    intro σ ρ h
    induction h with
    | nil => exact fun _ => .nil
    | @cons a y l m x r ih =>
      intro hh
      refine .cons ?_ (ih fun j z h1 => hh (j + 1) z (by simpa using h1))
      have h0 := hh 0 y rfl
      cases y with
      | any => cases a <;> exact True.intro
      | dat z => cases a with
        | none => exact x.elim
        | some v =>
          rcases h0 with h0 | ⟨ls, rfl, hn, ap⟩
          · exact Rp.hideD hI h0 x
          · have x' : Rp K I v (kvD ls) := x
            unfold kvD at x'
            generalize hd : (ls.map fun p => (kD p.1, p.2)) = es at x'
            cases x' with
            | @dic a' xs es h1 q1 =>
              subst hd
              have q2 := RpKv.kv q1
              have ne : a' ≠ d := fun z => by
                rw [z, hI] at h1
                cases h1
                exact ap.no hk q2
              exact .dic (by rw [thaw_ne ne]; exact h1) (RpKv.of (q2.hideD hI hn))
      | bag | memo _ => cases a with
        | none => exact x.elim
        | some v => exact x
      | raw u => cases a with
        | none => exact x.elim
        | some v => exact x
      | scr ns => cases a with
        | none => exact x.elim
        | some v => obtain ⟨z, e1, q⟩ := x; exact ⟨z, e1, thaw_lstD hI q⟩
      | own ds => cases a with
        | none => exact x.elim
        | some v =>
          obtain ⟨p, ys, rfl, h1, h2, h3, h4, h5⟩ := x
          have ne : p ≠ d := fun z => by rw [z, hH] at h1; cases h1
          exact ⟨p, ys, rfl, by rw [upd_ne ne]; exact h1, by show upd H0 d _ p = none; rw [upd_ne ne]; exact h2, h3, by rw [thaw_ne ne]; exact h4, RpAll.hideD hI h0 h5⟩
      | mu M => cases a with
        | none => exact x.elim
        | some v =>
          obtain ⟨p, o, rfl, h1, h2, h3, h4, h5, h6⟩ := x
          have ne : p ≠ d := fun z => by rw [z, hI] at h5; cases h5
          exact ⟨p, o, rfl, by rw [upd_ne ne]; exact h1, h2, by show upd H0 d _ p = none; rw [upd_ne ne]; exact h3, h4, by rw [thaw_ne ne]; exact h5, fun J _ => h0 I J p o (h6 I (Same.refl _))⟩
  exact gen σ ρ e.st hh
/-- and stands as it stood -/
theorem unlock {I2 H2 : Hp} {m : Nat} (w : Wd ⟨K, b, H0, I0, B⟩ I H n) (hI : I d = some (.dK kvs)) (w2 : Wd ⟨K, b, upd H0 d (.frz od (.dK kvs)), thaw I d, B⟩ I2 H2 m) :
    I2 d = none ∧ H2 d = some (.frz od (.dK kvs)) ∧ Same I2 (upd I2 d (.dK kvs)) ∧ Same I (upd I2 d (.dK kvs)) ∧ Wd ⟨K, b, H0, I0, B⟩ (upd I2 d (.dK kvs)) (upd H2 d (.dK kvs)) m ∧
    ∀ {σ2 : Sl} {ρ2 : List Ent}, EnvR ⟨K, b, upd H0 d (.frz od (.dK kvs)), thaw I d, B⟩ I2 H2 σ2 ρ2 → EnvR ⟨K, b, H0, I0, B⟩ (upd I2 d (.dK kvs)) (upd H2 d (.dK kvs)) σ2 ρ2 := by
  have hH := w.ih _ _ hI
  have db : some d ≠ b := fun z => by
    obtain ⟨b1, b2, _⟩ := w.bg d z.symm
    have i1 : I d = none := (w.nw d b2).trans b1
    rw [hI] at i1; cases i1
  have c0 : upd H0 d (.frz od (.dK kvs)) d = some (.frz od (.dK kvs)) := upd_same
  have i2 : I2 d = none := by
    have := w2.nw d (by show upd H0 d (.frz od (.dK kvs)) d ≠ none; rw [c0]; exact fun z => nomatch z)
    rw [this]; exact thaw_at
  have h2 : H2 d = some (.frz od (.dK kvs)) := w2.h0 d _ db c0
  have s1 : Same I2 (upd I2 d (.dK kvs)) := fun q o h => by rw [upd_ne (ne_of_none h i2)]; exact h
  have s2 : Same I (upd I2 d (.dK kvs)) := fun q o h => by
    by_cases z : q = d
    · subst z; rw [hI] at h; cases h; exact upd_same
    · rw [upd_ne z]
      exact w2.i0 q o (by show thaw I d q = some o; rw [thaw_ne z]; exact h)
  refine ⟨i2, h2, s1, s2, ⟨fun q o h => ?_, w.i0.trans s2, fun q o nb h => ?_, fun q h => ?_, fun p e => ?_⟩, fun {σ2 ρ2} e => ⟨?_, e.ap⟩⟩
  · by_cases z : q = d
    · subst z; rw [upd_same] at h ⊢; exact h
    · rw [upd_ne z] at h ⊢; exact w2.ih q o h
  · by_cases z : q = d
    · subst z
      have h' := w.h0 q o nb h
      rw [hH] at h'
      cases h'
      exact upd_same
    · rw [upd_ne z]
      exact w2.h0 q o nb (by show upd H0 d _ q = some o; rw [upd_ne z]; exact h)
  · by_cases z : q = d
    · subst z
      rw [upd_same, ← w.nw q h]; exact hI.symm
    · rw [upd_ne z, w2.nw q (by show upd H0 d _ q ≠ none; rw [upd_ne z]; exact h)]
      show thaw I d q = I0 q
      rw [thaw_ne z]; exact w.nw q h
  · obtain ⟨a1, a2, _⟩ := w.bg p e
    obtain ⟨_, _, x, h3, r⟩ := w2.bg p e
    have ne : p ≠ d := fun q => db (by rw [← q]; exact e.symm)
    exact ⟨a1, a2, x, by rw [upd_ne ne]; exact h3, r⟩
  · have gen : ∀ (σ : Sl) (ρ : List Ent), Paired (EntR ⟨K, b, upd H0 d (.frz od (.dK kvs)), thaw I d, B⟩ I2 H2) σ ρ → Paired (EntR ⟨K, b, H0, I0, B⟩ (upd I2 d (.dK kvs)) (upd H2 d (.dK kvs))) σ ρ := by
      intro σ ρ h
      induction h with
      | nil => exact .nil
      | @cons a y l m x r ih =>
        refine .cons ?_ ih
        cases y with
        | any => cases a <;> exact True.intro
        | dat z => cases a with
          | none => exact x.elim
          | some v => exact Rp.mono s1 x
        | bag | memo _ => cases a with
          | none => exact x.elim
          | some v => exact x
        | raw u => cases a with
          | none => exact x.elim
          | some v => exact x
        | scr ns => cases a with
          | none => exact x.elim
          | some v => obtain ⟨z, e1, q⟩ := x; exact ⟨z, e1, s1.seq q⟩
        | own ds => cases a with
          | none => exact x.elim
          | some v =>
            obtain ⟨p, ys, rfl, a1, a2, a3, a4, a5⟩ := x
            have ne : p ≠ d := fun z => by rw [z, h2] at a1; cases a1
            have a2' : upd H0 d (.frz od (.dK kvs)) p = none := a2
            rw [upd_ne ne] at a2'
            exact ⟨p, ys, rfl, by rw [upd_ne ne]; exact a1, a2', a3, by rw [upd_ne ne]; exact a4, a5.mono s1⟩
        | mu M => cases a with
          | none => exact x.elim
          | some v =>
            obtain ⟨p, o, rfl, a1, a2, a3, a4, a5, a6⟩ := x
            have a3' : upd H0 d (.frz od (.dK kvs)) p = none := a3
            have ne : p ≠ d := fun z => by rw [z, upd_same] at a3'; cases a3'
            rw [upd_ne ne] at a3'
            exact ⟨p, o, rfl, by rw [upd_ne ne]; exact a1, a2, a3', a4, by rw [upd_ne ne]; exact a5, fun J s => a6 J (s1.trans s)⟩
    exact gen σ2 ρ2 e.st
/-- the values, gone over -/
theorem iw_vals {c : Ctx} {g : TG} {tgs : List Nat} {f : PyData → List Ent → List Ent} {i : Nat} (hi : ρ[i]? = some (.raw (.ref d))) (L : Lk c d ks) (ht : ∀ x ∈ ks.map (·.2), Tg c g tgs x (f x)) : Iw c (iVals (tVar i)) g ρ 0 tgs f (fun is => is = ks.map (·.2)) := fun σ I H n R w e l k => by
  obtain ⟨od, kvs, h0, hk⟩ := L.at'
  have fr : ∀ {I H : Hp} {n : Nat}, Wd c I H n → H d = some (.frz od (.dK kvs)) := fun w => w.h0 d _ L.nb h0
  have hlen : kvs.length = ks.length := Paired.length hk
  refine ⟨.ref d, raw_at hi e, d, od, kvs, rfl, fr w, k _ I H _ Gx.refl w ⟨fun i I H n s w h => ⟨fr w, by rw [List.length_map] at h; omega⟩, fun i x I H n y H' σ ρ Q s w e hx hy kk => ?_, fun i I H n s w h => ⟨fr w, by rw [List.length_map] at h; omega⟩⟩ rfl⟩
  obtain ⟨eH, k1, hy⟩ := hy
  subst eH
  rw [List.getElem?_map] at hx
  cases hq2 : ks[i]? with
  | none => rw [hq2] at hx; cases hx
  | some q2 =>
    rw [hq2] at hx
    have ex : q2.2 = x := Option.some.inj hx
    subst ex
    obtain ⟨a, h1, h2⟩ := Paired.getP hk hq2
    rw [hy] at h1
    cases h1
    exact ht _ (List.mem_map.mpr ⟨q2, List.mem_of_getElem? hq2, rfl⟩) σ ρ I _ _ _ Q w e (Rp.mono w.i0 h2.2) fun σ2 e2 s2 => kk σ2 I _ Gx.refl w e2 s2
/-- the pairs, gone over -/
theorem iw_items {c : Ctx} {g : TG} {tgs : List Nat} {f : PyData → List Ent → List Ent} {i : Nat} (hi : ρ[i]? = some (.raw (.ref d))) (L : Lk c d ks) (ht : ∀ q ∈ ks, Tg c g tgs (.tuple [kD q.1, q.2]) (f (.tuple [kD q.1, q.2]))) : Iw c (iItems (tVar i)) g ρ 0 tgs f (fun is => is = ks.map fun q => .tuple [kD q.1, q.2]) := fun σ I H n R w e l k => by
  obtain ⟨od, kvs, h0, hk⟩ := L.at'
  have fr : ∀ {I H : Hp} {n : Nat}, Wd c I H n → H d = some (.frz od (.dK kvs)) := fun w => w.h0 d _ L.nb h0
  have hlen : kvs.length = ks.length := Paired.length hk
  refine ⟨.ref d, raw_at hi e, d, od, kvs, rfl, fr w, k _ I H _ Gx.refl w ⟨fun i I H n s w h => ⟨fr w, by rw [List.length_map] at h; omega⟩, fun i x I H n y H' σ ρ Q s w e hx hy kk => ?_, fun i I H n s w h => ⟨fr w, by rw [List.length_map] at h; omega⟩⟩ rfl⟩
  obtain ⟨T, k1, v1, hy, rfl, nT, rfl⟩ := hy
  rw [List.getElem?_map] at hx
  cases hq2 : ks[i]? with
  | none => rw [hq2] at hx; cases hx
  | some q2 =>
    rw [hq2] at hx
    cases hx
    obtain ⟨a, h1, h2⟩ := Paired.getP hk hq2
    rw [hy] at h1
    cases h1
    have gn : Gx c.b I H (upd I T (.tup [kV k1, v1])) (upd H T (.tup [kV k1, v1])) := new_go w.ih nT
    have rk : Rp c.K (upd I T (.tup [kV k1, v1])) (kV k1) (kD q2.1) := by
      rw [← h2.1]
      cases k1 with
      | inl i => exact .int i
      | inr x => exact .str x
    exact ht q2 (List.mem_of_getElem? hq2) σ ρ _ _ n _ Q (w.new nT) (e.go gn) (.tup (.inl (.inl upd_same)) (.cons rk (.cons ((Rp.mono w.i0 h2.2).mono gn.ii) .nil)))
      fun σ2 e2 s2 => kk σ2 _ _ gn (w.new nT) e2 s2
end
end Hh

set_option Elab.async false
set_option linter.all false
set_option maxRecDepth 100000
set_option maxHeartbeats 2000000
namespace Hh
set_option autoImplicit false
open PySem PySem.Spec PyProof.Rows L2
section
variable {c : Ctx} {ρ : List Ent} {t te td tk : TE} {tb : TS} {tt : TT} {C : Nat} {P : PyData → Prop} {O : Out} {ks : List (Key × PyData)}
/-! ### gone over: a dict of data -/
theorem EnvR.anys {I H : Hp} {σ : Sl} (e : EnvR c I H σ ρ) : EnvR c I H σ (ρ.map fun _ => Ent.any) := by
  refine ⟨?_, fun i j p ds es h1 => ?_⟩
  · have gen : ∀ (σ : Sl) (ρ : List Ent), Paired (EntR c I H) σ ρ → Paired (EntR c I H) σ (ρ.map fun _ => Ent.any) := by
      intro σ ρ h
      induction h with
      | nil => exact .nil
      | @cons a b l m x r ih => exact .cons (by cases a <;> exact True.intro) ih
    exact gen σ ρ e.st
  · rw [List.getElem?_map] at h1
    cases q : ρ[i]? with
    | none => rw [q] at h1; cases h1
    | some x => rw [q] at h1; cases h1
theorem slot_same {σ : Sl} {i : Nat} {v : V} (h : σ[i]? = some (some v)) : σ.set i (some v) = σ := by
  apply List.ext_getElem?
  intro j
  by_cases z : i = j
  · subst z
    rw [List.getElem?_set_self', h]
    rfl
  · rw [List.getElem?_set_ne z]
theorem dict_at {I H : Hp} {σ : Sl} {i : Nat} (hi : ρ[i]? = some (.dat (kvD ks))) (e : EnvR c I H σ ρ) : ∃ a kvs, σ[i]? = some (some (.ref a)) ∧ I a = some (.dK kvs) ∧ KvR c.K I kvs ks := by
  obtain ⟨o, h1, h2⟩ := Paired.getP e.st hi
  cases o with
  | none => exact h2.elim
  | some v =>
    have h2' : Rp c.K I v (kvD ks) := h2
    unfold kvD at h2'
    generalize hd : (ks.map fun p => (kD p.1, p.2)) = es at h2'
    cases h2' with
    | @dic a xs es h3 q =>
      subst hd
      exact ⟨a, xs, h1, h3, RpKv.kv q⟩
/-- the world while it stands still -/
theorem lock_in {K : PySem.W.Frag} {b : Option Addr} {B : BInv} {H0 I0 I H : Hp} {n : Nat} {σ : Sl} {a : Addr} {kvs : List (Key × V)} {od : Obj} {i : Nat} (w : Wd ⟨K, b, H0, I0, B⟩ I H n) (e : EnvR ⟨K, b, H0, I0, B⟩ I H σ ρ) (hs : σ[i]? = some (some (.ref a))) (hI : I a = some (.dK kvs)) (hk : KvR K I kvs ks)
    (hn : ∀ q ∈ ks, noDic q.2 = true) (hh : ∀ (j : Nat) (x : Ent), ρ[j]? = some x → j ≠ i → Hides ks x) :
    Lk ⟨K, b, upd H0 a (.frz od (.dK kvs)), thaw I a, B⟩ a ks ∧ EnvR ⟨K, b, upd H0 a (.frz od (.dK kvs)), thaw I a, B⟩ (thaw I a) (upd H a (.frz od (.dK kvs))) σ (ρ.set i (.raw (.ref a))) := by
  have hH := w.ih _ _ hI
  refine ⟨⟨⟨od, kvs, upd_same, hk.hideD hI hn⟩, fun z => ?_⟩, ?_⟩
  · obtain ⟨b1, b2, _⟩ := w.bg a z.symm
    have i1 : I a = none := (w.nw a b2).trans b1
    rw [hI] at i1; cases i1
  · have e1 : EnvR ⟨K, b, H0, I0, B⟩ I H σ (ρ.set i (.raw (.ref a))) := by
      have q := e.set i (o := some (V.ref a)) (e := .raw (.ref a)) (show V.ref a = V.ref a from rfl) (fun _ z => nomatch z)
      rwa [slot_same hs] at q
    refine lock_env e1 hI hH hk fun j x hj => ?_
    by_cases z : i = j
    · subst z
      rw [List.getElem?_set_self'] at hj
      cases q : ρ[i]? with
      | none => rw [q] at hj; cases hj
      | some y => rw [q] at hj; cases hj; exact True.intro
    · rw [List.getElem?_set_ne z] at hj
      exact hh j x hj (fun y => z y.symm)
theorem unlock_gx {b : Option Addr} {I H I2 H2 : Hp} {a : Addr} {kvs : List (Key × V)} {od : Obj} (hI : I a = some (.dK kvs)) (hH : H a = some (.dK kvs)) (g : Gx b (thaw I a) (upd H a (.frz od (.dK kvs))) I2 H2) : Gx b I H (upd I2 a (.dK kvs)) (upd H2 a (.dK kvs)) := by
  refine ⟨fun q o h => ?_, fun q o nb h => ?_, fun q h => ?_, fun q h => ?_⟩
  · by_cases z : q = a
    · subst z; rw [hI] at h; cases h; exact upd_same
    · rw [upd_ne z]; exact g.ii q o (by rw [thaw_ne z]; exact h)
  · by_cases z : q = a
    · subst z; rw [hH] at h; cases h; exact upd_same
    · rw [upd_ne z]; exact g.hh q o nb (by rw [upd_ne z]; exact h)
  · by_cases z : q = a
    · subst z; rw [upd_same, hI]
    · rw [upd_ne z, g.nw q (by rw [upd_ne z]; exact h), thaw_ne z]
  · by_cases z : q = a
    · subst z; rw [upd_same]; exact fun z => nomatch z
    · rw [upd_ne z]; exact g.th q (by rw [upd_ne z]; exact h)
theorem ev_lockE {i : Nat} (hi : ρ[i]? = some (.dat (kvD ks))) (hn : ∀ q ∈ ks, noDic q.2 = true) (hh : ks ≠ [] → ∀ (j : Nat) (x : Ent), ρ[j]? = some x → j ≠ i → Hides ks x)
    (body : ∀ (H0 I0 : Hp) (d : Addr) (ρ' : List Ent), Lk ⟨c.K, c.b, H0, I0, c.B⟩ d ks → ρ'[i]? = some (.raw (.ref d)) → (ks ≠ [] → ρ' = ρ.set i (.raw (.ref d))) → Ev ⟨c.K, c.b, H0, I0, c.B⟩ t ρ' C P) : Ev c (tLockE t) ρ C P := fun σ I H n Q w e l k => by
  obtain ⟨K, b, H0, I0, B⟩ := c
  obtain ⟨a, kvs, hs, hI, hk⟩ := dict_at hi e
  have hH := w.ih _ _ hI
  refine ⟨a, .dK kvs, hH, True.intro, fun od => ?_⟩
  have go : ∀ ρ', Lk ⟨K, b, upd H0 a (.frz od (.dK kvs)), thaw I a, B⟩ a ks → EnvR ⟨K, b, upd H0 a (.frz od (.dK kvs)), thaw I a, B⟩ (thaw I a) (upd H a (.frz od (.dK kvs))) σ ρ' → ρ'[i]? = some (.raw (.ref a)) → (ks ≠ [] → ρ' = ρ.set i (.raw (.ref a))) →
      t σ (upd H a (.frz od (.dK kvs))) fun v H' => H' a = some (.frz od (.dK kvs)) ∧ Q v (upd H' a (.dK kvs)) := fun ρ' L e' hr hp => by
    refine body _ _ a ρ' L hr hp σ _ _ n _ (lock_wd w hI) e' l fun v d I2 H2 g2 w2 r2 p2 => ?_
    obtain ⟨i2, h2, s1, s2, w3, _⟩ := unlock w hI w2
    exact ⟨h2, k v d _ _ (unlock_gx hI hH g2) w3 (r2.mono s1) p2⟩
  have hil : i < ρ.length := (List.getElem?_eq_some_iff.mp hi).1
  by_cases h0 : ks = []
  · have e0 := e.anys
    obtain ⟨L, e2⟩ := lock_in (od := od) (ρ := ρ.map fun _ => Ent.any) w e0 hs hI hk hn fun j x hj _ => by
      rw [List.getElem?_map] at hj
      cases q : ρ[j]? with
      | none => rw [q] at hj; cases hj
      | some y => rw [q] at hj; cases hj; exact True.intro
    exact go _ L e2 (by rw [List.getElem?_set_self]; rw [List.length_map]; exact hil) (fun z => absurd h0 z)
  · obtain ⟨L, e2⟩ := lock_in (od := od) w e hs hI hk hn (hh h0)
    exact go _ L e2 (by rw [List.getElem?_set_self]; exact hil) (fun _ => rfl)
theorem wipeE_len (ρ : List Ent) : ∀ vs : List Nat, (wipeE ρ vs).length = ρ.length
  | [] => rfl
  | v :: vs => by
    show ((wipeE ρ vs).set v .any).length = _
    rw [List.length_set]; exact wipeE_len ρ vs
/-- [row for row in d.values() if ..] -/
theorem pv_filtV {i j : Nat} {vs : List Nat} (p : PyData → Bool) (hi : ρ[i]? = some (.dat (kvD ks))) (hn : ∀ q ∈ ks, noDic q.2 = true) (hh : ks ≠ [] → ∀ (j : Nat) (x : Ent), ρ[j]? = some x → j ≠ i → Hides ks x)
    (ht : ∀ (H0 I0 : Hp) (d : Addr), ∀ q ∈ ks, Pt ⟨c.K, c.b, H0, I0, c.B⟩ tt ((wipeE (ρ.set i (.raw (.ref d))) vs).set j (.dat q.2)) (p q.2)) (hl : ks.length < sizeLine) (hj : j ∈ vs)
    (hjl : j < ρ.length := by decide) :
    Pv c (tLockE (tLc (iVals (tVar i)) (gName j) tt (tVar j) vs)) ρ (.list ((ks.map (·.2)).filter p)) := by
  refine ev_lockE hi hn hh fun H0 I0 d ρ' L hr hp => ?_
  have hne : ∀ {x : PyData}, x ∈ ks.map (·.2) → ρ' = ρ.set i (.raw (.ref d)) := fun {x} hx => hp fun z => by rw [z] at hx; cases hx
  refine Pv.to (pv_filt (vs := vs) (f := fun d ρ => ρ.set j (.dat d)) (items := ks.map (·.2)) p id (iw_vals hr L fun x hx => tg_name) (fun x hx => ?_) (fun x hx _ => ?_) (by rw [List.length_map]; exact hl) (fun t ht => by rw [List.mem_singleton.mp ht]; exact hj)) (by rw [List.map_id])
  · rw [hne hx]
    obtain ⟨q, hq, rfl⟩ := List.mem_map.mp hx
    exact ht H0 I0 d q hq
  · refine ev_var ?_
    rw [hne hx, List.getElem?_set_self]
    · rfl
    · rw [wipeE_len, List.length_set]; exact hjl
/-- for k, v in d.items() -/
theorem bk_forItems {i m : Nat} {g : TG} {tgs : List Nat} {f : PyData → List Ent → List Ent} (Nv : Ent → Nat → List Ent → Prop) (hi : ρ[i]? = some (.dat (kvD ks))) (hn : ∀ q ∈ ks, noDic q.2 = true) (hh : ks ≠ [] → ∀ (j : Nat) (x : Ent), ρ[j]? = some x → j ≠ i → Hides ks x)
    (hset : ∀ (x y : Ent) (k : Nat) (ρ' : List Ent), Nv x k ρ' → ρ'[i]? = some x ∧ Nv y k (ρ'.set i y)) (h0 : Nv (.dat (kvD ks)) 0 ρ)
    (ht : ∀ (H0 I0 : Hp), ∀ q ∈ ks, Tg ⟨c.K, c.b, H0, I0, c.B⟩ g tgs (.tuple [kD q.1, q.2]) (f (.tuple [kD q.1, q.2])))
    (hs : ∀ (H0 I0 : Hp) (d : Addr) (k : Nat) (q : Key × PyData) (ρ' : List Ent), ks[k]? = some q → Nv (.raw (.ref d)) k ρ' → Bk ⟨c.K, c.b, H0, I0, c.B⟩ tb (f (.tuple [kD q.1, q.2]) ρ') 0 { nx := Nv (.raw (.ref d)) (k + 1), ct := Nv (.raw (.ref d)) (k + 1) })
    (hd : ∀ ρ', Nv (.dat (kvD ks)) ks.length ρ' → O.nx ρ') : Bk c (tLock (tFor (iItems (tVar i)) g tb)) ρ C O := fun σ I H n D w e l k1 k2 k3 k4 => by
  obtain ⟨K, b, H0, I0, B⟩ := c
  obtain ⟨a, kvs, hs', hI, hk⟩ := dict_at hi e
  have hH := w.ih _ _ hI
  have hil : i < ρ.length := (List.getElem?_eq_some_iff.mp hi).1
  refine ⟨a, .dK kvs, hH, True.intro, fun od => ?_⟩
  by_cases hz : ks = []
  · subst hz
    cases hk
    have eH : upd (upd H a (.frz od (.dK []))) a (.dK []) = H := funext fun q => by
      by_cases z : q = a
      · subst z; rw [upd_same, hH]
      · rw [upd_ne z, upd_ne z]
    refine ⟨.ref a, hs', a, od, [], rfl, upd_same, fun i' m' σ' H' => i' = 0 ∧ σ' = σ ∧ H' = upd H a (.frz od (.dK [])), ⟨0, rfl, rfl, rfl⟩, ?_⟩
    rintro i' m' σ' H' ⟨rfl, rfl, rfl⟩
    refine .inl ⟨⟨upd_same, Nat.le_refl _⟩, upd_same, ?_⟩
    rw [eH]
    exact k1 _ ρ I H (Same.refl _) (w.bgN (by omega)) e (hd ρ h0)
  obtain ⟨L, e2⟩ := lock_in (od := od) w e hs' hI hk hn (hh hz)
  refine bk_for (c := ⟨K, b, upd H0 a (.frz od (.dK kvs)), thaw I a, B⟩) (ρ := ρ.set i (.raw (.ref a))) (C := C) (C0 := 0) (C1 := 0) (m := ks.length) (O := { nx := fun ρ' => Nv (.raw (.ref a)) ks.length ρ' }) (f := f) (tgs := tgs)
    (fun _ k ρ' => Nv (.raw (.ref a)) k ρ') (iw_items (f := f) (tgs := tgs) (by rw [List.getElem?_set_self]; exact hil) L (ht _ _)) (fun is e => by rw [e, List.length_map]; exact Nat.le_refl _) (fun _ _ => (hset _ _ _ _ h0).2) ?_ (fun is ρ' e nv => by rw [e, List.length_map] at nv; exact nv) (by omega) σ _ _ n _ (lock_wd w hI) e2 l ?_ ?_ ?_ ?_
  · rintro is k d ρ' rfl hk2 nv
    rw [List.getElem?_map] at hk2
    cases hq : ks[k]? with
    | none => rw [hq] at hk2; cases hk2
    | some q =>
      rw [hq] at hk2
      cases hk2
      exact (hs _ _ a k q ρ' hq nv).imp (Nat.le_refl _) (fun _ h => h) (fun _ h => h.elim) (fun _ h => h.elim) (fun _ h => h)
  · intro σ2 ρ2 I2 H2 s2 w2 e2 nv
    obtain ⟨i2, h2, s1, s3, w3, e3⟩ := unlock w hI w2
    refine ⟨h2, ?_⟩
    have e4 := e3 e2
    obtain ⟨hr, nv2⟩ := hset _ (.dat (kvD ks)) _ _ nv
    obtain ⟨o, q1, q2⟩ := Paired.getP e4.st hr
    cases o with
    | none => exact q2.elim
    | some v =>
      cases (show v = .ref a from q2)
      have e5 := e4.set i (o := some (V.ref a)) (e := .dat (kvD ks)) (show Rp K (upd I2 a (.dK kvs)) (.ref a) (kvD ks) from .dic upd_same (RpKv.of (hk.mono s3))) (fun _ z => nomatch z)
      rw [slot_same q1] at e5
      exact k1 _ _ _ _ s3 w3 e5 (hd _ nv2)
  · exact fun v d I' H' s w r o => o.1.elim
  · exact fun σ2 ρ2 I2 H2 s2 w2 e2 z => z.elim
  · exact fun σ2 ρ2 I2 H2 s2 w2 e2 z => z.elim
end
end Hh

set_option Elab.async false
set_option linter.all false
set_option maxRecDepth 100000
set_option maxHeartbeats 2000000
namespace Hh
set_option autoImplicit false
open PySem PySem.Spec PyProof.Rows L2
/-! ### dicts of whole numbers, each True -/
def trD (ns : List Int) : PyData := kvD (ns.map fun n => ((.inl n : Key), .bool true))
def MTr (ns : List Int) : Hp → Addr → HO → Prop := fun _ _ o => o = .dK (kvT ns)
def putN (ns : List Int) (n : Int) : List Int := if n ∈ ns then ns else ns ++ [n]
theorem any_mem (ns : List Int) (n : Int) : (ns.any fun h => h == n) = decide (n ∈ ns) := by
  rw [Bool.eq_iff_iff, List.any_eq_true, decide_eq_true_eq]
  constructor
  · rintro ⟨x, hx, e⟩
    rw [← beq_iff_eq.mp e]; exact hx
  · exact fun h => ⟨n, h, beq_self_eq_true n⟩
theorem put_kvT (ns : List Int) (n : Int) : putK (kvT ns) (.inl n : Key) (.bl true) = kvT (putN ns n) := by
  have hv := kvT_val n ns
  rw [any_mem] at hv
  unfold putN
  by_cases h : n ∈ ns
  · rw [if_pos h]
    unfold putK
    rw [valV_any, hv, decide_eq_true h, if_pos rfl]
    unfold kvT
    rw [List.map_map]
    apply List.map_congr_left
    intro x _
    show (if (Sum.inl x : Key) = Sum.inl n then (_, _) else _) = _
    split <;> rfl
  · rw [if_neg h, decide_eq_false h] at *
    rw [putK_new _ (by cases z : valV (kvT ns) (.inl n : Key) <;> rw [z] at hv <;> first | rfl | cases hv)]
    unfold kvT
    rw [List.map_append]
    rfl
theorem kvD_tr {K : PySem.W.Frag} {I : Hp} {v : V} {ns : List Int} (h : Rp K I v (trD ns)) : ∃ a, v = .ref a ∧ I a = some (.dK (kvT ns)) := by
  unfold trD kvD at h
  rw [List.map_map] at h
  cases h with
  | dic h r => exact ⟨_, rfl, by rw [h, kv_inv (ns := ns) r]⟩
section
variable {c : Ctx} {ρ : List Ent} {t : TS} {ta tb te td tk tv : TE} {tt : TT} {tr : TA} {C : Nat} {O : Out} {ks : List (Key × PyData)} {i : Nat} {n : Int} {ns : List Int}
theorem bk_dnew (hn : O.nx (ρ.set i (.mu (MTr [])))) : Bk c (tAsg tDNewK (gName i)) ρ C O := fun σ I H n D w e l k1 k2 k3 k4 => fun p np => by
  obtain ⟨w1, e1⟩ := EnvR.newM (M := MTr []) (o := .dK []) i w e np (fun _ z => nomatch z) (fun J _ => rfl)
  exact k1 _ _ I _ (Same.refl _) (w1.bgN (by omega)) e1 hn
theorem bk_dput (hi : ρ[i]? = some (.mu (MTr ns))) (ha : Pv c tk ρ (.int n)) (hl : ns.length ≤ 1000) (no : ∀ (j : Nat) (M : Hp → Addr → HO → Prop), j ≠ i → ρ[j]? ≠ some (.mu M)) (hn : O.nx (ρ.set i (.mu (MTr (putN ns n))))) :
    Bk c (tAsg (tC (.bl true)) (gSub (tVar i) tk rSetD)) ρ C O := fun σ I H m D w e l k1 k2 k3 k4 => by
  obtain ⟨o, h1, h2⟩ := Paired.getP e.st hi
  cases o with
  | none => exact h2.elim
  | some u =>
    obtain ⟨p, o, rfl, a1, a2, a3, a4, a5, a6⟩ := h2
    have eo : o = .dK (kvT ns) := a6 I (Same.refl _)
    subst eo
    refine ⟨_, h1, ha σ I H m _ w e (by omega) fun v d I2 H2 g2 w2 r2 p2 => ?_⟩
    subst p2
    obtain rfl := r2.int_inv
    have hp2 : H2 p = some (.dK (kvT ns)) := g2.hh _ _ a4 a1
    have hI2 : I2 p = none := by rw [g2.nw p (by rw [a1]; exact fun z => nomatch z)]; exact a5
    refine ⟨p, _, rfl, DPut.k (k := .inl n) hp2 (by unfold kvT; rw [List.length_map]; exact small1000 hl), ?_⟩
    rw [put_kvT]
    obtain ⟨w3, e3⟩ := EnvR.setM (M := MTr (putN ns n)) (o' := .dK (kvT (putN ns n))) w2 (e.go g2) h1 hp2 (fun _ z => nomatch z) (fun _ z => nomatch z) a3 a4 hI2 no (fun J _ => rfl)
    exact k1 _ _ I2 _ g2.ii (w3.bgN (by omega)) e3 hn
def rDIn : R2 := fun x y H Q => ∃ (a : Addr) (o : Option V), y = .ref a ∧ DGet H a x o ∧ Q (.bl o.isSome) H
theorem op_din {X : Cx} (hu : X.A.units + 64 < cLine) : OpR X (compareOp .In) rDIn := by
  intro pins s σ H x y v u Q I rx ry ⟨a, o, ey, g, q⟩
  subst ey
  cases ry
  exact d_in (by omega) I g rx fun s' I' => ⟨.bl o.isSome, H, I', rfl, q⟩
theorem mu_at {I H : Hp} {σ : Sl} (hi : ρ[i]? = some (.mu (MTr ns))) (e : EnvR c I H σ ρ) : ∃ p, σ[i]? = some (some (.ref p)) ∧ H p = some (.dK (kvT ns)) ∧ c.H0 p = none ∧ some p ≠ c.b ∧ I p = none := by
  obtain ⟨o, h1, h2⟩ := Paired.getP e.st hi
  cases o with
  | none => exact h2.elim
  | some u =>
    obtain ⟨p, o, rfl, a1, a2, a3, a4, a5, a6⟩ := h2
    have eo : o = .dK (kvT ns) := a6 I (Same.refl _)
    subst eo
    exact ⟨p, h1, a1, a3, a4, a5⟩
/-- k in x, k not in x: a dict of one's own -/
theorem pv_uin (ha : Pv c ta ρ (.int n)) (hi : ρ[i]? = some (.mu (MTr ns))) : Pv c (tOp rDIn ta (tVar i)) ρ (.bool (decide (n ∈ ns))) := fun σ I H m Q w e l kk =>
  ha σ I H m _ w e l fun v d I2 H2 g2 w2 r2 p2 => by
    subst p2
    obtain rfl := r2.int_inv
    obtain ⟨p, h1, h2, _⟩ := mu_at hi (e.go g2)
    refine ⟨_, h1, p, _, rfl, DGet.k (k := .inl n) h2, kk _ _ I2 H2 g2 w2 (.bl _) ?_⟩
    rw [kvT_val, any_mem]
theorem pv_unot (ha : Pv c ta ρ (.int n)) (hi : ρ[i]? = some (.mu (MTr ns))) : Pv c (tOp rDNot ta (tVar i)) ρ (.bool (!decide (n ∈ ns))) := fun σ I H m Q w e l kk =>
  ha σ I H m _ w e l fun v d I2 H2 g2 w2 r2 p2 => by
    subst p2
    obtain rfl := r2.int_inv
    obtain ⟨p, h1, h2, _⟩ := mu_at hi (e.go g2)
    refine ⟨_, h1, p, _, rfl, DGet.k (k := .inl n) h2, kk _ _ I2 H2 g2 w2 (.bl _) ?_⟩
    rw [kvT_val, any_mem]
/-- k in d, k not in d: data -/
theorem rd_dinD {k : Key} : Rd2 c rDIn (kD k) (kvD ks) (fun x => x = .bool (dv ks k).isSome) := fun I H m x y Q w r1 r2 kk => by
  have ev := key_inv r1
  subst ev
  unfold kvD at r2
  cases r2 with
  | @dic a xs es h1 q1 =>
    have q1 := RpKv.kv q1
    refine ⟨a, _, rfl, .inl ⟨xs, k, .inl (w.ih _ _ h1), rfl, rfl⟩, kk _ _ I H Gx.refl w (.bl _) ?_⟩
    rcases q1.get k with ⟨n1, n2⟩ | ⟨v5, d5, n1, n2, r5⟩
    · rw [n1, n2]; rfl
    · rw [n1, n2]; rfl
theorem rd_dnotD {k : Key} : Rd2 c rDNot (kD k) (kvD ks) (fun x => x = .bool (!(dv ks k).isSome)) := fun I H m x y Q w r1 r2 kk => by
  have ev := key_inv r1
  subst ev
  unfold kvD at r2
  cases r2 with
  | @dic a xs es h1 q1 =>
    have q1 := RpKv.kv q1
    refine ⟨a, _, rfl, .inl ⟨xs, k, .inl (w.ih _ _ h1), rfl, rfl⟩, kk _ _ I H Gx.refl w (.bl _) ?_⟩
    rcases q1.get k with ⟨n1, n2⟩ | ⟨v5, d5, n1, n2, r5⟩
    · rw [n1, n2]; rfl
    · rw [n1, n2]; rfl
theorem pv_din {k : Key} (ha : Pv c ta ρ (kD k)) (hb : Pv c tb ρ (kvD ks)) : Pv c (tOp rDIn ta tb) ρ (.bool (dv ks k).isSome) := pv_op ha hb rd_dinD
theorem pv_dnot {k : Key} (ha : Pv c ta ρ (kD k)) (hb : Pv c tb ρ (kvD ks)) : Pv c (tOp rDNot ta tb) ρ (.bool (!(dv ks k).isSome)) := pv_op ha hb rd_dnotD
theorem dv_tr (n : Int) : ∀ ns : List Int, (dv (ns.map fun n => ((.inl n : Key), PyData.bool true)) (.inl n : Key)).isSome = decide (n ∈ ns) := fun ns => by
  rw [← any_mem]
  induction ns with
  | nil => rfl
  | cons m r ih =>
    rw [List.map_cons, List.any_cons, ← ih]
    unfold dv
    by_cases h : m = n
    · subst h
      rw [List.find?_cons_of_pos (by simp), beq_self_eq_true]
      rfl
    · rw [List.find?_cons_of_neg (by simpa using h), beq_eq_false_iff_ne.mpr h]
      rfl
theorem pv_tin (ha : Pv c ta ρ (.int n)) (hb : Pv c tb ρ (trD ns)) : Pv c (tOp rDIn ta tb) ρ (.bool (decide (n ∈ ns))) := Pv.to (pv_din (k := .inl n) ha hb) (by rw [dv_tr])
theorem pv_tnot (ha : Pv c ta ρ (.int n)) (hb : Pv c tb ρ (trD ns)) : Pv c (tOp rDNot ta tb) ρ (.bool (!decide (n ∈ ns))) := Pv.to (pv_dnot (k := .inl n) ha hb) (by rw [dv_tr])
/-- d[k] -/
theorem pv_dget {k : Key} {x : PyData} (ha : Pv c ta ρ (kvD ks)) (hk : Pv c tk ρ (kD k)) (hx : dv ks k = some x) : Pv c (tDGet ta tk) ρ x := fun σ I H m Q w e l kk =>
  ha σ I H m _ w e l fun v d I2 H2 g2 w2 r2 p2 => by
    subst p2
    unfold kvD at r2
    cases r2 with
    | @dic a xs es h1 q1 =>
      have q1 := RpKv.kv q1
      refine hk σ I2 H2 m _ w2 (e.go g2) l fun v3 d3 I3 H3 g3 w3 r3 p3 => ?_
      subst p3
      have ev := key_inv r3
      subst ev
      rcases (q1.mono g3.ii).get k with ⟨n1, n2⟩ | ⟨v5, d5, n1, n2, r5⟩
      · rw [n2] at hx; cases hx
      · rw [n2] at hx
        cases hx
        exact ⟨a, v5, rfl, .inl ⟨xs, k, .inl (w3.ih _ _ (g3.ii _ _ h1)), rfl, n1.symm⟩, kk _ _ I3 H3 (g2.trans g3) w3 r5 rfl⟩
/-- d.get(k) -/
theorem pv_dget1 {k : Key} (ha : Pv c ta ρ (kvD ks)) (hk : Pv c tk ρ (kD k)) : Pv c (tDGet1 ta tk) ρ ((dv ks k).getD .none) := fun σ I H m Q w e l kk =>
  ha σ I H m _ w e l fun v d I2 H2 g2 w2 r2 p2 => by
    subst p2
    unfold kvD at r2
    cases r2 with
    | @dic a xs es h1 q1 =>
      have q1 := RpKv.kv q1
      refine ⟨a, rfl, .inl ⟨xs, .inl (w2.ih _ _ h1)⟩, hk σ I2 H2 m _ w2 (e.go g2) l fun v3 d3 I3 H3 g3 w3 r3 p3 => ?_⟩
      subst p3
      have ev := key_inv r3
      subst ev
      refine ⟨valV xs k, .inl ⟨xs, k, .inl (w3.ih _ _ (g3.ii _ _ h1)), rfl, rfl⟩, ?_⟩
      rcases (q1.mono g3.ii).get k with ⟨n1, n2⟩ | ⟨v5, d5, n1, n2, r5⟩
      · rw [n1]; exact kk _ _ I3 H3 (g2.trans g3) w3 .non (by rw [n2]; rfl)
      · rw [n1]; exact kk _ _ I3 H3 (g2.trans g3) w3 r5 (by rw [n2]; rfl)
theorem rp_keys {K : PySem.W.Frag} {I : Hp} : ∀ {xs : List (Key × V)} {ks : List (Key × PyData)}, KvR K I xs ks → RpAll K I (xs.map fun kv => kV kv.1) (ks.map fun q => kD q.1)
  | _, _, .nil => .nil
  | a :: l, b :: m, .cons x r => by
    refine .cons ?_ (rp_keys r)
    show Rp K I (kV a.1) (kD b.1)
    rw [← x.1]
    cases a.1 with
    | inl i => exact .int i
    | inr x => exact .str x
/-- list(d) -/
theorem pv_listD (ha : Pv c ta ρ (kvD ks)) : Pv c (tCB rListD (tCons ta tNil)) ρ (.list (ks.map fun q => kD q.1)) := fun σ I H m Q w e l kk =>
  pa_consD ha ea_nil σ I H m _ w e l fun vs es I2 H2 g2 w2 r2 p2 => by
    subst p2
    have r := args_all (ds := [kvD ks]) r2
    cases r with
    | cons r rr =>
      cases rr
      unfold kvD at r
      cases r with
      | @dic a xs es h1 q1 =>
        have q1 := RpKv.kv q1
        refine ⟨a, xs, rfl, w2.ih _ _ h1, fun q nq => ?_⟩
        have hr := rp_keys q1
        exact kk _ _ (upd I2 q (.lst (xs.map fun kv => kV kv.1))) (upd H2 q (.lst (xs.map fun kv => kV kv.1))) (g2.trans (new_go w2.ih nq)) (w2.new nq) (.lst upd_same (hr.mono (new_go w2.ih nq (b := none)).ii)) rfl
/-- from here on it is data -/
theorem EnvR.sealI {I H : Hp} {σ : Sl} {p : Addr} {kvs : List (Key × V)} (e : EnvR c I H σ ρ) (hp : H p = some (.dK kvs)) (hI : I p = none) (no : ∀ (j : Nat) (M : Hp → Addr → HO → Prop), ρ[j]? ≠ some (.mu M)) : EnvR c (upd I p (.dK kvs)) H σ ρ := by
  refine ⟨?_, e.ap⟩
  have s1 : Same I (upd I p (.dK kvs)) := fun q o h => by rw [upd_ne (ne_of_none h hI)]; exact h
  have gen : ∀ (σ : Sl) (ρ : List Ent), Paired (EntR c I H) σ ρ → (∀ (j : Nat) (M : Hp → Addr → HO → Prop), ρ[j]? ≠ some (.mu M)) → Paired (EntR c (upd I p (.dK kvs)) H) σ ρ := by
    intro σ ρ h
    induction h with
    | nil => exact fun _ => .nil
    | @cons a b l m x r ih =>
      intro hh
      refine .cons ?_ (ih fun i M h1 => hh (i + 1) M (by simpa using h1))
      cases b with
      | any => cases a <;> exact True.intro
      | dat d => cases a with
        | none => exact x
        | some v => exact Rp.mono s1 x
      | bag | memo _ => cases a with
        | none => exact x
        | some v => exact x
      | raw u => cases a with
        | none => exact x
        | some v => exact x
      | scr ns => cases a with
        | none => exact x
        | some v => obtain ⟨z, e1, q⟩ := x; exact ⟨z, e1, s1.seq q⟩
      | own ds => cases a with
        | none => exact x
        | some v =>
          obtain ⟨q, ys, rfl, h1, r1, r2, r3, r4⟩ := x
          have ne : q ≠ p := fun z => by rw [z, hp] at h1; cases h1
          exact ⟨q, ys, rfl, h1, r1, r2, by rw [upd_ne ne]; exact r3, r4.mono s1⟩
      | mu M => exact absurd rfl (hh 0 M)
  exact gen σ ρ e.st no
theorem bk_freezeT (hi : ρ[i]? = some (.mu (MTr ns))) (no : ∀ (j : Nat) (M : Hp → Addr → HO → Prop), j ≠ i → ρ[j]? ≠ some (.mu M)) (h : Bk c t (ρ.set i (.dat (trD ns))) C O) : Bk c t ρ C O := fun σ I H m D w e l k1 k2 k3 k4 => by
  obtain ⟨p, h1, a1, a2, a3, a4⟩ := mu_at hi e
  have s1 : Same I (upd I p (.dK (kvT ns))) := fun q o h => by rw [upd_ne (ne_of_none h a4)]; exact h
  have w1 : Wd c (upd I p (.dK (kvT ns))) H m := by
    refine ⟨fun q o h => ?_, w.i0.trans s1, w.h0, fun q h => ?_, w.bg⟩
    · by_cases z : q = p
      · subst z; rw [upd_same] at h; cases h; exact a1
      · rw [upd_ne z] at h; exact w.ih q o h
    · rw [upd_ne (fun z => h (by rw [z]; exact a2))]; exact w.nw q h
  have e1 : EnvR c I H σ (ρ.set i .any) := by
    have q := e.set i (o := some (V.ref p)) (e := .any) True.intro (fun _ z => nomatch z)
    rwa [slot_same h1] at q
  have e2 := e1.sealI a1 a4 fun j M z => by
    by_cases y : i = j
    · subst y
      rw [List.getElem?_set_self'] at z
      cases q : ρ[i]? with
      | none => rw [q] at z; cases z
      | some x => rw [q] at z; cases z
    · rw [List.getElem?_set_ne y] at z
      exact no j M (fun y' => y y'.symm) z
  have e3 := e2.set i (o := some (V.ref p)) (e := .dat (trD ns)) (show Rp c.K (upd I p (.dK (kvT ns))) (.ref p) (trD ns) from by
    unfold trD kvD
    rw [List.map_map]
    exact .dic upd_same (rp_kvT ns)) (fun _ z => nomatch z)
  rw [slot_same h1, List.set_set] at e3
  exact h σ _ H m D w1 e3 l (fun a b i j s w r p => k1 a b i j (s1.trans s) w r p) (fun a b i j s w r p => k2 a b i j (s1.trans s) w r p) (fun a b i j s w r p => k3 a b i j (s1.trans s) w r p) (fun a b i j s w r p => k4 a b i j (s1.trans s) w r p)
/-! ### {k: v for .. in .. if ..} -/
theorem pv_dc {wi : TI} {g : TG} {tgs vs : List Nat} {f : PyData → List Ent → List Ent} {items : List PyData} (p : PyData → Bool) (F : PyData → Key × PyData) (hi : Iw c wi g ρ 0 tgs f (fun is => is = items)) (ht : ∀ d ∈ items, Pt c tt (f d (wipeE ρ vs)) (p d))
    (hk : ∀ d ∈ items, p d = true → Pv c tk (f d (wipeE ρ vs)) (kD (F d).1)) (hv : ∀ d ∈ items, p d = true → Pv c tv (f d (wipeE ρ vs)) (F d).2) (hl : items.length < sizeLine) (hvs : ∀ t ∈ tgs, t ∈ vs := by decide) :
    Pv c (tDc wi g tt tk tv vs) ρ (kvD (mergeD [] ((items.filter p).map F))) := fun σ I H n Q w e l kk => by
  refine hi σ I H n _ w e l fun J I1 H1 is g1 w1 it hpi => ?_
  subst hpi
  intro D nD
  have d0 : c.H0 D = none := w1.h0n nD
  have dI : I1 D = none := w1.ih.free nD
  have db : some D ≠ c.b := w1.bne nD
  have e1 : EnvR c I1 H1 (L2.wipe σ vs) (wipeE ρ vs) := (e.go g1).wipe vs
  have lay : ∀ {I2 H2 : Hp} {o : HO}, Gx c.b I1 H1 I2 H2 → Gx c.b I1 H1 I2 (upd H2 D o) := fun g => ⟨g.ii, fun q o nb h => by rw [upd_ne (ne_of_none h nD)]; exact g.hh q o nb h, g.nw, fun q h => by rw [upd_ne (fun z => h (by rw [z]; exact nD))]; exact g.th q h⟩
  refine ⟨fun i m H' => m = is.length - i ∧ i ≤ is.length ∧ ∃ I' xs, H' D = some (.dK xs) ∧ I' D = none ∧ KvR c.K I' xs (mergeD [] (((is.take i).filter p).map F)) ∧ xs.length ≤ i ∧ Wd c I' H' (n + 0) ∧ Gx c.b I1 H1 I' H',
    ⟨is.length, by simp, Nat.zero_le _, I1, [], upd_same, dI, .nil, Nat.le_refl _, w1.put d0 dI db, lay Gx.refl⟩, ?_⟩
  rintro i m H' ⟨rfl, hi', I', xs, hD, hI, hr, hxl, w', gx⟩
  by_cases hlt : i < is.length
  · refine .inr ⟨it.go i I' H' _ gx.ii w' hlt, fun H'' => i + 1 ≤ is.length ∧ ∃ I' xs, H'' D = some (.dK xs) ∧ I' D = none ∧ KvR c.K I' xs (mergeD [] (((is.take (i + 1)).filter p).map F)) ∧ xs.length ≤ i + 1 ∧ Wd c I' H'' (n + 0) ∧ Gx c.b I1 H1 I' H'', fun H'' h => ⟨is.length - (i + 1), by omega, rfl, h.1, h.2⟩, fun x H'' hy => ?_⟩
    have hget : is[i]? = some is[i] := List.getElem?_eq_getElem hlt
    have hmem : is[i] ∈ is := List.getElem_mem hlt
    have e' := e1.go gx
    refine it.yl i is[i] I' H' _ x H'' (L2.wipe σ vs) (wipeE ρ vs) _ gx.ii w' e' hget hy fun σ2 I2 H2 g2 w2 e2 s2 => ?_
    have hw : L2.wipe σ2 vs = L2.wipe σ vs := by
      rw [s2 vs hvs]
      apply List.ext_getElem?
      intro j
      rw [wipe_get, wipe_get]
      split <;> cases σ[j]? <;> rfl
    have htk : is.take (i + 1) = is.take i ++ [is[i]] := by rw [List.take_add_one, hget]; rfl
    refine ⟨hw, ht _ hmem σ2 I2 H2 _ _ w2 e2 (by omega) fun b I3 H3 g3 w3 pb => ?_⟩
    have hDn : H' D ≠ none := by rw [hD]; exact fun z => nomatch z
    cases b with
    | true =>
      rw [if_pos rfl]
      refine hk _ hmem pb.symm σ2 I3 H3 (n + 0) _ w3 (e2.go g3) (by omega) fun y dy I4 H4 g4 w4 r4 p4 => ?_
      refine hv _ hmem pb.symm σ2 I4 H4 (n + 0) _ w4 (e2.go (g3.trans g4)) (by omega) fun z dz I5 H5 g5 w5 r5 p5 => ?_
      subst p4 p5
      have g25 := ((g2.trans g3).trans g4).trans g5
      have hD5 : H5 D = some (.dK xs) := g25.hh _ _ db hD
      have hI5 : I5 D = none := by rw [g25.nw D hDn]; exact hI
      have hr5 := KvR.put (k := (F is[i]).1) (hr.mono g25.ii) r5
      refine ⟨xs, (F is[i]).1, key_inv r4, hD5, by omega, hlt, I5, _, upd_same, hI5, ?_, ?_, ((w5.put d0 hI5 db).bgN (by omega)), lay (gx.trans g25)⟩
      · rw [htk, List.filter_append, List.map_append, List.filter_cons, ← pb]
        unfold mergeD
        rw [List.foldl_append]
        exact hr5
      · have := length_putK xs (F is[i]).1 z
        omega
    | false =>
      rw [if_neg Bool.false_ne_true]
      have g23 := g2.trans g3
      refine ⟨hlt, I3, xs, g23.hh _ _ db hD, by rw [g23.nw D hDn]; exact hI, ?_, by omega, w3.bgN (by omega), gx.trans g23⟩
      rw [htk, List.filter_append, List.map_append, List.filter_cons, ← pb]
      simp only [List.filter_nil, List.map_nil, List.append_nil, Bool.false_eq_true, if_false]
      exact hr.mono g23.ii
  · have ei : i = is.length := by omega
    subst ei
    refine .inl ⟨it.st _ I' H' _ gx.ii w' (Nat.le_refl _), ?_⟩
    rw [List.take_length] at hr
    have eH : upd H' D (.dK xs) = H' := funext fun q => by
      by_cases z : q = D
      · subst z; rw [upd_same, hD]
      · rw [upd_ne z]
    have nDH : H D = none := by
      cases hd : H D with
      | none => rfl
      | some o => exact absurd nD (g1.th D (by rw [hd]; exact fun z => nomatch z))
    have fin := kk (.ref D) _ (upd I' D (.dK xs)) (upd H' D (.dK xs)) (seal_go (g1.trans gx) nDH hI) (w'.seal d0 hI db) (.dic upd_same (RpKv.of (hr.mono fun a o h => by rw [upd_ne (ne_of_none h hI)]; exact h))) rfl
    rw [eH] at fin
    exact fin
end
/-! ### the program's own dicts -/
def rKdIn (K : PySem.W.Frag) (d : Addr) : R2 := fun x y H Q => ∃ (z : Str) (r : Option Value), x = .str z ∧ y = .ref d ∧ PySem.W.nsIn K d z = some r ∧ Q (.bl r.isSome) H
def rKdNot (K : PySem.W.Frag) (d : Addr) : R2 := fun x y H Q => ∃ (z : Str) (r : Option Value), x = .str z ∧ y = .ref d ∧ PySem.W.nsIn K d z = some r ∧ Q (.bl (!r.isSome)) H
def KD (K : PySem.W.Frag) (w : World) (d : Addr) : Prop := ∃ es n, KDict K w d es n
section
variable {X : Cx} {K : PySem.W.Frag} {w : World} {d : Addr}
theorem op_kdin (e : X.K = K) (ew : X.w = w) (D : KD K w d) : OpR X (compareOp .In) (rKdIn K d) := by
  subst e ew
  obtain ⟨es, n, D⟩ := D
  exact op_in_kd D
theorem op_kdnot (e : X.K = K) (ew : X.w = w) (D : KD K w d) : OpR X (compareOp .NotIn) (rKdNot K d) := by
  subst e ew
  obtain ⟨es, n, D⟩ := D
  exact op_notIn_kd D
def rKdIx (K : PySem.W.Frag) (d : Addr) : R2 := fun x y H Q => ∃ (z : Str) (u : Value) (v : V), x = .ref d ∧ y = .str z ∧ PySem.W.nsIn K d z = some (some u) ∧ RelV v u ∧ Q v H
theorem ix_kd (e : X.K = K) (ew : X.w = w) (D : KD K w d) : IxR X (rKdIx K d) := by
  subst e ew
  intro value slice pins s σ H x y v u Q I rx ry h hs
  obtain ⟨z, r, v0, rfl, rfl, e, ru, q⟩ := h
  obtain ⟨es, n, D⟩ := D
  exact ix_kdict value slice pins s σ H _ _ v u Q I rx ry ⟨d, z, v0, rfl, rfl, ⟨es, n, r, D.at_, D.lit, e, ru⟩, q⟩ hs
def tKGet (K : PySem.W.Frag) (d : Addr) (td ty tx : TE) : TE := fun σ H Q => td σ H fun x H1 => x = .ref d ∧ ty σ H1 fun y H2 => tx σ H2 fun z H3 => ∃ (s : Str) (r : Option Value) (v : V), y = .str s ∧ PySem.W.nsIn K d s = some r ∧
  (∀ u, r = some u → RelV v u) ∧ (r = none → v = z) ∧ Q v H3
theorem pe_kget {o e f : Expr} {apos cpos : Pos} {td ty tx : TE} (eK : X.K = K) (ew : X.w = w) (D : KD K w d) (ho : PE X o td) (he : PE X e ty) (hf : PE X f tx) (m : M2 X o "get" apos e f cpos) : PE X (.Call (.Attribute o "get" apos) [e, f] [] cpos) (tKGet K d td ty tx) := by
  subst eK ew
  obtain ⟨es, n, D⟩ := D
  refine ⟨fun pins s σ H Q I h => ?_⟩
  refine wpAny_Call_method m.base m.few m.line PySem.F.plainAttrs_dict PySem.F.slot_dict_get PySem.F.type_dict_get (thn (ho.run pins s σ H _ I h) fun u s1 ⟨x, H1, I1, rx, ex, q1⟩ => ?_)
  subst ex
  obtain rfl : u = Value.ref d := rx
  have hm1 := PySem.W.mapOf_K (prog := X.prog) (w := X.w) I1.kIn D.at_ D.lit
  refine ⟨hm1.typeIs, hm1.noDict, ?_⟩
  rw [m.trees]
  refine Calls.callWith_builtin rfl (Calls.evalArgs_plain (Calls.spliced_cons (thn (he.run pins s1 σ H1 _ I1 q1) fun iv s2 ⟨y, H2, I2, ry, q2⟩ =>
    Calls.spliced_cons (thn (hf.run pins s2 σ H2 _ I2 q2) fun fv s3 ⟨z, H3, I3, rz, st, r, v, ey, hn, h1, h2, q3⟩ => Calls.spliced_nil ?_))))
  subst ey
  obtain ⟨t, rfl⟩ := ry
  have hm := PySem.W.mapOf_K (prog := X.prog) (w := X.w) I3.kIn D.at_ D.lit
  refine call_meetsIn PySem.F.slot_dict_get hm.typeIs PySem.F.entry_dict_get (PySem.F.args_dict_get_3 _ _ _) (meets_dict_get_default (strKind X.prog X.w) d (strKind_is X.prog X.w st t) D.low fv) ⟨_, hm, ?_⟩
  rw [PySem.W.find_K D.at_ hn]
  refine ⟨v, H3, I3.tok _, ?_, q3⟩
  cases r with
  | none => rw [h2 rfl]; exact rz
  | some u => exact h1 u rfl
end
section
variable {c : Ctx} {ρ : List Ent} {ta tb td tz : TE} {d : Addr} {z : Str} {r : Option Value}
theorem pv_kdin (ha : Pv c ta ρ (.str z)) (hr : PySem.W.nsIn c.K d z = some r) : Pv c (tOp (rKdIn c.K d) ta (tC (.ref d))) ρ (.bool r.isSome) := fun σ I H n Q w e l k =>
  ha σ I H n _ w e l fun v x I2 H2 g2 w2 r2 p2 => by
    subst p2
    obtain rfl := r2.str_inv
    exact ⟨z, r, rfl, rfl, hr, k _ _ I2 H2 g2 w2 (.bl _) rfl⟩
theorem pv_kdnot (ha : Pv c ta ρ (.str z)) (hr : PySem.W.nsIn c.K d z = some r) : Pv c (tOp (rKdNot c.K d) ta (tC (.ref d))) ρ (.bool (!r.isSome)) := fun σ I H n Q w e l k =>
  ha σ I H n _ w e l fun v x I2 H2 g2 w2 r2 p2 => by
    subst p2
    obtain rfl := r2.str_inv
    exact ⟨z, r, rfl, rfl, hr, k _ _ I2 H2 g2 w2 (.bl _) rfl⟩
theorem pv_kdix {v : V} {u : Value} {x : PyData} (ha : Pv c ta ρ (.str z)) (hr : PySem.W.nsIn c.K d z = some (some u)) (hv : RelV v u) (hx : ∀ I, Rp c.K I v x) : Pv c (tOp (rKdIx c.K d) (tC (.ref d)) ta) ρ x := fun σ I H n Q w e l k =>
  ha σ I H n _ w e l fun y x I2 H2 g2 w2 r2 p2 => by
    subst p2
    obtain rfl := r2.str_inv
    exact ⟨z, u, v, rfl, rfl, hr, hv, k _ _ I2 H2 g2 w2 (hx I2) rfl⟩
theorem pv_kget {v : V} {x y : PyData} (ha : Pv c ta ρ (.str z)) (hz : Pv c tz ρ y) (hr : PySem.W.nsIn c.K d z = some r) (h : (∃ u v, r = some u ∧ RelV v u ∧ ∀ I, Rp c.K I v x) ∨ (r = none ∧ x = y)) : Pv c (tKGet c.K d (tC (.ref d)) ta tz) ρ x := fun σ I H n Q w e l k => by
  refine ⟨rfl, ha σ I H n _ w e l fun v1 d1 I2 H2 g2 w2 r2 p2 => hz σ I2 H2 n _ w2 (e.go g2) l fun v3 d3 I3 H3 g3 w3 r3 p3 => ?_⟩
  subst p2 p3
  obtain rfl := r2.str_inv
  rcases h with ⟨u, v, rfl, rv, hx⟩ | ⟨rfl, rfl⟩
  · exact ⟨z, _, v, rfl, hr, (fun u' e => by cases e; exact rv), (fun e => nomatch e), k _ _ I3 H3 (g2.trans g3) w3 (hx I3) rfl⟩
  · exact ⟨z, _, v3, rfl, hr, fun u' e => (nomatch e), fun _ => rfl, k _ _ I3 H3 (g2.trans g3) w3 r3 rfl⟩
end
end Hh

set_option Elab.async false
set_option linter.all false
set_option maxRecDepth 100000
set_option maxHeartbeats 2000000
namespace Hh
set_option autoImplicit false
open PySem PySem.Spec PyProof.Rows L2
section
variable {X : Cx}
/-- name = {..: .. for ..} on one line, the name a local -/
theorem ps_setDc {i : Nat} {y : Str} {py : Pos} {kx vx tg iter : Expr} {ifs : List Expr} {scope : Scope} {own : List (Str × Nat)} {pos spos : Pos} {wi : TI} {g : TG} {tt : TT} {tk tv : TE} (hc : X.calm = true) (hN : X.N.Nodup) (hy : X.N[i]? = some y) (hyl : X.env.scope.names.lookup y = some .local)
    (hsw : swapsWith (.DictComp kx vx [⟨tg, iter, ifs, 0⟩] scope pos) (some (.Name y py)) spos.line X.env = pure true) (hi : PI X tg iter wi) (ok : BlkOk X.N X.env.scope scope own)
    (hg : ∀ (s : Shared) (H : Hp) (C : Addr) (cl : List (Str × Addr)) (fp : List Addr), PG (X.blk s H scope (compEnvC scope cl C X.env) fp) tg g) (ht : ∀ (s : Shared) (H : Hp) (C : Addr) (cl : List (Str × Addr)) (fp : List Addr), PTs (X.blk s H scope (compEnvC scope cl C X.env) fp) ifs tt)
    (hk : ∀ (s : Shared) (H : Hp) (C : Addr) (cl : List (Str × Addr)) (fp : List Addr), PE (X.blk s H scope (compEnvC scope cl C X.env) fp) kx tk)
    (he : ∀ (s : Shared) (H : Hp) (C : Addr) (cl : List (Str × Addr)) (fp : List Addr), PE (X.blk s H scope (compEnvC scope cl C X.env) fp) vx tv) (hs : ∀ x, foldedSetIterable iter X.env x = pure x := by intro _; rfl) :
    PS X (.Assign [.Name y py] (.DictComp kx vx [⟨tg, iter, ifs, 0⟩] scope pos) spos) (tAsg (tDc wi g tt tk tv (own.map (·.2))) (gName i)) := by
  refine ⟨fun pins s σ H D I h => ?_⟩
  rw [exec_Assign_Name_used _ _ _ _ hsw]
  refine wpAny_bind (wpAny_standAt (wpAny_bind ?_))
  show wpAny _ X.A (do let _ ← comprehension (.DictComp kx vx [⟨tg, iter, ifs, 0⟩] scope pos) scope X.env (firstIterPos [⟨tg, iter, ifs, 0⟩] pos) newDict false (eval iter X.env) (some (assign (.Name y py) X.env))) _ _ s
  have h : tDc wi g tt tk tv (own.map (·.2)) σ H (fun x H1 => gName i x σ H1 D.nx) := h
  refine wpAny_bind (thn (dc_core (Qf := fun _ s' => SP X pins D .next s') hc hN I hi ok hg ht hk he hs h fun L C s' m H' I' q hn f => ?_) fun _ s' hq => wpAny_pure (wpAny_pure hq))
  show wpAny _ _ (assign (.Name y py) X.env (.ref L)) _ _ _
  refine wpAny_assign_Name (store_ok2 (v := V.ref L) I' hN hy (.inl hyl) rfl (fun s2 I2 ⟨a, sb, ha⟩ => ?_) (.inr hyl))
  obtain ⟨f0, f1, f2, f3, f4, f5⟩ := f
  have haC : C ≠ a := by
    rcases ha with z | z
    · rw [z]; exact f1
    · exact fun e => f4 y a z e.symm
  refine ⟨m, hn.sameBut sb haC, fun h3 sb3 => ?_⟩
  exact ⟨_, H', I2.turned (t' := s2.toks) (fun b o hb e => (sb3.2 b hb).trans e) f0 f1 f3 f4 f5, q⟩
theorem swD_true {kx vx : Expr} {gs : List Comprehension} {scope : Scope} {pos py : Pos} {y : Str} {l : Nat} {env : Env} (hk : env.scope.kind = .function) (hy : env.scope.names.lookup y = some .local) (hl : (py.line == pos.line) = true)
    (ha : (scope.names.any fun (n, k) => n == y && (k == .local || k == .cell)) = false) : swapsWith (.DictComp kx vx gs scope pos) (some (.Name y py)) l env = pure true := by
  have ky : env.kindOf y = some .local := hy
  have hb : env.blockKind = .function := by unfold Env.blockKind; rw [hk]; rfl
  unfold swapsWith
  simp only [hb, ky, ha, Expr.pos, hl]
  rfl
theorem pe_dgetN {o i : Expr} {pos : Pos} {td ty : TE} (hu : X.A.units + 64 < cLine) (ho : PE X o td) (hi : PE X i ty) (hs : NoSl i) : PE X (.Subscript o i pos) (tDGet td ty) := pe_dget (by omega) ho hi hs
theorem pe_dget1N {o e : Expr} {apos cpos : Pos} {td ty : TE} (hu : X.A.units + 64 < cLine) (ho : PE X o td) (he : PE X e ty) (m : M1 X o "get" apos e cpos) : PE X (.Call (.Attribute o "get" apos) [e] [] cpos) (tDGet1 td ty) := pe_dget1 (by omega) ho he m
theorem set_dictN (hu : X.A.units + 64 < cLine) : PSet X rSetD := set_dict (by omega)
end
section
variable {c : Ctx} {ρ : List Ent} {te : TE} {C : Nat} {O : Out} {j : Nat}
theorem bk_lockSet (h : Bk c (tAsg (tLockE te) (gName j)) ρ C O) : Bk c (tLock (tAsg te (gName j))) ρ C O := h
end
end Hh

set_option Elab.async false
set_option linter.all false
set_option maxRecDepth 100000
set_option maxHeartbeats 2000000
namespace Hh
set_option autoImplicit false
open PySem PySem.Spec PyProof.Rows L2
section
variable {c : Ctx} {ρ : List Ent} {te ta tb t1 t2 : TE} {C : Nat} {P : PyData → Prop} {O : Out} {i : Nat} {ds : List PyData}
/-! ### a list of one's own is told, or lent -/
theorem bk_retOwn (hi : ρ[i]? = some (.own ds)) (hn : O.rt (.list ds)) : Bk c (tRet (tVar i)) ρ C O := fun σ I H n D w e l k1 k2 k3 k4 => by
  obtain ⟨o, h1, h2⟩ := Paired.getP e.st hi
  cases o with
  | none => exact h2.elim
  | some v =>
    obtain ⟨p, xs, rfl, a1, a2, a3, a4, a5⟩ := h2
    have s1 : Same I (upd I p (.lst xs)) := fun q o h => by rw [upd_ne (ne_of_none h a4)]; exact h
    have w1 : Wd c (upd I p (.lst xs)) H n := by
      refine ⟨fun q o h => ?_, w.i0.trans s1, w.h0, fun q h => ?_, w.bg⟩
      · by_cases z : q = p
        · subst z; rw [upd_same] at h; cases h; exact a1
        · rw [upd_ne z] at h; exact w.ih q o h
      · rw [upd_ne (fun z => h (by rw [z]; exact a2))]; exact w.nw q h
    exact ⟨_, h1, k2 _ _ _ _ s1 (w1.bgN (by omega)) (.lst upd_same (a5.mono s1)) ⟨hn, fun _ => ⟨p, rfl, a2⟩⟩⟩
theorem EnvR.sealL {I H : Hp} {σ : Sl} {p : Addr} {xs : List V} (e : EnvR c I H σ ρ) (hp : H p = some (.lst xs)) (hI : I p = none) (no : ∀ (j : Nat) (ds : List PyData), ρ[j]? = some (Ent.own ds) → σ[j]? ≠ some (some (V.ref p))) : EnvR c (upd I p (.lst xs)) H σ ρ := by
  refine ⟨?_, e.ap⟩
  have s1 : Same I (upd I p (.lst xs)) := fun q o h => by rw [upd_ne (ne_of_none h hI)]; exact h
  have gen : ∀ (σ : Sl) (ρ : List Ent), Paired (EntR c I H) σ ρ → (∀ (j : Nat) (ds : List PyData), ρ[j]? = some (Ent.own ds) → σ[j]? ≠ some (some (V.ref p))) → Paired (EntR c (upd I p (.lst xs)) H) σ ρ := by
    intro σ ρ h
    induction h with
    | nil => exact fun _ => .nil
    | @cons a b l m x r ih =>
      intro hh
      refine .cons ?_ (ih fun i M h1 => by have := hh (i + 1) M (by simpa using h1); simpa using this)
      cases b with
      | any => cases a <;> exact True.intro
      | dat d => cases a with
        | none => exact x
        | some v => exact Rp.mono s1 x
      | bag | memo _ => cases a with
        | none => exact x
        | some v => exact x
      | raw u => cases a with
        | none => exact x
        | some v => exact x
      | scr ns => cases a with
        | none => exact x
        | some v => obtain ⟨z, e1, q⟩ := x; exact ⟨z, e1, s1.seq q⟩
      | own ds => cases a with
        | none => exact x
        | some v =>
          obtain ⟨q, ys, rfl, h1, r1, r2, r3, r4⟩ := x
          have ne : q ≠ p := fun z => hh 0 ds rfl (by rw [z]; rfl)
          exact ⟨q, ys, rfl, h1, r1, r2, by rw [upd_ne ne]; exact r3, r4.mono s1⟩
      | mu M => cases a with
        | none => exact x
        | some v =>
          obtain ⟨q, o, rfl, h1, h2, r1, r2, r3, r4⟩ := x
          have ne : q ≠ p := fun z => by rw [z, hp] at h1; exact h2 _ (Option.some.inj h1).symm
          exact ⟨q, o, rfl, h1, h2, r1, r2, by rw [upd_ne ne]; exact r3, fun J s => r4 J (s1.trans s)⟩
  exact gen σ ρ e.st no
/-- the other lists of one's own lie elsewhere -/
theorem own_else {I H : Hp} {σ : Sl} {p : Addr} (e : EnvR c I H σ ρ) (hi : ρ[i]? = some (.own ds)) (hs : σ[i]? = some (some (V.ref p))) : EnvR c I H σ (ρ.set i .any) ∧ ∀ (j : Nat) (es : List PyData), (ρ.set i .any)[j]? = some (Ent.own es) → σ[j]? ≠ some (some (V.ref p)) := by
  refine ⟨?_, fun j es h1 h2 => ?_⟩
  · have q := e.set i (o := some (V.ref p)) (e := .any) True.intro (fun _ z => nomatch z)
    rwa [slot_same hs] at q
  · by_cases z : i = j
    · subst z
      rw [List.getElem?_set_self', hi] at h1
      cases h1
    · rw [List.getElem?_set_ne z] at h1
      exact z (e.ap i j p ds es hi h1 hs h2)
theorem evF_lend (hi : ρ[i]? = some (.own ds)) (h : EvF c te (ρ.set i (.dat (.list ds))) C P) (hP : ∀ d, P d → ∃ es, d = .list es ∧ noLs es = true) : EvF c te ρ C P := fun σ I H n D w e l k => by
  obtain ⟨o, h1, h2⟩ := Paired.getP e.st hi
  cases o with
  | none => exact h2.elim
  | some v =>
    obtain ⟨p, xs, rfl, a1, a2, a3, a4, a5⟩ := h2
    have s1 : Same I (upd I p (.lst xs)) := fun q o h => by rw [upd_ne (ne_of_none h a4)]; exact h
    have w1 : Wd c (upd I p (.lst xs)) H n := by
      refine ⟨fun q o h => ?_, w.i0.trans s1, w.h0, fun q h => ?_, w.bg⟩
      · by_cases z : q = p
        · subst z; rw [upd_same] at h; cases h; exact a1
        · rw [upd_ne z] at h; exact w.ih q o h
      · rw [upd_ne (fun z => h (by rw [z]; exact a2))]; exact w.nw q h
    obtain ⟨e0, nod⟩ := own_else e hi h1
    have e1 := (e0.sealL a1 a4 nod).set i (o := some (V.ref p)) (e := .dat (.list ds)) (show Rp c.K (upd I p (.lst xs)) (.ref p) (.list ds) from .lst upd_same (a5.mono s1)) (fun _ z => nomatch z)
    rw [slot_same h1, List.set_set] at e1
    refine h σ _ H n D w1 e1 l fun v d I2 H2 g2 w2 r2 p2 ⟨p', ev, hp'⟩ => ?_
    have hp2 : I2 p = some (.lst xs) := g2.ii _ _ upd_same
    have s2 : Same I (thaw I2 p) := fun q o h => by
      have ne := ne_of_none h a4
      rw [thaw_ne ne]
      exact g2.ii _ _ (s1 _ _ h)
    obtain ⟨es, ed, hno⟩ := hP d p2
    subst ed ev
    have r3 : Rp c.K (thaw I2 p) (.ref p') (.list es) := by
      obtain ⟨a, ys, e2, q1, q2⟩ := r2.lst_inv
      cases e2
      have ne : p' ≠ p := fun z => by rw [z, a1] at hp'; cases hp'
      exact .lst (by rw [thaw_ne ne]; exact q1) (RpAll.thaw hp2 hno q2)
    refine k _ _ (thaw I2 p) H2 ⟨s2, g2.hh, fun q h => ?_, g2.th⟩ ⟨fun q o h => ?_, w.i0.trans s2, w2.h0, fun q h => ?_, w2.bg⟩ r3 p2 ⟨p', rfl, hp'⟩
    · by_cases z : q = p
      · subst z; rw [thaw_at, a4]
      · rw [thaw_ne z, g2.nw q h, upd_ne z]
    · by_cases z : q = p
      · subst z; rw [thaw_at] at h; cases h
      · rw [thaw_ne z] at h; exact w2.ih q o h
    · rw [thaw_ne (fun z => h (by rw [z]; exact a2))]; exact w2.nw q h
theorem evF_listC (ha : Pv c ta ρ (.list ds)) : EvF c (tCB (fun xs H Q => ∃ p ys, xs = [.ref p] ∧ (SqL c.K H p ys ∨ SqT c.K H p ys) ∧ ∀ l, H l = none → Q (.ref l) (upd H l (.lst ys))) (tCons ta tNil)) ρ 0 (fun d => d = .list ds) := fun σ I H n Q w e l k =>
  ha σ I H n _ w e l fun v d I2 H2 g2 w2 r2 p2 => by
    subst p2
    obtain ⟨a, xs, rfl, h1, q1⟩ := r2.lst_inv
    refine ⟨a, xs, rfl, .inl (SqL.of (w2.ih _ _ h1)), fun p np => ?_⟩
    refine k _ _ (upd I2 p (.lst xs)) (upd H2 p (.lst xs)) (g2.trans (new_go w2.ih np)) (w2.new np) (.lst upd_same (q1.mono (new_go (b := none) w2.ih np).ii)) rfl ⟨p, rfl, ?_⟩
    cases hd : H p with
    | none => rfl
    | some o => exact absurd np (g2.th p (by rw [hd]; exact fun z => nomatch z))
/-- x.clear() -/
theorem bk_clear (hi : ρ[i]? = some (.own ds)) (hn : O.nx (ρ.set i (.own []))) : Bk c (tDrop (tBM0 c.K "list" rClear (tVar i))) ρ C O := fun σ I H n D w e l k1 k2 k3 k4 => by
  obtain ⟨o, h1, h2⟩ := Paired.getP e.st hi
  cases o with
  | none => exact h2.elim
  | some v =>
    obtain ⟨p, xs, rfl, a1, a2, a3, a4, a5⟩ := h2
    obtain ⟨e0, nod⟩ := own_else e hi h1
    refine ⟨.ref p, h1, .inl ⟨rfl, xs, .inl (.inl a1)⟩, p, xs, rfl, rfl, a1, ?_⟩
    obtain ⟨w2, e2⟩ := own_env2 (ds := []) (vs := []) i w e0 (isL_of a1) a2 a4 a3 nod .nil
    rw [slot_same h1, List.set_set] at e2
    exact k1 _ _ _ _ (Same.refl _) (w2.bgN (by omega)) e2 hn
/-! ### a list of two new lists: looked at, then bent -/
theorem ix_at {K : PySem.W.Frag} {H : Hp} {p : Addr} {vs : List V} {j : Nat} {v : V} {Q : VK} (hp : H p = some (.lst vs)) (hv : atI vs ((j : Nat) : Int) = some v) (q : Q v H) : rIx K (.ref p) (.int (j : Nat)) H Q := .inl ⟨p, vs, _, v, rfl, rfl, SqL.of hp, hv, q⟩
theorem pe_bm0K {X : Cx} {K : PySem.W.Frag} {o : Expr} {to : TE} {name : Str} {apos cpos : Pos} {T id : String} {r : V → List V → Hp → VK → Prop} (e : X.K = K) (pa : PlainAttrs T) (slot : Slot T name id) (hty : typeOf (.builtin id) = pure (.type "method_descriptor")) (hm : MtR X id r) (ho : PE X o to)
    (hbase : attributeBase o name X.env (eval o X.env) = eval o X.env := by rfl) (hline : (apos.endLine == cpos.line) = true := by rfl) : PE X (.Call (.Attribute o name apos) [] [] cpos) (tBM0 K T r to) := by
  subst e
  exact pe_bm0 pa slot hty hm ho hbase hline
/-- what was made in between is forgotten, the world is as it was but for new things -/
theorem back_wd {I H I4 H4 : Hp} {n m : Nat} (w : Wd c I H n) (w4 : Wd c I4 H4 m) (g : Gx c.b I H I H4) : Wd c I H4 m := by
  refine ⟨fun q o h => ?_, w.i0, fun q o nb h => g.hh q o nb (w.h0 q o nb h), w.nw, fun p e => ⟨(w.bg p e).1, (w.bg p e).2.1, (w4.bg p e).2.2⟩⟩
  by_cases hb : c.b = some q
  · rw [w.noB hb] at h; cases h
  · exact g.hh q o (fun z => hb z.symm) (w.ih q o h)
/-- x = [a new list, a new list]; if (no): ..; x[0].reverse(); x[1].append(..); x[1].reverse() -/
theorem bk_found {tc : TT} {tr rest : TS} {as bs : List PyData} {d3 : PyData} (h1 : EvF c t1 ρ 0 (fun d => d = .list as)) (h2 : EvF c t2 ρ 0 (fun d => d = .list bs)) (hc : Pt c tc (ρ.set i (.dat (.list [.list as, .list bs]))) false) (ha : Pv c ta (ρ.set i .any) d3) (hl : bs.length ≤ 1000) (hil : i < ρ.length)
    (h : Bk c rest (ρ.set i .any) C O) :
    Bk c (tSeq (tAsg (tLst (tCons t1 (tCons t2 tNil))) (gName i)) (tSeq (tIfS tc tr tNext) (tSeq (tDrop (tBM0 c.K "list" rReverse (tOp (rIx c.K) (tVar i) (tC (.int 0))))) (tSeq (tDrop (tBM c.K "list" rAppend (tOp (rIx c.K) (tVar i) (tC (.int 1))) (tCons ta tNil))) (tSeq (tDrop (tBM0 c.K "list" rReverse (tOp (rIx c.K) (tVar i) (tC (.int 1))))) rest))))) ρ C O := fun σ I H n D w e l k1 k2 k3 k4 => by
  refine h1 σ I H n _ w e (by omega) fun v1 d1 I1 H1 g1 w1 r1 p1 ⟨a1, e1, n1⟩ => ?_
  refine h2 σ I1 H1 (n + 0) _ w1 (e.go g1) (by omega) fun v2 d2 I2 H2 g2 w2 r2 p2 ⟨a2, e2, n2⟩ => ?_
  subst p1 p2 e1 e2
  refine ⟨by show 2 ≤ sizeLine; decide, fun p np => ?_⟩
  have n2' : H a2 = none := by
    cases hd : H a2 with
    | none => rfl
    | some o => exact absurd n2 (g1.th a2 (by rw [hd]; exact fun z => nomatch z))
  have g12 := g1.trans g2
  have n3' : H p = none := by
    cases hd : H p with
    | none => rfl
    | some o => exact absurd np (g12.th p (by rw [hd]; exact fun z => nomatch z))
  obtain ⟨x1, xs1, q1, hx1, hr1⟩ := (r1.mono g2.ii).lst_inv
  cases q1
  obtain ⟨x2, xs2, q2, hx2, hr2⟩ := r2.lst_inv
  cases q2
  have w3 : Wd c (upd I2 p (.lst [.ref a1, .ref a2])) (upd H2 p (.lst [.ref a1, .ref a2])) (n + 0 + 0) := w2.new np
  have gn : Gx c.b I2 H2 (upd I2 p (.lst [.ref a1, .ref a2])) (upd H2 p (.lst [.ref a1, .ref a2])) := new_go w2.ih np
  have g3 := g12.trans gn
  have rl : Rp c.K (upd I2 p (.lst [.ref a1, .ref a2])) (.ref p) (.list [.list as, .list bs]) := .lst upd_same (.cons ((r1.mono g2.ii).mono gn.ii) (.cons (r2.mono gn.ii) .nil))
  have e3 := (e.go g3).set i (o := some (V.ref p)) (e := .dat (.list [.list as, .list bs])) rl (fun _ z => nomatch z)
  refine hc _ _ _ _ _ w3 e3 (by omega) fun b I4 H4 g4 w4 pb => ?_
  subst pb
  rw [if_neg Bool.false_ne_true]
  have g04 := g3.trans g4
  have gB : Gx c.b I H I H4 := ⟨Same.refl _, g04.hh, fun _ _ => rfl, g04.th⟩
  have wB := back_wd w w4 gB
  have e0 : EnvR c I H (σ.set i (some (.ref p))) (ρ.set i .any) := e.set i True.intro (fun _ z => nomatch z)
  have eB := e0.go gB
  have hσ : (σ.set i (some (V.ref p)))[i]? = some (some (V.ref p)) := by
    rw [List.getElem?_set_self]
    rw [Paired.len e.st]; exact hil
  have hb1 : some a1 ≠ c.b := w.bne n1
  have hb2 : some a2 ≠ c.b := w.bne n2'
  have hb3 : some p ≠ c.b := w.bne n3'
  have i4 : ∀ q o, I2 q = some o → H4 q = some o := fun q o h => w4.ih q o (g4.ii q o (gn.ii q o h))
  have hp4 : H4 p = some (.lst [.ref a1, .ref a2]) := g4.hh p _ hb3 upd_same
  have ha1 : H4 a1 = some (.lst xs1) := i4 _ _ hx1
  have ha2 : H4 a2 = some (.lst xs2) := i4 _ _ hx2
  have ne13 : p ≠ a1 := fun z => by rw [z, w2.ih _ _ hx1] at np; cases np
  have ne23 : p ≠ a2 := fun z => by rw [z, w2.ih _ _ hx2] at np; cases np
  have ne12 : a2 ≠ a1 := fun z => by
    have : H1 a1 ≠ none := by
      obtain ⟨x, ys, q, hx, _⟩ := r1.lst_inv
      cases q
      rw [w1.ih _ _ hx]; exact fun z => nomatch z
    exact this (by rw [← z]; exact n2)
  have nI : ∀ {q : Addr}, H q = none → I q = none := fun h => w.ih.free h
  have nod : ∀ {q : Addr}, H q = none → ∀ (j : Nat) (ds : List PyData), (ρ.set i .any)[j]? = some (Ent.own ds) → (σ.set i (some (V.ref p)))[j]? ≠ some (some (V.ref q)) := fun h => e0.noD h
  -- x[0].reverse()
  refine ⟨.ref p, hσ, ix_at (j := 0) hp4 (v := .ref a1) rfl ⟨.inl ⟨rfl, xs1, SqL.of ha1⟩, a1, xs1, rfl, rfl, ha1, ?_⟩⟩
  have w5 : Wd c I (upd H4 a1 (.lst xs1.reverse)) _ := wB.own (w.h0n n1) (nI n1) hb1
  have e5 : EnvR c I (upd H4 a1 (.lst xs1.reverse)) _ _ := eB.own (eB.noM (isL_of ha1)) (nod n1)
  have hp5 : upd H4 a1 (.lst xs1.reverse) p = some (.lst [.ref a1, .ref a2]) := by rw [upd_ne ne13]; exact hp4
  have ha25 : upd H4 a1 (.lst xs1.reverse) a2 = some (.lst xs2) := by rw [upd_ne ne12]; exact ha2
  -- x[1].append(..)
  refine ⟨.ref p, hσ, ix_at (j := 1) hp5 (v := .ref a2) rfl ⟨.inl ⟨rfl, xs2, SqL.of ha25⟩, ?_⟩⟩
  refine ha _ I _ _ _ w5 e5 (by omega) fun v3 d3' I6 H6 g6 w6 r6 p6 => ?_
  have hp6 : H6 p = some (.lst [.ref a1, .ref a2]) := g6.hh p _ hb3 hp5
  have ha26 : H6 a2 = some (.lst xs2) := g6.hh a2 _ hb2 ha25
  have nI6 : I6 a2 = none := by rw [g6.nw a2 (by rw [ha25]; exact fun z => nomatch z)]; exact nI n2'
  refine ⟨a2, xs2, v3, rfl, rfl, ha26, by rw [hr2.length]; exact small1000 hl, ?_⟩
  have e6 := e5.go g6
  have w7 : Wd c I6 (upd H6 a2 (.lst (xs2 ++ [v3]))) _ := w6.own (w.h0n n2') nI6 hb2
  have e7 : EnvR c I6 (upd H6 a2 (.lst (xs2 ++ [v3]))) _ _ := e6.own (e6.noM (isL_of ha26)) (nod n2')
  have hp7 : upd H6 a2 (.lst (xs2 ++ [v3])) p = some (.lst [.ref a1, .ref a2]) := by rw [upd_ne ne23]; exact hp6
  -- x[1].reverse()
  refine ⟨.ref p, hσ, ix_at (j := 1) hp7 (v := .ref a2) rfl ⟨.inl ⟨rfl, _, SqL.of upd_same⟩, a2, xs2 ++ [v3], rfl, rfl, upd_same, ?_⟩⟩
  have w8 : Wd c I6 (upd (upd H6 a2 (.lst (xs2 ++ [v3]))) a2 (.lst (xs2 ++ [v3]).reverse)) _ := w7.own (w.h0n n2') nI6 hb2
  have e8 : EnvR c I6 (upd (upd H6 a2 (.lst (xs2 ++ [v3]))) a2 (.lst (xs2 ++ [v3]).reverse)) _ _ := e7.own (e7.noM (isL_of upd_same)) (nod n2')
  have sI : Same I I6 := g6.ii
  exact h _ I6 _ n D w8 e8 (by omega) (fun a b i j s w r p => k1 a b i j (sI.trans s) w r p) (fun a b i j s w r p => k2 a b i j (sI.trans s) w r p) (fun a b i j s w r p => k3 a b i j (sI.trans s) w r p) (fun a b i j s w r p => k4 a b i j (sI.trans s) w r p)
end
end Hh

set_option Elab.async false
set_option linter.all false
set_option maxRecDepth 100000
set_option maxHeartbeats 2000000
namespace Hh
set_option autoImplicit false
open PySem PySem.Spec PyProof.Rows L2
section
variable {c : Ctx} {ρ : List Ent} {tr : TA} {C C1 C2 : Nat} {P : PyData → Prop}
/-! ### keywords -/
theorem pv_kw {ar m : Nat} {pi : List Nat} {pre : List Ent → Prop} {post : List Ent → PyData → Prop} {es : List Ent} {d : PyData} {E : XK} (h : Pa c tr ρ es) (hm : es.length = m) (hpi : ∀ i ∈ pi, i < m) (hl : pi.length = ar) (hp : pre (pi.filterMap fun i => es[i]?)) (hq : ∀ r, post (pi.filterMap fun i => es[i]?) r → r = d) :
    Pv c (tCallKw (spD c.K ar 0 pre post) pi m E tr) ρ d :=
  ev_callKw h (fun es' e => by subst e; exact hm) hpi hl (fun es' e => by subst e; exact hp) (fun es' r e q => by subst e; exact hq r q) (Nat.le_refl _)
theorem evF_kw {ar m : Nat} {pi : List Nat} {pre : List Ent → Prop} {post : List Ent → PyData → Prop} {es : List Ent} {E : XK} (ha : Pa c tr ρ es) (hm : es.length = m) (hpi : ∀ i ∈ pi, i < m) (hl : pi.length = ar) (hp : pre (pi.filterMap fun i => es[i]?)) (hP : ∀ d, post (pi.filterMap fun i => es[i]?) d → P d) :
    EvF c (tCallKw (spF c.K ar 0 pre post) pi m E tr) ρ 0 P := fun σ I H n Q w e l k =>
  ha σ I H n _ w e (by omega) fun vs es' I2 H2 g2 w2 r2 p2 => by
    subst p2
    have lv := Paired.len r2
    have rp : ∀ (pi : List Nat), (∀ i ∈ pi, i < m) → Paired (ArgR c.K c.b c.B I2) (permV pi vs) (pi.filterMap fun i => es'[i]?) ∧ (permV pi vs).length = pi.length := by
      intro pi
      induction pi with
      | nil => exact fun _ => ⟨.nil, rfl⟩
      | cons i pi ih =>
        intro h
        have hi := h i List.mem_cons_self
        obtain ⟨ih1, ih2⟩ := ih fun j hj => h j (List.mem_cons_of_mem _ hj)
        have he : es'[i]? = some (es'[i]'(by omega)) := List.getElem?_eq_getElem (by omega)
        obtain ⟨v, hv, rv⟩ := Paired.getP r2 he
        unfold permV at ih1 ih2 ⊢
        rw [List.filterMap_cons, List.filterMap_cons, hv, he]
        exact ⟨.cons rv ih1, by rw [List.length_cons, ih2]; rfl⟩
    obtain ⟨q1, q2⟩ := rp pi hpi
    refine ⟨by omega, c.b, c.B, I2, n, _, by rw [q2]; exact hl, q1, w2.ih, fun p e => ⟨w2.noB e, (w2.bg p e).2.2⟩, by omega, hp, fun v d I3 H3 g3 ih3 hb r3 p3 ⟨p, ev, hpn⟩ => ?_⟩
    refine k v d I3 H3 (g2.trans g3) ((w2.go g3 ih3 hb).bgN (by omega)) r3 (hP _ p3) ⟨p, ev, ?_⟩
    cases hd : H p with
    | none => rfl
    | some o => exact absurd hpn (g2.th p (by rw [hd]; exact fun z => nomatch z))
end
end Hh

set_option Elab.async false
set_option linter.all false
set_option maxRecDepth 100000
set_option maxHeartbeats 2000000
namespace PySem
open Sem (wp)
set_option maxHeartbeats 1000000 in
theorem meets_enumerate_newT (t : Addr) (items : Array Value) :
    Meets (Builtin.«enumerate.__new__» ⟨[.type "enumerate", .ref t], []⟩) (fun _ R s => s.heap.IsTuple t items ∧
      R (.ok (.ret (.ref (s.heap.push { cls := .type "tuple_iterator", data := .fields #[.ref t, .int 0 0] }).objs.size)))
        { s with heap := (s.heap.push { cls := .type "tuple_iterator", data := .fields #[.ref t, .int 0 0] }).push { cls := .type "enumerate", data := .fields #[.none, .bool false, .ref s.heap.objs.size, rawInt 0, .none, .none] } }) :=
  .of_wp fun prog w A R s h => by
    obtain ⟨hp, g, d, tk, os⟩ := s; obtain ⟨h1, h⟩ := h
    have hsub := sub_enumerate
    have q1 : ∀ {A' : Around} {E : Value → Shared → Prop} {Q : Value → Shared → Prop}, Q (.ref hp.objs.size) ⟨hp.push { cls := .type "tuple_iterator", data := .fields #[.ref t, .int 0 0] }, g, d, tk, os⟩ → wpAny (model prog w) A' (pyIter (.ref t)) Q E ⟨hp, g, d, tk, os⟩ :=
      fun q => (begins_tuple t items).iter prog w _ _ ⟨hp, g, d, tk, os⟩ _ h1 q
    wp_walk using q1
    refine wpAny_stack_any fun st => wpAny_pure ?_
    split
    · rename_i c _ _ _ _ _
      cases (c == Value.type "enumerate")
      · wp_walk using q1
        exact ⟨_, rfl, h⟩
      · wp_walk using q1
        exact ⟨_, rfl, h⟩
    · wp_walk using q1
      exact ⟨_, rfl, h⟩
section
variable {prog : Program} {w : World} {A : Around} {E : Value → Shared → Prop} {s : Shared}
theorem call_enumerate_tuple {t : Addr} {items : Array Value} {Q : Value → Shared → Prop} (hL : s.heap.IsTuple t items)
    (h : ∀ h', IsEnum h' (s.heap.objs.size + 1) s.heap.objs.size 0 .none → h'.IsTupleIter s.heap.objs.size t 0 → h'.objs.size = s.heap.objs.size + 2 →
      (∀ b o, s.heap.get? b = some o → h'.get? b = some o) → Q (.ref (s.heap.objs.size + 1)) { s with heap := h' }) :
    wpAny (model prog w) A (call (.type "enumerate") [.ref t]) Q E s := by
  refine callType_new F.called_enumerate (by decide) (F.typeCall_enumerate_1 _) (F.newCall_enumerate_1 _) (fun obj => F.args_object_init_2 obj _) F.entry_enumerate_new
    (meets_enumerate_newT t items) ⟨hL, ?_⟩
  have hz : (s.heap.push { cls := .type "tuple_iterator", data := .fields #[.ref t, .int 0 0] }).objs.size = s.heap.objs.size + 1 := Heap.size_push ..
  show _ ∧ _
  rw [hz]
  have he : IsEnum ((s.heap.push { cls := .type "tuple_iterator", data := .fields #[.ref t, .int 0 0] }).push
      { cls := .type "enumerate", data := .fields #[.none, .bool false, .ref s.heap.objs.size, rawInt 0, .none, .none] }) (s.heap.objs.size + 1) s.heap.objs.size 0 .none := by
    have := Heap.get?_push_size (s.heap.push { cls := .type "tuple_iterator", data := .fields #[.ref t, .int 0 0] })
      (o := { cls := .type "enumerate", data := .fields #[.none, .bool false, .ref s.heap.objs.size, rawInt 0, .none, .none] }) rfl
    rw [hz] at this; exact this
  refine ⟨⟨_, he, rfl⟩, h _ he ⟨_, Heap.get?_push_of_some _ (Heap.get?_push_size _ rfl), rfl, rfl⟩ (by rw [Heap.size_push, hz]) fun b o x => Heap.get?_push_of_some _ (Heap.get?_push_of_some _ x)⟩
end
end PySem
namespace Hh
set_option autoImplicit false
open PySem PySem.Spec PyProof.Rows L2
/-- the tuple at a, each item with its place -/
def IteT (K : PySem.W.Frag) (a : Addr) : It :=
  ⟨fun i H => ∃ (xs : List V) (x : V), SqT K H a xs ∧ xs[i]? = some x, fun i H v H' => ∃ T x, v = .ref T ∧ H T = none ∧ H' = upd H T (.tup [.int (i : Nat), x]) ∧ ∀ xs, SqT K H a xs → xs[i]? = some x, fun i H => ∃ xs : List V, SqT K H a xs ∧ xs.length ≤ i⟩
theorem tup_is {h : Heap} {a : Addr} {items : Array Value} (p : IsTup h a items) : h.IsTuple a items := by
  obtain ⟨o, h1, h2, n, h3⟩ := p
  exact ⟨o, h1, h2, n, h3⟩
theorem iter_ne {h : Heap} {a it : Addr} {i : Nat} {items : Array Value} (p : h.IsTuple a items) (q : h.IsTupleIter it a i) : a ≠ it := fun z => by
  obtain ⟨o, h1, h2, _⟩ := p
  obtain ⟨o2, h3, h4, _⟩ := q
  rw [z, h3] at h1
  cases h1
  rw [h4] at h2
  exact absurd (Value.type.inj h2) (by decide)
theorem enum_ne {h : Heap} {a e it : Addr} {i : Int} {old : Value} {items : Array Value} (p : h.IsTuple a items) (q : IsEnum h e it i old) : e ≠ a := fun z => by
  obtain ⟨o, h1, h2, _⟩ := p
  rw [← z, q] at h1
  cases h1
  exact absurd (Value.type.inj h2) (by decide)
/-- the end alone -/
theorem draws_end {prog : Program} {w : World} {A : Around} (hh : A.handled = none) (it t : Addr) (items : Array Value) (hne : t ≠ it) (i : Nat) (hi : items[i]? = none) :
    Draws prog w A it [it, t] i (fun _ _ => True) (fun j h => j = i ∧ h.IsTupleIter it t i ∧ h.IsTuple t items) where
  live := fun _ _ st => let ⟨o, ho, _⟩ := st.2.1; ⟨o, ho⟩
  frame := fun _ _ _ st hk => ⟨st.1, st.2.1.at fun o e => hk it (by simp) o e, st.2.2.at fun o e => hk t (by simp) o e⟩
  item := fun j s Q E hj st _ => absurd st.1 (by omega)
  done := fun s Q E st hE => wpAny_nextOf_tuple_end hh st.2.1 st.2.2 hi hE
theorem turn_enumT {P : Program} {w : World} {K : PySem.W.Frag} {elts : List Expr} {kk : Nat} {tpos : Pos} (a e it : Addr) :
    Turn P w K (.Tuple elts kk tpos) (IteT K a) [e, it] e (fun i h => (∃ old, IsEnum h e it ((i : Nat) : Int) old) ∧ h.IsTupleIter it a i ∧ e ≠ it) where
  mem := by simp
  obj := fun i h st b hb => by
    obtain ⟨⟨old, he⟩, ⟨o, ho, hc, hd⟩, _⟩ := st
    have e' : b = e ∨ b = it := by simpa using hb
    rcases e' with z | z
    · rw [z]; exact ⟨_, he, fun v q => nomatch q⟩
    · rw [z]; exact ⟨o, ho, fun v q => by rw [hd] at q; cases q⟩
  keep := fun i h h' st k => let ⟨⟨old, he⟩, hi, hne⟩ := st; ⟨⟨old, k e (by simp) _ he⟩, hi.at fun o q => k it (by simp) o q, hne⟩
  item := by
    intro X hP hw hK hc i pins s σ H E I hf st hg
    subst hP hw hK
    obtain ⟨⟨old, he⟩, hit, hne⟩ := st
    obtain ⟨xs, x, hq, hx⟩ := hg
    obtain ⟨its, rv, p, hz⟩ := I.tuple hq
    obtain ⟨u, hu, ru⟩ := rv.get hx
    have hel : e < s.heap.objs.size := Heap.lt_size he
    have hil : it < s.heap.objs.size := by obtain ⟨_, q, _⟩ := hit; exact Heap.lt_size q
    have hait := iter_ne (tup_is p) hit
    have hea := enum_ne (tup_is p) he
    have hlt : i < its.toArray.size := by
      have := (List.getElem?_eq_some_iff.mp hu).1
      simpa using this
    refine wpAny_pyNext_enum_itemD (Draws.tuple (by first | exact I.ok.hd hc | rfl) it a hait its.toArray) he ⟨hit, tup_is p⟩ hlt hne (by simp [hne, hea]) fun x' h' tk hP ho hs' hT hsz hk => ?_
    have ex : x' = u := by
      have h1 : its[i]? = some x' := by simpa using hP
      exact Option.some.inj (h1.symm.trans hu)
    subst ex
    obtain ⟨hit', _⟩ := hs'
    refine ⟨_, rfl, wpAny_letOwnedTupleGo_enum (s := { s with heap := h', toks := tk + 1 }) ho fun h'' he' sb => ?_⟩
    have hT2 : h''.get? s.heap.objs.size = some { cls := .type "tuple", data := .seq #[.int i tk, x'] } := (sb.2 _ (Nat.ne_of_gt hel)).trans hT
    have new : ObjOk X.prog X.w (upd H s.heap.objs.size (.tup [.int (i : Nat), x])) h'' s.heap.objs.size (.tup [.int (i : Nat), x]) :=
      ⟨by show 2 ≤ sizeLine; decide, [.int i tk, x'], .cons ⟨_, rfl⟩ (.cons ru .nil), ⟨_, hT2, rfl, _, rfl⟩⟩
    have I1 : Inv X pins σ (upd H s.heap.objs.size (.tup [.int (i : Nat), x])) { s with heap := h'', toks := tk + 1 } :=
      I.turnedNew (ch := [e, it]) (fun b ob hb q => (sb.2 b (fun z => hb (by simp [z]))).trans (hk b ob (fun z => hb (by simp [z])) (fun z => hb (by simp [z])) q)) hf (Nat.le_refl _) new
    refine ⟨.ref s.heap.objs.size, _, I1, rfl, ⟨_, x, rfl, I.hok.fresh (Nat.le_refl _), rfl, fun ys hy => by rw [I.tuple_inj hy hq]; exact hx⟩, ⟨⟨x', ?_⟩, hit'.at fun o q => (sb.2 it (Ne.symm hne)).trans q, hne⟩, fun b hb => ?_⟩
    · have e1 : ((i + 1 : Nat) : Int) = (i : Int) + 1 := by omega
      rw [e1]; exact he'
    · have hb' : b < s.heap.objs.size := by
        have e' : b = e ∨ b = it := by simpa using hb
        rcases e' with z | z
        · rw [z]; exact hel
        · rw [z]; exact hil
      rw [upd_ne (Nat.ne_of_lt hb')]
      exact (hf b hb).1
  done := by
    intro X hP hw hK hc i pins s σ H E I hf st hg
    subst hP hw hK
    obtain ⟨⟨old, he⟩, hit, hne⟩ := st
    obtain ⟨xs, hq, hx⟩ := hg
    obtain ⟨its, rv, p, hz⟩ := I.tuple hq
    obtain ⟨f0, f1, f2, f3, f4, f5⟩ := hf it (by simp)
    have hl := rv.length
    exact wpAny_pyNext_enum_endD (draws_end (by first | exact I.ok.hd hc | rfl) it a its.toArray (iter_ne (tup_is p) hit) i (by simp; omega)) he ⟨rfl, hit, tup_is p⟩ fun h' eb => ⟨rfl, I.turned (t' := s.toks) (fun b o hb q => eb b o hb q) f0 f1 f3 f4 f5⟩
  self := fun A i s Q E st h => let ⟨⟨_, he⟩, _⟩ := st; wpAny_pyIter_enum he h
def iEnumT (K : PySem.W.Frag) (ta : TA) : TI := fun σ H R => ta σ H fun vs H1 => ∃ a xs, vs = [.ref a] ∧ SqT K H1 a xs ∧ R (IteT K a) H1
theorem pi_enumT {X : Cx} {K : PySem.W.Frag} {e : Expr} {ta : TA} {p pos tpos : Pos} {elts : List Expr} {kk : Nat} (eK : X.K = K) (hg : Gl X "enumerate") (hm : X.mg "enumerate" = none) (ha : PA X [e] ta) (hs : starEach [e] X.env = [(false, eval e X.env)] := by rfl) :
    PI X (.Tuple elts kk tpos) (.Call (.Name "enumerate" p) [e] [] pos) (iEnumT K ta) := by
  subst eK
  refine ⟨fun pins s σ H R I h => ?_⟩
  refine Call_ (ld_blt I hg hm boot_enumerate (PyProof.Rows.callWith_type1 (thn (ha.run pos pins s σ H _ I h) fun us s1 ⟨vs, H1, I1, r1, q1⟩ => ?_) hs rfl))
  obtain ⟨a, xs, ex, hq, q⟩ := q1
  subst ex
  cases r1 with
  | cons r rr =>
    cases rr
    cases r
    obtain ⟨its, rv, p', hz⟩ := I1.tuple hq
    refine call_enumerate_tuple (tup_is p') fun h' he hit hsz hk => wpAny_pyIter_enum he ?_
    have I2 : Inv X pins σ H1 { s1 with heap := h' } := I1.kept (t' := s1.toks) hk
    refine ⟨s1.heap.objs.size + 1, [s1.heap.objs.size + 1, s1.heap.objs.size], _, _, H1, rfl, I2, turn_enumT a (s1.heap.objs.size + 1) s1.heap.objs.size, ⟨⟨.none, he⟩, hit, Nat.succ_ne_self _⟩, fun b hb => ?_, q⟩
    have e' : b = s1.heap.objs.size + 1 ∨ b = s1.heap.objs.size := by simpa using hb
    have hle : s1.heap.objs.size ≤ b := by
      rcases e' with z | z
      · rw [z]; exact Nat.le_add_right _ _
      · rw [z]; exact Nat.le_refl _
    exact I1.fpOk hle (I1.hok.fresh hle)
theorem iw_enumT {c : Ctx} {ρ : List Ent} {ta : TE} {g : TG} {tgs : List Nat} {f : PyData → List Ent → List Ent} {ds : List PyData} (ha : Pv c ta ρ (.tuple ds)) (ht : ∀ d ∈ enumD ds, Tg c g tgs d (f d)) : Iw c (iEnumT c.K (tCons ta tNil)) g ρ 0 tgs f (fun items => items = enumD ds) := fun σ I H n R w e l k =>
  ha σ I H n _ w e l fun v d I2 H2 g2 w2 r2 p2 => by
    subst p2
    obtain ⟨a, xs, rfl, hs, hr⟩ := r2.tup_inv
    refine ⟨a, xs, rfl, seqT_mono w2.ih hs, k _ I2 H2 _ g2 w2 ⟨fun i I H n s w h => ?_, fun i d I H n x H' σ ρ Q s w e hd hy kk => ?_, fun i I H n s w h => ?_⟩ rfl⟩
    · rw [enumD_len, ← hr.length] at h
      exact ⟨xs, xs[i], seqT_mono (s.trans w.ih) hs, List.getElem?_eq_getElem h⟩
    · obtain ⟨T, x1, rfl, nT, rfl, hy⟩ := hy
      obtain ⟨x2, hx2, rfl⟩ := enumD_get hd
      obtain ⟨v, hv, rv⟩ := hr.get hx2
      have ex : x1 = v := Option.some.inj ((hy xs (seqT_mono (s.trans w.ih) hs)).symm.trans hv)
      subst ex
      have gn : Gx c.b I H (upd I T (.tup [.int (i : Nat), x1])) (upd H T (.tup [.int (i : Nat), x1])) := new_go w.ih nT
      exact ht _ (List.mem_of_getElem? hd) σ ρ _ _ n _ Q (w.new nT) (e.go gn) (.tup (.inl (.inl upd_same)) (.cons (.int _) (.cons ((rv.mono s).mono gn.ii) .nil))) fun σ2 e2 s2 => kk σ2 _ _ gn (w.new nT) e2 s2
    · rw [enumD_len, ← hr.length] at h
      exact ⟨xs, seqT_mono (s.trans w.ih) hs, h⟩
end Hh

set_option Elab.async false
set_option linter.all false
set_option maxRecDepth 100000
set_option maxHeartbeats 2000000
namespace Hh
set_option autoImplicit false
open PySem PySem.Spec PyProof.Rows L2
/-! ### a memo: a dict that is handed on and filled, each value told by its key -/
structure MemP (S U L : List Int) (kvs : List (Key × V)) : Prop where
  nd : (kvs.map (·.1)).Nodup
  vl : ∀ q ∈ kvs, ∃ i : Int, q = (.inl i, .bl (decide (i ∈ L))) ∧ i ∈ U
  fs : ∀ n ∈ S, (valV kvs (.inl n : Key)).isSome = true
def memB (S U L : List Int) : BInv := ⟨fun o _ => ∃ kvs : List (Key × V), o = .dK kvs ∧ MemP S U L kvs, fun _ _ _ h _ => h, fun _ _ ⟨kvs, h, _⟩ a b e => by rw [h] at e; cases e⟩
theorem nodup_le {α : Type} [DecidableEq α] : ∀ {l m : List α}, l.Nodup → (∀ x ∈ l, x ∈ m) → l.length ≤ m.length
  | [], _, _, _ => Nat.zero_le _
  | x :: l, m, h, hs => by
    rw [List.nodup_cons] at h
    have hx := hs x List.mem_cons_self
    have := nodup_le (l := l) (m := m.erase x) h.2 fun y hy => by
      have ne : y ≠ x := fun z => h.1 (by rw [← z]; exact hy)
      exact (List.mem_erase_of_ne ne).mpr (hs y (List.mem_cons_of_mem _ hy))
    rw [List.length_erase_of_mem hx] at this
    have := List.length_pos_of_mem hx
    rw [List.length_cons]
    omega
theorem MemP.len {S U L : List Int} {kvs : List (Key × V)} (h : MemP S U L kvs) : kvs.length ≤ U.length := by
  have := nodup_le (l := kvs.map (·.1)) (m := U.map fun i => (.inl i : Key)) h.nd fun x hx => by
    obtain ⟨q, hq, rfl⟩ := List.mem_map.mp hx
    obtain ⟨i, rfl, hi⟩ := h.vl q hq
    exact List.mem_map.mpr ⟨i, hi, rfl⟩
  rwa [List.length_map, List.length_map] at this
theorem MemP.val {S U L : List Int} {kvs : List (Key × V)} (h : MemP S U L kvs) {n : Int} {v : V} (e : valV kvs (.inl n : Key) = some v) : v = .bl (decide (n ∈ L)) := by
  unfold valV at e
  rw [Option.map_eq_some_iff] at e
  obtain ⟨q, hq, rfl⟩ := e
  have h1 := List.mem_of_find?_eq_some hq
  have h2 : q.1 = (Sum.inl n : Key) := of_decide_eq_true (List.find?_some (p := fun kv : Key × V => decide (kv.1 = (Sum.inl n : Key))) hq)
  obtain ⟨i, rfl, hi⟩ := h.vl q h1
  have e5 : i = n := by simpa using h2
  rw [e5]
theorem MemP.put {S U L : List Int} {kvs : List (Key × V)} (h : MemP S U L kvs) {n : Int} (hn : n ∈ U) : MemP S U L (putK kvs (.inl n : Key) (.bl (decide (n ∈ L)))) ∧ (valV (putK kvs (.inl n : Key) (.bl (decide (n ∈ L)))) (.inl n : Key)).isSome = true := by
  unfold putK
  by_cases c : (kvs.any fun kv => decide (kv.1 = (.inl n : Key))) = true
  · have e : (kvs.map fun kv => if kv.1 = (.inl n : Key) then (kv.1, V.bl (decide (n ∈ L))) else kv) = kvs := by
      refine (List.map_congr_left fun q hq => ?_).trans (List.map_id kvs)
      obtain ⟨i, rfl, hi⟩ := h.vl q hq
      show (if (Sum.inl i : Key) = Sum.inl n then ((Sum.inl i : Key), V.bl (decide (n ∈ L))) else _) = _
      split
      · rename_i z
        have e5 : i = n := by simpa using z
        rw [e5]; rfl
      · rfl
    rw [if_pos c, e]
    exact ⟨h, by rw [← valV_any]; exact c⟩
  · rw [if_neg c]
    have c' : valV kvs (.inl n : Key) = none := by
      rw [valV_any] at c
      cases z : valV kvs (.inl n : Key) with
      | none => rfl
      | some v => rw [z] at c; exact absurd rfl c
    refine ⟨⟨?_, fun q hq => ?_, fun m hm => ?_⟩, by rw [valV_snoc _ _ _ _ c', if_pos rfl]; rfl⟩
    · rw [List.map_append, List.nodup_append]
      refine ⟨h.nd, by simp, fun a ha b hb => ?_⟩
      rw [List.map_singleton, List.mem_singleton] at hb
      subst hb
      rintro rfl
      obtain ⟨q, hq, e⟩ := List.mem_map.mp ha
      exact c (List.any_eq_true.mpr ⟨q, hq, decide_eq_true e⟩)
    · rcases List.mem_append.mp hq with z | z
      · exact h.vl q z
      · rw [List.mem_singleton] at z
        exact ⟨n, z, hn⟩
    · rw [valV_snoc _ _ _ _ c']
      split
      · rfl
      · exact h.fs m hm
theorem memB_inj {S U L S' U' L' : List Int} (h : memB S U L = memB S' U' L') (hS : ∀ x ∈ S, x ∈ U) {n : Int} (hn : n ∈ U) : n ∈ U' ∧ (n ∈ L ↔ n ∈ L') := by
  have all : ∀ (l : List Int), (∀ x ∈ l, x ∈ U) → ∃ kvs, MemP l U L kvs := by
    intro l
    induction l with
    | nil => exact fun _ => ⟨[], .nil, (fun _ h => nomatch h), fun _ h => nomatch h⟩
    | cons x l ih =>
      intro hx
      obtain ⟨kvs, k⟩ := ih fun y hy => hx y (List.mem_cons_of_mem _ hy)
      have p := k.put (hx x List.mem_cons_self)
      refine ⟨_, p.1.nd, p.1.vl, fun m hm => ?_⟩
      rcases List.mem_cons.mp hm with rfl | hm
      · exact p.2
      · exact p.1.fs m hm
  obtain ⟨kvs, k⟩ := all (n :: S) fun x hx => (List.mem_cons.mp hx).elim (fun e => by rw [e]; exact hn) (hS x)
  have h1 : (memB S U L).P (.dK kvs) 0 := ⟨_, rfl, k.nd, k.vl, fun m hm => k.fs m (List.mem_cons_of_mem _ hm)⟩
  rw [h] at h1
  obtain ⟨kvs', e, q⟩ := h1
  cases e
  have hv := k.fs n List.mem_cons_self
  cases hg : valV kvs (.inl n : Key) with
  | none => rw [hg] at hv; cases hv
  | some v =>
    have e1 := k.val hg
    have e2 := q.val hg
    rw [e1] at e2
    have e6 : decide (n ∈ L) = decide (n ∈ L') := by simpa using e2
    unfold valV at hg
    rw [Option.map_eq_some_iff] at hg
    obtain ⟨qq, hq, rfl⟩ := hg
    obtain ⟨i, rfl, hi⟩ := q.vl qq (List.mem_of_find?_eq_some hq)
    have h2 : (Sum.inl i : Key) = Sum.inl n := of_decide_eq_true (List.find?_some (p := fun kv : Key × V => decide (kv.1 = (Sum.inl n : Key))) hq)
    have e5 : i = n := by simpa using h2
    subst e5
    exact ⟨hi, by simpa using e6⟩
section
variable {c : Ctx} {ρ : List Ent} {tr : TA} {te tk : TE} {C : Nat} {O : Out} {i : Nat} {n : Int} {S U L : List Int} {M : BInv}
theorem memo_at {σ : Sl} {I H : Hp} {m : Nat} (hi : ρ[i]? = some (.memo (memB S U L))) (e : EnvR c I H σ ρ) (w : Wd c I H m) : ∃ p kvs, σ[i]? = some (some (.ref p)) ∧ c.b = some p ∧ c.B = memB S U L ∧ H p = some (.dK kvs) ∧ MemP S U L kvs := by
  obtain ⟨o, h1, h2⟩ := Paired.getP e.st hi
  cases o with
  | none => exact h2.elim
  | some v =>
    obtain ⟨p, rfl, hb, hB⟩ := h2
    obtain ⟨_, _, o, ho, hP⟩ := w.bg p hb
    rw [hB] at hP
    obtain ⟨kvs, rfl, q⟩ := hP
    exact ⟨p, kvs, h1, hb, hB, ho, q⟩
theorem pa_memo {es : List Ent} (h : ρ[i]? = some (.memo M)) (hr : Pa c tr ρ es) : Pa c (tCons (tVar i) tr) ρ (.memo M :: es) := fun σ I H n Q w e l k => by
  obtain ⟨o, h1, h2⟩ := Paired.getP e.st h
  cases o with
  | none => exact h2.elim
  | some v =>
    refine ⟨v, h1, hr σ I H n _ w e l fun vs es' I3 H3 g3 w3 r3 p3 => ?_⟩
    subst p3
    exact k (v :: vs) (.memo M :: es') I3 H3 g3 w3 (.cons h2 r3) rfl
/-- what lies at b is given another that is as it should be -/
theorem Wd.memSet {I H : Hp} {m : Nat} {p : Addr} {kvs : List (Key × V)} (w : Wd c I H m) (hb : c.b = some p) (hB : c.B = memB S U L) (h : MemP S U L kvs) : Wd c I (upd H p (.dK kvs)) m := by
  have ip : I p = none := w.noB hb
  refine ⟨fun q o e => ?_, w.i0, fun q o ne e => ?_, w.nw, fun q e => ?_⟩
  · rw [upd_ne (ne_of_none e ip)]; exact w.ih q o e
  · rw [upd_ne fun z => ne (by rw [z]; exact hb.symm)]; exact w.h0 q o ne e
  · rw [hb] at e
    cases e
    exact ⟨(w.bg p hb).1, (w.bg p hb).2.1, by rw [hB]; exact ⟨_, upd_same, kvs, rfl, h⟩⟩
theorem memGx {I H : Hp} {p : Addr} {o o' : HO} (hp : H p = some o) : Gx (some p) I H I (upd H p o') :=
  ⟨Same.refl _, fun q x ne e => by rw [upd_ne fun z => ne (by rw [z])]; exact e, fun _ _ => rfl, fun q e => by
    by_cases z : q = p
    · subst z; rw [upd_same]; exact fun z => nomatch z
    · rw [upd_ne z]; exact e⟩
theorem slot_int {σ : Sl} {I H : Hp} {j : Nat} (hj : ρ[j]? = some (.dat (.int n))) (e : EnvR c I H σ ρ) : σ[j]? = some (some (.int n)) := by
  obtain ⟨o, h1, h2⟩ := Paired.getP e.st hj
  cases o with
  | none => exact h2.elim
  | some v =>
    have h3 : Rp c.K I v (.int n) := h2
    rw [h1, h3.int_inv]
/-- if n not in known: known[n] = x; return known[n] -/
theorem bk_memo {t : TS} {j : Nat} (hi : ρ[i]? = some (.memo (memB S U L))) (hj : ρ[j]? = some (.dat (.int n))) (hU : n ∈ U) (hl : U.length ≤ 1000)
    (hb : n ∉ S → Bk c t ρ 0 { nx := fun ρ' => ρ'[i]? = some (.memo (memB S U L)) ∧ ρ'[j]? = some (.dat (.int n)) ∧ Pv c te ρ' (.bool (decide (n ∈ L))) }) (hr : O.rt (.bool (decide (n ∈ L)))) (hf : O.fr = false := by rfl) :
    Bk c (tSeq (tIfS (tTest (tOp rDNot (tVar j) (tVar i))) (tSeq t (tAsg te (gSub (tVar i) (tVar j) rSetD))) tNext) (tRet (tDGet (tVar i) (tVar j)))) ρ 0 O := fun σ I H m D w e l k1 k2 k3 k4 => by
  obtain ⟨p, kvs, h1, hbp, hB, ho, hP⟩ := memo_at hi e w
  have hsj := slot_int hj e
  refine ⟨_, hsj, _, h1, p, valV kvs (.inl n : Key), rfl, DGet.k (k := .inl n) ho, _, rfl, ?_⟩
  cases hv : valV kvs (.inl n : Key) with
  | some v =>
    have ev := hP.val hv
    rw [if_neg (by simp)]
    have g : DGet H p (.int n) (some v) := by rw [← hv]; exact DGet.k (k := .inl n) ho
    refine ⟨_, h1, _, hsj, p, v, rfl, g, ?_⟩
    rw [ev]
    exact k2 _ _ I H (Same.refl _) (w.bgN (by omega)) (.bl _) ⟨hr, fun z => by rw [hf] at z; cases z⟩
  | none =>
    rw [if_pos (by simp)]
    refine hb (fun z => by have := hP.fs n z; rw [hv] at this; cases this) σ I H m _ w e l (fun σ' ρ' I' H' s w' e' ⟨a1, a2, a3⟩ => ?_) (fun _ _ _ _ _ _ _ z => z.1.elim) (fun _ _ _ _ _ _ _ z => z.elim) (fun _ _ _ _ _ _ _ z => z.elim)
    refine a3 σ' I' H' _ _ w' e' (by omega) fun v d I2 H2 g2 w2 r2 p2 => ?_
    subst p2
    obtain rfl := r2.bl_inv
    obtain ⟨p', kvs', h1', hb', _, ho', hP'⟩ := memo_at a1 (e'.go g2) w2
    have hsj' := slot_int a2 e'
    have hlen := hP'.len
    have hput := hP'.put hU
    refine ⟨_, h1', _, hsj', p', _, rfl, DPut.k (k := .inl n) ho' (small1000 (by omega)), ?_⟩
    cases hv2 : valV (putK kvs' (.inl n : Key) (V.bl (decide (n ∈ L)))) (.inl n : Key) with
    | none => rw [hv2] at hput; cases hput.2
    | some v2 =>
      have ev := hput.1.val hv2
      have g : DGet (upd H2 p' (.dK (putK kvs' (.inl n : Key) (V.bl (decide (n ∈ L)))))) p' (.int n) (some v2) := by rw [← hv2]; exact DGet.k (k := .inl n) upd_same
      refine ⟨_, h1', _, hsj', p', v2, rfl, g, ?_⟩
      rw [ev]
      exact k2 _ _ I2 _ (s.trans g2.ii) ((w2.memSet hb' hB hput.1).bgN (by omega)) (.bl _) ⟨hr, fun z => by rw [hf] at z; cases z⟩
end
/-- a dict of [(n, True) ..] that is a memo from there on -/
theorem memP_new {ns U L : List Int} (hn : ns.Nodup) (hU : ∀ n ∈ ns, n ∈ U) (hL : ∀ n ∈ ns, n ∈ L) : MemP ns U L (kvT ns) := by
  refine ⟨?_, fun q hq => ?_, fun n h => ?_⟩
  · unfold kvT
    rw [List.map_map]
    exact hn.map _ fun a b z => by simpa using z
  · obtain ⟨i, hi, rfl⟩ := List.mem_map.mp hq
    exact ⟨i, by rw [decide_eq_true (hL i hi)], hU i hi⟩
  · rw [kvT_val, any_mem, decide_eq_true h]
theorem bk_newMemo {K : PySem.W.Frag} {b : Option Addr} {B : BInv} {H0 I0 : Hp} {ρ : List Ent} {te : TE} {i : Nat} {r : TS} {O : Out} {ns U L : List Int} (ha : Pv ⟨K, b, H0, I0, B⟩ te ρ (.list (ns.map fun n => .tuple [.int n, .bool true])))
    (hn : ns.Nodup) (hU : ∀ n ∈ ns, n ∈ U) (hL : ∀ n ∈ ns, n ∈ L) (no : ∀ (j : Nat), ρ[j]? ≠ some Ent.bag ∧ ∀ e : Ent, ρ[j]? = some e → e.plain)
    (h : ∀ (p : Addr) (H1 I1 : Hp), Bk ⟨K, some p, H1, I1, memB ns U L⟩ r (ρ.set i (.memo (memB ns U L))) 0 { rt := O.rt }) (hf : O.fr = false := by rfl) :
    Bk ⟨K, b, H0, I0, B⟩ (tSeq (tAsg (tCB (rDictP K) (tCons te tNil)) (gName i)) r) ρ 0 O := fun σ I H n D w e l k1 k2 k3 k4 => by
  show tAsg (tCB (rDictP K) (tCons te tNil)) (gName i) { D with nx := r D } σ H
  refine ha σ I H n _ w e l fun v d I2 H2 g2 w2 r2 p2 => ?_
  subst p2
  obtain ⟨a, xs, rfl, hs, hr⟩ := r2.lst_inv
  obtain ⟨ps, rfl, pp⟩ := pairs_inv w2.ih hr
  refine ⟨a, ps, kvT ns, rfl, SqL.of (w2.ih _ _ hs), pp, fun p np => ?_⟩
  rw [show mergeK [] (kvT ns) = kvT ns from merge_kvT ns [] (by simpa using hn)]
  have ip := w2.ih.free np
  have e3 : EnvR ⟨K, b, H0, I0, B⟩ I2 (upd H2 p (.dK (kvT ns))) σ ρ := e.go (g2.trans (lost_go (b := b) (I := I2) np))
  have s1 : Same H2 (upd H2 p (.dK (kvT ns))) := fun q o h => by rw [upd_ne (ne_of_none h np)]; exact h
  have w4 : Wd ⟨K, some p, upd H2 p (.dK (kvT ns)), I2, memB ns U L⟩ I2 (upd H2 p (.dK (kvT ns))) 0 := ⟨w2.ih.trans s1, Same.refl _, fun _ _ _ h => h, fun _ _ => rfl, fun q z => by
    cases z
    have nn : upd H2 p (.dK (kvT ns)) p ≠ none := by rw [upd_same]; exact fun z => nomatch z
    exact ⟨ip, nn, _, upd_same, kvT ns, rfl, memP_new hn hU hL⟩⟩
  have e4 : EnvR ⟨K, some p, upd H2 p (.dK (kvT ns)), I2, memB ns U L⟩ I2 (upd H2 p (.dK (kvT ns))) (σ.set i (some (.ref p))) (ρ.set i (.memo (memB ns U L))) := by
    have q : EnvR ⟨K, some p, upd H2 p (.dK (kvT ns)), I2, memB ns U L⟩ I2 (upd H2 p (.dK (kvT ns))) σ ρ := e3.rebase no
    exact q.set i (show EntR ⟨K, some p, upd H2 p (.dK (kvT ns)), I2, memB ns U L⟩ I2 (upd H2 p (.dK (kvT ns))) (some (.ref p)) (.memo (memB ns U L)) from ⟨p, rfl, rfl, rfl⟩) fun _ z => nomatch z
  have back : ∀ {I' H' : Hp} {m : Nat}, Wd ⟨K, some p, upd H2 p (.dK (kvT ns)), I2, memB ns U L⟩ I' H' m → Wd ⟨K, b, H0, I0, B⟩ I' H' n := fun {I' H' m} w' => by
    have keep : ∀ q o, H2 q = some o → H' q = some o := fun q o a1 => w'.h0 q o (fun z => ne_of_none a1 np (Option.some.inj z)) (s1 q o a1)
    refine ⟨w'.ih, w2.i0.trans w'.i0, fun q o ne hq => keep q o (w2.h0 q o ne hq), fun q hq => ?_, fun q z => ?_⟩
    · have nn3 : H2 q ≠ none := by
        by_cases hb : b = some q
        · obtain ⟨_, _, x', hh, _⟩ := w2.bg q hb
          rw [hh]; exact fun z => nomatch z
        · obtain ⟨o, ho⟩ := Option.ne_none_iff_exists'.mp hq
          rw [w2.h0 q o (fun z => hb z.symm) ho]; exact fun z => nomatch z
      obtain ⟨o, ho⟩ := Option.ne_none_iff_exists'.mp nn3
      have nn : upd H2 p (.dK (kvT ns)) q ≠ none := by rw [s1 q o ho]; exact fun z => nomatch z
      rw [w'.nw q nn]
      exact w2.nw q hq
    · obtain ⟨a1, a2, x', hh, rr⟩ := w2.bg q z
      exact ⟨a1, a2, x', keep q _ hh, rr⟩
  refine h p _ I2 (σ.set i (some (.ref p))) I2 _ 0 D w4 e4 (by omega) (fun _ _ _ _ _ _ _ z => z.elim) (fun v d I' H' s' w' r' p' => k2 v d I' H' (g2.ii.trans s') (back w') r' ⟨p'.1, fun z => by rw [hf] at z; cases z⟩) (fun _ _ _ _ _ _ _ z => z.elim) (fun _ _ _ _ _ _ _ z => z.elim)
end Hh

set_option Elab.async false
set_option linter.all false
set_option maxRecDepth 100000
set_option maxHeartbeats 2000000
namespace Hh
set_option autoImplicit false
open PySem PySem.Spec PyProof.Rows L2
section
variable {X : Cx} {K : PySem.W.Frag}
theorem cr_maxK (e : X.K = K) (hc : X.calm = true) : CallR X (.builtin "max") (rMax K) := by subst e; exact cr_max hc
theorem cr_minK (e : X.K = K) (hc : X.calm = true) : CallR X (.builtin "min") (rMin K) := by subst e; exact cr_min hc
theorem cr_sortIK (e : X.K = K) : CallR X (.builtin "sorted") (rSortedI K) := by subst e; exact cr_sortedI
end
section
variable {c : Ctx} {ρ : List Ent} {te : TE} {C : Nat}
/-- max(xs), min(xs) of whole numbers -/
theorem ev_maxI {ns : List Int} (ha : Pv c te ρ (.list (ns.map .int))) (hl : 0 < ns.length) : Ev c (tCB (rMax c.K) (tCons te tNil)) ρ 0 (fun d => ∃ m ∈ ns, d = .int m ∧ ∀ y ∈ ns, y ≤ m) := fun σ I H n Q w e l k => by
  refine ha σ I H n _ w e l fun v d I2 H2 g2 w2 r2 p2 => ?_
  subst p2
  obtain ⟨a, xs, rfl, hs, hr⟩ := r2.lst_inv
  have ex := hr.ints
  subst ex
  exact ⟨a, ns, rfl, SqL.of (w2.ih _ _ hs), hl, fun m h1 h2 => k _ _ I2 H2 g2 w2 (.int m) ⟨m, h1, rfl, h2⟩⟩
theorem ev_minI {ns : List Int} (ha : Pv c te ρ (.list (ns.map .int))) (hl : 0 < ns.length) : Ev c (tCB (rMin c.K) (tCons te tNil)) ρ 0 (fun d => ∃ m ∈ ns, d = .int m ∧ ∀ y ∈ ns, m ≤ y) := fun σ I H n Q w e l k => by
  refine ha σ I H n _ w e l fun v d I2 H2 g2 w2 r2 p2 => ?_
  subst p2
  obtain ⟨a, xs, rfl, hs, hr⟩ := r2.lst_inv
  have ex := hr.ints
  subst ex
  exact ⟨a, ns, rfl, SqL.of (w2.ih _ _ hs), hl, fun m h1 h2 => k _ _ I2 H2 g2 w2 (.int m) ⟨m, h1, rfl, h2⟩⟩
/-- sorted(xs) of whole numbers, any one of the sorted orders -/
theorem evF_sortedI {ns : List Int} (ha : Pv c te ρ (.list (ns.map .int))) : EvF c (tCB (rSortedI c.K) (tCons te tNil)) ρ 0 (fun d => ∃ ms : List Int, ms.Perm ns ∧ ms.Pairwise (· ≤ ·) ∧ d = .list (ms.map .int)) := fun σ I H n Q w e l k => by
  refine ha σ I H n _ w e l fun v d I2 H2 g2 w2 r2 p2 => ?_
  subst p2
  obtain ⟨a, xs, rfl, hs, hr⟩ := r2.lst_inv
  have ex := hr.ints
  subst ex
  refine ⟨a, ns, rfl, SqL.of (w2.ih _ _ hs), fun ms p h1 h2 np => ?_⟩
  refine k _ _ (upd I2 p (.lst (ms.map V.int))) (upd H2 p (.lst (ms.map V.int))) (g2.trans (new_go w2.ih np)) (w2.new np) (.lst upd_same ?_) ⟨ms, h1, h2, rfl⟩ ⟨p, rfl, ?_⟩
  · have all : ∀ l : List Int, RpAll c.K (upd I2 p (.lst (ms.map V.int))) (l.map V.int) (l.map PyData.int) := fun l => by
      induction l with
      | nil => exact .nil
      | cons x l ih => exact .cons (.int x) ih
    exact all ms
  · cases hd : H p with
    | none => rfl
    | some o => exact absurd np (g2.th p (by rw [hd]; exact fun z => nomatch z))
end
section
variable {c : Ctx} {ρ : List Ent} {C : Nat} {O : Out}
theorem EnvR.forget {I H : Hp} {σ : Sl} {ρ : List Ent} (e : EnvR c I H σ ρ) (i : Nat) : EnvR c I H σ (ρ.set i .any) := by
  have es : σ.set i ((σ[i]?).getD none) = σ := by
    apply List.ext_getElem?
    intro j
    by_cases z : i = j
    · subst z
      rw [List.getElem?_set_self']
      cases σ[i]? <;> rfl
    · rw [List.getElem?_set_ne z]
  have q := e.set i (o := (σ[i]?).getD none) (e := .any) (by cases (σ[i]?).getD none <;> exact True.intro) fun _ z => nomatch z
  rwa [es] at q
/-- what a slot held at the end is forgotten -/
theorem bk_forgetN {i : Nat} {t : TS} (h : Bk c t ρ C { O with nx := fun ρ' => O.nx (ρ'.set i .any) }) : Bk c t ρ C O := fun σ I H n D w e l k1 k2 k3 k4 =>
  h σ I H n D w e l (fun σ' ρ' I' H' s w' e' p => k1 σ' _ I' H' s w' (e'.forget i) p) k2 k3 k4
end
end Hh

set_option Elab.async false
set_option linter.all false
set_option maxRecDepth 100000
set_option maxHeartbeats 2000000
namespace Hh
set_option autoImplicit false
open PySem PySem.Spec PyProof.Rows L2
section
variable {c : Ctx} {ρ : List Ent} {d : Addr} {ks : List (Key × PyData)} {g : TG} {tgs : List Nat} {f : PyData → List Ent → List Ent} {i j : Nat} {tt : TT} {tk tv te : TE} {vs : List Nat}
/-- the keys, gone over -/
theorem iw_keys (hi : ρ[i]? = some (.raw (.ref d))) (L : Lk c d ks) (ht : ∀ q ∈ ks, Tg c g tgs (kD q.1) (f (kD q.1))) : Iw c (iKeys (tVar i)) g ρ 0 tgs f (fun is => is = ks.map fun q => kD q.1) := fun σ I H n R w e l k => by
  obtain ⟨od, kvs, h0, hk⟩ := L.at'
  have fr : ∀ {I H : Hp} {n : Nat}, Wd c I H n → H d = some (.frz od (.dK kvs)) := fun w => w.h0 d _ L.nb h0
  have hlen : kvs.length = ks.length := Paired.length hk
  refine ⟨.ref d, raw_at hi e, d, od, rfl, .inl ⟨kvs, fr w, k _ I H _ Gx.refl w ⟨fun i I H n s w h => ⟨fr w, by rw [List.length_map] at h; omega⟩, fun i x I H n y H' σ ρ Q s w e hx hy kk => ?_, fun i I H n s w h => ⟨fr w, by rw [List.length_map] at h; omega⟩⟩ rfl⟩⟩
  obtain ⟨eH, k1, v1, hy, ey⟩ := hy
  subst eH ey
  rw [List.getElem?_map] at hx
  cases hq2 : ks[i]? with
  | none => rw [hq2] at hx; cases hx
  | some q2 =>
    rw [hq2] at hx
    cases hx
    obtain ⟨a, h1, h2⟩ := Paired.getP hk hq2
    rw [hy] at h1
    cases h1
    have rk : Rp c.K I (kV k1) (kD q2.1) := by
      rw [← h2.1]
      cases k1 with
      | inl i => exact .int i
      | inr x => exact .str x
    exact ht q2 (List.mem_of_getElem? hq2) σ ρ _ _ n _ Q w e rk fun σ2 e2 s2 => kk σ2 _ _ Gx.refl w e2 s2
/-- {k: v for n in d if ..}, d of whole numbers -/
theorem pv_dcK {ns : List Int} (p : Int → Bool) (F : Int → Key × PyData) (hi : ρ[i]? = some (.dat (trD ns))) (hh : ns ≠ [] → ∀ (j : Nat) (x : Ent), ρ[j]? = some x → j ≠ i → Hides (ns.map fun n => ((.inl n : Key), PyData.bool true)) x)
    (ht : ∀ (H0 I0 : Hp) (d : Addr), ∀ n ∈ ns, Pt ⟨c.K, c.b, H0, I0, c.B⟩ tt ((wipeE (ρ.set i (.raw (.ref d))) vs).set j (.dat (.int n))) (p n))
    (hk : ∀ (H0 I0 : Hp) (d : Addr), ∀ n ∈ ns, p n = true → Pv ⟨c.K, c.b, H0, I0, c.B⟩ tk ((wipeE (ρ.set i (.raw (.ref d))) vs).set j (.dat (.int n))) (kD (F n).1))
    (hv : ∀ (H0 I0 : Hp) (d : Addr), ∀ n ∈ ns, p n = true → Pv ⟨c.K, c.b, H0, I0, c.B⟩ tv ((wipeE (ρ.set i (.raw (.ref d))) vs).set j (.dat (.int n))) (F n).2) (hl : ns.length < sizeLine) (hj : j ∈ vs) :
    Pv c (tLockE (tDc (iKeys (tVar i)) (gName j) tt tk tv vs)) ρ (kvD (mergeD [] ((ns.filter p).map F))) := by
  have nn : (ns.map fun n => ((.inl n : Key), PyData.bool true)) ≠ [] → ns ≠ [] := fun h z => h (by rw [z]; rfl)
  refine ev_lockE (ks := ns.map fun n => ((.inl n : Key), PyData.bool true)) hi (fun q hq => by obtain ⟨n, _, rfl⟩ := List.mem_map.mp hq; rfl) (fun h => hh (nn h)) fun H0 I0 d ρ' L hr hp => ?_
  have ei : ((ns.map fun n => ((.inl n : Key), PyData.bool true)).map fun q => kD q.1) = ns.map .int := by rw [List.map_map]; rfl
  have hne : ∀ {x : PyData}, x ∈ ns.map PyData.int → ρ' = ρ.set i (.raw (.ref d)) ∧ ∃ n ∈ ns, x = .int n := fun {x} hx => by
    obtain ⟨n, hn, rfl⟩ := List.mem_map.mp hx
    refine ⟨hp fun z => ?_, n, hn, rfl⟩
    rw [List.map_eq_nil_iff.mp z] at hn
    cases hn
  refine Pv.to (pv_dc (vs := vs) (tgs := [j]) (f := fun d ρ => ρ.set j (.dat d)) (items := ns.map .int) (fun x => match x with | .int n => p n | _ => false) (fun x => match x with | .int n => F n | _ => (.inl 0, .none)) (by rw [← ei]; exact iw_keys hr L fun x hx => tg_name) (fun x hx => ?_) (fun x hx hp => ?_) (fun x hx hp => ?_) (by rw [List.length_map]; exact hl) (fun t ht => by rw [List.mem_singleton.mp ht]; exact hj)) ?_
  · obtain ⟨e, n, hn, rfl⟩ := hne hx
    rw [e]; exact ht H0 I0 d n hn
  · obtain ⟨e, n, hn, rfl⟩ := hne hx
    rw [e]; exact hk H0 I0 d n hn hp
  · obtain ⟨e, n, hn, rfl⟩ := hne hx
    rw [e]; exact hv H0 I0 d n hn hp
  · rw [List.filter_map, List.map_map]
    rfl
/-- {k: v for row in d.values() if ..} -/
theorem pv_dcV (p : PyData → Bool) (F : PyData → Key × PyData) (hi : ρ[i]? = some (.dat (kvD ks))) (hn : ∀ q ∈ ks, noDic q.2 = true) (hh : ks ≠ [] → ∀ (j : Nat) (x : Ent), ρ[j]? = some x → j ≠ i → Hides ks x)
    (ht : ∀ (H0 I0 : Hp) (d : Addr), ∀ q ∈ ks, Pt ⟨c.K, c.b, H0, I0, c.B⟩ tt ((wipeE (ρ.set i (.raw (.ref d))) vs).set j (.dat q.2)) (p q.2))
    (hk : ∀ (H0 I0 : Hp) (d : Addr), ∀ q ∈ ks, p q.2 = true → Pv ⟨c.K, c.b, H0, I0, c.B⟩ tk ((wipeE (ρ.set i (.raw (.ref d))) vs).set j (.dat q.2)) (kD (F q.2).1))
    (hv : ∀ (H0 I0 : Hp) (d : Addr), ∀ q ∈ ks, p q.2 = true → Pv ⟨c.K, c.b, H0, I0, c.B⟩ tv ((wipeE (ρ.set i (.raw (.ref d))) vs).set j (.dat q.2)) (F q.2).2) (hl : ks.length < sizeLine) (hj : j ∈ vs) :
    Pv c (tLockE (tDc (iVals (tVar i)) (gName j) tt tk tv vs)) ρ (kvD (mergeD [] (((ks.map (·.2)).filter p).map F))) := by
  refine ev_lockE hi hn hh fun H0 I0 d ρ' L hr hp => ?_
  have hne : ∀ {x : PyData}, x ∈ ks.map (·.2) → ρ' = ρ.set i (.raw (.ref d)) ∧ ∃ q ∈ ks, x = q.2 := fun {x} hx => by
    obtain ⟨q, hq, rfl⟩ := List.mem_map.mp hx
    refine ⟨hp fun z => ?_, q, hq, rfl⟩
    rw [z] at hq
    cases hq
  refine pv_dc (vs := vs) (tgs := [j]) (f := fun d ρ => ρ.set j (.dat d)) (items := ks.map (·.2)) p F (iw_vals hr L fun x hx => tg_name) (fun x hx => ?_) (fun x hx hp => ?_) (fun x hx hp => ?_) (by rw [List.length_map]; exact hl) (fun t ht => by rw [List.mem_singleton.mp ht]; exact hj)
  · obtain ⟨e, q, hq, rfl⟩ := hne hx
    rw [e]; exact ht H0 I0 d q hq
  · obtain ⟨e, q, hq, rfl⟩ := hne hx
    rw [e]; exact hk H0 I0 d q hq hp
  · obtain ⟨e, q, hq, rfl⟩ := hne hx
    rw [e]; exact hv H0 I0 d q hq hp
end
end Hh

set_option Elab.async false
set_option linter.all false
set_option maxRecDepth 100000
set_option maxHeartbeats 2000000
namespace Hh
set_option autoImplicit false
open PySem PySem.Spec PyProof.Rows L2
section
variable {c : Ctx} {ρ : List Ent} {d : Addr} {ks : List (Key × PyData)} {g : TG} {tgs : List Nat} {f : PyData → List Ent → List Ent} {i j : Nat} {tt : TT} {tk tv te : TE} {vs : List Nat}
/-- x = [a new list, a new list]; if (no): ..; x[0].append(..); x[1].append(..) -/
theorem bk_found2 {tc : TT} {tr : TS} {t1 t2 ta tb : TE} {as bs : List PyData} {d3 d4 : PyData} {C : Nat} {O : Out} (h1 : EvF c t1 ρ 0 (fun d => d = .list as)) (h2 : EvF c t2 ρ 0 (fun d => d = .list bs)) (hc : Pt c tc (ρ.set i (.dat (.list [.list as, .list bs]))) false) (ha : Pv c ta (ρ.set i .any) d3) (hb : Pv c tb (ρ.set i .any) d4) (hl1 : as.length ≤ 1000) (hl : bs.length ≤ 1000) (hil : i < ρ.length)
    (h : O.nx (ρ.set i .any)) :
    Bk c (tSeq (tAsg (tLst (tCons t1 (tCons t2 tNil))) (gName i)) (tSeq (tIfS tc tr tNext) (tSeq (tDrop (tBM c.K "list" rAppend (tOp (rIx c.K) (tVar i) (tC (.int 0))) (tCons ta tNil))) (tDrop (tBM c.K "list" rAppend (tOp (rIx c.K) (tVar i) (tC (.int 1))) (tCons tb tNil)))))) ρ C O := fun σ I H n D w e l k1 k2 k3 k4 => by
  refine h1 σ I H n _ w e (by omega) fun v1 d1 I1 H1 g1 w1 r1 p1 ⟨a1, e1, n1⟩ => ?_
  refine h2 σ I1 H1 (n + 0) _ w1 (e.go g1) (by omega) fun v2 d2 I2 H2 g2 w2 r2 p2 ⟨a2, e2, n2⟩ => ?_
  subst p1 p2 e1 e2
  refine ⟨by show 2 ≤ sizeLine; decide, fun p np => ?_⟩
  have n2' : H a2 = none := by
    cases hd : H a2 with
    | none => rfl
    | some o => exact absurd n2 (g1.th a2 (by rw [hd]; exact fun z => nomatch z))
  have g12 := g1.trans g2
  have n3' : H p = none := by
    cases hd : H p with
    | none => rfl
    | some o => exact absurd np (g12.th p (by rw [hd]; exact fun z => nomatch z))
  obtain ⟨x1, xs1, q1, hx1, hr1⟩ := (r1.mono g2.ii).lst_inv
  cases q1
  obtain ⟨x2, xs2, q2, hx2, hr2⟩ := r2.lst_inv
  cases q2
  have w3 : Wd c (upd I2 p (.lst [.ref a1, .ref a2])) (upd H2 p (.lst [.ref a1, .ref a2])) (n + 0 + 0) := w2.new np
  have gn : Gx c.b I2 H2 (upd I2 p (.lst [.ref a1, .ref a2])) (upd H2 p (.lst [.ref a1, .ref a2])) := new_go w2.ih np
  have g3 := g12.trans gn
  have rl : Rp c.K (upd I2 p (.lst [.ref a1, .ref a2])) (.ref p) (.list [.list as, .list bs]) := .lst upd_same (.cons ((r1.mono g2.ii).mono gn.ii) (.cons (r2.mono gn.ii) .nil))
  have e3 := (e.go g3).set i (o := some (V.ref p)) (e := .dat (.list [.list as, .list bs])) rl (fun _ z => nomatch z)
  refine hc _ _ _ _ _ w3 e3 (by omega) fun b I4 H4 g4 w4 pb => ?_
  subst pb
  rw [if_neg Bool.false_ne_true]
  have g04 := g3.trans g4
  have gB : Gx c.b I H I H4 := ⟨Same.refl _, g04.hh, fun _ _ => rfl, g04.th⟩
  have wB := back_wd w w4 gB
  have e0 : EnvR c I H (σ.set i (some (.ref p))) (ρ.set i .any) := e.set i True.intro (fun _ z => nomatch z)
  have eB := e0.go gB
  have hσ : (σ.set i (some (V.ref p)))[i]? = some (some (V.ref p)) := by
    rw [List.getElem?_set_self]
    rw [Paired.len e.st]; exact hil
  have hb1 : some a1 ≠ c.b := w.bne n1
  have hb2 : some a2 ≠ c.b := w.bne n2'
  have hb3 : some p ≠ c.b := w.bne n3'
  have i4 : ∀ q o, I2 q = some o → H4 q = some o := fun q o h => w4.ih q o (g4.ii q o (gn.ii q o h))
  have hp4 : H4 p = some (.lst [.ref a1, .ref a2]) := g4.hh p _ hb3 upd_same
  have ha1 : H4 a1 = some (.lst xs1) := i4 _ _ hx1
  have ha2 : H4 a2 = some (.lst xs2) := i4 _ _ hx2
  have ne13 : p ≠ a1 := fun z => by rw [z, w2.ih _ _ hx1] at np; cases np
  have ne23 : p ≠ a2 := fun z => by rw [z, w2.ih _ _ hx2] at np; cases np
  have ne12 : a2 ≠ a1 := fun z => by
    have : H1 a1 ≠ none := by
      obtain ⟨x, ys, q, hx, _⟩ := r1.lst_inv
      cases q
      rw [w1.ih _ _ hx]; exact fun z => nomatch z
    exact this (by rw [← z]; exact n2)
  have nI : ∀ {q : Addr}, H q = none → I q = none := fun h => w.ih.free h
  have nod : ∀ {q : Addr}, H q = none → ∀ (j : Nat) (ds : List PyData), (ρ.set i .any)[j]? = some (Ent.own ds) → (σ.set i (some (V.ref p)))[j]? ≠ some (some (V.ref q)) := fun h => e0.noD h
  -- x[0].append(..)
  refine ⟨.ref p, hσ, ix_at (j := 0) hp4 (v := .ref a1) rfl ⟨.inl ⟨rfl, xs1, SqL.of ha1⟩, ?_⟩⟩
  refine ha _ I _ _ _ wB eB (by omega) fun v3 d3' I5 H5 g5 w5 r5 p5 => ?_
  have hp5 : H5 p = some (.lst [.ref a1, .ref a2]) := g5.hh p _ hb3 hp4
  have ha15 : H5 a1 = some (.lst xs1) := g5.hh a1 _ hb1 ha1
  have ha25 : H5 a2 = some (.lst xs2) := g5.hh a2 _ hb2 ha2
  have nI5 : I5 a1 = none := by rw [g5.nw a1 (by rw [ha1]; exact fun z => nomatch z)]; exact nI n1
  have nI52 : I5 a2 = none := by rw [g5.nw a2 (by rw [ha2]; exact fun z => nomatch z)]; exact nI n2'
  refine ⟨a1, xs1, v3, rfl, rfl, ha15, by rw [hr1.length]; exact small1000 hl1, ?_⟩
  have e5 := eB.go g5
  have w6 : Wd c I5 (upd H5 a1 (.lst (xs1 ++ [v3]))) _ := w5.own (w.h0n n1) nI5 hb1
  have e6 : EnvR c I5 (upd H5 a1 (.lst (xs1 ++ [v3]))) _ _ := e5.own (e5.noM (isL_of ha15)) (nod n1)
  have hp6 : upd H5 a1 (.lst (xs1 ++ [v3])) p = some (.lst [.ref a1, .ref a2]) := by rw [upd_ne ne13]; exact hp5
  have ha26 : upd H5 a1 (.lst (xs1 ++ [v3])) a2 = some (.lst xs2) := by rw [upd_ne ne12]; exact ha25
  -- x[1].append(..)
  refine ⟨.ref p, hσ, ix_at (j := 1) hp6 (v := .ref a2) rfl ⟨.inl ⟨rfl, xs2, SqL.of ha26⟩, ?_⟩⟩
  refine hb _ I5 _ _ _ w6 e6 (by omega) fun v4 d4' I7 H7 g7 w7 r7 p7 => ?_
  have ha27 : H7 a2 = some (.lst xs2) := g7.hh a2 _ hb2 ha26
  have nI7 : I7 a2 = none := by rw [g7.nw a2 (by rw [ha26]; exact fun z => nomatch z)]; exact nI52
  refine ⟨a2, xs2, v4, rfl, rfl, ha27, by rw [hr2.length]; exact small1000 hl, ?_⟩
  have e7 := e6.go g7
  have w8 : Wd c I7 (upd H7 a2 (.lst (xs2 ++ [v4]))) _ := w7.own (w.h0n n2') nI7 hb2
  have e8 : EnvR c I7 (upd H7 a2 (.lst (xs2 ++ [v4]))) _ _ := e7.own (e7.noM (isL_of ha27)) (nod n2')
  exact k1 _ _ I7 _ (g5.ii.trans g7.ii) (w8.bgN (by omega)) e8 h
/-- [f(x) for x in xs if ..], a new list -/
theorem evF_filt {wi : TI} {items : List PyData} (p : PyData → Bool) (F : PyData → PyData) (hi : Iw c wi g ρ 0 tgs f (fun x => x = items)) (ht : ∀ d ∈ items, Pt c tt (f d (wipeE ρ vs)) (p d)) (he : ∀ d ∈ items, p d = true → Pv c te (f d (wipeE ρ vs)) (F d)) (hl : items.length < sizeLine) (hv : ∀ t ∈ tgs, t ∈ vs := by decide) :
    EvF c (tLc wi g tt te vs) ρ 0 (fun x => x = .list ((items.filter p).map F)) :=
  ev_lcF (Ct := 0) (Ce := 0) (Pt := fun d b => b = p d) (Pe := fun d x => x = F d) hi (Nat.le_refl _) hv (fun is e => by subst e; exact ⟨hl, by simp⟩) (fun is e d hd => by subst e; exact ht d hd) (fun is e d hd q => by subst e; exact he d hd q.symm) fun is out e b => by subst e; rw [b.filt]
end
end Hh

set_option Elab.async false
set_option linter.all false
set_option maxRecDepth 100000
set_option maxHeartbeats 2000000
namespace Hh
set_option autoImplicit false
open PySem PySem.Spec PyProof.Rows L2
section
variable {prog : Program} {w : World} {A : Around} {E : Value → Shared → Prop} {s : Shared} {κ : Type} [DecidableEq κ] {knd : KeyKind prog w κ}
/-- a pair is put, its hash as told -/
theorem putP {d : Addr} {acc : List (κ × Value)} {k : κ} {key v : Value} {Q : Unit → Shared → Prop} (hk : knd.is k key = true) (hm : s.heap.DictOf knd d acc) (hz : acc.length ≤ sizeLine)
    (hq : ∀ h', h'.DictOf knd d (stored acc k v) → Heap.SameBut d s.heap h' → Q () { s with heap := h' }) : wpAny (model prog w) A (dictPut d (knd.hash k) key v) Q E s := by
  obtain ⟨o, es, ep, ho, hc, hd, kk, pp, nn⟩ := hm
  have sz : es.size ≤ sizeLine := by
    have e1 := pp.length
    have e2 : es.toList.length = es.size := by simp
    omega
  have same : (es.findIdx? fun e => knd.is k e.key) = acc.findIdx? fun q => decide (q.1 = k) := by
    rw [← pp.findIdx k]
    obtain ⟨l⟩ := es
    simp
  unfold dictPut
  refine wpAny_bind (wpAny_dictFind_of hk ho hd kk ?_)
  cases hi : es.findIdx? fun e => knd.is k e.key with
  | some i =>
    have hany := any_of_findIdx_some (same ▸ hi)
    have hl : (es.toList.findIdx? fun e => knd.is k e.key) = some i := by
      rw [← hi]
      obtain ⟨l⟩ := es
      simp
    have mod := pp.modify nn hl v
    refine wpAny_updateDict ho hd (hq _ ⟨_, _, ep, Heap.get?_update_self _ ho (Obj.isFreed_of_dict (Obj.data_mapDict hd _)), hc.mapDict _, Obj.data_mapDict hd _, kk.modify _ _, ?_, ?_⟩ (Heap.SameBut.update ..))
    · rw [stored, if_pos hany]
      obtain ⟨l⟩ := es
      simpa using mod
    · rw [stored, if_pos hany, keys_map_store]
      exact nn
  | none =>
    have new : k ∉ acc.map (·.1) := not_mem_of_findIdx_none (same ▸ hi)
    have hany : ¬ (acc.any fun q => decide (q.1 = k)) = true := fun z => by
      obtain ⟨q, h1, h2⟩ := List.any_eq_true.mp z
      exact new (List.mem_map.mpr ⟨q, h1, of_decide_eq_true h2⟩)
    have app := pp.append hk (knd.hash k) v
    refine wpAny_updateDictKeys (hz := sz) ho hd (hq _ ⟨_, _, ep + 1, Heap.get?_update_self _ ho (Obj.isFreed_of_dict (Obj.data_mapDictKeys hd _)), hc.mapDictKeys _, Obj.data_mapDictKeys hd _, kk.push hk _, ?_, ?_⟩ (Heap.SameBut.update ..))
    · rw [stored, if_neg hany]
      obtain ⟨l⟩ := es
      simpa using app
    · rw [stored, if_neg hany, List.map_append, List.nodup_append]
      exact ⟨nn, by simp, fun x hx y hy => by
        rw [List.map_singleton, List.mem_singleton] at hy
        subst hy
        exact fun e => new (e ▸ hx)⟩
theorem Pairs.at {es : List DictEntry} {kvs : List (κ × Value)} (h : Pairs knd es kvs) : ∀ {i : Nat} {e : DictEntry}, es[i]? = some e → ∃ k, kvs[i]? = some (k, e.val) ∧ knd.is k e.key = true := by
  induction h with
  | nil => intro i e h; simp at h
  | @cons e0 q es kvs h1 h2 h3 ih =>
    intro i e he
    cases i with
    | zero =>
      simp only [List.getElem?_cons_zero, Option.some.injEq] at he
      subst he
      exact ⟨q.1, by rw [h2]; rfl, h1⟩
    | succ i =>
      simp only [List.getElem?_cons_succ] at he
      obtain ⟨k, a, b⟩ := ih he
      exact ⟨k, by simpa using a, b⟩
theorem merged_len : ∀ (more kvs : List (κ × Value)), (merged kvs more).length ≤ kvs.length + more.length
  | [], kvs => Nat.le_refl _
  | p :: more, kvs => by
    have h1 := merged_len more (stored kvs p.1 p.2)
    have h2 := stored_length_le kvs p.1 p.2
    rw [List.length_cons]
    show (merged (stored kvs p.1 p.2) more).length ≤ _
    omega
/-- a dict put into another -/
theorem mergeP {d a : Addr} {acc kvs : List (κ × Value)} {Q : Unit → Shared → Prop} (hd : s.heap.DictOf knd d acc) (ha : s.heap.DictOf knd a kvs) (ne : a ≠ d) (ns : (a == sysModules) = false) (nr : ∀ k r, knd.is k (.ref r) = false)
    (hz : acc.length + kvs.length ≤ sizeLine) (hq : ∀ h' tk, h'.DictOf knd d (merged acc kvs) → (∀ b o, b ≠ d → s.heap.get? b = some o → h'.get? b = some o) → Q () { s with heap := h', toks := tk }) :
    wpAny (model prog w) A (mergeMapping d (.ref a) false) Q E s := by
  obtain ⟨oa, ea, pa, ga, ca, da, ka, pra, na⟩ := id ha
  obtain ⟨od, ed, pd, gd, cd, dd, kd, prd, nd⟩ := id hd
  have tA : s.TypeIs (.ref a) "dict" := ⟨oa, ga, ca.1⟩
  unfold mergeMapping
  refine wpAny_bind (wpAny_isInstance (U := "dict") (b := true) tA (by kernel_rfl) ?_)
  dsimp only
  rw [if_pos rfl]
  refine wpAny_bind (wpAny_specialOf tA PySem.F.slot_dict_iter.lookup ?_)
  refine wpAny_bind (wpAny_pure ?_)
  rw [show (some (Value.builtin "dict.__iter__") == some (Value.builtin "dict.__iter__")) = true by decide]
  dsimp only
  rw [if_neg (by rw [ns]; exact Bool.false_ne_true)]
  have rest : ∀ {e : DictEntry}, e ∈ ea → ∃ k, knd.is k e.key = true ∧ e.hash = knd.hash k := fun he => ka _ he
  refine wpAny_bind (wpAny_dictEntries gd dd ?_)
  have loop : ∀ (f : Nat → PUnit → Sem (ForInStep PUnit)) (Q' : PUnit → Shared → Prop),
      (∀ i e s', ea[i]? = some e → (∀ b o, b ≠ d → s.heap.get? b = some o → s'.heap.get? b = some o) → ∀ k, knd.is k e.key = true → ∀ l, s'.heap.DictOf knd d l → l.length ≤ sizeLine → ∀ R : Shared → Prop, (∀ h', h'.DictOf knd d (stored l k e.val) → Heap.SameBut d s'.heap h' → R { s' with heap := h' }) →
        wpAny (model prog w) A (f i PUnit.unit) (fun r s2 => r = .yield PUnit.unit ∧ R s2) E s') →
      (∀ s', s'.heap.DictOf knd d (merged acc kvs) → (∀ b o, b ≠ d → s.heap.get? b = some o → s'.heap.get? b = some o) → s' = { s with heap := s'.heap, toks := s'.toks } → Q' PUnit.unit s') →
      wpAny (model prog w) A (forIn (List.range ea.size) PUnit.unit f) Q' E s := by
    intro f Q' hf hq'
    have hn : ea.size = kvs.length := by
      have e1 := pra.length
      have e2 : ea.toList.length = ea.size := by simp
      omega
    refine wpAny_forIn_list f (fun r _ s' => ∃ i, r = (List.range ea.size).drop i ∧ i ≤ ea.size ∧ s'.heap.DictOf knd d (merged acc (kvs.take i)) ∧ (∀ b o, b ≠ d → s.heap.get? b = some o → s'.heap.get? b = some o) ∧ s' = { s with heap := s'.heap, toks := s'.toks }) Q' ?_ ?_ _ _ ⟨0, rfl, Nat.zero_le _, hd, fun _ _ _ h => h, rfl⟩
    · rintro x r u s' ⟨i, hr, hi, hm, hk, hs⟩
      have hlt : i < ea.size := by
        apply Nat.lt_of_not_le
        intro z
        rw [List.drop_eq_nil_of_le (by rw [List.length_range]; exact z)] at hr
        cases hr
      rw [List.drop_eq_getElem_cons (by rw [List.length_range]; exact hlt)] at hr
      have hx : x = i := by have := (List.cons.inj hr).1; rw [this]; simp
      have hr2 := (List.cons.inj hr).2
      subst hx
      have he : ea[x]? = some ea[x] := Array.getElem?_eq_getElem hlt
      obtain ⟨k, h1, h2⟩ := Pairs.at pra (i := x) (e := ea[x]) (by rw [Array.getElem?_toList]; exact he)
      have ml := merged_len (kvs.take x) acc
      rw [List.length_take] at ml
      refine wpAny_mono (hf x ea[x] s' he hk k h2 _ hm (by omega) (fun s2 => ∃ j, r = (List.range ea.size).drop j ∧ j ≤ ea.size ∧ s2.heap.DictOf knd d (merged acc (kvs.take j)) ∧ (∀ b o, b ≠ d → s.heap.get? b = some o → s2.heap.get? b = some o) ∧ s2 = { s with heap := s2.heap, toks := s2.toks }) fun h' hd' sb => ⟨x + 1, hr2, hlt, ?_, fun b o nb e => sb.extBut b o nb (hk b o nb e), ?_⟩) (fun r2 s2 ⟨e1, e2⟩ => by rw [e1]; exact e2) fun _ _ e => e
      · have e3 : merged acc (kvs.take (x + 1)) = stored (merged acc (kvs.take x)) k ea[x].val := by
          rw [List.take_add_one, h1]
          unfold merged
          rw [List.foldl_append]
          rfl
        rw [e3]
        exact hd'
      · rw [hs]
    · rintro u s' ⟨i, hr, hi, hm, hk, hs⟩
      have hle : ea.size ≤ i := by
        apply Nat.le_of_not_lt
        intro z
        have : (List.range ea.size).drop i ≠ [] := by
          intro y
          have := congrArg List.length y
          rw [List.length_drop, List.length_range] at this
          simp at this
          omega
        exact this hr.symm
      rw [List.take_of_length_le (by omega)] at hm
      exact hq' s' hm hk hs
  by_cases he : ed.isEmpty = true
  · rw [if_pos he]
    refine wpAny_bind (wpAny_dictEntries ga da ?_)
    refine wpAny_bind (wpAny_forIn_array' _ (fun r _ s' => s' = s ∧ ∀ e ∈ r, e ∈ ea) _ ?_ (fun _ s' hz' => ?_) _ _ ⟨rfl, fun e h => by simpa using h⟩)
    · rintro x r u s' ⟨rfl, hm⟩
      obtain ⟨k, h1, _⟩ := rest (hm x List.mem_cons_self)
      cases hx : x.key with
      | ref q => rw [hx, nr] at h1; cases h1
      | _ => exact wpAny_pure ⟨rfl, fun e he => hm e (List.mem_cons_of_mem _ he)⟩
    obtain ⟨rfl, _⟩ := hz'
    refine wpAny_bind (wpAny_dictEntries ga da ?_)
    refine wpAny_bind (wpAny_dictEpoch ga da ?_)
    refine wpAny_bind (loop _ _ ?_ fun s' hm hk hs => ?_)
    · intro i e s' hi hk k h1 l hl hlen R hR
      refine wpAny_bind (wpAny_dictEntries (hk a oa ne ga) da ?_)
      rw [hi]
      dsimp only
      obtain ⟨k', h2, h3⟩ := rest (Array.mem_of_getElem? hi)
      have ek : k' = k := knd.inj _ _ _ h2 h1
      refine wpAny_bind (wpAny_holding ?_)
      rw [if_neg Bool.false_ne_true, h3, ek]
      refine putP h1 hl hlen fun h' hd' sb => ?_
      refine wpAny_bind (wpAny_dictEpoch (o := oa) (sb.extBut a oa ne (hk a oa ne ga)) da ?_)
      rw [if_neg (by simp)]
      exact wpAny_pure ⟨rfl, hR h' hd' sb⟩
    · rw [hs]
      exact wpAny_pure (hq _ _ hm hk)
  · rw [if_neg he]
    refine wpAny_bind (wpAny_dictEntries ga da ?_)
    refine wpAny_bind (wpAny_dictEpoch ga da ?_)
    refine wpAny_bind (loop _ _ ?_ fun s' hm hk hs => ?_)
    · intro i e s' hi hk k h1 l hl hlen R hR
      refine wpAny_bind (wpAny_dictEntries (hk a oa ne ga) da ?_)
      rw [hi]
      dsimp only
      obtain ⟨k', h2, h3⟩ := rest (Array.mem_of_getElem? hi)
      have ek : k' = k := knd.inj _ _ _ h2 h1
      refine wpAny_bind (wpAny_holding ?_)
      rw [if_neg Bool.false_ne_true, h3, ek]
      refine putP h1 hl hlen fun h' hd' sb => ?_
      refine wpAny_bind (wpAny_dictEpoch (o := oa) (sb.extBut a oa ne (hk a oa ne ga)) da ?_)
      rw [if_neg (by simp)]
      exact wpAny_pure ⟨rfl, hR h' hd' sb⟩
    · rw [hs]
      exact wpAny_pure (hq _ _ hm hk)
end
end Hh

set_option Elab.async false
set_option linter.all false
set_option maxRecDepth 100000
set_option maxHeartbeats 2000000
namespace Hh
set_option autoImplicit false
open PySem PySem.Spec PyProof.Rows L2
section
variable {prog : Program} {w : World} {A : Around} {E : Value → Shared → Prop} {s : Shared}
/-- {**m0, mk: mv} -/
theorem starD {m0 mk mv : Sem Value} {Q : Value → Shared → Prop} (h : wpAny (model prog w) A m0 (fun v s1 => ∀ E1 : Value → Shared → Prop, wpAny (model prog w) A (mergeMapping s.heap.objs.size v false) (fun _ s2 => wpAny (model prog w) A (subDict [(mk, mv)]) (fun sub s3 => ∀ E2 : Value → Shared → Prop, wpAny (model prog w) A (mergeMapping s.heap.objs.size (.ref sub) false) (fun _ s4 => Q (.ref s.heap.objs.size) s4) E2 s3) E s2) E1 s1) E { s with heap := s.heap.push { cls := .type "dict", data := .dict #[] } }) :
    wpAny (model prog w) A (dictDisplay [(none, m0), (some mk, mv)]) Q E s := by
  unfold dictDisplay
  simp only [List.forIn_cons, List.forIn_nil]
  refine wpAny_bind (wpAny_bind (wpAny_bind ?_))
  rw [if_pos (show ([] : List (Sem Value × Sem Value)).isEmpty = true from rfl)]
  refine wpAny_pure ?_
  dsimp only
  refine wpAny_bind (wpAny_alloc ?_)
  refine wpAny_bind (wpAny_holding ?_)
  refine wpAny_mono h (fun v s1 h1 => ?_) (fun _ _ e => e)
  refine wpAny_bind (wpAny_onRaise (wpAny_tryCatch (wpAny_onRaise (wpAny_holding (wpAny_mono (h1 _) (fun _ s2 h2 => ?_) (fun _ _ e => e))))))
  refine wpAny_pure ?_
  dsimp only
  refine wpAny_bind ?_
  rw [if_neg (by simp)]
  refine wpAny_pure ?_
  dsimp only
  refine wpAny_pure ?_
  refine wpAny_bind ?_
  rw [if_neg (by simp)]
  dsimp only
  refine wpAny_bind (wpAny_holding ?_)
  refine wpAny_mono h2 (fun sub s3 h3 => ?_) (fun _ _ e => e)
  refine wpAny_bind (wpAny_onRaise (wpAny_holding (wpAny_mono (h3 _) (fun _ s4 h4 => ?_) (fun _ _ e => e))))
  exact wpAny_pure (wpAny_pure h4)
end
section
variable {X : Cx} {pos : Pos} {e0 k v : Expr} {t0 tk tv : TE}
/-- {**d, k: v}: a new dict with what d holds, and one pair more -/
def tStar (t0 tk tv : TE) : TE := fun σ H Q => ∀ p, H p = none → t0 σ (upd H p (.dK [])) fun x H1 => ∃ (a : Addr) (kvs : List (Key × V)), x = .ref a ∧ Rd H1 a (.dK kvs) ∧ H1 p = some (.dK []) ∧ a ≠ p ∧ kvs.length < sizeLine ∧
  ∀ q, (upd H1 p (.dK (mergeK [] kvs))) q = none → tk σ (upd (upd H1 p (.dK (mergeK [] kvs))) q (.dK [])) fun y H2 => tv σ H2 fun z H3 => ∃ key : Key, y = kV key ∧ H3 p = some (.dK (mergeK [] kvs)) ∧ H3 q = some (.dK []) ∧ p ≠ q ∧
    Q (.ref p) (upd (upd H3 q (.dK [(key, z)])) p (.dK (putK (mergeK [] kvs) key z)))
theorem keyIs_ref {k : Key} {r : Addr} : keyIs k (.ref r) = false := by
  cases h : keyIs k (.ref r) with
  | false => rfl
  | true =>
    rcases keyIs_shape h with ⟨i, t, _, e⟩ | ⟨x, t, _, e⟩ <;> cases e
theorem pe_star (h0 : PE X e0 t0) (hk : PE X k tk) (hv : PE X v tv) : PE X (.Dict [none, some k] [e0, v] pos) (tStar t0 tk tv) := by
  refine ⟨fun pins s σ H Q I q => ?_⟩
  rw [arm_eval_Dict]
  refine wpAny_bind (wpAny_standAt ?_)
  show wpAny _ _ (dictDisplay [(none, eval e0 X.env >>= fun x => standAt pos >>= fun _ => pure x), (some (eval k X.env), eval v X.env >>= fun x => standAt pos >>= fun _ => pure x)]) _ _ _
  refine starD ?_
  have hn := I.hok.fresh (Nat.le_refl s.heap.objs.size)
  have I1 := I.laid (a := s.heap.objs.size) (o := .dK []) (h' := s.heap.push { cls := .type "dict", data := .dict #[] }) (t' := s.toks) (fun _ _ q => Heap.get?_push_of_some _ q) (Nat.le_refl _) (dk_empty s.heap I.big)
  refine wpAny_bind (thn (h0.run pins _ σ _ _ I1 (q _ hn)) fun u s1 ⟨x, H1, I2, rx, a, kvs, ex, ra, hp, ne, lz, q1⟩ => ?_)
  refine wpAny_bind (wpAny_standAt (wpAny_pure fun E1 => ?_))
  subst ex
  obtain rfl : u = Value.ref a := rx
  obtain ⟨z1, d1, vs1, r1, dd1⟩ := dk_rd I2.hok ra
  obtain ⟨z0, d0, vs0, r0, dd0⟩ := dk_of I2.hok hp
  cases r0
  have hl1 : vs1.length = kvs.length := r1.length.symm
  refine mergeP (knd := mixKind X.prog X.w) dd0 dd1 ne d1 (fun k r => keyIs_ref) (by rw [List.length_nil, hl1]; omega) fun h2 tk2 dd2 hk2 => ?_
  have ml := length_mergeK kvs []
  rw [List.length_nil] at ml
  have I3 := I2.write (x := s.heap.objs.size) (e := s.heap.objs.size) (h' := h2) (t' := tk2) (o := .dK (mergeK [] kvs)) (by rw [hp]; exact True.intro) (.inl rfl) (fun b o nb e => hk2 b o nb e) (let ⟨o, _, _, ho, _⟩ := dd2; ⟨o, ho⟩) (dk_new (by omega) d0 (r1.merge .nil) dd2)
  have I4 := I3.laid (a := h2.objs.size) (o := .dK []) (h' := h2.push { cls := .type "dict", data := .dict #[] }) (t' := tk2) (fun _ _ q => Heap.get?_push_of_some _ q) (Nat.le_refl _) (dk_empty h2 I3.big)
  refine wpAny_subDict (knd := mixKind X.prog X.w) (by simp) ?_
  show wpAny _ _ (evalPairs [_]) _ _ _
  refine wpAny_bind (thn (hk.run pins _ σ _ _ I4 (q1 _ (I3.hok.fresh (Nat.le_refl _)))) fun u s4 ⟨y, H2, I5, ry, q2⟩ => ?_)
  refine wpAny_bind (wpAny_holding (wpAny_bind (thn (hv.run pins _ σ _ _ I5 q2) fun u2 s5 ⟨z, H3, I6, rz, key, ey, e1, e2, npq, q3⟩ => ?_)))
  refine wpAny_bind (wpAny_standAt (wpAny_pure ?_))
  refine wpAny_bind (wpAny_holding (wpAny_pure (wpAny_pure ?_)))
  subst ey
  obtain ⟨rs, cr, rk⟩ := carries_of (P := X.prog) (w := X.w) (kvs := [(key, z)]) (ws := [(u, u2)]) (.cons ⟨ry, rz⟩ .nil)
  obtain ⟨z3, d3, vs3, r3, dd3⟩ := dk_of I6.hok e2
  cases r3
  refine ⟨rs, cr, dd3, fun h4 dd4 sb4 E2 => ?_⟩
  have one : mergeK [] [(key, z)] = [(key, z)] := by simp [mergeK, putK]
  have I7 := I6.write (x := h2.objs.size) (e := h2.objs.size) (h' := h4) (t' := s5.toks + 1) (o := .dK [(key, z)]) (by rw [e2]; exact True.intro) (.inl rfl) (fun b o nb e => sb4.extBut b o nb e) (let ⟨o, _, _, ho, _⟩ := dd4; ⟨o, ho⟩) (dk_new (by show 1 ≤ sizeLine; rw [sizeLine_eq]; decide) d3 (by rw [← one]; exact rk.merge .nil) dd4)
  have e1' : upd H3 h2.objs.size (.dK [(key, z)]) s.heap.objs.size = some (.dK (mergeK [] kvs)) := by rw [upd_ne npq]; exact e1
  obtain ⟨z5, d5, vs5, r5, dd5⟩ := dk_of I7.hok e1'
  obtain ⟨z6, d6, vs6, r6, dd6⟩ := dk_of I7.hok (show upd H3 h2.objs.size (.dK [(key, z)]) h2.objs.size = some (.dK [(key, z)]) from upd_same)
  have hl5 : vs5.length = (mergeK [] kvs).length := r5.length.symm
  have hl6 : vs6.length = 1 := r6.length.symm
  refine mergeP (knd := mixKind X.prog X.w) dd5 dd6 (Ne.symm npq) d6 (fun k r => keyIs_ref) (by omega) fun h5 tk5 dd7 hk5 => ?_
  have lp := length_putK (mergeK [] kvs) key z
  have I8 := I7.write (x := s.heap.objs.size) (e := s.heap.objs.size) (h' := h5) (t' := tk5) (o := .dK (putK (mergeK [] kvs) key z)) (by rw [e1']; exact True.intro) (.inl rfl) (fun b o nb e => hk5 b o nb e) (let ⟨o, _, _, ho, _⟩ := dd7; ⟨o, ho⟩) (dk_new (by omega) d5 (r6.merge r5) dd7)
  exact ⟨.ref _, _, I8, rfl, q3⟩
end
section
variable {c : Ctx} {ρ : List Ent} {t0 tk tv : TE} {ks : List (Key × PyData)}
theorem put_go {I H I2 H2 : Hp} {p : Addr} {o : HO} (g : Gx c.b I H I2 H2) (np : H p = none) : Gx c.b I H I2 (upd H2 p o) :=
  ⟨g.ii, fun q x nb h => by rw [upd_ne (ne_of_none h np)]; exact g.hh q x nb h, g.nw, fun q h => by rw [upd_ne (fun z => h (by rw [z]; exact np))]; exact g.th q h⟩
/-- {**d, k: v}, data -/
theorem pv_star {key : Key} {d : PyData} (h0 : Pv c t0 ρ (kvD ks)) (hk : Pv c tk ρ (kD key)) (hv : Pv c tv ρ d) (hl : ks.length < sizeLine) : Pv c (tStar t0 tk tv) ρ (kvD (putD (mergeD [] ks) key d)) := fun σ I H n Q w e l kk => fun p np => by
  have g1 : Gx c.b I H I (upd H p (.dK [])) := lost_go np
  have hb := w.bne np
  have w1 : Wd c I (upd H p (.dK [])) n := w.put (w.h0n np) (w.noI np) hb
  refine h0 σ I _ n _ w1 (e.go g1) l fun v d1 I2 H2 g2 w2 r2 p2 => ?_
  subst p2
  unfold kvD at r2
  cases r2 with
  | @dic a xs es h1 q1 =>
    have q1 := RpKv.kv q1
    have hp2 : H2 p = some (.dK []) := g2.hh p _ hb upd_same
    have ip2 : I2 p = none := by
      rw [g2.nw p (by rw [upd_same]; exact fun z => nomatch z)]
      exact w.noI np
    have ha2 : H2 a = some (.dK xs) := w2.ih _ _ h1
    have ne : a ≠ p := fun z => by rw [z, ip2] at h1; cases h1
    refine ⟨a, xs, rfl, .inl ha2, hp2, ne, by rw [show xs.length = ks.length from Paired.length q1]; exact hl, fun q nq => ?_⟩
    have w3 : Wd c I2 (upd H2 p (.dK (mergeK [] xs))) (n + 0) := w2.put (w.h0n np) ip2 hb
    have gA : Gx c.b I H I2 (upd H2 p (.dK (mergeK [] xs))) := put_go (g1.trans g2) np
    have hbq := w3.bne nq
    have w4 : Wd c I2 (upd (upd H2 p (.dK (mergeK [] xs))) q (.dK [])) (n + 0) := w3.put (w3.h0n nq) (w3.noI nq) hbq
    have gB : Gx c.b I H I2 (upd (upd H2 p (.dK (mergeK [] xs))) q (.dK [])) := gA.trans (lost_go nq)
    have npq : p ≠ q := fun z => by rw [← z, upd_same] at nq; cases nq
    have nqH : H q = none := by
      cases hd : H q with
      | none => rfl
      | some o => exact absurd nq (gA.th q (by rw [hd]; exact fun z => nomatch z))
    refine hk σ I2 _ _ _ w4 (e.go gB) (by omega) fun y d2 I3 H3 g4 w5 r3 p3 => ?_
    subst p3
    refine hv σ I3 H3 _ _ w5 (e.go (gB.trans g4)) (by omega) fun z d3 I4 H4 g5 w6 r4 p4 => ?_
    subst p4
    have g45 := g4.trans g5
    have hp4 : H4 p = some (.dK (mergeK [] xs)) := g45.hh p _ hb (by rw [upd_ne npq, upd_same])
    have hq4 : H4 q = some (.dK []) := g45.hh q _ hbq upd_same
    have ip4 : I4 p = none := by
      rw [g45.nw p (by rw [upd_ne npq, upd_same]; exact fun z => nomatch z)]
      exact ip2
    have iq4 : I4 q = none := by
      rw [g45.nw q (by rw [upd_same]; exact fun z => nomatch z)]
      exact w3.noI nq
    refine ⟨key, key_inv r3, hp4, hq4, npq, ?_⟩
    have w7 : Wd c I4 (upd H4 q (.dK [(key, z)])) _ := w6.put (w3.h0n nq) iq4 hbq
    have w8 : Wd c (upd I4 p (.dK (putK (mergeK [] xs) key z))) (upd (upd H4 q (.dK [(key, z)])) p (.dK (putK (mergeK [] xs) key z))) _ := w7.seal (w.h0n np) ip4 hb
    have gC : Gx c.b I H I4 (upd H4 q (.dK [(key, z)])) := put_go (gB.trans g45) nqH
    have gD : Gx c.b I H (upd I4 p (.dK (putK (mergeK [] xs) key z))) (upd (upd H4 q (.dK [(key, z)])) p (.dK (putK (mergeK [] xs) key z))) := seal_go gC np ip4
    have sI : Same I4 (upd I4 p (.dK (putK (mergeK [] xs) key z))) := fun a o h => by rw [upd_ne (ne_of_none h ip4)]; exact h
    exact kk _ _ _ _ gD (w8.bgN (by omega)) (.dic upd_same (RpKv.of ((((q1.mono g45.ii).merge .nil).put r4).mono sI))) rfl
end
end Hh

set_option Elab.async false
set_option linter.all false
set_option maxRecDepth 100000
set_option maxHeartbeats 2000000
namespace Hh
set_option autoImplicit false
open PySem PySem.Spec PyProof.Rows L2
/-! ### max(d, default=x) over the keys of a dict -/
section
variable {prog : Program} {w : World} {A : Around} {R : Result → Shared → Prop} {J : Addr} {fp wr : List Addr} {n : Nat} {P : Nat → Value → Prop} {St : Nat → Heap → Prop}
theorem nm_loop : (toString "max" ++ toString ".loop" : String) = "max.loop" := by decide
theorem maxGo (W : Walks prog w A.in1 J fp wr n P St) (bt : Nat → Nat → Bool) (cmp : CmpOf prog w A.in1 .Gt P bt) (S : Addr) (nS : S ∉ fp) (kw : List (Str × Value)) :
    ∀ (m j : Nat) (s : Shared) (vb : Value) (c : Nat), n - (j + 1) = m → j + 1 ≤ n → St (j + 1) s.heap → P (argBest bt j) vb → s.heap.get? S = some { cls := .type "list", dict := none, data := .seq #[vb, vb] c, slots := #[] } →
    (∀ v h' tk, P (argBest bt (n - 1)) v → (∀ b o, b ∉ wr → b ≠ S → s.heap.get? b = some o → h'.get? b = some o) → R (.ok (.ret v)) { s with heap := h', toks := tk }) →
    codeAny (model prog w) A (.builtin "max.loop" ⟨[.ref J, .none, .ref S], kw⟩) R s := by
  have wS : S ∉ wr := fun h => nS (W.sub _ h)
  intro m
  induction m with
  | zero =>
    intro j s vb c hm hj st pb gS fin
    have ej : j + 1 = n := by omega
    refine codeAny_builtin PySem.F.entry_max_loop (by
      rw [Around.under_plainId PySem.F.plain_max_loop _]
      show wpAny _ A.in1 (seqItems? (.ref S) >>= _) _ _ s
      refine wpAny_bind (wpAny_seqItems gS rfl (by
        show wpAny _ A.in1 (tryCatch (pyNext (.ref J)) _ >>= _) _ _ s
        refine wpAny_bind (wpAny_tryCatch (W.done s _ _ (ej ▸ st) fun h1 t1 k1 => ?_))
        have gS1 := k1 S _ wS gS
        show wpAny _ A.in1 (updateSeq S (fun _ => #[]) >>= _) _ _ _
        refine wpAny_bind (wpAny_updateSeq gS1 rfl (wpAny_bind (wpAny_letGo (wpAny_pure (fin vb _ t1 (by rw [← ej]; exact pb) fun b o hw hS e => ?_)))))
        exact (Heap.get?_update_other _ _ (Ne.symm hS)).trans (k1 b o hw e))))
  | succ m ih =>
    intro j s vb c hm hj st pb gS fin
    have lt : j + 1 < n := by omega
    refine codeAny_builtin PySem.F.entry_max_loop (by
      rw [Around.under_plainId PySem.F.plain_max_loop _]
      show wpAny _ A.in1 (seqItems? (.ref S) >>= _) _ _ s
      refine wpAny_bind (wpAny_seqItems gS rfl (by
        show wpAny _ A.in1 (tryCatch (pyNext (.ref J)) _ >>= _) _ _ s
        refine wpAny_bind (wpAny_tryCatch (W.item (j + 1) s _ _ lt st fun v h1 t1 pv st1 k1 => ?_))
        have gS1 := k1 S _ wS gS
        show wpAny _ A.in1 (tryCatch (holding [v, v] (richCompare .Gt v vb >>= _)) _ >>= _) _ _ _
        refine wpAny_bind (wpAny_tryCatch (wpAny_holding (wpAny_bind (cmp (j + 1) (argBest bt j) v vb _ _ _ pv pb (wpAny_bind (wpAny_holding (wpAny_truthy_bool (wpAny_bind (wpAny_letGo (wpAny_pure ?_))))))))))
        cases hb : bt (j + 1) (argBest bt j) with
        | true =>
          simp only [if_true]
          refine wpAny_bind (wpAny_updateSeq gS1 rfl (wpAny_bind (wpAny_letGo ?_)))
          rw [nm_loop]
          exact wpAny_pure ⟨plainId_quiet PySem.F.plain_max_loop _, ih (j + 1) _ v _ (by omega) lt (W.frame _ _ _ st1 fun b hf o e => (Heap.get?_update_other _ _ (fun h : S = b => nS (by rw [h]; exact hf))).trans e) (by simp only [argBest, hb, if_true]; exact pv) (Heap.get?_update_self _ gS1 rfl)
            fun u h2 t2 pu k2 => fin u h2 t2 pu fun b o hw hS e => k2 b o hw hS ((Heap.get?_update_other _ _ (Ne.symm hS)).trans (k1 b o hw e))⟩
        | false =>
          simp only [Bool.false_eq_true, if_false]
          refine wpAny_bind (wpAny_letGo ?_)
          rw [nm_loop]
          exact wpAny_pure ⟨plainId_quiet PySem.F.plain_max_loop _, ih (j + 1) _ vb c (by omega) lt st1 (by simp only [argBest, hb, Bool.false_eq_true, if_false]; exact pb) gS1
            fun u h2 t2 pu k2 => fin u h2 t2 pu fun b o hw hS e => k2 b o hw hS (k1 b o hw e)⟩)))
/-- the loop from its beginning: none told, or one is -/
theorem maxGo0 (W : Walks prog w A.in1 J fp wr n P St) (bt : Nat → Nat → Bool) (cmp : CmpOf prog w A.in1 .Gt P bt) (S : Addr) (nS : S ∉ fp) (df : Value) {s : Shared} {c : Nat} (st : St 0 s.heap) (gS : s.heap.get? S = some { cls := .type "list", dict := none, data := .seq #[] c, slots := #[] })
    (fin : ∀ v h' tk, (n = 0 ∧ v = df ∨ 0 < n ∧ P (argBest bt (n - 1)) v) → (∀ b o, b ∉ wr → b ≠ S → s.heap.get? b = some o → h'.get? b = some o) → R (.ok (.ret v)) { s with heap := h', toks := tk }) :
    codeAny (model prog w) A (.builtin "max.loop" ⟨[.ref J, .none, .ref S], [(Str.ofString "default", df)]⟩) R s := by
  have wS : S ∉ wr := fun h => nS (W.sub _ h)
  by_cases h0 : n = 0
  · refine codeAny_builtin PySem.F.entry_max_loop (by
      rw [Around.under_plainId PySem.F.plain_max_loop _]
      show wpAny _ A.in1 (seqItems? (.ref S) >>= _) _ _ s
      refine wpAny_bind (wpAny_seqItems gS rfl (by
        show wpAny _ A.in1 (tryCatch (pyNext (.ref J)) _ >>= _) _ _ s
        refine wpAny_bind (wpAny_tryCatch (W.done s _ _ (h0 ▸ st) fun h1 t1 k1 => ?_))
        refine wpAny_bind (wpAny_rule (wpAny_pure (fin df h1 t1 (.inl ⟨h0, rfl⟩) fun b o hw hS e => k1 b o hw e))))))
  · refine codeAny_builtin PySem.F.entry_max_loop (by
      rw [Around.under_plainId PySem.F.plain_max_loop _]
      show wpAny _ A.in1 (seqItems? (.ref S) >>= _) _ _ s
      refine wpAny_bind (wpAny_seqItems gS rfl (by
        show wpAny _ A.in1 (tryCatch (pyNext (.ref J)) _ >>= _) _ _ s
        refine wpAny_bind (wpAny_tryCatch (W.item 0 s _ _ (by omega) st fun v h1 t1 pv st1 k1 => ?_))
        have gS1 := k1 S _ wS gS
        show wpAny _ A.in1 (updateSeq S (fun _ => #[v, v]) >>= _) _ _ _
        refine wpAny_bind (wpAny_updateSeq gS1 rfl ?_)
        rw [nm_loop]
        exact wpAny_pure ⟨plainId_quiet PySem.F.plain_max_loop _, maxGo W bt cmp S nS _ _ 0 _ v _ rfl (by omega) (W.frame _ _ _ st1 fun b hf o e => (Heap.get?_update_other _ _ (fun h : S = b => nS (by rw [h]; exact hf))).trans e) pv (Heap.get?_update_self _ gS1 rfl)
          fun u h2 t2 pu k2 => fin u h2 t2 (.inr ⟨by omega, pu⟩) fun b o hw hS e => k2 b o hw hS ((Heap.get?_update_other _ _ (Ne.symm hS)).trans (k1 b o hw e))⟩)))
end
section
variable {prog : Program} {w : World} {A : Around} {E : Value → Shared → Prop} {s : Shared}
theorem args_maxD (a d : Value) : argsOk "max" ⟨[a], [(Str.ofString "default", d)]⟩ := by unfold argsOk; kernel_rfl
/-- max(x, default=d) -/
theorem maxD {x df : Value} {Q : Value → Shared → Prop}
    (h : wpAny (model prog w) A.in1 (pyIter x) (fun it s2 => ∃ J fp wr n P St bt, it = .ref J ∧ Walks prog w A.in1 J fp wr n P St ∧ St 0 s2.heap ∧ (∀ b ∈ fp, b < s2.heap.objs.size) ∧ CmpOf prog w A.in1 .Gt P bt ∧
      ∀ v h' tk, (n = 0 ∧ v = df ∨ 0 < n ∧ P (argBest bt (n - 1)) v) → (∀ b o, b ∉ wr → s2.heap.get? b = some o → h'.get? b = some o) → Q v { s2 with heap := h', toks := tk }) E s) :
    wpAny (model prog w) A (call (.builtin "max") [x] [(Str.ofString "default", df)]) Q E s := by
  refine kmk_tree PySem.F.kind_max PySem.F.plain_max PySem.F.entry_max (args_maxD _ _) (by
    show wpAny _ A.in1 (Builtin.Builtins.bindParams "max" ["key", "default"] 0 ⟨[], [(Str.ofString "default", df)]⟩ >>= _) _ _ s
    refine wpAny_bind (wpAny_of_eq (show Builtin.Builtins.bindParams "max" ["key", "default"] 0 ⟨[], [(Str.ofString "default", df)]⟩ = pure [none, some df] from rfl) ?_)
    refine wpAny_bind (wpAny_pure (wpAny_bind (wpAny_mono h (fun it s2 h2 => ?_) fun _ _ e => e)))
    obtain ⟨J, fp, wr, n, P, St, bt, rfl, W, st, hfp, cmp, q⟩ := h2
    refine wpAny_bind (wpAny_newObj_type ?_)
    rw [nm_loop]
    refine wpAny_pure ⟨plainId_quiet PySem.F.plain_max_loop _, maxGo0 W bt cmp s2.heap.objs.size (fun hm => Nat.lt_irrefl _ (hfp _ hm)) df (W.frame _ _ _ st fun b _ o e => Heap.get?_push_of_some _ e) (Heap.get?_push_size _ rfl) fun v h' tk pv hk => ?_⟩
    exact q v h' tk pv fun b o hw e => hk b o hw (Nat.ne_of_lt (Heap.lt_size e)) (Heap.get?_push_of_some _ e))
end
end Hh

set_option Elab.async false
set_option linter.all false
set_option maxRecDepth 100000
set_option maxHeartbeats 2000000
namespace Hh
set_option autoImplicit false
open PySem PySem.Spec PyProof.Rows L2
def rMaxDef : List V → List V → Hp → VK → Prop := fun vs zs H Q => ∃ (a : Addr) (kvs : List (Key × V)) (ks : List Int) (z : Int), vs = [.ref a] ∧ zs = [.int z] ∧ Rd H a (.dK kvs) ∧ kvs.map (·.1) = ks.map Sum.inl ∧ ∀ m, (ks = [] ∧ m = z ∨ m ∈ ks ∧ ∀ y ∈ ks, y ≤ m) → Q (.int m) H
theorem cr_maxDef {X : Cx} (hc : X.calm = true) : CallRK X (.builtin "max") [Str.ofString "default"] rMaxDef := by
  intro pins s σ H vs zs us ws Q I r rz h
  obtain ⟨a, kvs, ks, z, rfl, rfl, ha, hk, q⟩ := h
  obtain rfl := Vals.ref1 r
  obtain ⟨w1, rfl, t, rfl⟩ := vals1 rz
  obtain ⟨zz, nd, vs', rv, o, es, ep, ho, hx, hd, kk, pp, nn⟩ := dk_rd I.hok ha
  have hl : vs'.length = ks.length := by
    have e1 := rv.length
    have e2 := congrArg List.length hk
    rw [List.length_map, List.length_map] at e2
    omega
  have hlt : a < s.heap.objs.size := Heap.lt_size ho
  refine maxD ?_
  refine wpAny_pyIter_dict nd (knd := mixKind X.prog X.w) (kvs := vs') ⟨o, es, ho, hx, hd, kk, pp, nn⟩ ?_
  have hP : ∀ i v, (∃ k x, vs'[i]? = some (k, x) ∧ (mixKind X.prog X.w).is k v = true) → ∃ t, v = .int (ks.getD i 0) t := by
    rintro i v ⟨k, x, h1, h2⟩
    obtain ⟨p, h3, h4⟩ := Paired.getP rv h1
    have h5 : (kvs.map (·.1))[i]? = some p.1 := by rw [List.getElem?_map, h3]; rfl
    rw [hk, List.getElem?_map] at h5
    cases h6 : ks[i]? with
    | none => rw [h6] at h5; cases h5
    | some n =>
      rw [h6] at h5
      have h7 : Sum.inl n = p.1 := Option.some.inj h5
      have h8 : p.1 = k := h4.1
      rw [← h8, ← h7] at h2
      rcases keyIs_shape (show keyIs (Sum.inl n) v = true from h2) with ⟨j, t, e1, e2⟩ | ⟨j, t, e1, e2⟩
      · cases e1
        exact ⟨t, by rw [e2, List.getD_eq_getElem?_getD, h6]; rfl⟩
      · cases e1
  refine ⟨s.heap.objs.size, [s.heap.objs.size, a], [s.heap.objs.size], vs'.length, _, _, _, rfl, Walks.dictKeys (knd := mixKind X.prog X.w) (show X.A.in1.handled = none from I.ok.hd hc) s.heap.objs.size a (Nat.ne_of_lt hlt) vs' ep, ⟨⟨_, Heap.get?_push_size _ rfl, rfl, rfl⟩, ⟨o, es, Heap.get?_push_of_some _ ho, hx, hd, kk, pp, nn⟩⟩, fun b hb => ?_, CmpOf.ints_gt (fun i => ks.getD i 0) hP, fun v h' tk pv hkp => ?_⟩
  · show b < (s.heap.push _).objs.size
    rw [size_push']
    rcases List.mem_cons.mp hb with rfl | hb
    · exact Nat.lt_succ_self _
    · rw [List.mem_singleton.mp hb]
      exact Nat.lt_succ_of_lt hlt
  · have keep : ∀ b o, s.heap.get? b = some o → h'.get? b = some o := fun b o e => hkp b o (fun z => by
      rw [List.mem_singleton.mp z] at e
      rw [Heap.get?_none_of_le (Nat.le_refl _)] at e
      cases e) (Heap.get?_push_of_some _ e)
    rcases pv with ⟨h0, rfl⟩ | ⟨h0, hp⟩
    · refine ⟨.int z, H, I.kept (t' := tk) keep, ⟨t, rfl⟩, q z (.inl ⟨List.length_eq_zero_iff.mp (by omega), rfl⟩)⟩
    · obtain ⟨t2, rfl⟩ := hP _ _ hp
      obtain ⟨h1, h2⟩ := argBest_gt (fun i => ks.getD i 0) (vs'.length - 1)
      refine ⟨.int _, H, I.kept (t' := tk) keep, ⟨t2, rfl⟩, q _ (.inr ⟨?_, fun y hy => ?_⟩)⟩
      · rw [List.getD_eq_getElem?_getD, List.getElem?_eq_getElem (by omega)]
        exact List.getElem_mem _
      · obtain ⟨j, hj⟩ := List.mem_iff_getElem?.mp hy
        have hjl := (List.getElem?_eq_some_iff.mp hj).1
        have := h2 j (by omega)
        rw [List.getD_eq_getElem?_getD, hj] at this
        exact this
end Hh

set_option Elab.async false
set_option linter.all false
set_option maxRecDepth 100000
set_option maxHeartbeats 2000000
namespace Hh
set_option autoImplicit false
open PySem PySem.Spec PyProof.Rows L2
/-! ### for k in d, d a new dict -/
def iKeysN (td : TE) : TI := fun σ H R => td σ H fun x H1 => ∃ (a : Addr) (kvs : List (Key × V)), x = .ref a ∧ H1 a = some (.dK kvs) ∧ ∀ o, R (Itk a o kvs) (upd H1 a (.frz o (.dK kvs)))
theorem pi_keysN {X : Cx} {tg e : Expr} {td : TE} (he : PE X e td) : PI X tg e (iKeysN td) := by
  refine ⟨fun pins s σ H R I h => thn (he.run pins s σ H _ I h) fun u s1 ⟨x, H1, I1, rx, a, kvs, ex, ha, q⟩ => ?_⟩
  subst ex
  obtain rfl : u = Value.ref a := rx
  obtain ⟨od, I2⟩ := I1.lock ha True.intro
  obtain ⟨hs, hgd, hx, es, ep, vs, hdt, hsz, kv, hm⟩ := I2.frzK upd_same
  exact iter_keys hs hgd hx hdt (pi_one (tk := s1.toks) I2 _ (turn_keys _ hdt) ⟨_, Heap.get?_push_size _ rfl, rfl, by rw [hsz] <;> rfl⟩ (q od))
section
variable {c : Ctx} {ρ : List Ent} {td te tz : TE} {ks : List (Key × PyData)} {g : TG} {tgs : List Nat} {f : PyData → List Ent → List Ent} {i : Nat} {C : Nat} {O : Out}
theorem iw_keysN (ha : EvF c td ρ C (fun d => d = kvD ks)) (ht : ∀ q ∈ ks, Tg c g tgs (kD q.1) (f (kD q.1))) : Iw c (iKeysN td) g ρ C tgs f (fun is => is = ks.map fun q => kD q.1) := fun σ I H n R w e l k =>
  ha σ I H n _ w e l fun v d I2 H2 g2 w2 r2 p2 ⟨p, ev, np⟩ => by
    subst p2 ev
    unfold kvD at r2
    generalize hv : V.ref p = v at r2
    cases r2 with
    | @dic a xs es h1 q1 =>
      cases hv
      have hk := RpKv.kv q1
      have ip : I p = none := w.ih.free np
      have hlen : xs.length = ks.length := Paired.length hk
      refine ⟨p, xs, rfl, w2.ih _ _ h1, fun od => ?_⟩
      have nq : ∀ {q : Addr} {o : HO}, H q = some o → q ≠ p := fun h => ne_of_none h np
      have gg : Gx c.b I H (upd I2 p (.frz od (.dK xs))) (upd H2 p (.frz od (.dK xs))) := by
        refine ⟨fun q o h => ?_, fun q o nb h => ?_, fun q h => ?_, fun q h => ?_⟩
        · rw [upd_ne (ne_of_none h ip)]; exact g2.ii q o h
        · rw [upd_ne (nq h)]; exact g2.hh q o nb h
        · rw [upd_ne (fun z => h (by rw [z]; exact np))]; exact g2.nw q h
        · rw [upd_ne (fun z => h (by rw [z]; exact np))]; exact g2.th q h
      have ww : Wd c (upd I2 p (.frz od (.dK xs))) (upd H2 p (.frz od (.dK xs))) (n + C) := by
        have h0 : c.H0 p = none := w.h0n np
        refine ⟨fun q o h => ?_, w.i0.trans gg.ii, fun q o nb h => ?_, fun q h => ?_, fun q z => ?_⟩
        · by_cases z : q = p
          · subst z; rw [upd_same] at h ⊢; exact h
          · rw [upd_ne z] at h ⊢; exact w2.ih q o h
        · rw [upd_ne (ne_of_none h h0)]; exact w2.h0 q o nb h
        · rw [upd_ne (fun z => h (by rw [z]; exact h0))]; exact w2.nw q h
        · obtain ⟨b1, b2, o, b3, b4⟩ := w2.bg q z
          have ne : q ≠ p := fun y => b2 (by rw [y]; exact h0)
          exact ⟨b1, b2, o, by rw [upd_ne ne]; exact b3, b4⟩
      refine k _ _ _ _ gg ww ⟨fun i I H n s w h => ⟨w.ih _ _ (s _ _ upd_same), by rw [List.length_map] at h; omega⟩, fun i x I H n y H' σ ρ Q s w e hx hy kk => ?_, fun i I H n s w h => ⟨w.ih _ _ (s _ _ upd_same), by rw [List.length_map] at h; omega⟩⟩ rfl
      obtain ⟨eH, k1, v1, hy, ey⟩ := hy
      subst eH ey
      rw [List.getElem?_map] at hx
      cases hq2 : ks[i]? with
      | none => rw [hq2] at hx; cases hx
      | some q2 =>
        rw [hq2] at hx
        cases hx
        obtain ⟨a, h1, h2⟩ := Paired.getP hk hq2
        rw [hy] at h1
        cases h1
        have rk : Rp c.K I (kV k1) (kD q2.1) := by
          rw [← h2.1]
          cases k1 with
          | inl i => exact .int i
          | inr x => exact .str x
        exact ht q2 (List.mem_of_getElem? hq2) σ ρ _ _ n _ Q w e rk fun σ2 e2 s2 => kk σ2 _ _ Gx.refl w e2 s2
/-- return d: a dict of one's own, told as a new one -/
theorem bk_retMu {ns : List Int} (hi : ρ[i]? = some (.mu (MTr ns))) (hn : O.rt (trD ns)) : Bk c (tRet (tVar i)) ρ C O := fun σ I H m D w e l k1 k2 k3 k4 => by
  obtain ⟨p, h1, h2, h3, h4, h5⟩ := mu_at hi e
  have eH : upd H p (.dK (kvT ns)) = H := funext fun q => by
    by_cases z : q = p
    · subst z; rw [upd_same, h2]
    · rw [upd_ne z]
  have w2 := w.seal (o := .dK (kvT ns)) h3 h5 h4
  rw [eH] at w2
  have s1 : Same I (upd I p (.dK (kvT ns))) := fun q o h => by rw [upd_ne (ne_of_none h h5)]; exact h
  refine ⟨_, h1, k2 _ (trD ns) (upd I p (.dK (kvT ns))) H s1 (w2.bgN (by omega)) ?_ ⟨hn, fun _ => ⟨p, rfl, h3⟩⟩⟩
  have q := rp_kvT (K := c.K) (I := upd I p (.dK (kvT ns))) ns
  unfold trD kvD
  rw [List.map_map]
  exact .dic upd_same q
/-- max(d, default=z) -/
theorem ev_maxDef {ns : List Int} {z : Int} (ha : Pv c te ρ (kvD ks)) (hk : ks.map (·.1) = ns.map Sum.inl) (hz : Pv c tz ρ (.int z)) : Ev c (tCKw rMaxDef (tCons te tNil) (tCons tz tNil)) ρ 0 (fun d => ∃ m : Int, d = .int m ∧ (ns = [] ∧ m = z ∨ m ∈ ns ∧ ∀ y ∈ ns, y ≤ m)) := fun σ I H n Q w e l k => by
  refine ha σ I H n _ w e l fun v d I2 H2 g2 w2 r2 p2 => ?_
  subst p2
  unfold kvD at r2
  cases r2 with
  | @dic a xs es h1 q1 =>
    have hq := RpKv.kv q1
    refine hz σ I2 H2 _ _ w2 (e.go g2) (by omega) fun v3 d3 I3 H3 g3 w3 r3 p3 => ?_
    subst p3
    refine ⟨a, xs, ns, z, rfl, by rw [r3.int_inv], .inl (w3.ih _ _ (g3.ii _ _ h1)), ?_, fun m hm => k _ _ I3 H3 (g2.trans g3) (w3.bgN (by omega)) (.int m) ⟨m, rfl, hm⟩⟩
    rw [← hk]
    have gen : ∀ {xs : List (Key × V)} {ks : List (Key × PyData)}, KvR c.K I2 xs ks → xs.map (·.1) = ks.map (·.1) := by
      intro xs ks h
      induction h with
      | nil => rfl
      | cons x r ih => rw [List.map_cons, List.map_cons, ih, x.1]
    exact gen hq
end
end Hh

set_option Elab.async false
set_option linter.all false
set_option maxRecDepth 100000
set_option maxHeartbeats 2000000
namespace Hh
set_option autoImplicit false
open PySem PySem.Spec PyProof.Rows L2
/-- the promise of a def that draws nothing and may raise, its answer a new list -/
def spXF (K : PySem.W.Frag) (ar : Nat) (pre : List Ent → Prop) (post : List Ent → PyData → Prop) (xr : List Ent → Value → Prop) : Sp := fun vs H Q E => ∃ (I : Hp) (es : List Ent), vs.length = ar ∧ Paired (ArgR K none bagB I) vs es ∧ Same I H ∧ pre es ∧
  (∀ v d I2 H2, Gx none I H I2 H2 → Same I2 H2 → Rp K I2 v d → post es d → (∃ p, v = .ref p ∧ H p = none) → Q v H2) ∧ (∀ cls I2 H2, Gx none I H I2 H2 → Same I2 H2 → xr es cls → E cls none H2)
theorem fnXF_ok {P : Program} {w : World} {K : PySem.W.Frag} {mg : Str → Option Value} {base : Heap} {x qual : Str} {st : Stmt} {f : Addr} {fd : FuncData} {N ps : List Str} {k : Nat} {pre : List Ent → Prop} {post : List Ent → PyData → Prop} {xr : List Ent → Value → Prop} (F : Fun K x qual st f fd) (S : FnScope N ps (defScope st))
    (hbody : ∀ (cdv : Value) (A : Around) (outer : List Env) (s : Shared) (H : Hp) (E : XK), Room k (A.deeper (envOfC qual (defScope st) s.heap.objs.size f cdv)) → Calm (A.deeper (envOfC qual (defScope st) s.heap.objs.size f cdv)) →
      ∃ t, PSs (cxOf (L2.CX P w) P w K mg base N qual (defScope st) f cdv A outer s H E) (defBody st) t ∧ ∀ (I : Hp) (es : List Ent), es.length = ps.length → pre es → (∀ cls I2 H2, Gx none I H I2 H2 → Same I2 H2 → xr es cls → E cls none H2) →
        Bk ⟨K, none, H, I, bagB⟩ t (es ++ List.replicate (N.length - es.length) .any) 0 { rt := post es, fr := true }) :
    FnX P w K mg base (k + 1) f fd ps (spXF K ps.length pre post xr) := by
  obtain ⟨oc, od, kV, doc, pm, an, cv, ct, sl, rfl, lk, hcd⟩ := F.ex
  refine fnX_of lk hcd S (fun vs H Q E ⟨I, es, h, _⟩ => h) fun A fr s H vs Q E hr hc ⟨I, es, h1, h2, h3, h4, h5, h6⟩ => ?_
  obtain ⟨t, ht, hb⟩ := hbody cv A fr s H E hr hc
  refine ⟨t, ht, ?_⟩
  have w0 : Wd ⟨K, none, H, I, bagB⟩ I H 0 := ⟨h3, Same.refl _, fun _ _ _ h => h, fun _ _ => rfl, fun p e => nomatch e⟩
  exact hb I es (by rw [← Paired.len h2]; exact h1) h4 h6 (L2.start N vs) I H 0 _ w0 (start_env h2) (Nat.zero_le _) (fun _ _ _ _ _ _ _ z => z.elim) (fun v d I' H' s w r p => h5 v d I' H' w.gx0 w.ih r p.1 (p.2 rfl)) (fun _ _ _ _ _ _ _ z => z.elim) (fun _ _ _ _ _ _ _ z => z.elim)
section
variable {c : Ctx} {ρ : List Ent} {tr : TA} {W : WX} {P : PyData → Prop}
theorem evF_callXF {ar : Nat} {pre : List Ent → Prop} {post : List Ent → PyData → Prop} {xr : List Ent → Value → Prop} {ds : List PyData} (ha : Pa c tr ρ (dats ds)) (hl : ds.length = ar) (hp : pre (dats ds)) (hP : ∀ d, post (dats ds) d → P d)
    (hW : ∀ cls σ I2 H2 n, Wd c I2 H2 n → n ≤ NMAX → EnvR c I2 H2 σ ρ → xr (dats ds) cls → W cls none σ H2) : EvF c (tCallS (spXF c.K ar pre post xr) (WE W) tr) ρ 0 P := fun σ I H n Q w e l k =>
  ha σ I H n _ w e l fun vs es I2 H2 g2 w2 r2 p2 => by
    subst p2
    have hb : ∀ {I3 H3 : Hp}, Gx none I2 H2 I3 H3 → ∀ p, c.b = some p → BAt c.B H3 p (n + 0) := fun {I3 H3} g3 p e => by
      obtain ⟨x, hh, rr⟩ := (w2.bg p e).2.2
      exact ⟨x, g3.hh p _ (fun z => nomatch z) hh, rr⟩
    refine ⟨I2, dats ds, by rw [Paired.len r2, dats, List.length_map]; exact hl, args_none r2, w2.ih, hp, fun v d I3 H3 g3 ih3 r3 p3 ⟨p, ev, hpn⟩ => ?_, fun cls I3 H3 g3 ih3 q => ?_⟩
    · refine k v d I3 H3 (g2.trans g3.anyb) (w2.go g3.anyb ih3 (hb g3)) r3 (hP d p3) ⟨p, ev, ?_⟩
      cases hd : H p with
      | none => rfl
      | some o => exact absurd hpn (g2.th p (by rw [hd]; exact fun z => nomatch z))
    · exact hW cls σ I3 H3 n (w2.go (C := 0) g3.anyb ih3 (hb g3)) (by omega) (e.go (g2.trans g3.anyb)) q
end
theorem takes_no {X : Cx} : Takes X (fun _ _ _ _ => False) := fun _ _ ⟨_, _, _, _, _, _, _, _, _, _, _, _, _, _, _, _, w⟩ => w.elim
section
variable {c : Ctx} {ρ : List Ent} {i : Nat} {a D : Addr} {b : Bool}
theorem pv_isX3 {c1 c2 c3 : Addr} (h : ρ[i]? = some (.raw (.ref a))) (E : ExcC c.K D) (hk : PySem.W.kitAny c.K (.ref D) [.ref c1, .ref c2, .ref c3] = some b) :
    Pv c (tCB (rIsX c.K (.ref D) none a) (tCons (tVar i) (tCons (tTup (tCons (tC (.ref c1)) (tCons (tC (.ref c2)) (tCons (tC (.ref c3)) tNil)))) tNil))) ρ (.bool b) := fun σ I H n Q w e l k => by
  refine ⟨.ref a, raw_at h e, by show 3 ≤ sizeLine; decide, fun p np => ⟨D, rfl, rfl, E, .inr ⟨p, _, _, b, rfl, upd_same, .cons (.own _) (.cons (.own _) (.cons (.own _) .nil)), hk, ?_⟩⟩⟩
  have g := lost_go (b := c.b) (I := I) (o := .tup [V.ref c1, V.ref c2, V.ref c3]) np
  refine k _ _ I _ g (w.go (C := 0) g (fun q o z => ?_) fun q z => ?_) (.bl _) rfl
  · rw [upd_ne (ne_of_none (w.ih q o z) np)]; exact w.ih q o z
  · obtain ⟨x, hh, rr⟩ := (w.bg q z).2.2
    exact ⟨x, by rw [upd_ne (ne_of_none hh np)]; exact hh, rr⟩
end
end Hh

set_option Elab.async false
set_option linter.all false
set_option maxRecDepth 100000
set_option maxHeartbeats 2000000
namespace Hh
set_option autoImplicit false
open PySem PySem.Spec PyProof.Rows L2
/-! ### texts: str(n), int(t), split, partition, f-strings -/
section
variable {c : Ctx} {ρ : List Ent} {ta tb te : TE}
theorem rda_strI {i : Int} (h : i.natAbs.log2 < 1920) : RdA c (fun xs H Q => ∃ i : Int, xs = [.int i] ∧ i.natAbs.log2 < 1920 ∧ Q (.str (toString i)) H) [.dat (.int i)] (fun x => x = .str (toString i)) := fun I H n vs Q w r k => by
  obtain ⟨x, rfl, h1⟩ := pair1 r
  have e1 : x = .int i := Rp.int_inv h1
  subst e1
  exact ⟨i, rfl, h, k _ _ I H Gx.refl w (.str _) rfl⟩
theorem rda_intS {x : Str} {n : Int} (h : PySem.intText? x = some n) (hl : x.length ≤ 640) : RdA c (fun xs H Q => ∃ a n, xs = [.str a] ∧ PySem.intText? a = some n ∧ a.length ≤ 640 ∧ Q (.int n) H) [.dat (.str x)] (fun r => r = .int n) := fun I H m vs Q w r k => by
  obtain ⟨y, rfl, h1⟩ := pair1 r
  have e1 : y = .str x := Rp.str_inv h1
  subst e1
  exact ⟨x, n, rfl, h, hl, k _ _ I H Gx.refl w (.int _) rfl⟩
theorem new_strs (K : PySem.W.Frag) (I : Hp) : ∀ ss : List Str, RpAll K I (ss.map V.str) (ss.map PyData.str)
  | [] => .nil
  | s :: r => .cons (.str s) (new_strs K I r)
/-- t.split(s): a new list -/
theorem evF_split {x s : Str} (ha : Pv c ta ρ (.str x)) (hb : Pv c tb ρ (.str s)) (hs : (s.length == 0) = false) (hl : x.length + 2 ≤ sizeLine) :
    EvF c (tM1 (fun x xs H Q => ∃ a b, x = .str a ∧ xs = [.str b] ∧ (b.length == 0) = false ∧ a.length + 2 ≤ sizeLine ∧ rNewStrs (Txt.split a b) H Q) ta tb) ρ 0 (fun d => d = .list ((Txt.split x s).map .str)) := fun σ I H n Q w e l k =>
  ha σ I H n _ w e l fun v d I2 H2 g2 w2 r2 p2 => by
    subst p2
    obtain rfl := r2.str_inv
    refine ⟨⟨x, rfl⟩, hb σ I2 H2 n _ w2 (e.go g2) l fun v3 d3 I3 H3 g3 w3 r3 p3 => ?_⟩
    subst p3
    obtain rfl := r3.str_inv
    refine ⟨x, s, rfl, rfl, hs, hl, fun p np => ?_⟩
    refine k _ _ (upd I3 p (.lst ((Txt.split x s).map V.str))) (upd H3 p (.lst ((Txt.split x s).map V.str))) ((g2.trans g3).trans (new_go w3.ih np)) (w3.new np) (.lst upd_same (new_strs _ _ _)) rfl ⟨p, rfl, ?_⟩
    cases hd : H p with
    | none => rfl
    | some o => exact absurd np ((g2.trans g3).th p (by rw [hd]; exact fun z => nomatch z))
/-- t.partition(s) -/
theorem pv_part {x s : Str} (ha : Pv c ta ρ (.str x)) (hb : Pv c tb ρ (.str s)) (hs : (s.length == 0) = false) (hl : x.length ≤ sizeLine) :
    Pv c (tM1 (fun x xs H Q => ∃ a b, x = .str a ∧ xs = [.str b] ∧ (b.length == 0) = false ∧ a.length ≤ sizeLine ∧
      ∀ p, H p = none → Q (.ref p) (upd H p (.tup [.str (Txt.partition a b).1, .str (Txt.partition a b).2.1, .str (Txt.partition a b).2.2]))) ta tb) ρ (.tuple [.str (Txt.partition x s).1, .str (Txt.partition x s).2.1, .str (Txt.partition x s).2.2]) := fun σ I H n Q w e l k =>
  ha σ I H n _ w e l fun v d I2 H2 g2 w2 r2 p2 => by
    subst p2
    obtain rfl := r2.str_inv
    refine ⟨⟨x, rfl⟩, hb σ I2 H2 n _ w2 (e.go g2) l fun v3 d3 I3 H3 g3 w3 r3 p3 => ?_⟩
    subst p3
    obtain rfl := r3.str_inv
    refine ⟨x, s, rfl, rfl, hs, hl, fun p np => ?_⟩
    exact k _ _ (upd I3 p (.tup [V.str (Txt.partition x s).1, V.str (Txt.partition x s).2.1, V.str (Txt.partition x s).2.2])) (upd H3 p (.tup [V.str (Txt.partition x s).1, V.str (Txt.partition x s).2.1, V.str (Txt.partition x s).2.2])) ((g2.trans g3).trans (new_go w3.ih np)) (w3.new np) (.tup (.inl (.inl upd_same)) (.cons (.str _) (.cons (.str _) (.cons (.str _) .nil)))) rfl
/-- {x} of a text -/
theorem pv_fmtS {x : Str} (ha : Pv c ta ρ (.str x)) (hl : x.length ≤ sizeLine) : Pv c (tFmt ta) ρ (.str x) := fun σ I H n Q w e l k =>
  ha σ I H n _ w e l fun v d I2 H2 g2 w2 r2 p2 => by
    subst p2
    obtain rfl := r2.str_inv
    exact .inl ⟨x, rfl, hl, k _ _ I2 H2 g2 w2 (.str _) rfl⟩
/-- {x} of a whole number -/
theorem pv_fmtI {i : Int} (ha : Pv c ta ρ (.int i)) (hl : i.natAbs.log2 < 1920) : Pv c (tFmt ta) ρ (.str (toString i)) := fun σ I H n Q w e l k =>
  ha σ I H n _ w e l fun v d I2 H2 g2 w2 r2 p2 => by
    subst p2
    obtain rfl := r2.int_inv
    exact .inr ⟨i, rfl, hl, k _ _ I2 H2 g2 w2 (.str _) rfl⟩
/-- the parts of an f-string -/
def catS : Str → List Str → Str
  | acc, [] => acc
  | acc, y :: ys => catS (acc ++ y) ys
inductive Fit : Str → List Str → Prop
  | nil {acc : Str} : Fit acc []
  | cons {acc y : Str} {ys : List Str} (h : (acc ++ y).length ≤ sizeLine) (r : Fit (acc ++ y) ys) : Fit acc (y :: ys)
theorem js_run {P : Str → Hp → Prop} : ∀ {ts : List TE} {ys : List Str} {acc : Str} {σ : Sl} {I H : Hp} {n : Nat}, Paired (fun t y => Pv c t ρ (.str y)) ts ys → Fit acc ys → Wd c I H n → EnvR c I H σ ρ → n + 0 ≤ NMAX → (∀ I2 H2, Gx c.b I H I2 H2 → Wd c I2 H2 n → P (catS acc ys) H2) → tJs ts acc σ H P
  | [], [], acc, σ, I, H, n, .nil, _, w, e, l, k => k I H Gx.refl w
  | t :: ts, y :: ys, acc, σ, I, H, n, .cons h r, .cons f q, w, e, l, k => by
    show t σ H _
    refine h σ I H n _ w e l fun v d I2 H2 g2 w2 r2 p2 => ?_
    subst p2
    obtain rfl := r2.str_inv
    exact ⟨y, rfl, f, js_run r q w2 (e.go g2) l fun I3 H3 g3 w3 => k I3 H3 (g2.trans g3) w3⟩
theorem pv_joined {ts : List TE} {ys : List Str} (h : Paired (fun t y => Pv c t ρ (.str y)) ts ys) (f : Fit Str.empty ys) : Pv c (fun σ H Q => tJs ts Str.empty σ H fun out H1 => Q (.str out) H1) ρ (.str (catS Str.empty ys)) := fun σ I H n Q w e l k =>
  js_run (P := fun out H1 => Q (.str out) H1) h f w e l fun I2 H2 g2 w2 => k _ _ I2 H2 g2 w2 (.str _) rfl
end
end Hh

set_option Elab.async false
set_option linter.all false
set_option maxRecDepth 100000
set_option maxHeartbeats 4000000
namespace Hh
open PySem PySem.Spec PyProof.Rows L2
def topS (i : Nat) : Stmt := PySem.Challenge.pw_heardhouse_k49_cases_written_and_read.main.body.getD i (.Pass ⟨0, 0, 0, 0⟩)
abbrev s_is_whole : Stmt := topS 7
theorem sc_is_whole : FnScope ["thing", "least"] ["thing", "least"] (defScope s_is_whole) := ⟨rfl, rfl, rfl, by decide +kernel, rfl, by decide +kernel, by decide +kernel⟩
abbrev s_is_row : Stmt := topS 8
theorem sc_is_row : FnScope ["thing", "many"] ["thing", "many"] (defScope s_is_row) := ⟨rfl, rfl, rfl, by decide +kernel, rfl, by decide +kernel, by decide +kernel⟩
abbrev s_is_rising : Stmt := topS 9
theorem sc_is_rising : FnScope ["row", "one", "other"] ["row"] (defScope s_is_rising) := ⟨rfl, rfl, rfl, by decide +kernel, rfl, by decide +kernel, by decide +kernel⟩
abbrev s_is_name : Stmt := topS 10
theorem sc_is_name : FnScope ["thing"] ["thing"] (defScope s_is_name) := ⟨rfl, rfl, rfl, by decide +kernel, rfl, by decide +kernel, by decide +kernel⟩
abbrev s_are_names : Stmt := topS 11
theorem sc_are_names : FnScope ["thing", "name"] ["thing"] (defScope s_are_names) := ⟨rfl, rfl, rfl, by decide +kernel, rfl, by decide +kernel, by decide +kernel⟩
abbrev s_is_calendar : Stmt := topS 14
theorem sc_is_calendar : FnScope ["thing", "day"] ["thing"] (defScope s_is_calendar) := ⟨rfl, rfl, rfl, by decide +kernel, rfl, by decide +kernel, by decide +kernel⟩
abbrev s_is_day : Stmt := topS 15
theorem sc_is_day : FnScope ["thing"] ["thing"] (defScope s_is_day) := ⟨rfl, rfl, rfl, by decide +kernel, rfl, by decide +kernel, by decide +kernel⟩
abbrev s_is_term : Stmt := topS 16
theorem sc_is_term : FnScope ["thing", "count", "unit"] ["thing"] (defScope s_is_term) := ⟨rfl, rfl, rfl, by decide +kernel, rfl, by decide +kernel, by decide +kernel⟩
abbrev s_is_case : Stmt := topS 19
theorem sc_is_case : FnScope ["thing", "calendar", "parties", "bench", "terms", "shared", "name", "_"] ["thing"] (defScope s_is_case) := ⟨rfl, rfl, rfl, by decide +kernel, rfl, by decide +kernel, by decide +kernel⟩
abbrev s_are_parties : Stmt := topS 20
theorem sc_are_parties : FnScope ["thing", "sides", "party", "_", "side", "name"] ["thing"] (defScope s_are_parties) := ⟨rfl, rfl, rfl, by decide +kernel, rfl, by decide +kernel, by decide +kernel⟩
abbrev s_is_party : Stmt := topS 21
theorem sc_is_party : FnScope ["thing", "name", "side"] ["thing"] (defScope s_is_party) := ⟨rfl, rfl, rfl, by decide +kernel, rfl, by decide +kernel, by decide +kernel⟩
abbrev s_are_terms : Stmt := topS 22
theorem sc_are_terms : FnScope ["thing", "term"] ["thing"] (defScope s_are_terms) := ⟨rfl, rfl, rfl, by decide +kernel, rfl, by decide +kernel, by decide +kernel⟩
abbrev s_check_case : Stmt := topS 23
theorem sc_check_case : FnScope ["case"] ["case"] (defScope s_check_case) := ⟨rfl, rfl, rfl, by decide +kernel, rfl, by decide +kernel, by decide +kernel⟩
abbrev s_show_case : Stmt := topS 26
theorem sc_show_case : FnScope ["case"] ["case"] (defScope s_show_case) := ⟨rfl, rfl, rfl, by decide +kernel, rfl, by decide +kernel, by decide +kernel⟩
abbrev s_read_case : Stmt := topS 27
theorem sc_read_case : FnScope ["text", "case"] ["text"] (defScope s_read_case) := ⟨rfl, rfl, rfl, by decide +kernel, rfl, by decide +kernel, by decide +kernel⟩
abbrev s_case_text : Stmt := topS 28
theorem sc_case_text : FnScope ["case", "calendar", "parties", "bench", "terms", "holidays", "sides", "judges", "counts", "day", "name", "side", "count", "unit"] ["case"] (defScope s_case_text) := ⟨rfl, rfl, rfl, by decide +kernel, rfl, by decide +kernel, by decide +kernel⟩
abbrev s_whole_of : Stmt := topS 29
theorem sc_whole_of : FnScope ["text"] ["text"] (defScope s_whole_of) := ⟨rfl, rfl, rfl, by decide +kernel, rfl, by decide +kernel, by decide +kernel⟩
abbrev s_case_of : Stmt := topS 30
theorem sc_case_of : FnScope ["text", "pieces", "holidays", "sides", "judges", "counts", "calendar", "parties", "terms", "day", "piece"] ["text"] (defScope s_case_of) := ⟨rfl, rfl, rfl, by decide +kernel, rfl, by decide +kernel, by decide +kernel⟩
abbrev s_parts_of : Stmt := topS 31
theorem sc_parts_of : FnScope ["text", "sign"] ["text", "sign"] (defScope s_parts_of) := ⟨rfl, rfl, rfl, by decide +kernel, rfl, by decide +kernel, by decide +kernel⟩
abbrev s_party_of : Stmt := topS 32
theorem sc_party_of : FnScope ["text", "name", "_", "side"] ["text"] (defScope s_party_of) := ⟨rfl, rfl, rfl, by decide +kernel, rfl, by decide +kernel, by decide +kernel⟩
abbrev s_term_of : Stmt := topS 33
theorem sc_term_of : FnScope ["text", "count", "_", "unit"] ["text"] (defScope s_term_of) := ⟨rfl, rfl, rfl, by decide +kernel, rfl, by decide +kernel, by decide +kernel⟩
abbrev s_law_cell_at : Stmt := topS 35
theorem sc_law_cell_at : FnScope ["script", "k"] ["script", "k"] (defScope s_law_cell_at) := ⟨rfl, rfl, rfl, by decide +kernel, rfl, by decide +kernel, by decide +kernel⟩
abbrev s_law_bag : Stmt := topS 36
theorem sc_law_bag : FnScope ["cell", "k"] ["cell", "k"] (defScope s_law_bag) := ⟨rfl, rfl, rfl, by decide +kernel, rfl, by decide +kernel, by decide +kernel⟩
abbrev s_law_dip : Stmt := topS 37
theorem sc_law_dip : FnScope ["bag", "many", "digit", "mixed"] ["bag", "many"] (defScope s_law_dip) := ⟨rfl, rfl, rfl, by decide +kernel, rfl, by decide +kernel, by decide +kernel⟩
abbrev s_law_alike : Stmt := topS 38
theorem sc_law_alike : FnScope ["found", "owed", "k"] ["found", "owed"] (defScope s_law_alike) := ⟨rfl, rfl, rfl, by decide +kernel, rfl, by decide +kernel, by decide +kernel⟩
abbrev s_law_name : Stmt := topS 39
theorem sc_law_name : FnScope ["bag", "letters", "size", "name", "k"] ["bag"] (defScope s_law_name) := ⟨rfl, rfl, rfl, by decide +kernel, rfl, by decide +kernel, by decide +kernel⟩
abbrev s_law_names : Stmt := topS 40
theorem sc_law_names : FnScope ["bag", "many", "k"] ["bag", "many"] (defScope s_law_names) := ⟨rfl, rfl, rfl, by decide +kernel, rfl, by decide +kernel, by decide +kernel⟩
abbrev s_law_spans : Stmt := topS 41
theorem sc_law_spans : FnScope ["bag", "k"] ["bag"] (defScope s_law_spans) := ⟨rfl, rfl, rfl, by decide +kernel, rfl, by decide +kernel, by decide +kernel⟩
abbrev s_law_case : Stmt := topS 42
theorem sc_law_case : FnScope ["bag", "days", "k", "names", "shift", "roles", "parted_so", "parties", "row", "name", "role"] ["bag"] (defScope s_law_case) := ⟨rfl, rfl, rfl, by decide +kernel, rfl, by decide +kernel, by decide +kernel⟩
abbrev s_law_case_shown : Stmt := topS 43
theorem sc_law_case_shown : FnScope ["case", "days", "parties", "bench", "spans", "found", "one", "name", "side", "count", "unit"] ["case"] (defScope s_law_case_shown) := ⟨rfl, rfl, rfl, by decide +kernel, rfl, by decide +kernel, by decide +kernel⟩
abbrev s_law_right : Stmt := topS 44
theorem sc_law_right : FnScope ["bag", "case", "kept", "script", "lap"] ["bag"] (defScope s_law_right) := ⟨rfl, rfl, rfl, by decide +kernel, rfl, by decide +kernel, by decide +kernel⟩
abbrev s_law : Stmt := topS 45
theorem sc_law : FnScope ["script", "k"] ["script"] (defScope s_law) := ⟨rfl, rfl, rfl, by decide +kernel, rfl, by decide +kernel, by decide +kernel⟩
structure Tx (K : PySem.W.Frag) (mg : Str → Option Value) where
  a_is_whole : Addr
  d_is_whole : FuncData
  F_is_whole : Fun K "is_whole" "is_whole" s_is_whole a_is_whole d_is_whole
  B_is_whole : Binds K d_is_whole ["thing", "least"] []
  G_is_whole : mg "is_whole" = some (.ref a_is_whole)
  a_is_row : Addr
  d_is_row : FuncData
  F_is_row : Fun K "is_row" "is_row" s_is_row a_is_row d_is_row
  B_is_row : Binds K d_is_row ["thing", "many"] []
  G_is_row : mg "is_row" = some (.ref a_is_row)
  a_is_rising : Addr
  d_is_rising : FuncData
  F_is_rising : Fun K "is_rising" "is_rising" s_is_rising a_is_rising d_is_rising
  B_is_rising : Binds K d_is_rising ["row"] []
  G_is_rising : mg "is_rising" = some (.ref a_is_rising)
  a_is_name : Addr
  d_is_name : FuncData
  F_is_name : Fun K "is_name" "is_name" s_is_name a_is_name d_is_name
  B_is_name : Binds K d_is_name ["thing"] []
  G_is_name : mg "is_name" = some (.ref a_is_name)
  a_are_names : Addr
  d_are_names : FuncData
  F_are_names : Fun K "are_names" "are_names" s_are_names a_are_names d_are_names
  B_are_names : Binds K d_are_names ["thing"] []
  G_are_names : mg "are_names" = some (.ref a_are_names)
  a_is_calendar : Addr
  d_is_calendar : FuncData
  F_is_calendar : Fun K "is_calendar" "is_calendar" s_is_calendar a_is_calendar d_is_calendar
  B_is_calendar : Binds K d_is_calendar ["thing"] []
  G_is_calendar : mg "is_calendar" = some (.ref a_is_calendar)
  a_is_day : Addr
  d_is_day : FuncData
  F_is_day : Fun K "is_day" "is_day" s_is_day a_is_day d_is_day
  B_is_day : Binds K d_is_day ["thing"] []
  G_is_day : mg "is_day" = some (.ref a_is_day)
  a_is_term : Addr
  d_is_term : FuncData
  F_is_term : Fun K "is_term" "is_term" s_is_term a_is_term d_is_term
  B_is_term : Binds K d_is_term ["thing"] []
  G_is_term : mg "is_term" = some (.ref a_is_term)
  a_is_case : Addr
  d_is_case : FuncData
  F_is_case : Fun K "is_case" "is_case" s_is_case a_is_case d_is_case
  B_is_case : Binds K d_is_case ["thing"] []
  G_is_case : mg "is_case" = some (.ref a_is_case)
  a_are_parties : Addr
  d_are_parties : FuncData
  F_are_parties : Fun K "are_parties" "are_parties" s_are_parties a_are_parties d_are_parties
  B_are_parties : Binds K d_are_parties ["thing"] []
  G_are_parties : mg "are_parties" = some (.ref a_are_parties)
  a_is_party : Addr
  d_is_party : FuncData
  F_is_party : Fun K "is_party" "is_party" s_is_party a_is_party d_is_party
  B_is_party : Binds K d_is_party ["thing"] []
  G_is_party : mg "is_party" = some (.ref a_is_party)
  a_are_terms : Addr
  d_are_terms : FuncData
  F_are_terms : Fun K "are_terms" "are_terms" s_are_terms a_are_terms d_are_terms
  B_are_terms : Binds K d_are_terms ["thing"] []
  G_are_terms : mg "are_terms" = some (.ref a_are_terms)
  a_check_case : Addr
  d_check_case : FuncData
  F_check_case : Fun K "check_case" "check_case" s_check_case a_check_case d_check_case
  B_check_case : Binds K d_check_case ["case"] []
  G_check_case : mg "check_case" = some (.ref a_check_case)
  a_show_case : Addr
  d_show_case : FuncData
  F_show_case : Fun K "show_case" "show_case" s_show_case a_show_case d_show_case
  B_show_case : Binds K d_show_case ["case"] []
  G_show_case : mg "show_case" = some (.ref a_show_case)
  a_read_case : Addr
  d_read_case : FuncData
  F_read_case : Fun K "read_case" "read_case" s_read_case a_read_case d_read_case
  B_read_case : Binds K d_read_case ["text"] []
  G_read_case : mg "read_case" = some (.ref a_read_case)
  a_case_text : Addr
  d_case_text : FuncData
  F_case_text : Fun K "case_text" "case_text" s_case_text a_case_text d_case_text
  B_case_text : Binds K d_case_text ["case"] []
  G_case_text : mg "case_text" = some (.ref a_case_text)
  a_whole_of : Addr
  d_whole_of : FuncData
  F_whole_of : Fun K "whole_of" "whole_of" s_whole_of a_whole_of d_whole_of
  B_whole_of : Binds K d_whole_of ["text"] []
  G_whole_of : mg "whole_of" = some (.ref a_whole_of)
  a_case_of : Addr
  d_case_of : FuncData
  F_case_of : Fun K "case_of" "case_of" s_case_of a_case_of d_case_of
  B_case_of : Binds K d_case_of ["text"] []
  G_case_of : mg "case_of" = some (.ref a_case_of)
  a_parts_of : Addr
  d_parts_of : FuncData
  F_parts_of : Fun K "parts_of" "parts_of" s_parts_of a_parts_of d_parts_of
  B_parts_of : Binds K d_parts_of ["text", "sign"] []
  G_parts_of : mg "parts_of" = some (.ref a_parts_of)
  a_party_of : Addr
  d_party_of : FuncData
  F_party_of : Fun K "party_of" "party_of" s_party_of a_party_of d_party_of
  B_party_of : Binds K d_party_of ["text"] []
  G_party_of : mg "party_of" = some (.ref a_party_of)
  a_term_of : Addr
  d_term_of : FuncData
  F_term_of : Fun K "term_of" "term_of" s_term_of a_term_of d_term_of
  B_term_of : Binds K d_term_of ["text"] []
  G_term_of : mg "term_of" = some (.ref a_term_of)
  a_law_cell_at : Addr
  d_law_cell_at : FuncData
  F_law_cell_at : Fun K "_law_cell_at" "_law_cell_at" s_law_cell_at a_law_cell_at d_law_cell_at
  B_law_cell_at : Binds K d_law_cell_at ["script", "k"] []
  G_law_cell_at : mg "_law_cell_at" = some (.ref a_law_cell_at)
  a_law_bag : Addr
  d_law_bag : FuncData
  F_law_bag : Fun K "_law_bag" "_law_bag" s_law_bag a_law_bag d_law_bag
  B_law_bag : Binds K d_law_bag ["cell", "k"] []
  G_law_bag : mg "_law_bag" = some (.ref a_law_bag)
  a_law_dip : Addr
  d_law_dip : FuncData
  F_law_dip : Fun K "_law_dip" "_law_dip" s_law_dip a_law_dip d_law_dip
  B_law_dip : Binds K d_law_dip ["bag", "many"] []
  G_law_dip : mg "_law_dip" = some (.ref a_law_dip)
  a_law_alike : Addr
  d_law_alike : FuncData
  F_law_alike : Fun K "_law_alike" "_law_alike" s_law_alike a_law_alike d_law_alike
  B_law_alike : Binds K d_law_alike ["found", "owed"] []
  G_law_alike : mg "_law_alike" = some (.ref a_law_alike)
  a_law_name : Addr
  d_law_name : FuncData
  F_law_name : Fun K "_law_name" "_law_name" s_law_name a_law_name d_law_name
  B_law_name : Binds K d_law_name ["bag"] []
  G_law_name : mg "_law_name" = some (.ref a_law_name)
  a_law_names : Addr
  d_law_names : FuncData
  F_law_names : Fun K "_law_names" "_law_names" s_law_names a_law_names d_law_names
  B_law_names : Binds K d_law_names ["bag", "many"] []
  G_law_names : mg "_law_names" = some (.ref a_law_names)
  a_law_spans : Addr
  d_law_spans : FuncData
  F_law_spans : Fun K "_law_spans" "_law_spans" s_law_spans a_law_spans d_law_spans
  B_law_spans : Binds K d_law_spans ["bag"] []
  G_law_spans : mg "_law_spans" = some (.ref a_law_spans)
  a_law_case : Addr
  d_law_case : FuncData
  F_law_case : Fun K "_law_case" "_law_case" s_law_case a_law_case d_law_case
  B_law_case : Binds K d_law_case ["bag"] []
  G_law_case : mg "_law_case" = some (.ref a_law_case)
  a_law_case_shown : Addr
  d_law_case_shown : FuncData
  F_law_case_shown : Fun K "_law_case_shown" "_law_case_shown" s_law_case_shown a_law_case_shown d_law_case_shown
  B_law_case_shown : Binds K d_law_case_shown ["case"] []
  G_law_case_shown : mg "_law_case_shown" = some (.ref a_law_case_shown)
  a_law_right : Addr
  d_law_right : FuncData
  F_law_right : Fun K "_law_right" "_law_right" s_law_right a_law_right d_law_right
  B_law_right : Binds K d_law_right ["bag"] []
  G_law_right : mg "_law_right" = some (.ref a_law_right)
  a_law : Addr
  d_law : FuncData
  F_law : Fun K "law" "law" s_law a_law d_law
  B_law : Binds K d_law ["script"] []
  G_law : mg "law" = some (.ref a_law)
  N_all : mg "all" = none
  N_bool : mg "bool" = none
  N_int : mg "int" = none
  N_isinstance : mg "isinstance" = none
  N_len : mg "len" = none
  N_list : mg "list" = none
  N_max : mg "max" = none
  N_min : mg "min" = none
  N_range : mg "range" = none
  N_repr : mg "repr" = none
  N_set : mg "set" = none
  N_sorted : mg "sorted" = none
  N_str : mg "str" = none
  N_tuple : mg "tuple" = none
  N_zip : mg "zip" = none
  t_LONGEST_NAME : Tok
  C_LONGEST_NAME : mg "LONGEST_NAME" = some (.int 8 t_LONGEST_NAME)
  t_EVERYBODY : Tok
  C_EVERYBODY : mg "EVERYBODY" = some (.str "public" t_EVERYBODY)
  a_UNITS : Addr
  C_UNITS : mg "UNITS" = some (.ref a_UNITS)
  O_UNITS : ∃ (o : Obj) (its : Array Value) (n : Nat), K.lookup a_UNITS = some o ∧ o.cls = .type "tuple" ∧ o.data = .seq its n ∧ its.size ≤ sizeLine ∧ Vals [V.str "days", V.str "open"] its.toList
  a_SIDES : Addr
  C_SIDES : mg "SIDES" = some (.ref a_SIDES)
  O_SIDES : ∃ (o : Obj) (its : Array Value) (n : Nat), K.lookup a_SIDES = some o ∧ o.cls = .type "tuple" ∧ o.data = .seq its n ∧ its.size ≤ sizeLine ∧ Vals [V.str "asker", V.str "answerer"] its.toList
  t_MOST_FIGURES : Tok
  C_MOST_FIGURES : mg "MOST_FIGURES" = some (.int 12 t_MOST_FIGURES)
/-! ### whole numbers, rows, what rises, names -/
def geD : PyData → Int → Bool
  | .int i, m => decide (m ≤ i)
  | _, _ => false
def isWh (d : PyData) (m : Int) : Bool := isIntD d && (!isBoolD d && geD d m)
abbrev sp_is_whole (K : PySem.W.Frag) : Sp := spD K 2 0 (fun es => ∃ (d : PyData) (m : Int), es = [.dat d, .dat (.int m)]) (fun es r => ∃ (d : PyData) (m : Int), es = [.dat d, .dat (.int m)] ∧ r = .bool (isWh d m))
theorem ok_is_whole {P : Program} {w : World} {K : PySem.W.Frag} {mg : Str → Option Value} {base : Heap} (T : Tx K mg) : FnG P w K mg base 1 T.a_is_whole T.d_is_whole ["thing", "least"] (sp_is_whole K) := by
  refine fnG_ok T.F_is_whole sc_is_whole (fun cdv A outer s H E hr hc => ⟨_, (pss_one (ps_ret (pe_and (pe_callB (call_isiK' (K := K) rfl) (by rfl) T.N_isinstance (by decide +kernel) (pa_cons (pv 0) (pa_cons (pe_bltn (v := .ty "int") (by rfl) T.N_int (by decide +kernel) rfl) pa_nil))) (pe_and (pe_not (pe_callB (call_isiK' (K := K) rfl) (by rfl) T.N_isinstance (by decide +kernel) (pa_cons (pv 0) (pa_cons (pe_bltn (v := .ty "bool") (by rfl) T.N_bool (by decide +kernel) rfl) pa_nil)))) (pe_one (pe_cmpR op_ge (pv 0) (pv 1) (nomark _))))))), ?_⟩)
  rintro b I es hl ⟨d, m, rfl⟩
  refine bk_ret (P := fun r => r = .bool (isWh d m)) ?_ fun r e => ⟨d, m, rfl, e⟩
  refine pv_and (pv_is_int (ev_var rfl)) fun h1 => pv_and (pv_not (pv_is_bool (ev_var rfl))) fun h2 => ?_
  cases d <;> first | (simp [isIntD] at h1; done) | (simp [isBoolD] at h2; done) | exact pv_ib (ev_var rfl) (ev_var rfl)
theorem wh_call {c : Ctx} {ρ : List Ent} {tr : TA} {E : XK} {d : PyData} {m : Int} (h : Pa c tr ρ [.dat d, .dat (.int m)]) : Pv c (tCall (sp_is_whole c.K) [] E tr) ρ (.bool (isWh d m)) := pv_callE h rfl ⟨d, m, rfl⟩ fun x ⟨d', m', e, q⟩ => by cases e; exact q
abbrev dayD (d : PyData) : Bool := isWh d 0
theorem dayD_int (n : Int) : dayD (.int n) = decide (0 ≤ n) := by simp [dayD, isWh, isIntD, isBoolD, geD]
theorem wh_inv {d : PyData} {m : Int} (h : isWh d m = true) : ∃ n : Int, d = .int n ∧ m ≤ n := by
  cases d <;> first | (simp [isWh, isIntD, isBoolD, geD] at h; done) | exact ⟨_, rfl, by simpa [isWh, isIntD, isBoolD, geD] using h⟩
theorem cutD_one (xs : List PyData) : cutD xs (some 1) none = xs.drop 1 := cut_from 1
/-- small enough for every rule -/
def Sm (d : PyData) : Prop := szD d ≤ 2 ^ 22
theorem szD_mem : ∀ {ds : List PyData} {x : PyData}, x ∈ ds → szD x ≤ szDs ds
  | d :: ds, x, h => by
    rcases List.mem_cons.mp h with q | q
    · subst q; show szD x ≤ szD x + szDs ds; omega
    · have := szD_mem q; show szD x ≤ szD d + szDs ds; omega
theorem Sm.tup {ds : List PyData} (h : Sm (.tuple ds)) : ds.length < sizeLine ∧ ds.length ≤ 2 ^ 22 ∧ ∀ x ∈ ds, Sm x := by
  have h' : szDs ds + 2 * ds.length + 3 ≤ 2 ^ 22 := h
  have s : (2 : Nat) ^ 22 < sizeLine := by decide
  exact ⟨by omega, by omega, fun x hx => by have := szD_mem hx; show szD x ≤ _; omega⟩
theorem Sm.str {x : Str} (h : Sm (.str x)) : x.length ≤ sizeLine := by
  have h' : 10 * x.length + 2 ≤ 2 ^ 22 := h
  have s : (2 : Nat) ^ 22 < sizeLine := by decide
  omega
theorem Homo.drop {ds : List PyData} (h : Homo ds) : Homo (ds.drop 1) := h.imp (fun h d hd => h d (List.mem_of_mem_drop hd)) fun h d hd => h d (List.mem_of_mem_drop hd)
def ltP : PyData → PyData
  | .tuple [a, b] => .bool (ltD a b)
  | _ => .none
def fst2 : PyData → PyData
  | .tuple (a :: _) => a
  | _ => .none
def snd2 : PyData → PyData
  | .tuple [_, b] => b
  | _ => .none
theorem zip_lt (xs ys : List PyData) : (zipD xs ys).map ltP = ((xs.zip ys).map fun p => ltD p.1 p.2).map PyData.bool := by
  unfold zipD
  rw [List.map_map, List.map_map]
  rfl
abbrev sp_is_rising (K : PySem.W.Frag) : Sp := spD K 1 0 (fun es => ∃ ds : List PyData, (es = [.dat (.tuple ds)] ∨ es = [.dat (.list ds)]) ∧ Homo ds ∧ ds.length < sizeLine) (fun es r => ∃ ds : List PyData, (es = [.dat (.tuple ds)] ∨ es = [.dat (.list ds)]) ∧ r = .bool (risD ds))
theorem iw_zipL {c : Ctx} {ρ : List Ent} {ta tb : TE} {g : TG} {tgs : List Nat} {f : PyData → List Ent → List Ent} {xs ys : List PyData} (ha : Pv c ta ρ (.list xs)) (hb : Pv c tb ρ (.list ys)) (ht : ∀ d ∈ zipD xs ys, Tg c g tgs d (f d)) :
    Iw c (RZ.iZipA c.K (tCons ta (tCons tb tNil))) g ρ 0 tgs f (fun items => items = zipD xs ys) := fun σ I H n R w e l k =>
  ha σ I H n _ w e l fun v d I2 H2 g2 w2 r2 p2 => by
    subst p2
    refine hb σ I2 H2 n _ w2 (e.go g2) l fun v3 d3 I3 H3 g3 w3 r3 p3 => ?_
    subst p3
    obtain ⟨a, us, rfl, hs, hr⟩ := (r2.mono g3.ii).lst_inv
    obtain ⟨b, ws, rfl, hs', hr'⟩ := r3.lst_inv
    refine ⟨a, b, us, ws, rfl, .inl ⟨SqL.of (w3.ih _ _ hs), SqL.of (w3.ih _ _ hs'), k _ I3 H3 _ (g2.trans g3) w3 ⟨fun i I H n s w h => ?_, fun i d I H n x H' σ ρ Q s w e hd hy kk => ?_, fun i I H n s w h => ?_⟩ rfl⟩⟩
    · rw [zipD_len] at h
      have h1 : i < us.length := by rw [hr.length]; omega
      have h2 : i < ws.length := by rw [hr'.length]; omega
      exact ⟨us, ws, us[i], ws[i], SqL.of ((s.trans w.ih) _ _ hs), SqL.of ((s.trans w.ih) _ _ hs'), List.getElem?_eq_getElem h1, List.getElem?_eq_getElem h2⟩
    · obtain ⟨T, x1, x2, rfl, nT, rfl, f1, f2⟩ := hy
      obtain ⟨d1, d2, e1, e2, rfl⟩ := zipD_get hd
      obtain ⟨v1, hv1, q1⟩ := hr.get e1
      obtain ⟨v2, hv2, q2⟩ := hr'.get e2
      have ex1 : x1 = v1 := Option.some.inj ((f1 us (SqL.of ((s.trans w.ih) _ _ hs))).symm.trans hv1)
      have ex2 : x2 = v2 := Option.some.inj ((f2 ws (SqL.of ((s.trans w.ih) _ _ hs'))).symm.trans hv2)
      subst ex1 ex2
      have gn : Gx c.b I H (upd I T (.tup [x1, x2])) (upd H T (.tup [x1, x2])) := new_go w.ih nT
      exact ht _ (List.mem_of_getElem? hd) σ ρ (upd I T (.tup [x1, x2])) (upd H T (.tup [x1, x2])) n _ Q (w.new nT) (e.go gn) (.tup (.inl (.inl upd_same)) (.cons ((q1.mono s).mono gn.ii) (.cons ((q2.mono s).mono gn.ii) .nil)))
        fun σ2 e2 s2 => kk σ2 _ _ gn (w.new nT) e2 s2
    · rw [zipD_len] at h
      exact ⟨us, ws, SqL.of ((s.trans w.ih) _ _ hs), SqL.of ((s.trans w.ih) _ _ hs'), by rw [hr.length, hr'.length]; omega⟩
theorem ok_is_rising {P : Program} {w : World} {K : PySem.W.Frag} {mg : Str → Option Value} {base : Heap} (T : Tx K mg) : FnG P w K mg base 1 T.a_is_rising T.d_is_rising ["row"] (sp_is_rising K) := by
  refine fnG_ok T.F_is_rising sc_is_rising (fun cdv A outer s H E hr hc => ⟨_, (pss_one (ps_ret (pe_callB (cr_allK (K := K) rfl rfl) (by rfl) T.N_all (by decide +kernel) (pa_cons (pe_lc (own := [("one", 1), ("other", 2)]) (g := (gTup K 2 (gCons (gName 1) (gCons (gName 2) gNil)))) rfl sc_is_rising.nd (pi_zipK (K := K) rfl (by rfl) T.N_zip (pa_cons (pv 0) (pa_cons (pe_slice (sl_K (K := K) rfl) (pv 0) (po_some pe_int) po_none) pa_nil))) (blkOk_by (own := [("one", 1), ("other", 2)]) (N := ["row", "one", "other"]) (sc := defScope s_is_rising) (by decide +kernel)) (fun _ _ _ _ _ => (pg_tup (by rfl) (pgs_cons (pg_name (i := 1) sc_is_rising.nd rfl (Or.inl rfl)) (pgs_cons (pg_name (i := 2) sc_is_rising.nd rfl (Or.inl rfl)) pgs_nil)))) (fun _ _ _ _ _ => pts_nil) (fun _ _ _ _ _ => (pe_cmpR op_ltA (pv 1) (pv 2) (nomark _)))) pa_nil)))), ?_⟩)
  rintro b I es hl ⟨ds, he, hh, hz⟩
  refine bk_ret (P := fun r => r = .bool (risD ds)) ?_ fun r e => ⟨ds, he, e⟩
  have key : ∀ d ∈ zipD ds (ds.drop 1), ∃ x y : PyData, d = .tuple [x, y] ∧ x ∈ ds ∧ y ∈ ds := fun d hd => by
    obtain ⟨p, hp, rfl⟩ := List.mem_map.mp hd
    obtain ⟨h1, h2⟩ := List.of_mem_zip (a := p.1) (b := p.2) hp
    exact ⟨p.1, p.2, rfl, h1, List.mem_of_mem_drop h2⟩
  have fin : ∀ {ta : TE} {ρ : List Ent}, Pv ⟨K, b.1, H, I, b.2⟩ ta ρ (.list ((zipD ds (ds.drop 1)).map ltP)) → Pv ⟨K, b.1, H, I, b.2⟩ (tCB (rAll K) (tCons ta tNil)) ρ (.bool (risD ds)) := fun h => by
    rw [zip_lt] at h
    refine Pv.to (pv_cb (pa_consD h ea_nil) (rda_all (bs := (ds.zip (ds.drop 1)).map fun p => ltD p.1 p.2))) ?_
    rw [List.all_map]
    rfl
  refine fin ?_
  have el : ∀ d ∈ zipD ds (ds.drop 1), ∀ e : Ent, Pv ⟨K, b.1, H, I, b.2⟩ (tOp rLtA (tVar 1) (tVar 2)) ((([e, .any, .any] : List Ent).set 1 (.dat (fst2 d))).set 2 (.dat (snd2 d))) (ltP d) := fun d hd e => by
    obtain ⟨x, y, rfl, hx, hy⟩ := key d hd
    exact pv_op (ev_var rfl) (ev_var rfl) (rd_ltD (hh.two hx hy))
  rcases he with rfl | rfl
  · exact pv_map (vs := [1, 2]) (f := fun d ρ => (ρ.set 1 (.dat (fst2 d))).set 2 (.dat (snd2 d))) ltP
      (iw_zipT (ys := ds.drop 1) (ev_var rfl) (Pv.to (pv_cutT (ev_var rfl) (pp_some ev_int) pp_no) (by rw [cutD_one])) fun d hd => by
        obtain ⟨x, y, rfl, _⟩ := key d hd
        exact tg_two)
      (fun d hd => el d hd _)
      (by rw [zipD_len]; omega)
  · exact pv_map (vs := [1, 2]) (f := fun d ρ => (ρ.set 1 (.dat (fst2 d))).set 2 (.dat (snd2 d))) ltP
      (iw_zipL (ys := ds.drop 1) (ev_var rfl) (Pv.to (pv_cutL (ev_var rfl) (pp_some ev_int) pp_no) (by rw [cutD_one])) fun d hd => by
        obtain ⟨x, y, rfl, _⟩ := key d hd
        exact tg_two)
      (fun d hd => el d hd _)
      (by rw [zipD_len]; omega)
theorem ris_callT {c : Ctx} {ρ : List Ent} {tr : TA} {E : XK} {ds : List PyData} (h : Pa c tr ρ [.dat (.tuple ds)]) (hh : Homo ds) (hz : ds.length < sizeLine) : Pv c (tCall (sp_is_rising c.K) [] E tr) ρ (.bool (risD ds)) := pv_callE h rfl ⟨ds, .inl rfl, hh, hz⟩ fun x ⟨d', e, q⟩ => by
  rcases e with e | e
  · cases e; exact q
  · simp at e
theorem ris_callL {c : Ctx} {ρ : List Ent} {tr : TA} {E : XK} {ds : List PyData} (h : Pa c tr ρ [.dat (.list ds)]) (hh : Homo ds) (hz : ds.length < sizeLine) : Pv c (tCall (sp_is_rising c.K) [] E tr) ρ (.bool (risD ds)) := pv_callE h rfl ⟨ds, .inr rfl, hh, hz⟩ fun x ⟨d', e, q⟩ => by
  rcases e with e | e
  · simp at e
  · cases e; exact q
abbrev sp_is_day (K : PySem.W.Frag) : Sp := spD K 1 0 (fun es => ∃ d : PyData, es = [.dat d]) (fun es r => ∃ d : PyData, es = [.dat d] ∧ r = .bool (dayD d))
theorem ok_is_day {P : Program} {w : World} {K : PySem.W.Frag} {mg : Str → Option Value} {base : Heap} (T : Tx K mg) : FnG P w K mg base 2 T.a_is_day T.d_is_day ["thing"] (sp_is_day K) := by
  have H_is_whole := ok_is_whole (P := P) (w := w) (base := base) T
  refine fnG_ok T.F_is_day sc_is_day (fun cdv A outer s H E hr hc => ⟨_, (pss_one (ps_ret (pe_callG H_is_whole hr hc (by rfl) T.G_is_whole T.F_is_whole.kp T.B_is_whole (pa_cons (pv 0) (pa_cons pe_int pa_nil))))), ?_⟩)
  rintro b I es hl ⟨d, rfl⟩
  exact bk_retP (wh_call (pa_consD (ev_var rfl) (pa_consD ev_int ea_nil))) ⟨d, rfl, rfl⟩
theorem day_call {c : Ctx} {ρ : List Ent} {tr : TA} {E : XK} {d : PyData} (h : Pa c tr ρ [.dat d]) : Pv c (tCall (sp_is_day c.K) [] E tr) ρ (.bool (dayD d)) := pv_callE h rfl ⟨d, rfl⟩ fun x ⟨d', e, q⟩ => by cases e; exact q
/-- [f(x) for x in xs], all of it -/
theorem pv_allT {c : Ctx} {ρ : List Ent} {ta te : TE} {i : Nat} {vs : List Nat} {ds : List PyData} {f : PyData → Bool} (ha : Pv c ta ρ (.tuple ds)) (he : ∀ d ∈ ds, Pv c te ((wipeE ρ vs).set i (.dat d)) (.bool (f d))) (hz : ds.length < sizeLine) (hi : i ∈ vs) :
    Pv c (tCB (rAll c.K) (tCons (tLc (iSeq c.K ta) (gName i) tYes te vs) tNil)) ρ (.bool (ds.all f)) := by
  refine Pv.to (pv_cb (pa_consD (Pv.to (pv_map (vs := vs) (f := fun d ρ => ρ.set i (.dat d)) (fun d => .bool (f d)) (iw_st (Pi := fun x => x = ds) (ha.imp (Nat.le_refl _) fun x e => ⟨ds, e, rfl⟩) fun _ _ d _ => tg_name) (fun d hd => he d hd) hz (fun t ht => by rw [List.mem_singleton.mp ht]; exact hi)) (congrArg PyData.list (List.map_map (f := f) (g := PyData.bool)).symm)) ea_nil) (rda_all (bs := ds.map f))) ?_
  rw [List.all_map]
  rfl
def calD : PyData → Bool
  | .tuple ds => ds.all dayD && risD ds
  | _ => false
theorem days_homo {ds : List PyData} (h : ds.all dayD = true) : Homo ds := .inl fun d hd => by
  obtain ⟨n, e, _⟩ := wh_inv (List.all_eq_true.mp h d hd)
  exact ⟨n, e⟩
abbrev sp_is_calendar (K : PySem.W.Frag) : Sp := spD K 1 0 (fun es => ∃ d : PyData, es = [.dat d] ∧ Sm d) (fun es r => ∃ d : PyData, es = [.dat d] ∧ r = .bool (calD d))
theorem ok_is_calendar {P : Program} {w : World} {K : PySem.W.Frag} {mg : Str → Option Value} {base : Heap} (T : Tx K mg) : FnG P w K mg base 3 T.a_is_calendar T.d_is_calendar ["thing"] (sp_is_calendar K) := by
  have H_is_day := ok_is_day (P := P) (w := w) (base := base) T
  have H_is_rising := ok_is_rising (P := P) (w := w) (base := base) T
  refine fnG_ok T.F_is_calendar sc_is_calendar (fun cdv A outer s H E hr hc => ⟨_, (pss_cons (ps_if (pt_not (pt_val (pe_callB (call_isiK' (K := K) rfl) (by rfl) T.N_isinstance (by decide +kernel) (pa_cons (pv 0) (pa_cons (pe_bltn (v := .ty "tuple") (by rfl) T.N_tuple (by decide +kernel) rfl) pa_nil)))))
      (pss_one (ps_ret pe_bl)) pss_nil)
      (pss_one (ps_ret (pe_and (pe_callB (cr_allK (K := K) rfl rfl) (by rfl) T.N_all (by decide +kernel) (pa_cons (pe_lc (own := [("day", 1)]) (g := (gName 1)) rfl sc_is_calendar.nd (pi_seqK (K := K) rfl (pv 0)) (blkOk_by (own := [("day", 1)]) (N := ["thing", "day"]) (sc := defScope s_is_calendar) (by decide +kernel)) (fun _ _ _ _ _ => (pg_name (i := 1) sc_is_calendar.nd rfl (Or.inl rfl))) (fun _ _ _ _ _ => pts_nil) (fun _ _ _ _ _ => (pe_callG H_is_day hr hc (by rfl) T.G_is_day T.F_is_day.kp T.B_is_day (pa_cons (pv 1) pa_nil)))) pa_nil)) (pe_one (pe_callG H_is_rising (hr.mono (by decide)) hc (by rfl) T.G_is_rising T.F_is_rising.kp T.B_is_rising (pa_cons (pv 0) pa_nil))))))), ?_⟩)
  rintro b I es hl ⟨d, rfl, hz⟩
  refine bk_ifret (pt_notD (pt_B (pv_is_tuple (ev_var rfl)))) (fun h => bk_retP ev_bl ⟨d, rfl, ?_⟩) fun h => ?_
  · cases d <;> first | rfl | (simp [isTupD] at h; done)
  · cases d <;> first | (simp [isTupD] at h; done) | skip
    rename_i ds
    refine bk_retP (d := .bool (ds.all dayD && risD ds)) ?_ ⟨_, rfl, rfl⟩
    exact pv_and (pv_allT (vs := [1]) (ev_var rfl) (fun d _ => day_call (pa_consD (ev_var rfl) ea_nil)) hz.tup.1 (by decide)) fun h2 => ris_callT (pa_consD (ev_var rfl) ea_nil) (days_homo h2) hz.tup.1
theorem cal_call {c : Ctx} {ρ : List Ent} {tr : TA} {E : XK} {d : PyData} (h : Pa c tr ρ [.dat d]) (hz : Sm d) : Pv c (tCall (sp_is_calendar c.K) [] E tr) ρ (.bool (calD d)) := pv_callE h rfl ⟨d, rfl, hz⟩ fun x ⟨d', e, q⟩ => by cases e; exact q
def nameD : PyData → Bool
  | .str x => nameB x
  | _ => false
abbrev sp_is_name (K : PySem.W.Frag) : Sp := spD K 1 0 (fun es => ∃ d : PyData, es = [.dat d] ∧ Sm d) (fun es r => ∃ d : PyData, es = [.dat d] ∧ r = .bool (nameD d))
theorem ok_is_name {P : Program} {w : World} {K : PySem.W.Frag} {mg : Str → Option Value} {base : Heap} (T : Tx K mg) : FnG P w K mg base 1 T.a_is_name T.d_is_name ["thing"] (sp_is_name K) := by
  refine fnG_ok T.F_is_name sc_is_name (fun cdv A outer s H E hr hc => ⟨_, (pss_cons (ps_if (PW.pt (pw_or (pt_not (pt_val (pe_callB (call_isiK' (K := K) rfl) (by rfl) T.N_isinstance (by decide +kernel) (pa_cons (pv 0) (pa_cons (pe_bltn (v := .ty "str") (by rfl) T.N_str (by decide +kernel) rfl) pa_nil))))) (pw_or1 (pt_not (pt_chain op_le op_le pe_int (pe_callB (call_lenK (K := K) rfl) (by rfl) T.N_len (by decide +kernel) (pa_cons (pv 0) pa_nil)) (pe_glob (v := V.int 8) (by rfl) T.C_LONGEST_NAME ⟨_, rfl⟩))))))
      (pss_one (ps_ret pe_bl)) pss_nil)
      (pss_one (ps_ret (pe_and (pe_m0 PySem.F.slot_str_isascii PySem.F.type_str_isascii mt_isascii (pv 0)) (pe_and (pe_m0 PySem.F.slot_str_isalpha PySem.F.type_str_isalpha mt_isalpha (pv 0)) (pe_and (pe_m0 PySem.F.slot_str_islower PySem.F.type_str_islower mt_islower (pv 0)) (pe_one (pe_cmpR (by refine op_neK (K := K) rfl ?_; exact hr.units) (pv 0) (pe_glob (v := V.str "public") (by rfl) T.C_EVERYBODY ⟨_, rfl⟩) (nomark _))))))))), ?_⟩)
  rintro b I es hl ⟨d, rfl, hz⟩
  by_cases hs : isStrD d = true
  · cases d <;> first | (simp [isStrD] at hs; done) | skip
    rename_i x
    refine bk_ifret (b := !(decide (1 ≤ (x.length : Int)) && decide ((x.length : Int) ≤ 8))) (Pt.to (pt_or (a := false) (Pt.to (pt_notD (pt_B (pv_is_str (ev_var rfl)))) rfl) fun _ => pt_notD (pt_T (pv_chain ev_int (pv_cb (pa_consD (ev_var rfl) ea_nil) (rda_lenS hz.str)) fun _ => ev_int))) (by rfl)) (fun h => bk_retP ev_bl ⟨_, rfl, ?_⟩) fun h => bk_retP (d := .bool (nameB x)) ?_ ⟨_, rfl, rfl⟩
    · show PyData.bool false = .bool (nameB x)
      unfold nameB
      have h' : ¬ (1 ≤ x.length ∧ x.length ≤ 8) := by
        intro q
        rw [decide_eq_true (by omega), decide_eq_true (by omega)] at h
        cases h
      by_cases q : 1 ≤ x.length
      · rw [decide_eq_false (p := x.length ≤ 8) (fun z => h' ⟨q, z⟩), Bool.false_and, Bool.and_false]
      · rw [decide_eq_false q, Bool.false_and]
    · refine Pv.to (pv_and (pv_strB (ev_var rfl)) fun _ => pv_and (pv_strB (ev_var rfl)) fun _ => pv_and (pv_strB (ev_var rfl)) fun _ => pv_neS (ev_var rfl) ev_str) ?_
      have h' : 1 ≤ x.length ∧ x.length ≤ 8 := by
        rw [Bool.not_eq_false', Bool.and_eq_true, decide_eq_true_eq, decide_eq_true_eq] at h
        omega
      unfold nameB
      rw [decide_eq_true h'.1, decide_eq_true h'.2]
      have e := name_signs x
      rw [decide_eq_true (by omega : 0 < x.length)] at e
      refine congrArg PyData.bool ?_
      rw [← Bool.and_assoc, ← Bool.and_assoc, Bool.and_assoc (Txt.isascii x), e]
      simp
  · have hn : nameD d = false := by cases d <;> first | rfl | exact absurd rfl hs
    exact bk_ifret (b := true) (Pt.to (pt_or (a := true) (b := false) (Pt.to (pt_notD (pt_B (pv_is_str (ev_var rfl)))) (by rw [Bool.eq_false_iff.mpr hs]; rfl)) fun e => nomatch e) rfl) (fun _ => bk_retP ev_bl ⟨_, rfl, by rw [hn]⟩) fun e => nomatch e
theorem name_call {c : Ctx} {ρ : List Ent} {tr : TA} {E : XK} {d : PyData} (h : Pa c tr ρ [.dat d]) (hz : Sm d) : Pv c (tCall (sp_is_name c.K) [] E tr) ρ (.bool (nameD d)) := pv_callE h rfl ⟨d, rfl, hz⟩ fun x ⟨d', e, q⟩ => by cases e; exact q
def namesD : PyData → Bool
  | .tuple ds => ds.all nameD && risD ds
  | _ => false
theorem nameD_inv {d : PyData} (h : nameD d = true) : ∃ x, d = .str x ∧ nameB x = true := by
  cases d <;> first | (simp [nameD] at h; done) | exact ⟨_, rfl, h⟩
theorem names_homo {ds : List PyData} (h : ds.all nameD = true) : Homo ds := .inr fun d hd => by
  obtain ⟨n, e, _⟩ := nameD_inv (List.all_eq_true.mp h d hd)
  exact ⟨n, e⟩
abbrev sp_are_names (K : PySem.W.Frag) : Sp := spD K 1 0 (fun es => ∃ d : PyData, es = [.dat d] ∧ Sm d) (fun es r => ∃ d : PyData, es = [.dat d] ∧ r = .bool (namesD d))
theorem ok_are_names {P : Program} {w : World} {K : PySem.W.Frag} {mg : Str → Option Value} {base : Heap} (T : Tx K mg) : FnG P w K mg base 2 T.a_are_names T.d_are_names ["thing"] (sp_are_names K) := by
  have H_is_name := ok_is_name (P := P) (w := w) (base := base) T
  have H_is_rising := ok_is_rising (P := P) (w := w) (base := base) T
  refine fnG_ok T.F_are_names sc_are_names (fun cdv A outer s H E hr hc => ⟨_, (pss_cons (ps_if (pt_not (pt_val (pe_callB (call_isiK' (K := K) rfl) (by rfl) T.N_isinstance (by decide +kernel) (pa_cons (pv 0) (pa_cons (pe_bltn (v := .ty "tuple") (by rfl) T.N_tuple (by decide +kernel) rfl) pa_nil)))))
      (pss_one (ps_ret pe_bl)) pss_nil)
      (pss_one (ps_ret (pe_and (pe_callB (cr_allK (K := K) rfl rfl) (by rfl) T.N_all (by decide +kernel) (pa_cons (pe_lc (own := [("name", 1)]) (g := (gName 1)) rfl sc_are_names.nd (pi_seqK (K := K) rfl (pv 0)) (blkOk_by (own := [("name", 1)]) (N := ["thing", "name"]) (sc := defScope s_are_names) (by decide +kernel)) (fun _ _ _ _ _ => (pg_name (i := 1) sc_are_names.nd rfl (Or.inl rfl))) (fun _ _ _ _ _ => pts_nil) (fun _ _ _ _ _ => (pe_callG H_is_name hr hc (by rfl) T.G_is_name T.F_is_name.kp T.B_is_name (pa_cons (pv 1) pa_nil)))) pa_nil)) (pe_one (pe_callG H_is_rising hr hc (by rfl) T.G_is_rising T.F_is_rising.kp T.B_is_rising (pa_cons (pv 0) pa_nil))))))), ?_⟩)
  rintro b I es hl ⟨d, rfl, hz⟩
  refine bk_ifret (pt_notD (pt_B (pv_is_tuple (ev_var rfl)))) (fun h => bk_retP ev_bl ⟨d, rfl, ?_⟩) fun h => ?_
  · cases d <;> first | rfl | (simp [isTupD] at h; done)
  · cases d <;> first | (simp [isTupD] at h; done) | skip
    rename_i ds
    refine bk_retP (d := .bool (ds.all nameD && risD ds)) ?_ ⟨_, rfl, rfl⟩
    exact pv_and (pv_allT (vs := [1]) (ev_var rfl) (fun d hd => name_call (pa_consD (ev_var rfl) ea_nil) (hz.tup.2.2 d hd)) hz.tup.1 (by decide)) fun h2 => ris_callT (pa_consD (ev_var rfl) ea_nil) (names_homo h2) hz.tup.1
theorem names_call {c : Ctx} {ρ : List Ent} {tr : TA} {E : XK} {d : PyData} (h : Pa c tr ρ [.dat d]) (hz : Sm d) : Pv c (tCall (sp_are_names c.K) [] E tr) ρ (.bool (namesD d)) := pv_callE h rfl ⟨d, rfl, hz⟩ fun x ⟨d', e, q⟩ => by cases e; exact q


/-! ### terms -/
abbrev sp_is_row (K : PySem.W.Frag) : Sp := spD K 2 0 (fun es => ∃ (d : PyData) (m : Int), es = [.dat d, .dat (.int m)]) (fun es r => ∃ (d : PyData) (m : Int), es = [.dat d, .dat (.int m)] ∧ r = .bool (isTupD d && ((lenD d : Int) == m)))
theorem ok_is_row {P : Program} {w : World} {K : PySem.W.Frag} {mg : Str → Option Value} {base : Heap} (T : Tx K mg) : FnG P w K mg base 1 T.a_is_row T.d_is_row ["thing", "many"] (sp_is_row K) := by
  refine fnG_ok T.F_is_row sc_is_row (fun cdv A outer s H E hr hc => ⟨_, (pss_one (ps_ret (pe_and (pe_callB (call_isiK' (K := K) rfl) (by rfl) T.N_isinstance (by decide +kernel) (pa_cons (pv 0) (pa_cons (pe_bltn (v := .ty "tuple") (by rfl) T.N_tuple (by decide +kernel) rfl) pa_nil))) (pe_one (pe_cmpR (by refine op_eqK (K := K) rfl ?_; exact hr.units) (pe_callB (call_lenK (K := K) rfl) (by rfl) T.N_len (by decide +kernel) (pa_cons (pv 0) pa_nil)) (pv 1) (nomark _)))))), ?_⟩)
  rintro b I es hl ⟨d, m, rfl⟩
  refine bk_retP (pv_and (pv_is_tuple (ev_var rfl)) fun h => ?_) ⟨d, m, rfl, rfl⟩
  cases d <;> first | (simp [isTupD] at h; done) | exact pv_eqI (pv_cb (pa_consD (ev_var rfl) ea_nil) rda_lenT) (ev_var rfl)
def sDays : Str := "days"
def sOpen : Str := "open"
def inU (u : PyData) : Bool := [PyData.str "days", .str "open"].any fun y => PyData.eqv y u
def isTermD : PyData → Bool
  | .tuple [c, u] => isWh c 0 && (isStrD u && inU u)
  | _ => false
theorem units_rp {K : PySem.W.Frag} {mg : Str → Option Value} (T : Tx K mg) (I : Hp) : Rp K I (.ref T.a_UNITS) (.tuple [.str "days", .str "open"]) := by
  obtain ⟨o, its, n, h⟩ := T.O_UNITS
  exact .tup (.inr ⟨o, its, n, h⟩) (.cons (.str _) (.cons (.str _) .nil))
abbrev sp_is_term (K : PySem.W.Frag) : Sp := spD K 1 0 (fun es => ∃ d : PyData, es = [.dat d]) (fun es r => ∃ d : PyData, es = [.dat d] ∧ r = .bool (isTermD d))
theorem row2 {d : PyData} (h : (isTupD d && ((lenD d : Int) == 2)) = true) : ∃ c u, d = .tuple [c, u] := by
  cases d <;> first | (simp [isTupD] at h; done) | skip
  rename_i ds
  simp only [isTupD, Bool.true_and, beq_iff_eq] at h
  have hl : ds.length = 2 := by
    have : (ds.length : Int) = 2 := h
    omega
  match ds, hl with
  | [c, u], _ => exact ⟨c, u, rfl⟩
theorem ok_is_term {P : Program} {w : World} {K : PySem.W.Frag} {mg : Str → Option Value} {base : Heap} (T : Tx K mg) : FnG P w K mg base 2 T.a_is_term T.d_is_term ["thing"] (sp_is_term K) := by
  have H_is_row := ok_is_row (P := P) (w := w) (base := base) T
  have H_is_whole := ok_is_whole (P := P) (w := w) (base := base) T
  refine fnG_ok T.F_is_term sc_is_term (fun cdv A outer s H E hr hc => ⟨_, (pss_cons (ps_if (pt_not (pt_val (pe_callG H_is_row hr hc (by rfl) T.G_is_row T.F_is_row.kp T.B_is_row (pa_cons (pv 0) (pa_cons pe_int pa_nil)))))
      (pss_one (ps_ret pe_bl)) pss_nil)
      (pss_cons (ps_asg (pv 0) (pg_tup (by rfl) (pgs_cons (pg_name (i := 1) sc_is_term.nd rfl (Or.inl rfl)) (pgs_cons (pg_name (i := 2) sc_is_term.nd rfl (Or.inl rfl)) pgs_nil))))
      (pss_one (ps_ret (pe_and (pe_callG H_is_whole hr hc (by rfl) T.G_is_whole T.F_is_whole.kp T.B_is_whole (pa_cons (pv 1) (pa_cons pe_int pa_nil))) (pe_and (pe_callB (call_isiK' (K := K) rfl) (by rfl) T.N_isinstance (by decide +kernel) (pa_cons (pv 2) (pa_cons (pe_bltn (v := .ty "str") (by rfl) T.N_str (by decide +kernel) rfl) pa_nil))) (pe_one (pe_cmpR (op_inK (K := K) rfl) (pv 2) (pe_glob (v := .ref T.a_UNITS) (by rfl) T.C_UNITS rfl) (by with_unfolding_all rfl))))))))), ?_⟩)
  rintro b I es hl ⟨d, rfl⟩
  refine bk_ifret (pt_notD (pt_B (pv_callE (pa_consD (ev_var rfl) (pa_consD ev_int ea_nil)) rfl ⟨d, 2, rfl⟩ fun x ⟨d', m, e, q⟩ => by cases e; exact q))) (fun h => bk_retP ev_bl ⟨d, rfl, ?_⟩) fun h => ?_
  · have h' : ¬ ∃ c u, d = .tuple [c, u] := by
      rintro ⟨c, u, rfl⟩
      simp [isTupD, lenD] at h
    unfold isTermD
    split
    · rename_i c u
      exact absurd ⟨c, u, rfl⟩ h'
    · rfl
  · obtain ⟨c, u, rfl⟩ := row2 (by simpa using h)
    refine bk_seq (C1 := 0) (C2 := 0) (N := fun ρ' => ρ' = [.dat (.tuple [c, u]), .dat c, .dat u]) (bk_asg (f := fun d ρ => (ρ.set 1 (.dat c)).set 2 (.dat u)) (ev_var rfl) (fun d e => by subst e; exact tg_two) fun d _ => rfl) ?_ (by omega)
    rintro ρ' rfl
    refine bk_retP (d := .bool (isWh c 0 && (isStrD u && inU u))) ?_ ⟨_, rfl, rfl⟩
    refine pv_and (pv_callE (pa_consD (ev_var rfl) (pa_consD ev_int ea_nil)) rfl ⟨c, 0, rfl⟩ fun x ⟨d', m, e, q⟩ => by cases e; exact q) fun _ => pv_and (pv_is_str (ev_var rfl)) fun h2 => ?_
    have hf : flatD u = true := by cases u <;> first | rfl | (simp [isStrD] at h2)
    exact pv_op (ev_var rfl) (ev_kc (units_rp T)) (rd_in (ds := [.str "days", .str "open"]) rfl hf rfl)

theorem it_var {c : Ctx} {ρ : List Ent} {i : Nat} {ds : List PyData} (h : ρ[i]? = some (.dat (.tuple ds))) : Ev c (tVar i) ρ 0 (fun d => ∃ ds', d = .tuple ds' ∧ ds' = ds) := (ev_var h).imp (Nat.le_refl _) fun x e => ⟨ds, e, rfl⟩

theorem term_call {c : Ctx} {ρ : List Ent} {tr : TA} {E : XK} {d : PyData} (h : Pa c tr ρ [.dat d]) : Pv c (tCall (sp_is_term c.K) [] E tr) ρ (.bool (isTermD d)) := pv_callE h rfl ⟨d, rfl⟩ fun x ⟨d', e, q⟩ => by cases e; exact q
theorem row_call {c : Ctx} {ρ : List Ent} {tr : TA} {E : XK} {d : PyData} {m : Int} (h : Pa c tr ρ [.dat d, .dat (.int m)]) : Pv c (tCall (sp_is_row c.K) [] E tr) ρ (.bool (isTupD d && ((lenD d : Int) == m))) := pv_callE h rfl ⟨d, m, rfl⟩ fun x ⟨d', m', e, q⟩ => by cases e; exact q
/-! ### parties, cases -/
def inSd (u : PyData) : Bool := [PyData.str "asker", .str "answerer"].any fun y => PyData.eqv y u
def partyD : PyData → Bool
  | .tuple [n, s] => nameD n && (isStrD s && inSd s)
  | _ => false
theorem sides_rp {K : PySem.W.Frag} {mg : Str → Option Value} (T : Tx K mg) (I : Hp) : Rp K I (.ref T.a_SIDES) (.tuple [.str "asker", .str "answerer"]) := by
  obtain ⟨o, its, n, h⟩ := T.O_SIDES
  exact .tup (.inr ⟨o, its, n, h⟩) (.cons (.str _) (.cons (.str _) .nil))
theorem rowN {d : PyData} {m : Nat} (h : (isTupD d && ((lenD d : Int) == m)) = true) : ∃ ds, d = .tuple ds ∧ ds.length = m := by
  cases d <;> first | (simp [isTupD] at h; done) | skip
  rename_i ds
  simp only [isTupD, Bool.true_and, beq_iff_eq] at h
  have : (ds.length : Int) = m := h
  exact ⟨ds, rfl, by omega⟩
abbrev sp_is_party (K : PySem.W.Frag) : Sp := spD K 1 0 (fun es => ∃ d : PyData, es = [.dat d] ∧ Sm d) (fun es r => ∃ d : PyData, es = [.dat d] ∧ r = .bool (partyD d))
theorem ok_is_party {P : Program} {w : World} {K : PySem.W.Frag} {mg : Str → Option Value} {base : Heap} (T : Tx K mg) : FnG P w K mg base 2 T.a_is_party T.d_is_party ["thing"] (sp_is_party K) := by
  have H_is_row := ok_is_row (P := P) (w := w) (base := base) T
  have H_is_name := ok_is_name (P := P) (w := w) (base := base) T
  refine fnG_ok T.F_is_party sc_is_party (fun cdv A outer s H E hr hc => ⟨_, (pss_cons (ps_if (pt_not (pt_val (pe_callG H_is_row hr hc (by rfl) T.G_is_row T.F_is_row.kp T.B_is_row (pa_cons (pv 0) (pa_cons pe_int pa_nil)))))
      (pss_one (ps_ret pe_bl)) pss_nil)
      (pss_cons (ps_asg (pv 0) (pg_tup (by rfl) (pgs_cons (pg_name (i := 1) sc_is_party.nd rfl (Or.inl rfl)) (pgs_cons (pg_name (i := 2) sc_is_party.nd rfl (Or.inl rfl)) pgs_nil))))
      (pss_one (ps_ret (pe_and (pe_callG H_is_name hr hc (by rfl) T.G_is_name T.F_is_name.kp T.B_is_name (pa_cons (pv 1) pa_nil)) (pe_and (pe_callB (call_isiK' (K := K) rfl) (by rfl) T.N_isinstance (by decide +kernel) (pa_cons (pv 2) (pa_cons (pe_bltn (v := .ty "str") (by rfl) T.N_str (by decide +kernel) rfl) pa_nil))) (pe_one (pe_cmpR (op_inK (K := K) rfl) (pv 2) (pe_glob (v := .ref T.a_SIDES) (by rfl) T.C_SIDES rfl) (by with_unfolding_all rfl))))))))), ?_⟩)
  rintro b I es hl ⟨d, rfl, hz⟩
  refine bk_ifret (pt_notD (pt_B (row_call (pa_consD (ev_var rfl) (pa_consD ev_int ea_nil))))) (fun h => bk_retP ev_bl ⟨d, rfl, ?_⟩) fun h => ?_
  · have h' : ¬ ∃ c u, d = .tuple [c, u] := by
      rintro ⟨c, u, rfl⟩
      simp [isTupD, lenD] at h
    unfold partyD
    split
    · rename_i c u
      exact absurd ⟨c, u, rfl⟩ h'
    · rfl
  · obtain ⟨c, u, rfl⟩ := row2 (by simpa using h)
    refine bk_seq (C1 := 0) (C2 := 0) (N := fun ρ' => ρ' = [.dat (.tuple [c, u]), .dat c, .dat u]) (bk_asg (f := fun d ρ => (ρ.set 1 (.dat c)).set 2 (.dat u)) (ev_var rfl) (fun d e => by subst e; exact tg_two) fun d _ => rfl) ?_ (by omega)
    rintro ρ' rfl
    refine bk_retP (d := .bool (nameD c && (isStrD u && inSd u))) ?_ ⟨_, rfl, rfl⟩
    refine pv_and (name_call (pa_consD (ev_var rfl) ea_nil) (hz.tup.2.2 c (by simp))) fun _ => pv_and (pv_is_str (ev_var rfl)) fun h2 => ?_
    have hf : flatD u = true := by cases u <;> first | rfl | (simp [isStrD] at h2)
    exact pv_op (ev_var rfl) (ev_kc (sides_rp T)) (rd_in (ds := [.str "asker", .str "answerer"]) rfl hf rfl)
theorem party_call {c : Ctx} {ρ : List Ent} {tr : TA} {E : XK} {d : PyData} (h : Pa c tr ρ [.dat d]) (hz : Sm d) : Pv c (tCall (sp_is_party c.K) [] E tr) ρ (.bool (partyD d)) := pv_callE h rfl ⟨d, rfl, hz⟩ fun x ⟨d', e, q⟩ => by cases e; exact q
theorem partyD_inv {d : PyData} (h : partyD d = true) : ∃ n s : Str, d = .tuple [.str n, .str s] ∧ nameB n = true ∧ (s = "asker" ∨ s = "answerer") := by
  unfold partyD at h
  split at h
  · rename_i n s
    rw [Bool.and_eq_true, Bool.and_eq_true] at h
    obtain ⟨x, rfl, hx⟩ := nameD_inv h.1
    cases s <;> first | (simp [isStrD] at h; done) | skip
    rename_i y
    refine ⟨x, y, rfl, hx, ?_⟩
    have q := h.2.2
    simp only [inSd, List.any_cons, List.any_nil, Bool.or_false, Bool.or_eq_true] at q
    have ev : ∀ a b : Str, PyData.eqv (.str a) (.str b) = true → a = b := fun a b z => by simpa [PyData.eqv] using z
    rcases q with q | q
    · exact .inl (ev _ _ q).symm
    · exact .inr (ev _ _ q).symm
  · cases h
def sideOf : PyData → PyData
  | .tuple [_, s] => s
  | _ => .none
def nmOf : PyData → PyData
  | .tuple [n, _] => n
  | _ => .none
/-- both sides are there, the names rise -/
def bothD (ds : List PyData) : Bool := [PyData.str "asker", .str "answerer"].all fun s => (ds.map sideOf).any fun y => PyData.eqv y s
def partiesD : PyData → Bool
  | .tuple ds => ds.all partyD && (bothD ds && risD (ds.map nmOf))
  | _ => false
theorem flat_strs {ds : List PyData} (h : ∀ d ∈ ds, ∃ a, d = .str a) : ds.all flatD = true := by
  rw [List.all_eq_true]
  intro d hd
  obtain ⟨a, rfl⟩ := h d hd
  rfl
theorem sides_strs {ds : List PyData} (h : ds.all partyD = true) : ∀ d ∈ ds.map sideOf, ∃ a, d = .str a := fun d hd => by
  obtain ⟨e, he, rfl⟩ := List.mem_map.mp hd
  obtain ⟨n, s, rfl, _⟩ := partyD_inv (List.all_eq_true.mp h e he)
  exact ⟨s, rfl⟩
theorem nms_strs {ds : List PyData} (h : ds.all partyD = true) : ∀ d ∈ ds.map nmOf, ∃ a, d = .str a := fun d hd => by
  obtain ⟨e, he, rfl⟩ := List.mem_map.mp hd
  obtain ⟨n, s, rfl, _⟩ := partyD_inv (List.all_eq_true.mp h e he)
  exact ⟨n, rfl⟩
abbrev sp_are_parties (K : PySem.W.Frag) : Sp := spD K 1 0 (fun es => ∃ d : PyData, es = [.dat d] ∧ Sm d) (fun es r => ∃ d : PyData, es = [.dat d] ∧ r = .bool (partiesD d))
theorem ok_are_parties {P : Program} {w : World} {K : PySem.W.Frag} {mg : Str → Option Value} {base : Heap} (T : Tx K mg) : FnG P w K mg base 3 T.a_are_parties T.d_are_parties ["thing"] (sp_are_parties K) := by
  have H_is_party := ok_is_party (P := P) (w := w) (base := base) T
  have H_is_rising := ok_is_rising (P := P) (w := w) (base := base) T
  refine fnG_ok T.F_are_parties sc_are_parties (fun cdv A outer s H E hr hc => ⟨_, (pss_cons (ps_if (PW.pt (pw_or (pt_not (pt_val (pe_callB (call_isiK' (K := K) rfl) (by rfl) T.N_isinstance (by decide +kernel) (pa_cons (pv 0) (pa_cons (pe_bltn (v := .ty "tuple") (by rfl) T.N_tuple (by decide +kernel) rfl) pa_nil))))) (pw_or1 (pt_not (pt_val (pe_callB (cr_allK (K := K) rfl rfl) (by rfl) T.N_all (by decide +kernel) (pa_cons (pe_lc (own := [("party", 2)]) (g := (gName 2)) rfl sc_are_parties.nd (pi_seqK (K := K) rfl (pv 0)) (blkOk_by (own := [("party", 2)]) (N := ["thing", "sides", "party", "_", "side", "name"]) (sc := defScope s_are_parties) (by decide +kernel)) (fun _ _ _ _ _ => (pg_name (i := 2) sc_are_parties.nd rfl (Or.inl rfl))) (fun _ _ _ _ _ => pts_nil) (fun _ _ _ _ _ => (pe_callG H_is_party hr hc (by rfl) T.G_is_party T.F_is_party.kp T.B_is_party (pa_cons (pv 2) pa_nil)))) pa_nil)))))))
      (pss_one (ps_ret pe_bl)) pss_nil)
      (pss_cons (ps_set (i := 1) sc_are_parties.nd rfl (Or.inr rfl) (pe_lc (own := [("_", 3), ("side", 4)]) (g := (gTup K 2 (gCons (gName 3) (gCons (gName 4) gNil)))) rfl sc_are_parties.nd (pi_seqK (K := K) rfl (pv 0)) (blkOk_by (own := [("_", 3), ("side", 4)]) (N := ["thing", "sides", "party", "_", "side", "name"]) (sc := defScope s_are_parties) (by decide +kernel)) (fun _ _ _ _ _ => (pg_tup (by rfl) (pgs_cons (pg_name (i := 3) sc_are_parties.nd rfl (Or.inl rfl)) (pgs_cons (pg_name (i := 4) sc_are_parties.nd rfl (Or.inl rfl)) pgs_nil)))) (fun _ _ _ _ _ => pts_nil) (fun _ _ _ _ _ => (pv 4))))
      (pss_one (ps_ret (pe_and (pe_callB (cr_allK (K := K) rfl rfl) (by rfl) T.N_all (by decide +kernel) (pa_cons (pe_lc (own := [("side", 4)]) (g := (gName 4)) rfl sc_are_parties.nd (pi_seqK (K := K) rfl (pe_glob (v := .ref T.a_SIDES) (by rfl) T.C_SIDES rfl)) (blkOk_by (own := [("side", 4)]) (N := ["thing", "sides", "party", "_", "side", "name"]) (sc := defScope s_are_parties) (by decide +kernel)) (fun _ _ _ _ _ => (pg_name (i := 4) sc_are_parties.nd rfl (Or.inl rfl))) (fun _ _ _ _ _ => pts_nil) (fun _ _ _ _ _ => (pe_cmpR (op_inK (K := K) rfl) (pv 4) (pv 1) (by with_unfolding_all rfl)))) pa_nil)) (pe_one (pe_callG H_is_rising (hr.mono (by decide)) hc (by rfl) T.G_is_rising T.F_is_rising.kp T.B_is_rising (pa_cons (pe_lc (own := [("name", 5), ("_", 3)]) (g := (gTup K 2 (gCons (gName 5) (gCons (gName 3) gNil)))) rfl sc_are_parties.nd (pi_seqK (K := K) rfl (pv 0)) (blkOk_by (own := [("name", 5), ("_", 3)]) (N := ["thing", "sides", "party", "_", "side", "name"]) (sc := defScope s_are_parties) (by decide +kernel)) (fun _ _ _ _ _ => (pg_tup (by rfl) (pgs_cons (pg_name (i := 5) sc_are_parties.nd rfl (Or.inl rfl)) (pgs_cons (pg_name (i := 3) sc_are_parties.nd rfl (Or.inl rfl)) pgs_nil)))) (fun _ _ _ _ _ => pts_nil) (fun _ _ _ _ _ => (pv 5))) pa_nil)))))))), ?_⟩)
  rintro b I es hl ⟨d, rfl, hz⟩
  by_cases ht : isTupD d = true
  · cases d <;> first | (simp [isTupD] at ht; done) | skip
    rename_i ds
    have hs := hz.tup
    refine bk_ifret (b := !ds.all partyD) (Pt.to (pt_or (a := false) (Pt.to (pt_notD (pt_B (pv_is_tuple (ev_var rfl)))) rfl) fun _ => pt_notD (pt_B (pv_allT (vs := [2]) (ev_var rfl) (fun d hd => party_call (pa_consD (ev_var rfl) ea_nil) (hs.2.2 d hd)) hs.1 (by decide)))) rfl) (fun h => bk_retP ev_bl ⟨_, rfl, ?_⟩) fun h => ?_
    · show PyData.bool false = .bool (ds.all partyD && _)
      rw [show ds.all partyD = false by simpa using h]
      rfl
    · have ha : ds.all partyD = true := by simpa using h
      have two : ∀ d ∈ ds, ∃ n s : PyData, d = .tuple [n, s] := fun d hd => by
        obtain ⟨n, s, e, _⟩ := partyD_inv (List.all_eq_true.mp ha d hd)
        exact ⟨_, _, e⟩
      refine bk_letP (d := .list (ds.map sideOf)) (pv_map (vs := [3, 4]) (f := fun d ρ => (ρ.set 3 (.dat (nmOf d))).set 4 (.dat (sideOf d))) sideOf (iw_st (Pi := fun x => x = ds) (it_var rfl) fun is e d hd => by
        subst e
        obtain ⟨n, s, rfl⟩ := two d hd
        exact tg_two) (fun d hd => ev_var rfl) hs.1) ?_
      refine bk_retP (d := .bool (bothD ds && risD (ds.map nmOf))) ?_ ⟨_, rfl, by show _ = PyData.bool (ds.all partyD && _); rw [ha]; rfl⟩
      refine pv_and (pv_allT (vs := [4]) (ds := [.str "asker", .str "answerer"]) (f := fun s => (ds.map sideOf).any fun y => PyData.eqv y s) (ev_kc (sides_rp T)) (fun d hd => ?_) (by decide) (by decide)) fun _ => ?_
      · have hf : flatD d = true := by
          simp only [List.mem_cons, List.not_mem_nil, or_false] at hd
          rcases hd with rfl | rfl <;> rfl
        exact pv_op (ev_var rfl) (ev_var rfl) (rd_in (ds := ds.map sideOf) rfl hf (flat_strs (sides_strs ha)))
      · exact ris_callL (pa_consD (pv_map (vs := [5, 3]) (f := fun d ρ => (ρ.set 5 (.dat (nmOf d))).set 3 (.dat (sideOf d))) nmOf (iw_st (Pi := fun x => x = ds) (it_var rfl) fun is e d hd => by
          subst e
          obtain ⟨n, s, rfl⟩ := two d hd
          exact tg_two) (fun d hd => ev_var rfl) hs.1) ea_nil) (.inr (nms_strs ha)) (by rw [List.length_map]; exact hs.1)
  · have hn : partiesD d = false := by cases d <;> first | rfl | exact absurd rfl ht
    exact bk_ifret (b := true) (Pt.to (pt_or (a := true) (b := false) (Pt.to (pt_notD (pt_B (pv_is_tuple (ev_var rfl)))) (by rw [Bool.eq_false_iff.mpr ht]; rfl)) fun e => nomatch e) rfl) (fun _ => bk_retP ev_bl ⟨_, rfl, by rw [hn]⟩) fun e => nomatch e
theorem parties_call {c : Ctx} {ρ : List Ent} {tr : TA} {E : XK} {d : PyData} (h : Pa c tr ρ [.dat d]) (hz : Sm d) : Pv c (tCall (sp_are_parties c.K) [] E tr) ρ (.bool (partiesD d)) := pv_callE h rfl ⟨d, rfl, hz⟩ fun x ⟨d', e, q⟩ => by cases e; exact q
def termsD : PyData → Bool
  | .tuple ds => decide (ds.length = 4) && ds.all isTermD
  | _ => false
abbrev sp_are_terms (K : PySem.W.Frag) : Sp := spD K 1 0 (fun es => ∃ d : PyData, es = [.dat d] ∧ Sm d) (fun es r => ∃ d : PyData, es = [.dat d] ∧ r = .bool (termsD d))
theorem ok_are_terms {P : Program} {w : World} {K : PySem.W.Frag} {mg : Str → Option Value} {base : Heap} (T : Tx K mg) : FnG P w K mg base 3 T.a_are_terms T.d_are_terms ["thing"] (sp_are_terms K) := by
  have H_is_row := ok_is_row (P := P) (w := w) (base := base) T
  have H_is_term := ok_is_term (P := P) (w := w) (base := base) T
  refine fnG_ok T.F_are_terms sc_are_terms (fun cdv A outer s H E hr hc => ⟨_, (pss_one (ps_ret (pe_and (pe_callG H_is_row (hr.mono (by decide)) hc (by rfl) T.G_is_row T.F_is_row.kp T.B_is_row (pa_cons (pv 0) (pa_cons pe_int pa_nil))) (pe_one (pe_callB (cr_allK (K := K) rfl rfl) (by rfl) T.N_all (by decide +kernel) (pa_cons (pe_lc (own := [("term", 1)]) (g := (gName 1)) rfl sc_are_terms.nd (pi_seqK (K := K) rfl (pv 0)) (blkOk_by (own := [("term", 1)]) (N := ["thing", "term"]) (sc := defScope s_are_terms) (by decide +kernel)) (fun _ _ _ _ _ => (pg_name (i := 1) sc_are_terms.nd rfl (Or.inl rfl))) (fun _ _ _ _ _ => pts_nil) (fun _ _ _ _ _ => (pe_callG H_is_term hr hc (by rfl) T.G_is_term T.F_is_term.kp T.B_is_term (pa_cons (pv 1) pa_nil)))) pa_nil)))))), ?_⟩)
  rintro b I es hl ⟨d, rfl, hz⟩
  have e4 : termsD d = ((isTupD d && ((lenD d : Int) == 4)) && (match d with | .tuple ds => ds.all isTermD | _ => false)) := by
    cases d <;> first | rfl | skip
    rename_i ds
    show (decide (ds.length = 4) && ds.all isTermD) = ((true && ((ds.length : Int) == 4)) && ds.all isTermD)
    rw [Bool.true_and]
    congr 1
    rw [Bool.eq_iff_iff, decide_eq_true_eq, beq_iff_eq]
    omega
  refine bk_retP (d := .bool (termsD d)) ?_ ⟨_, rfl, rfl⟩
  rw [e4]
  refine pv_and (row_call (pa_consD (ev_var rfl) (pa_consD ev_int ea_nil))) fun h => ?_
  obtain ⟨ds, rfl, hl⟩ := rowN (m := 4) h
  exact pv_allT (vs := [1]) (ev_var rfl) (fun d _ => term_call (pa_consD (ev_var rfl) ea_nil)) hz.tup.1 (by decide)
theorem terms_call {c : Ctx} {ρ : List Ent} {tr : TA} {E : XK} {d : PyData} (h : Pa c tr ρ [.dat d]) (hz : Sm d) : Pv c (tCall (sp_are_terms c.K) [] E tr) ρ (.bool (termsD d)) := pv_callE h rfl ⟨d, rfl, hz⟩ fun x ⟨d', e, q⟩ => by cases e; exact q
theorem pv_notL {c : Ctx} {ρ : List Ent} {ta : TE} {ds : List PyData} (ha : Pv c ta ρ (.list ds)) : Pv c (tNotT c.K ta) ρ (.bool ds.isEmpty) := fun σ I H n Q w e l k =>
  ha σ I H n _ w e l fun v d I2 H2 g2 w2 r2 p2 => by
    subst p2
    obtain ⟨a, xs, rfl, h1, q1⟩ := r2.lst_inv
    refine ⟨!xs.isEmpty, .inl ⟨xs, SqL.of (w2.ih _ _ h1), rfl⟩, ?_⟩
    rw [Bool.not_not, emp_len q1]
    exact k _ _ I2 H2 g2 w2 (.bl _) rfl
def itemsT : PyData → List PyData
  | .tuple ds => ds
  | _ => []
/-- who is on both -/
def sharedD (ps bn : List PyData) : List PyData := (ps.filter fun p => bn.any fun y => PyData.eqv y (nmOf p)).map nmOf
def caseD : PyData → Bool
  | .tuple [cal, ps, bn, ts] => calD cal && (partiesD ps && (namesD bn && (decide (0 < (itemsT bn).length) && ((sharedD (itemsT ps) (itemsT bn)).isEmpty && termsD ts))))
  | _ => false
theorem parties_inv {d : PyData} (h : partiesD d = true) : ∃ ds, d = .tuple ds ∧ ds.all partyD = true := by
  cases d <;> first | (simp [partiesD] at h; done) | skip
  rename_i ds
  have h' : (ds.all partyD && _) = true := h
  rw [Bool.and_eq_true] at h'
  exact ⟨ds, rfl, h'.1⟩
theorem names_inv {d : PyData} (h : namesD d = true) : ∃ ds, d = .tuple ds ∧ ds.all nameD = true := by
  cases d <;> first | (simp [namesD] at h; done) | skip
  rename_i ds
  have h' : (ds.all nameD && _) = true := h
  rw [Bool.and_eq_true] at h'
  exact ⟨ds, rfl, h'.1⟩
theorem tg_four {c : Ctx} {i j k l : Nat} {a b d e : PyData} : Tg c (gTup c.K 4 (gCons (gName i) (gCons (gName j) (gCons (gName k) (gCons (gName l) gNil))))) [i, j, k, l] (.tuple [a, b, d, e]) (fun ρ => (((ρ.set i (.dat a)).set j (.dat b)).set k (.dat d)).set l (.dat e)) := tg_tup (tgl_cons tg_name (tgl_cons tg_name (tgl_cons tg_name (tgl_cons tg_name tgl_nil)))) rfl
abbrev sp_is_case (K : PySem.W.Frag) : Sp := spD K 1 0 (fun es => ∃ d : PyData, es = [.dat d] ∧ Sm d) (fun es r => ∃ d : PyData, es = [.dat d] ∧ r = .bool (caseD d))
theorem ok_is_case {P : Program} {w : World} {K : PySem.W.Frag} {mg : Str → Option Value} {base : Heap} (T : Tx K mg) : FnG P w K mg base 4 T.a_is_case T.d_is_case ["thing"] (sp_is_case K) := by
  have H_is_row := ok_is_row (P := P) (w := w) (base := base) T
  have H_is_calendar := ok_is_calendar (P := P) (w := w) (base := base) T
  have H_are_parties := ok_are_parties (P := P) (w := w) (base := base) T
  have H_are_names := ok_are_names (P := P) (w := w) (base := base) T
  have H_are_terms := ok_are_terms (P := P) (w := w) (base := base) T
  refine fnG_ok T.F_is_case sc_is_case (fun cdv A outer s H E hr hc => ⟨_, (pss_cons (ps_if (pt_not (pt_val (pe_callG H_is_row (hr.mono (by decide)) hc (by rfl) T.G_is_row T.F_is_row.kp T.B_is_row (pa_cons (pv 0) (pa_cons pe_int pa_nil)))))
      (pss_one (ps_ret pe_bl)) pss_nil)
      (pss_cons (ps_asg (pv 0) (pg_tup (by rfl) (pgs_cons (pg_name (i := 1) sc_is_case.nd rfl (Or.inl rfl)) (pgs_cons (pg_name (i := 2) sc_is_case.nd rfl (Or.inl rfl)) (pgs_cons (pg_name (i := 3) sc_is_case.nd rfl (Or.inr rfl)) (pgs_cons (pg_name (i := 4) sc_is_case.nd rfl (Or.inl rfl)) pgs_nil))))))
      (pss_cons (ps_if (PW.pt (pw_or (pt_not (pt_val (pe_callG H_is_calendar hr hc (by rfl) T.G_is_calendar T.F_is_calendar.kp T.B_is_calendar (pa_cons (pv 1) pa_nil)))) (pw_or (pt_not (pt_val (pe_callG H_are_parties hr hc (by rfl) T.G_are_parties T.F_are_parties.kp T.B_are_parties (pa_cons (pv 2) pa_nil)))) (pw_or1 (pt_not (pt_val (pe_callG H_are_names (hr.mono (by decide)) hc (by rfl) T.G_are_names T.F_are_names.kp T.B_are_names (pa_cons (pv 3) pa_nil))))))))
      (pss_one (ps_ret pe_bl)) pss_nil)
      (pss_cons (ps_setLc (i := 5) (own := [("name", 6), ("_", 7)]) (g := (gTup K 2 (gCons (gName 6) (gCons (gName 7) gNil)))) rfl sc_is_case.nd rfl rfl (sw_true rfl rfl rfl (by decide +kernel)) (pi_seqK (K := K) rfl (pv 2)) (blkOk_by (own := [("name", 6), ("_", 7)]) (N := ["thing", "calendar", "parties", "bench", "terms", "shared", "name", "_"]) (sc := defScope s_is_case) (by decide +kernel)) (fun _ _ _ _ _ => (pg_tup (by rfl) (pgs_cons (pg_name (i := 6) sc_is_case.nd rfl (Or.inl rfl)) (pgs_cons (pg_name (i := 7) sc_is_case.nd rfl (Or.inl rfl)) pgs_nil)))) (fun _ _ _ _ _ => (pts_one (pt_cmpR (op_inK (K := K) rfl) (pv 6) (pv 3) (by with_unfolding_all rfl)))) (fun _ _ _ _ _ => (pv 6)))
      (pss_one (ps_ret (pe_and (pe_cmpR op_gt (pe_callB (call_lenK (K := K) rfl) (by rfl) T.N_len (by decide +kernel) (pa_cons (pv 3) pa_nil)) pe_int (nomark _)) (pe_and (pe_notT (pv 5)) (pe_one (pe_callG H_are_terms hr hc (by rfl) T.G_are_terms T.F_are_terms.kp T.B_are_terms (pa_cons (pv 4) pa_nil))))))))))), ?_⟩)
  rintro b I es hl ⟨d, rfl, hz⟩
  refine bk_ifret (pt_notD (pt_B (row_call (pa_consD (ev_var rfl) (pa_consD ev_int ea_nil))))) (fun h => bk_retP ev_bl ⟨d, rfl, ?_⟩) fun h => ?_
  · have h' : ¬ ∃ x y z u, d = .tuple [x, y, z, u] := by
      rintro ⟨x, y, z, u, rfl⟩
      simp [isTupD, lenD] at h
    unfold caseD
    split
    · rename_i x y z u
      exact absurd ⟨x, y, z, u, rfl⟩ h'
    · rfl
  · obtain ⟨ds, rfl, hl4⟩ := rowN (m := 4) (by simpa using h)
    match ds, hl4 with
    | [cal, ps, bn, ts], _ =>
    have hs := hz.tup.2.2
    refine bk_seq (C1 := 0) (C2 := 0) (N := fun ρ' => ρ' = [.dat (.tuple [cal, ps, bn, ts]), .dat cal, .dat ps, .dat bn, .dat ts, .any, .any, .any]) (bk_asg (f := fun d ρ => (((ρ.set 1 (.dat cal)).set 2 (.dat ps)).set 3 (.dat bn)).set 4 (.dat ts)) (ev_var rfl) (fun d e => by subst e; exact tg_four) fun d _ => rfl) ?_ (by omega)
    rintro ρ' rfl
    refine bk_ifret (b := !calD cal || (!partiesD ps || !namesD bn)) (pt_or (pt_notD (pt_B (cal_call (pa_consD (ev_var rfl) ea_nil) (hs cal (by simp))))) fun _ => pt_or (pt_notD (pt_B (parties_call (pa_consD (ev_var rfl) ea_nil) (hs ps (by simp))))) fun _ => pt_notD (pt_B (names_call (pa_consD (ev_var rfl) ea_nil) (hs bn (by simp))))) (fun h => bk_retP ev_bl ⟨_, rfl, ?_⟩) fun h => ?_
    · show PyData.bool false = .bool (calD cal && (partiesD ps && (namesD bn && _)))
      cases h1 : calD cal <;> cases h2 : partiesD ps <;> cases h3 : namesD bn <;> first | rfl | (rw [h1, h2, h3] at h; cases h)
    · obtain ⟨h1, h2, h3⟩ : calD cal = true ∧ partiesD ps = true ∧ namesD bn = true := by
        cases h1 : calD cal <;> cases h2 : partiesD ps <;> cases h3 : namesD bn <;> first | exact ⟨rfl, rfl, rfl⟩ | (rw [h1, h2, h3] at h; cases h)
      obtain ⟨pl, rfl, hp⟩ := parties_inv h2
      obtain ⟨bl, rfl, hb⟩ := names_inv h3
      have zp := (hs (.tuple pl) (by simp)).tup
      have zb := (hs (.tuple bl) (by simp)).tup
      have two : ∀ d ∈ pl, ∃ n s : Str, d = .tuple [.str n, .str s] := fun d hd => by
        obtain ⟨n, s, e, _⟩ := partyD_inv (List.all_eq_true.mp hp d hd)
        exact ⟨_, _, e⟩
      have fb : bl.all flatD = true := flat_strs fun d hd => by
        obtain ⟨x, e, _⟩ := nameD_inv (List.all_eq_true.mp hb d hd)
        exact ⟨x, e⟩
      refine bk_letP (d := .list (sharedD pl bl)) (pv_filt (vs := [6, 7]) (f := fun d ρ => (ρ.set 6 (.dat (nmOf d))).set 7 (.dat (sideOf d))) (fun p => bl.any fun y => PyData.eqv y (nmOf p)) nmOf (iw_st (Pi := fun x => x = pl) (it_var rfl) fun is e d hd => by
        subst e
        obtain ⟨n, s, rfl⟩ := two d hd
        exact tg_two) (fun d hd => ?_) (fun d hd _ => ev_var rfl) zp.1) ?_
      · obtain ⟨n, s, rfl⟩ := two d hd
        exact pt_T (pv_op (ev_var rfl) (ev_var rfl) (rd_in (ds := bl) rfl rfl fb))
      refine bk_retP (d := .bool (decide (0 < bl.length) && ((sharedD pl bl).isEmpty && termsD ts))) ?_ ⟨_, rfl, by show _ = PyData.bool (calD cal && (partiesD (.tuple pl) && (namesD (.tuple bl) && _))); rw [h1, h2, h3]; rfl⟩
      refine pv_and (Pv.to (pv_ib (pv_cb (pa_consD (ev_var rfl) ea_nil) rda_lenT) ev_int) ?_) fun _ => pv_and (pv_notL (ev_var rfl)) fun _ => terms_call (pa_consD (ev_var rfl) ea_nil) (hs ts (by simp))
      refine congrArg PyData.bool ?_
      rw [Bool.eq_iff_iff, decide_eq_true_eq, decide_eq_true_eq]
      omega
theorem case_call {c : Ctx} {ρ : List Ent} {tr : TA} {E : XK} {d : PyData} (h : Pa c tr ρ [.dat d]) (hz : Sm d) : Pv c (tCall (sp_is_case c.K) [] E tr) ρ (.bool (caseD d)) := pv_callE h rfl ⟨d, rfl, hz⟩ fun x ⟨d', e, q⟩ => by cases e; exact q

/-! ### numbers as texts -/
def numS (n : Nat) : Str := toString (n : Int)
theorem numS_tl (n : Nat) : TL.tl (numS n) = TL.numL n := TL.tl_num n
theorem all_tl {x : Str} {p : Nat → Bool} : x.cps.all p = (TL.tl x).all p := (Array.all_toList (p := p) (as := x.cps)).symm
theorem numS_asc (n : Nat) : Txt.isascii (numS n) = true := by
  unfold Txt.isascii
  rw [all_tl, numS_tl, List.all_eq_true]
  intro c hc
  have := TL.numL_digits n c hc
  exact decide_eq_true (by omega)
theorem digit58 : ∀ c : Fin 58, 48 ≤ c.val → Unicode.isDigit c.val = true := by decide +kernel
theorem numS_dig (n : Nat) : Txt.isdigit (numS n) = true := by
  unfold Txt.isdigit
  rw [all_tl, numS_tl, TL.len_tl, numS_tl, Bool.and_eq_true, List.all_eq_true]
  refine ⟨decide_eq_true (List.length_pos_iff.mpr (TL.numL_ne n)), fun c hc => ?_⟩
  have := TL.numL_digits n c hc
  exact digit58 ⟨c, by omega⟩ (by show 48 ≤ c; omega)
theorem numS_len {n : Nat} (h : n < 10 ^ 6) : (numS n).length ≤ 6 := by
  rw [TL.len_tl, numS_tl]
  exact TL.numL_len (by decide) h
def wholeR (x : Str) : PyData := .int ((intText? x).getD 0)
def partsR (x : Str) : List Str := if x = "" then [] else Txt.split x ","
def partyR (x : Str) : PyData := .tuple [.str (Txt.partition x "=").1, .str (Txt.partition x "=").2.2]
def termR (x : Str) : PyData := .tuple [wholeR (Txt.partition x " ").1, .str (Txt.partition x " ").2.2]
theorem numS_val {n : Nat} (h : n < 10 ^ 6) : intText? (numS n) = some (n : Int) := TL.int_num (by have := TL.numL_len (k := 6) (by decide) h; omega)
theorem whole_is {n : Nat} (h : n < 10 ^ 6) : wholeR (numS n) = .int n := by unfold wholeR; rw [numS_val h]; rfl
abbrev sp_whole_of (K : PySem.W.Frag) : Sp := spD K 1 0 (fun es => ∃ n : Nat, es = [.dat (.str (numS n))] ∧ n < 10 ^ 6) (fun es r => ∃ x : Str, es = [.dat (.str x)] ∧ r = wholeR x)
theorem ok_whole_of {P : Program} {w : World} {K : PySem.W.Frag} {mg : Str → Option Value} {base : Heap} (T : Tx K mg) : FnG P w K mg base 1 T.a_whole_of T.d_whole_of ["text"] (sp_whole_of K) := by
  refine fnG_ok T.F_whole_of sc_whole_of (fun cdv A outer s H E hr hc => ⟨_, (pss_cons (ps_if (PW.pt (pw_or (pt_not (pt_val (pe_m0 PySem.F.slot_str_isascii PySem.F.type_str_isascii mt_isascii (pv 0)))) (pw_or (pt_not (pt_val (pe_m0 PySem.F.slot_str_isdigit PySem.F.type_str_isdigit mt_isdigit (pv 0)))) (pw_or1 (pt_cmpR op_gt (pe_callB (call_lenK (K := K) rfl) (by rfl) T.N_len (by decide +kernel) (pa_cons (pv 0) pa_nil)) (pe_glob (v := V.int 12) (by rfl) T.C_MOST_FIGURES ⟨_, rfl⟩) (nomark _))))))
      (pss_one ps_never) pss_nil)
      (pss_one (ps_ret (pe_callTy call_int_str (by rfl) T.N_int (by decide +kernel) (pa_cons (pv 0) pa_nil))))), ?_⟩)
  rintro b I es hl ⟨n, rfl, hn⟩
  have h6 := numS_len hn
  have hs : (10002 : Nat) ≤ sizeLine := by decide
  refine bk_ifret (b := false) (Pt.to (pt_or (a := false) (Pt.to (pt_notD (pt_B (pv_strB (g := Txt.isascii) (ev_var rfl)))) (by rw [numS_asc]; rfl)) fun _ => pt_or (a := false) (Pt.to (pt_notD (pt_B (pv_strB (g := Txt.isdigit) (ev_var rfl)))) (by rw [numS_dig]; rfl)) fun _ => Pt.to (pt_T (pv_ib (g := fun i j => decide (j < i)) (pv_cb (pa_consD (ev_var rfl) ea_nil) (rda_lenS (x := numS n) (by omega))) ev_int)) (decide_eq_false (by omega))) rfl) (fun z => nomatch z) fun _ => ?_
  exact bk_retP (pv_cb (pa_consD (ev_var rfl) ea_nil) (rda_intS (n := (n : Int)) (numS_val hn) (by omega))) ⟨_, rfl, (whole_is hn).symm⟩
/-! ### parts behind one another -/
def sumLen (ps : List Str) : Nat := (ps.map (·.length)).sum
theorem join_tl (s : Str) (ps : List Str) : TL.tl (Txt.join s ps) = TL.joinL (TL.tl s) (ps.map TL.tl) := by rw [TL.join_eq, TL.tl_join]
theorem comma_tl : TL.tl (",": Str) = [44] := by decide
theorem semi_tl : TL.tl (";" : Str) = [59] := by decide
theorem eq_tl : TL.tl ("=" : Str) = [61] := by decide
theorem sp_tl : TL.tl (" " : Str) = [32] := by decide
theorem empty_tl {x : Str} : x = "" ↔ TL.tl x = [] := by
  constructor
  · rintro rfl
    decide
  · intro h
    exact TL.ext_tl (h.trans (by decide))
theorem joinL_nil {S : List Nat} : ∀ {ls : List (List Nat)}, (∀ l ∈ ls, l ≠ []) → TL.joinL S ls = [] → ls = []
  | [], _, _ => rfl
  | [l], h, e => absurd e (h l List.mem_cons_self)
  | l :: m :: r, h, e => by
    have e' : l ++ (S ++ TL.joinL S (m :: r)) = [] := e
    exact absurd (List.append_eq_nil_iff.mp e').1 (h l List.mem_cons_self)
abbrev sp_parts_of (K : PySem.W.Frag) : Sp := spD K 2 0 (fun es => ∃ ps : List Str, es = [.dat (.str (Txt.join "," ps)), .dat (.str ",")] ∧ (∀ p ∈ ps, p ≠ "" ∧ 44 ∉ TL.tl p) ∧ (Txt.join "," ps).length ≤ 10000) (fun es r => ∃ x : Str, es = [.dat (.str x), .dat (.str ",")] ∧ r = .list ((partsR x).map .str))
theorem join_empty {ps : List Str} (hp : ∀ p ∈ ps, p ≠ "" ∧ 44 ∉ TL.tl p) : decide (Txt.join "," ps = "") = ps.isEmpty := by
  rw [Bool.eq_iff_iff, decide_eq_true_eq, List.isEmpty_iff]
  constructor
  · intro h
    have h2 := empty_tl.mp h
    rw [join_tl] at h2
    exact List.map_eq_nil_iff.mp (joinL_nil (fun l hl z => by
      obtain ⟨p, hp', rfl⟩ := List.mem_map.mp hl
      exact (hp p hp').1 (empty_tl.mpr z)) h2)
  · rintro rfl
    exact empty_tl.mpr (by rw [join_tl]; rfl)
theorem parts_is {ps : List Str} (hp : ∀ p ∈ ps, p ≠ "" ∧ 44 ∉ TL.tl p) : partsR (Txt.join "," ps) = ps := by
  have he := join_empty hp
  unfold partsR
  by_cases h : ps = []
  · subst h
    rw [if_pos (of_decide_eq_true (by rw [he]; rfl))]
  · rw [if_neg (of_decide_eq_false (by rw [he]; cases ps with | nil => exact absurd rfl h | cons _ _ => rfl)), TL.split_join comma_tl (by decide +kernel) h fun p hp' => (hp p hp').2]
theorem ok_parts_of {P : Program} {w : World} {K : PySem.W.Frag} {mg : Str → Option Value} {base : Heap} (T : Tx K mg) : FnG P w K mg base 1 T.a_parts_of T.d_parts_of ["text", "sign"] (sp_parts_of K) := by
  refine fnG_ok T.F_parts_of sc_parts_of (fun cdv A outer s H E hr hc => ⟨_, (pss_cons (ps_if (pt_cmpR (by refine op_eqK (K := K) rfl ?_; exact hr.units) (pv 0) pe_str (nomark _))
      (pss_one (ps_ret (pe_lst pa_nil))) pss_nil)
      (pss_one (ps_ret (pe_split (pv 0) (pv 1))))), ?_⟩)
  rintro b I es hl ⟨ps, rfl, hp, hz⟩
  have hs : (10002 : Nat) ≤ sizeLine := by decide
  refine bk_ifret (b := decide (Txt.join "," ps = "")) (pt_T (pv_eqS (ev_var rfl) ev_str)) (fun h => ?_) fun h => ?_
  · refine bk_retP (pv_lst (ds := []) ea_nil) ⟨_, rfl, ?_⟩
    unfold partsR
    rw [if_pos (of_decide_eq_true h)]
    rfl
  · refine bk_retP (evF_split (x := Txt.join "," ps) (s := ",") (ev_var rfl) (ev_var rfl) (by decide) (by omega)).ev ⟨_, rfl, ?_⟩
    unfold partsR
    rw [if_neg (of_decide_eq_false h)]
theorem party_is {x y : Str} (hx : 61 ∉ TL.tl x) : partyR (x ++ "=" ++ y) = .tuple [.str x, .str y] := by unfold partyR; rw [TL.partition_app eq_tl hx]
theorem term_is {n : Nat} {y : Str} (hn : n < 10 ^ 6) : termR (numS n ++ " " ++ y) = .tuple [.int n, .str y] := by
  have hx : 32 ∉ TL.tl (numS n) := by rw [numS_tl]; exact TL.numL_free (by omega)
  unfold termR
  rw [TL.partition_app sp_tl hx, whole_is hn]
abbrev sp_party_of (K : PySem.W.Frag) : Sp := spD K 1 0 (fun es => ∃ x y : Str, es = [.dat (.str (x ++ "=" ++ y))] ∧ 61 ∉ TL.tl x ∧ (x ++ "=" ++ y).length ≤ 10000) (fun es r => ∃ x : Str, es = [.dat (.str x)] ∧ r = partyR x)
theorem ok_party_of {P : Program} {w : World} {K : PySem.W.Frag} {mg : Str → Option Value} {base : Heap} (T : Tx K mg) : FnG P w K mg base 1 T.a_party_of T.d_party_of ["text"] (sp_party_of K) := by
  refine fnG_ok T.F_party_of sc_party_of (fun cdv A outer s H E hr hc => ⟨_, (pss_cons (ps_asg (pe_partition (pv 0) pe_str) (pg_tup (by rfl) (pgs_cons (pg_name (i := 1) sc_party_of.nd rfl (Or.inl rfl)) (pgs_cons (pg_name (i := 2) sc_party_of.nd rfl (Or.inl rfl)) (pgs_cons (pg_name (i := 3) sc_party_of.nd rfl (Or.inl rfl)) pgs_nil)))))
      (pss_one (ps_ret (pe_tup (pa_cons (pv 1) (pa_cons (pv 3) pa_nil)))))), ?_⟩)
  rintro b I es hl ⟨x, y, rfl, hx, hz⟩
  have hs : (10002 : Nat) ≤ sizeLine := by decide
  refine bk_seq (C1 := 0) (C2 := 0) (N := fun ρ' => ρ' = [.dat (.str (x ++ "=" ++ y)), .dat (.str x), .dat (.str "="), .dat (.str y)]) (bk_asg (f := fun _ ρ => ((ρ.set 1 (.dat (.str x))).set 2 (.dat (.str "="))).set 3 (.dat (.str y))) (Pv.to (pv_part (x := x ++ "=" ++ y) (s := "=") (ev_var rfl) ev_str (by decide) (by omega)) (by rw [TL.partition_app eq_tl hx])) (fun d e => by subst e; exact tg_three) fun d _ => rfl) ?_ (by omega)
  rintro ρ' rfl
  exact bk_retP (pv_tup (ds := [.str x, .str y]) (pa_consD (ev_var rfl) (pa_consD (ev_var rfl) ea_nil))) ⟨_, rfl, (party_is hx).symm⟩
abbrev sp_term_of (K : PySem.W.Frag) : Sp := spD K 1 0 (fun es => ∃ (n : Nat) (y : Str), es = [.dat (.str (numS n ++ " " ++ y))] ∧ n < 10 ^ 6 ∧ (numS n ++ " " ++ y).length ≤ 10000) (fun es r => ∃ x : Str, es = [.dat (.str x)] ∧ r = termR x)
theorem whole_call2 {c : Ctx} {ρ : List Ent} {tr : TA} {E : XK} {n : Nat} (h : Pa c tr ρ [.dat (.str (numS n))]) (hn : n < 10 ^ 6) : Pv c (tCall (sp_whole_of c.K) [] E tr) ρ (.int n) := pv_callE h rfl ⟨n, rfl, hn⟩ fun x ⟨m, e, q⟩ => by
  cases e
  rw [q, whole_is hn]
theorem ok_term_of {P : Program} {w : World} {K : PySem.W.Frag} {mg : Str → Option Value} {base : Heap} (T : Tx K mg) : FnG P w K mg base 2 T.a_term_of T.d_term_of ["text"] (sp_term_of K) := by
  have H_whole_of := ok_whole_of (P := P) (w := w) (base := base) T
  refine fnG_ok T.F_term_of sc_term_of (fun cdv A outer s H E hr hc => ⟨_, (pss_cons (ps_asg (pe_partition (pv 0) pe_str) (pg_tup (by rfl) (pgs_cons (pg_name (i := 1) sc_term_of.nd rfl (Or.inl rfl)) (pgs_cons (pg_name (i := 2) sc_term_of.nd rfl (Or.inl rfl)) (pgs_cons (pg_name (i := 3) sc_term_of.nd rfl (Or.inl rfl)) pgs_nil)))))
      (pss_one (ps_ret (pe_tup (pa_cons (pe_callG H_whole_of hr hc (by rfl) T.G_whole_of T.F_whole_of.kp T.B_whole_of (pa_cons (pv 1) pa_nil)) (pa_cons (pv 3) pa_nil)))))), ?_⟩)
  rintro b I es hl ⟨n, y, rfl, hn, hz⟩
  have hs : (10002 : Nat) ≤ sizeLine := by decide
  have hx : 32 ∉ TL.tl (numS n) := by rw [numS_tl]; exact TL.numL_free (by omega)
  refine bk_seq (C1 := 0) (C2 := 0) (N := fun ρ' => ρ' = [.dat (.str (numS n ++ " " ++ y)), .dat (.str (numS n)), .dat (.str " "), .dat (.str y)]) (bk_asg (f := fun _ ρ => ((ρ.set 1 (.dat (.str (numS n)))).set 2 (.dat (.str " "))).set 3 (.dat (.str y))) (Pv.to (pv_part (x := numS n ++ " " ++ y) (s := " ") (ev_var rfl) ev_str (by decide) (by omega)) (by rw [TL.partition_app sp_tl hx])) (fun d e => by subst e; exact tg_three) fun d _ => rfl) ?_ (by omega)
  rintro ρ' rfl
  exact bk_retP (pv_tup (ds := [.int n, .str y]) (pa_consD (whole_call2 (pa_consD (ev_var rfl) ea_nil) hn) (pa_consD (ev_var rfl) ea_nil))) ⟨_, rfl, (term_is hn).symm⟩

theorem parts_call {c : Ctx} {ρ : List Ent} {tr : TA} {E : XK} {ps : List Str} (h : Pa c tr ρ [.dat (.str (Txt.join "," ps)), .dat (.str ",")]) (hp : ∀ p ∈ ps, p ≠ "" ∧ 44 ∉ TL.tl p) (hz : (Txt.join "," ps).length ≤ 10000) : Pv c (tCall (sp_parts_of c.K) [] E tr) ρ (.list (ps.map .str)) := pv_callE h rfl ⟨ps, rfl, hp, hz⟩ fun x ⟨m, e, q⟩ => by
  cases e
  rw [q, parts_is hp]
theorem party_call2 {c : Ctx} {ρ : List Ent} {tr : TA} {E : XK} {x y : Str} (h : Pa c tr ρ [.dat (.str (x ++ "=" ++ y))]) (hx : 61 ∉ TL.tl x) (hz : (x ++ "=" ++ y).length ≤ 10000) : Pv c (tCall (sp_party_of c.K) [] E tr) ρ (.tuple [.str x, .str y]) := pv_callE h rfl ⟨x, y, rfl, hx, hz⟩ fun r ⟨m, e, q⟩ => by
  cases e
  rw [q, party_is hx]
theorem term_call2 {c : Ctx} {ρ : List Ent} {tr : TA} {E : XK} {n : Nat} {y : Str} (h : Pa c tr ρ [.dat (.str (numS n ++ " " ++ y))]) (hn : n < 10 ^ 6) (hz : (numS n ++ " " ++ y).length ≤ 10000) : Pv c (tCall (sp_term_of c.K) [] E tr) ρ (.tuple [.int n, .str y]) := pv_callE h rfl ⟨n, y, rfl, hn, hz⟩ fun r ⟨m, e, q⟩ => by
  cases e
  rw [q, term_is hn]
/-! ### a case and its text -/
def cdat (hs : List Nat) (ps : List (Str × Str)) (bs : List Str) (ts : List (Nat × Str)) : PyData := .tuple [.tuple (hs.map fun n => .int (n : Nat)), .tuple (ps.map fun p => .tuple [.str p.1, .str p.2]), .tuple (bs.map .str), .tuple (ts.map fun t => .tuple [.int (t.1 : Nat), .str t.2])]
def hsT (hs : List Nat) : List Str := hs.map numS
def psT (ps : List (Str × Str)) : List Str := ps.map fun p => p.1 ++ "=" ++ p.2
def tsT (ts : List (Nat × Str)) : List Str := ts.map fun t => numS t.1 ++ " " ++ t.2
def pcs (hs : List Nat) (ps : List (Str × Str)) (bs : List Str) (ts : List (Nat × Str)) : List Str := [Txt.join "," (hsT hs), Txt.join "," (psT ps), Txt.join "," bs, Txt.join "," (tsT ts)]
def csT (hs : List Nat) (ps : List (Str × Str)) (bs : List Str) (ts : List (Nat × Str)) : Str := Txt.join ";" (pcs hs ps bs ts)
structure Low (x : Str) : Prop where
  ne : x ≠ ""
  ln : x.length ≤ 10
  lo : ∀ c ∈ TL.tl x, 97 ≤ c ∧ c ≤ 122
structure TC (hs : List Nat) (ps : List (Str × Str)) (bs : List Str) (ts : List (Nat × Str)) : Prop where
  hl : hs.length ≤ 20
  hb : ∀ n ∈ hs, n < 10 ^ 6
  pl : ps.length ≤ 20
  pb : ∀ p ∈ ps, Low p.1 ∧ Low p.2
  bl : bs.length ≤ 20
  bb : ∀ x ∈ bs, Low x
  tl : ts.length ≤ 20
  tb : ∀ t ∈ ts, t.1 < 10 ^ 6 ∧ Low t.2
theorem joinL_mem {S : List Nat} {c : Nat} : ∀ {ls : List (List Nat)}, c ∈ TL.joinL S ls → c ∈ S ∨ ∃ l ∈ ls, c ∈ l
  | [], h => nomatch h
  | [l], h => .inr ⟨l, List.mem_cons_self, h⟩
  | l :: m :: r, h => by
    have h' : c ∈ l ++ (S ++ TL.joinL S (m :: r)) := h
    rcases List.mem_append.mp h' with z | z
    · exact .inr ⟨l, List.mem_cons_self, z⟩
    · rcases List.mem_append.mp z with z | z
      · exact .inl z
      · rcases joinL_mem z with z | ⟨q, hq, z⟩
        · exact .inl z
        · exact .inr ⟨q, List.mem_cons_of_mem _ hq, z⟩
theorem joinL_len {S : List Nat} {k : Nat} : ∀ {ls : List (List Nat)}, (∀ l ∈ ls, l.length ≤ k) → (TL.joinL S ls).length ≤ (k + S.length) * ls.length
  | [], _ => Nat.zero_le _
  | [l], h => by
    show l.length ≤ (k + S.length) * 1
    have := h l List.mem_cons_self
    omega
  | l :: m :: r, h => by
    show (l ++ (S ++ TL.joinL S (m :: r))).length ≤ (k + S.length) * ((m :: r).length + 1)
    rw [List.length_append, List.length_append, Nat.mul_add]
    have h1 := h l List.mem_cons_self
    have h2 := joinL_len (S := S) (k := k) (ls := m :: r) fun x hx => h x (List.mem_cons_of_mem _ hx)
    omega
theorem join_len {s : Str} {k : Nat} {ps : List Str} (h : ∀ p ∈ ps, p.length ≤ k) : (Txt.join s ps).length ≤ (k + s.length) * ps.length := by
  rw [TL.len_tl, join_tl, TL.len_tl s]
  have := joinL_len (S := TL.tl s) (k := k) (ls := ps.map TL.tl) fun l hl => by
    obtain ⟨p, hp, rfl⟩ := List.mem_map.mp hl
    rw [← TL.len_tl]
    exact h p hp
  rwa [List.length_map] at this
theorem join_mem {s : Str} {c : Nat} {ps : List Str} (h : c ∈ TL.tl (Txt.join s ps)) : c ∈ TL.tl s ∨ ∃ p ∈ ps, c ∈ TL.tl p := by
  rw [join_tl] at h
  rcases joinL_mem h with z | ⟨l, hl, z⟩
  · exact .inl z
  · obtain ⟨p, hp, rfl⟩ := List.mem_map.mp hl
    exact .inr ⟨p, hp, z⟩
/-- a part: short, not empty, of digits, letters, = and blanks -/
structure Prt (x : Str) : Prop where
  ne : x ≠ ""
  ln : x.length ≤ 30
  lo : ∀ c ∈ TL.tl x, c = 61 ∨ c = 32 ∨ (48 ≤ c ∧ c ≤ 57) ∨ (97 ≤ c ∧ c ≤ 122)
theorem app_ne {x y : Str} (h : x ≠ "") : x ++ y ≠ "" := fun z => h (empty_tl.mpr (by
  have := empty_tl.mp z
  rw [TL.tl_append] at this
  exact (List.append_eq_nil_iff.mp this).1))
theorem numS_prt {n : Nat} (h : n < 10 ^ 6) : Prt (numS n) := ⟨fun z => TL.numL_ne n (by rw [← numS_tl]; exact empty_tl.mp z), by have := numS_len h; omega, fun c hc => by
  rw [numS_tl] at hc
  have := TL.numL_digits n c hc
  omega⟩
theorem Low.prt {x : Str} (h : Low x) : Prt x := ⟨h.ne, by have := h.ln; omega, fun c hc => .inr (.inr (.inr (h.lo c hc)))⟩
theorem app_len (x y : Str) : (x ++ y).length = x.length + y.length := by rw [TL.len_tl, TL.tl_append, List.length_append, ← TL.len_tl, ← TL.len_tl]
theorem ps_prt {p : Str × Str} (h : Low p.1 ∧ Low p.2) : Prt (p.1 ++ "=" ++ p.2) := ⟨app_ne (app_ne h.1.ne), by
  rw [app_len, app_len]
  have h1 := h.1.ln
  have h2 := h.2.ln
  have h3 : ("=" : Str).length = 1 := by decide
  omega, fun c hc => by
  rw [TL.tl_append, TL.tl_append, eq_tl] at hc
  rcases List.mem_append.mp hc with hc | hc
  · rcases List.mem_append.mp hc with hc | hc
    · exact .inr (.inr (.inr (h.1.lo c hc)))
    · exact .inl (List.mem_singleton.mp hc)
  · exact .inr (.inr (.inr (h.2.lo c hc)))⟩
theorem ts_prt {t : Nat × Str} (h : t.1 < 10 ^ 6 ∧ Low t.2) : Prt (numS t.1 ++ " " ++ t.2) := ⟨app_ne (app_ne (numS_prt h.1).ne), by
  rw [app_len, app_len]
  have h1 := numS_len h.1
  have h2 := h.2.ln
  have h3 : (" " : Str).length = 1 := by decide
  omega, fun c hc => by
  rw [TL.tl_append, TL.tl_append, sp_tl] at hc
  rcases List.mem_append.mp hc with hc | hc
  · rcases List.mem_append.mp hc with hc | hc
    · exact (numS_prt h.1).lo c hc
    · exact .inr (.inl (List.mem_singleton.mp hc))
  · exact .inr (.inr (.inr (h.2.lo c hc)))⟩
/-- parts joined by commas -/
theorem prts_ok {ps : List Str} (h : ∀ p ∈ ps, Prt p) : ∀ p ∈ ps, p ≠ "" ∧ 44 ∉ TL.tl p := fun p hp => ⟨(h p hp).ne, fun z => by have := (h p hp).lo 44 z; omega⟩
theorem prts_len {ps : List Str} (h : ∀ p ∈ ps, Prt p) (hl : ps.length ≤ 20) : (Txt.join "," ps).length ≤ 620 := by
  have h1 := join_len (s := ",") (k := 30) fun p hp => (h p hp).ln
  have h3 : ("," : Str).length = 1 := by decide
  rw [h3] at h1
  have := Nat.mul_le_mul_left (30 + 1) hl
  omega
theorem prts_semi {ps : List Str} (h : ∀ p ∈ ps, Prt p) : 59 ∉ TL.tl (Txt.join "," ps) := fun z => by
  rcases join_mem z with z | ⟨p, hp, z⟩
  · rw [comma_tl] at z
    exact absurd z (by decide)
  · have := (h p hp).lo 59 z
    omega
section
variable {hs : List Nat} {ps : List (Str × Str)} {bs : List Str} {ts : List (Nat × Str)} (M : TC hs ps bs ts)
include M
theorem TC.h1 : ∀ p ∈ hsT hs, Prt p := fun p hp => by
  obtain ⟨n, hn, rfl⟩ := List.mem_map.mp hp
  exact numS_prt (M.hb n hn)
theorem TC.h2 : ∀ p ∈ psT ps, Prt p := fun p hp => by
  obtain ⟨n, hn, rfl⟩ := List.mem_map.mp hp
  exact ps_prt (M.pb n hn)
theorem TC.h3 : ∀ p ∈ bs, Prt p := fun p hp => (M.bb p hp).prt
theorem TC.h4 : ∀ p ∈ tsT ts, Prt p := fun p hp => by
  obtain ⟨n, hn, rfl⟩ := List.mem_map.mp hp
  exact ts_prt (M.tb n hn)
theorem TC.l1 : (hsT hs).length ≤ 20 := by unfold hsT; rw [List.length_map]; exact M.hl
theorem TC.l2 : (psT ps).length ≤ 20 := by unfold psT; rw [List.length_map]; exact M.pl
theorem TC.l4 : (tsT ts).length ≤ 20 := by unfold tsT; rw [List.length_map]; exact M.tl
theorem TC.split : Txt.split (csT hs ps bs ts) ";" = pcs hs ps bs ts := TL.split_join semi_tl (by decide +kernel) (by simp [pcs]) fun p hp => by
  simp only [pcs, List.mem_cons, List.not_mem_nil, or_false] at hp
  rcases hp with rfl | rfl | rfl | rfl
  · exact prts_semi M.h1
  · exact prts_semi M.h2
  · exact prts_semi M.h3
  · exact prts_semi M.h4
theorem TC.len : (csT hs ps bs ts).length ≤ 3000 := by
  have h1 := join_len (s := ";") (k := 620) (ps := pcs hs ps bs ts) fun p hp => by
    simp only [pcs, List.mem_cons, List.not_mem_nil, or_false] at hp
    rcases hp with rfl | rfl | rfl | rfl
    · exact prts_len M.h1 M.l1
    · exact prts_len M.h2 M.l2
    · exact prts_len M.h3 M.bl
    · exact prts_len M.h4 M.l4
  have h3 : (";" : Str).length = 1 := by decide
  rw [h3] at h1
  have h4 : (pcs hs ps bs ts).length = 4 := rfl
  rw [h4] at h1
  exact Nat.le_trans h1 (by decide)
end

theorem log_small {n : Nat} (h : n < 10 ^ 6) : ((n : Int)).natAbs.log2 < 1920 := by
  rw [Int.natAbs_natCast]
  by_cases h0 : n = 0
  · subst h0
    decide
  · refine (Nat.log2_lt h0).mpr (Nat.lt_of_lt_of_le h (Nat.le_trans (show 10 ^ 6 ≤ 2 ^ 20 by decide) (Nat.pow_le_pow_right (by decide) (by decide))))
theorem sum_le {k : Nat} : ∀ {ps : List Str}, (∀ p ∈ ps, p.length ≤ k) → (ps.map (·.length)).sum ≤ k * ps.length
  | [], _ => Nat.zero_le _
  | p :: r, h => by
    rw [List.map_cons, List.sum_cons, List.length_cons, Nat.mul_add]
    have h1 := h p List.mem_cons_self
    have h2 := sum_le (ps := r) fun x hx => h x (List.mem_cons_of_mem _ hx)
    omega
theorem prts_sum {s : Str} {ps : List Str} (hs : s.length = 1) (h : ∀ p ∈ ps, Prt p) (hl : ps.length ≤ 20) : (ps.map (·.length)).sum + ps.length * s.length ≤ 16777216 := by
  have h1 := sum_le (k := 30) fun p hp => (h p hp).ln
  rw [hs]
  have := Nat.mul_le_mul_left 30 hl
  omega
theorem pv_joinL {c : Ctx} {ρ : List Ent} {ta tb : TE} {a : Str} {ys : List Str} (ha : Pv c ta ρ (.str a)) (hb : Pv c tb ρ (.list (ys.map .str))) (hl : (ys.map (·.length)).sum + ys.length * a.length ≤ 16777216) :
    Pv c (tM1 (fun x xs H Q => ∃ a p, ∃ ys : List Str, x = .str a ∧ xs = [.ref p] ∧ (SqL c.K H p (ys.map V.str) ∨ SqT c.K H p (ys.map V.str)) ∧ (ys.map (·.length)).sum + ys.length * a.length ≤ 16777216 ∧ Q (.str (Txt.join a ys)) H) ta tb) ρ (.str (Txt.join a ys)) :=
  ev_join (P := fun zs => zs = ys) ha (hb.imp (Nat.le_refl _) fun d e => ⟨ys, e, rfl⟩) (fun zs e => by rw [e]; exact hl) fun zs e => by rw [e]
theorem pv_joinT {c : Ctx} {ρ : List Ent} {ta tb : TE} {a : Str} {ys : List Str} (ha : Pv c ta ρ (.str a)) (hb : Pv c tb ρ (.tuple (ys.map .str))) (hl : (ys.map (·.length)).sum + ys.length * a.length ≤ 16777216) :
    Pv c (tM1 (fun x xs H Q => ∃ a p, ∃ ys : List Str, x = .str a ∧ xs = [.ref p] ∧ (SqL c.K H p (ys.map V.str) ∨ SqT c.K H p (ys.map V.str)) ∧ (ys.map (·.length)).sum + ys.length * a.length ≤ 16777216 ∧ Q (.str (Txt.join a ys)) H) ta tb) ρ (.str (Txt.join a ys)) := fun σ I H n Q w e l k =>
  ha σ I H n _ w e l fun v d I2 H2 g2 w2 r2 p2 => by
    subst p2
    obtain rfl := r2.str_inv
    refine ⟨⟨a, rfl⟩, hb σ I2 H2 n _ w2 (e.go g2) l fun v3 d3 I3 H3 g3 w3 r3 ed => ?_⟩
    subst ed
    obtain ⟨p, xs, rfl, h1, q1⟩ := r3.tup_inv
    have ex := q1.strs
    subst ex
    exact ⟨a, p, ys, rfl, rfl, .inr (seqT_mono w3.ih h1), hl, k _ _ I3 H3 (g2.trans g3) w3 (.str _) rfl⟩
theorem tg_lst4 {c : Ctx} {i j k l : Nat} {a b d e : PyData} : Tg c (gLst c.K 4 (gCons (gName i) (gCons (gName j) (gCons (gName k) (gCons (gName l) gNil))))) [i, j, k, l] (.list [a, b, d, e]) (fun ρ => (((ρ.set i (.dat a)).set j (.dat b)).set k (.dat d)).set l (.dat e)) := fun σ ρ I H n x Q w ev r kk => by
  obtain ⟨p, xs, rfl, hs, hr⟩ := r.lst_inv
  have hl : xs.length = 4 := hr.length
  exact ⟨p, xs, rfl, SqL.of (w.ih _ _ hs), hl, (tgl_cons tg_name (tgl_cons tg_name (tgl_cons tg_name (tgl_cons tg_name tgl_nil)))) σ ρ I H n xs Q w ev hr kk⟩
theorem emp_app (x : Str) : Str.empty ++ x = x := TL.ext_tl (by rw [TL.tl_append]; rfl)
def strV : PyData → Str
  | .str x => x
  | _ => ""
def natV : PyData → Nat
  | .int i => i.toNat
  | _ => 0
abbrev sp_case_text (K : PySem.W.Frag) : Sp := spD K 1 0 (fun es => ∃ hs ps bs ts, es = [.dat (cdat hs ps bs ts)] ∧ TC hs ps bs ts) (fun es r => ∃ hs ps bs ts, es = [.dat (cdat hs ps bs ts)] ∧ r = .str (csT hs ps bs ts))
theorem ok_case_text {P : Program} {w : World} {K : PySem.W.Frag} {mg : Str → Option Value} {base : Heap} (T : Tx K mg) : FnG P w K mg base 1 T.a_case_text T.d_case_text ["case"] (sp_case_text K) := by
  refine fnG_ok T.F_case_text sc_case_text (fun cdv A outer s H E hr hc => ⟨_, (pss_cons (ps_asg (pv 0) (pg_tup (by rfl) (pgs_cons (pg_name (i := 1) sc_case_text.nd rfl (Or.inl rfl)) (pgs_cons (pg_name (i := 2) sc_case_text.nd rfl (Or.inl rfl)) (pgs_cons (pg_name (i := 3) sc_case_text.nd rfl (Or.inl rfl)) (pgs_cons (pg_name (i := 4) sc_case_text.nd rfl (Or.inl rfl)) pgs_nil))))))
      (pss_cons (ps_set (i := 5) sc_case_text.nd rfl (Or.inl rfl) (pe_join pe_str (pe_lc (own := [("day", 9)]) (g := (gName 9)) rfl sc_case_text.nd (pi_seqK (K := K) rfl (pv 1)) (blkOk_by (own := [("day", 9)]) (N := ["case", "calendar", "parties", "bench", "terms", "holidays", "sides", "judges", "counts", "day", "name", "side", "count", "unit"]) (sc := defScope s_case_text) (by decide +kernel)) (fun _ _ _ _ _ => (pg_name (i := 9) sc_case_text.nd rfl (Or.inl rfl))) (fun _ _ _ _ _ => pts_nil) (fun _ _ _ _ _ => (pe_callTy call_str_int (by rfl) T.N_str (by decide +kernel) (pa_cons (pv 9) pa_nil))))))
      (pss_cons (ps_set (i := 6) sc_case_text.nd rfl (Or.inl rfl) (pe_join pe_str (pe_lc (own := [("name", 10), ("side", 11)]) (g := (gTup K 2 (gCons (gName 10) (gCons (gName 11) gNil)))) rfl sc_case_text.nd (pi_seqK (K := K) rfl (pv 2)) (blkOk_by (own := [("name", 10), ("side", 11)]) (N := ["case", "calendar", "parties", "bench", "terms", "holidays", "sides", "judges", "counts", "day", "name", "side", "count", "unit"]) (sc := defScope s_case_text) (by decide +kernel)) (fun _ _ _ _ _ => (pg_tup (by rfl) (pgs_cons (pg_name (i := 10) sc_case_text.nd rfl (Or.inl rfl)) (pgs_cons (pg_name (i := 11) sc_case_text.nd rfl (Or.inl rfl)) pgs_nil)))) (fun _ _ _ _ _ => pts_nil) (fun _ _ _ _ _ => (pe_joined (.cons (pe_fmt (pv 10)) (.cons pe_str (.cons (pe_fmt (pv 11)) .nil))))))))
      (pss_cons (ps_set (i := 7) sc_case_text.nd rfl (Or.inl rfl) (pe_join pe_str (pv 3)))
      (pss_cons (ps_set (i := 8) sc_case_text.nd rfl (Or.inl rfl) (pe_join pe_str (pe_lc (own := [("count", 12), ("unit", 13)]) (g := (gTup K 2 (gCons (gName 12) (gCons (gName 13) gNil)))) rfl sc_case_text.nd (pi_seqK (K := K) rfl (pv 4)) (blkOk_by (own := [("count", 12), ("unit", 13)]) (N := ["case", "calendar", "parties", "bench", "terms", "holidays", "sides", "judges", "counts", "day", "name", "side", "count", "unit"]) (sc := defScope s_case_text) (by decide +kernel)) (fun _ _ _ _ _ => (pg_tup (by rfl) (pgs_cons (pg_name (i := 12) sc_case_text.nd rfl (Or.inl rfl)) (pgs_cons (pg_name (i := 13) sc_case_text.nd rfl (Or.inl rfl)) pgs_nil)))) (fun _ _ _ _ _ => pts_nil) (fun _ _ _ _ _ => (pe_joined (.cons (pe_fmt (pv 12)) (.cons pe_str (.cons (pe_fmt (pv 13)) .nil))))))))
      (pss_one (ps_ret (pe_join pe_str (pe_lst (pa_cons (pv 5) (pa_cons (pv 6) (pa_cons (pv 7) (pa_cons (pv 8) pa_nil))))))))))))), ?_⟩)
  rintro b I es hl ⟨hs, ps, bs, ts, rfl, M⟩
  have hsz : (10002 : Nat) ≤ sizeLine := by decide
  have hc1 : ("," : Str).length = 1 := by decide
  have hc2 : (";" : Str).length = 1 := by decide
  have m1 := M.hl
  have m2 := M.pl
  have m3 := M.bl
  have m4 := M.tl
  refine bk_seq (C1 := 0) (C2 := 0) (N := fun ρ' => ρ' = [.dat (cdat hs ps bs ts), .dat (.tuple (hs.map fun n => .int (n : Nat))), .dat (.tuple (ps.map fun p => .tuple [.str p.1, .str p.2])), .dat (.tuple (bs.map .str)), .dat (.tuple (ts.map fun t => .tuple [.int (t.1 : Nat), .str t.2])), .any, .any, .any, .any, .any, .any, .any, .any, .any]) (bk_asg (f := fun _ ρ => (((ρ.set 1 (.dat (.tuple (hs.map fun n => .int (n : Nat))))).set 2 (.dat (.tuple (ps.map fun p => .tuple [.str p.1, .str p.2])))).set 3 (.dat (.tuple (bs.map .str)))).set 4 (.dat (.tuple (ts.map fun t => .tuple [.int (t.1 : Nat), .str t.2])))) (ev_var rfl) (fun d e => by subst e; exact tg_four) fun d _ => rfl) ?_ (by omega)
  rintro ρ' rfl
  refine bk_letP (d := .str (Txt.join "," (hsT hs))) (pv_joinL ev_str (Pv.to (pv_map (vs := [9]) (tgs := [9]) (f := fun d ρ => ρ.set 9 (.dat d)) (items := hs.map fun n => .int (n : Nat)) (fun d => .str (numS (natV d))) (iw_st (Pi := fun is => is = hs.map fun n => .int (n : Nat)) ((ev_var rfl).imp (Nat.le_refl _) fun d e => ⟨_, e, rfl⟩) fun is e d hd => tg_name) (fun d hd => ?_) (by rw [List.length_map]; omega)) (by unfold hsT; rw [List.map_map, List.map_map]; rfl)) (prts_sum hc1 M.h1 M.l1)) ?_
  · obtain ⟨n, hn, rfl⟩ := List.mem_map.mp hd
    exact pv_cb (pa_consD (ev_var rfl) ea_nil) (rda_strI (log_small (M.hb n hn)))
  refine bk_letP (d := .str (Txt.join "," (psT ps))) (pv_joinL ev_str (Pv.to (pv_map (vs := [10, 11]) (tgs := [10, 11]) (f := fun d ρ => (ρ.set 10 (.dat (fst2 d))).set 11 (.dat (snd2 d))) (items := ps.map fun p => .tuple [.str p.1, .str p.2]) (fun d => .str (strV (fst2 d) ++ "=" ++ strV (snd2 d))) (iw_st (Pi := fun is => is = ps.map fun p => .tuple [.str p.1, .str p.2]) ((ev_var rfl).imp (Nat.le_refl _) fun d e => ⟨_, e, rfl⟩) fun is e d hd => ?_) (fun d hd => ?_) (by rw [List.length_map]; omega)) (by unfold psT; rw [List.map_map, List.map_map]; rfl)) (prts_sum hc1 M.h2 M.l2)) ?_
  · subst e
    obtain ⟨p, hp, rfl⟩ := List.mem_map.mp hd
    exact tg_two
  · obtain ⟨p, hp, rfl⟩ := List.mem_map.mp hd
    have l1 := (M.pb p hp).1.ln
    have l2 := (M.pb p hp).2.ln
    have l3 := (ps_prt (M.pb p hp)).ln
    refine Pv.to (pv_joined (ys := [p.1, "=", p.2]) (.cons (pv_fmtS (ev_var rfl) (by omega)) (.cons ev_str (.cons (pv_fmtS (ev_var rfl) (by omega)) .nil))) (.cons (by rw [emp_app]; omega) (.cons ?_ (.cons ?_ .nil)))) ?_
    · rw [emp_app, app_len]
      have : ("=" : Str).length = 1 := by decide
      omega
    · rw [emp_app]
      omega
    · show PyData.str (Str.empty ++ p.1 ++ "=" ++ p.2) = _
      rw [emp_app]
      rfl
  refine bk_letP (d := .str (Txt.join "," bs)) (pv_joinT ev_str (ev_var rfl) (prts_sum hc1 M.h3 m3)) ?_
  refine bk_letP (d := .str (Txt.join "," (tsT ts))) (pv_joinL ev_str (Pv.to (pv_map (vs := [12, 13]) (tgs := [12, 13]) (f := fun d ρ => (ρ.set 12 (.dat (fst2 d))).set 13 (.dat (snd2 d))) (items := ts.map fun t => .tuple [.int (t.1 : Nat), .str t.2]) (fun d => .str (numS (natV (fst2 d)) ++ " " ++ strV (snd2 d))) (iw_st (Pi := fun is => is = ts.map fun t => .tuple [.int (t.1 : Nat), .str t.2]) ((ev_var rfl).imp (Nat.le_refl _) fun d e => ⟨_, e, rfl⟩) fun is e d hd => ?_) (fun d hd => ?_) (by rw [List.length_map]; omega)) (by unfold tsT; rw [List.map_map, List.map_map]; rfl)) (prts_sum hc1 M.h4 M.l4)) ?_
  · subst e
    obtain ⟨p, hp, rfl⟩ := List.mem_map.mp hd
    exact tg_two
  · obtain ⟨p, hp, rfl⟩ := List.mem_map.mp hd
    have l1 := numS_len (M.tb p hp).1
    have l2 := (M.tb p hp).2.ln
    have l3 := (ts_prt (M.tb p hp)).ln
    refine Pv.to (pv_joined (ys := [numS p.1, " ", p.2]) (.cons (pv_fmtI (i := (p.1 : Int)) (ev_var rfl) (log_small (M.tb p hp).1)) (.cons ev_str (.cons (pv_fmtS (ev_var rfl) (by omega)) .nil))) (.cons (by rw [emp_app]; omega) (.cons ?_ (.cons ?_ .nil)))) ?_
    · rw [emp_app, app_len]
      have : (" " : Str).length = 1 := by decide
      omega
    · rw [emp_app]
      omega
    · show PyData.str (Str.empty ++ numS p.1 ++ " " ++ p.2) = _
      rw [emp_app]
      rfl
  refine bk_retP (pv_joinL (ys := pcs hs ps bs ts) ev_str (pv_lst (ds := (pcs hs ps bs ts).map .str) (pa_consD (ev_var rfl) (pa_consD (ev_var rfl) (pa_consD (ev_var rfl) (pa_consD (ev_var rfl) ea_nil)))) (by show 4 ≤ 1000; decide)) ?_) ⟨hs, ps, bs, ts, rfl, rfl⟩
  have h1 := sum_le (k := 620) (ps := pcs hs ps bs ts) fun p hp => by
    simp only [pcs, List.mem_cons, List.not_mem_nil, or_false] at hp
    rcases hp with rfl | rfl | rfl | rfl
    · exact prts_len M.h1 M.l1
    · exact prts_len M.h2 M.l2
    · exact prts_len M.h3 M.bl
    · exact prts_len M.h4 M.l4
  rw [hc2]
  have h4 : (pcs hs ps bs ts).length = 4 := rfl
  rw [h4] at h1 ⊢
  omega
abbrev sp_case_of (K : PySem.W.Frag) : Sp := spD K 1 0 (fun es => ∃ hs ps bs ts, es = [.dat (.str (csT hs ps bs ts))] ∧ TC hs ps bs ts) (fun es r => ∃ hs ps bs ts, es = [.dat (.str (csT hs ps bs ts))] ∧ TC hs ps bs ts ∧ r = cdat hs ps bs ts)
theorem ok_case_of {P : Program} {w : World} {K : PySem.W.Frag} {mg : Str → Option Value} {base : Heap} (T : Tx K mg) : FnG P w K mg base 3 T.a_case_of T.d_case_of ["text"] (sp_case_of K) := by
  have H_parts_of := ok_parts_of (P := P) (w := w) (base := base) T
  have H_whole_of := ok_whole_of (P := P) (w := w) (base := base) T
  have H_party_of := ok_party_of (P := P) (w := w) (base := base) T
  have H_term_of := ok_term_of (P := P) (w := w) (base := base) T
  refine fnG_ok T.F_case_of sc_case_of (fun cdv A outer s H E hr hc => ⟨_, (pss_cons (ps_set (i := 1) sc_case_of.nd rfl (Or.inl rfl) (pe_split (pv 0) pe_str))
      (pss_cons (ps_if (pt_cmpR (by refine op_neK (K := K) rfl ?_; exact hr.units) (pe_callB (call_lenK (K := K) rfl) (by rfl) T.N_len (by decide +kernel) (pa_cons (pv 1) pa_nil)) pe_int (nomark _))
      (pss_one ps_never) pss_nil)
      (pss_cons (ps_asg (pv 1) (pg_lst (by rfl) (pgs_cons (pg_name (i := 2) sc_case_of.nd rfl (Or.inl rfl)) (pgs_cons (pg_name (i := 3) sc_case_of.nd rfl (Or.inl rfl)) (pgs_cons (pg_name (i := 4) sc_case_of.nd rfl (Or.inl rfl)) (pgs_cons (pg_name (i := 5) sc_case_of.nd rfl (Or.inl rfl)) pgs_nil))))))
      (pss_cons (ps_set (i := 6) sc_case_of.nd rfl (Or.inl rfl) (pe_callTy (call_tupK (K := K) rfl) (by rfl) T.N_tuple (by decide +kernel) (pa_cons (pe_lc (own := [("day", 9)]) (g := (gName 9)) rfl sc_case_of.nd (pi_seqK (K := K) rfl (pe_callG H_parts_of (hr.mono (by decide)) hc (by rfl) T.G_parts_of T.F_parts_of.kp T.B_parts_of (pa_cons (pv 2) (pa_cons pe_str pa_nil)))) (blkOk_by (own := [("day", 9)]) (N := ["text", "pieces", "holidays", "sides", "judges", "counts", "calendar", "parties", "terms", "day", "piece"]) (sc := defScope s_case_of) (by decide +kernel)) (fun _ _ _ _ _ => (pg_name (i := 9) sc_case_of.nd rfl (Or.inl rfl))) (fun _ _ _ _ _ => pts_nil) (fun _ _ _ _ _ => (pe_callG H_whole_of (hr.mono (by decide)) hc (by rfl) T.G_whole_of T.F_whole_of.kp T.B_whole_of (pa_cons (pv 9) pa_nil)))) pa_nil)))
      (pss_cons (ps_set (i := 7) sc_case_of.nd rfl (Or.inl rfl) (pe_callTy (call_tupK (K := K) rfl) (by rfl) T.N_tuple (by decide +kernel) (pa_cons (pe_lc (own := [("piece", 10)]) (g := (gName 10)) rfl sc_case_of.nd (pi_seqK (K := K) rfl (pe_callG H_parts_of (hr.mono (by decide)) hc (by rfl) T.G_parts_of T.F_parts_of.kp T.B_parts_of (pa_cons (pv 3) (pa_cons pe_str pa_nil)))) (blkOk_by (own := [("piece", 10)]) (N := ["text", "pieces", "holidays", "sides", "judges", "counts", "calendar", "parties", "terms", "day", "piece"]) (sc := defScope s_case_of) (by decide +kernel)) (fun _ _ _ _ _ => (pg_name (i := 10) sc_case_of.nd rfl (Or.inl rfl))) (fun _ _ _ _ _ => pts_nil) (fun _ _ _ _ _ => (pe_callG H_party_of (hr.mono (by decide)) hc (by rfl) T.G_party_of T.F_party_of.kp T.B_party_of (pa_cons (pv 10) pa_nil)))) pa_nil)))
      (pss_cons (ps_set (i := 8) sc_case_of.nd rfl (Or.inl rfl) (pe_callTy (call_tupK (K := K) rfl) (by rfl) T.N_tuple (by decide +kernel) (pa_cons (pe_lc (own := [("piece", 10)]) (g := (gName 10)) rfl sc_case_of.nd (pi_seqK (K := K) rfl (pe_callG H_parts_of (hr.mono (by decide)) hc (by rfl) T.G_parts_of T.F_parts_of.kp T.B_parts_of (pa_cons (pv 5) (pa_cons pe_str pa_nil)))) (blkOk_by (own := [("piece", 10)]) (N := ["text", "pieces", "holidays", "sides", "judges", "counts", "calendar", "parties", "terms", "day", "piece"]) (sc := defScope s_case_of) (by decide +kernel)) (fun _ _ _ _ _ => (pg_name (i := 10) sc_case_of.nd rfl (Or.inl rfl))) (fun _ _ _ _ _ => pts_nil) (fun _ _ _ _ _ => (pe_callG H_term_of hr hc (by rfl) T.G_term_of T.F_term_of.kp T.B_term_of (pa_cons (pv 10) pa_nil)))) pa_nil)))
      (pss_one (ps_ret (pe_tup (pa_cons (pv 6) (pa_cons (pv 7) (pa_cons (pe_callTy (call_tupK (K := K) rfl) (by rfl) T.N_tuple (by decide +kernel) (pa_cons (pe_callG H_parts_of (hr.mono (by decide)) hc (by rfl) T.G_parts_of T.F_parts_of.kp T.B_parts_of (pa_cons (pv 4) (pa_cons pe_str pa_nil))) pa_nil)) (pa_cons (pv 8) pa_nil))))))))))))), ?_⟩)
  rintro b I es hl ⟨hs, ps, bs, ts, rfl, M⟩
  have hsz : (10002 : Nat) ≤ sizeLine := by decide
  have hlen := M.len
  have m1 := M.l1
  have m2 := M.l2
  have m3 := M.bl
  have m4 := M.l4
  refine bk_letP (d := .list ((pcs hs ps bs ts).map .str)) (Pv.to (evF_split (x := csT hs ps bs ts) (s := ";") (ev_var rfl) ev_str (by decide) (by omega)).ev (by rw [M.split])) ?_
  refine bk_ifret (b := false) (Pt.to (pt_T (pv_neI (pv_cb (pa_consD (ev_var rfl) ea_nil) rda_lenL) ev_int)) rfl) (fun z => nomatch z) fun _ => ?_
  refine bk_seq (C1 := 0) (C2 := 0) (N := fun ρ' => ρ' = [.dat (.str (csT hs ps bs ts)), .dat (.list ((pcs hs ps bs ts).map .str)), .dat (.str (Txt.join "," (hsT hs))), .dat (.str (Txt.join "," (psT ps))), .dat (.str (Txt.join "," bs)), .dat (.str (Txt.join "," (tsT ts))), .any, .any, .any, .any, .any]) (bk_asg (f := fun _ ρ => (((ρ.set 2 (.dat (.str (Txt.join "," (hsT hs))))).set 3 (.dat (.str (Txt.join "," (psT ps))))).set 4 (.dat (.str (Txt.join "," bs)))).set 5 (.dat (.str (Txt.join "," (tsT ts))))) (ev_var rfl) (fun d e => by subst e; exact tg_lst4) fun d _ => rfl) ?_ (by omega)
  rintro ρ' rfl
  refine bk_letP (d := .tuple (hs.map fun n => .int (n : Nat))) (pv_cb (pa_consD (Pv.to (pv_map (vs := [9]) (tgs := [9]) (f := fun d ρ => ρ.set 9 (.dat d)) (items := (hsT hs).map .str) (fun d => wholeR (strV d)) (iw_sl (Pi := fun is => is = (hsT hs).map .str) ((parts_call (ps := hsT hs) (pa_consD (ev_var rfl) (pa_consD ev_str ea_nil)) (prts_ok M.h1) (by have := prts_len M.h1 M.l1; omega)).imp (Nat.le_refl _) fun d e => ⟨_, e, rfl⟩) fun is e d hd => tg_name) (fun d hd => ?_) (by rw [List.length_map]; omega)) ?_) ea_nil) rda_tupL) ?_
  · obtain ⟨x, hx, rfl⟩ := List.mem_map.mp hd
    obtain ⟨n, hn, rfl⟩ := List.mem_map.mp hx
    exact Pv.to (whole_call2 (pa_consD (ev_var rfl) ea_nil) (M.hb n hn)) (whole_is (M.hb n hn)).symm
  · unfold hsT
    rw [List.map_map, List.map_map]
    congr 1
    exact List.map_congr_left fun n hn => whole_is (M.hb n hn)
  refine bk_letP (d := .tuple (ps.map fun p => .tuple [.str p.1, .str p.2])) (pv_cb (pa_consD (Pv.to (pv_map (vs := [10]) (tgs := [10]) (f := fun d ρ => ρ.set 10 (.dat d)) (items := (psT ps).map .str) (fun d => partyR (strV d)) (iw_sl (Pi := fun is => is = (psT ps).map .str) ((parts_call (ps := psT ps) (pa_consD (ev_var rfl) (pa_consD ev_str ea_nil)) (prts_ok M.h2) (by have := prts_len M.h2 M.l2; omega)).imp (Nat.le_refl _) fun d e => ⟨_, e, rfl⟩) fun is e d hd => tg_name) (fun d hd => ?_) (by rw [List.length_map]; omega)) ?_) ea_nil) rda_tupL) ?_
  · obtain ⟨x, hx, rfl⟩ := List.mem_map.mp hd
    obtain ⟨p, hp, rfl⟩ := List.mem_map.mp hx
    have h61 : 61 ∉ TL.tl p.1 := fun z => by have := (M.pb p hp).1.lo 61 z; omega
    exact Pv.to (party_call2 (pa_consD (ev_var rfl) ea_nil) h61 (by have := (ps_prt (M.pb p hp)).ln; omega)) (party_is h61).symm
  · unfold psT
    rw [List.map_map, List.map_map]
    congr 1
    exact List.map_congr_left fun p hp => party_is fun z => by have := (M.pb p hp).1.lo 61 z; omega
  refine bk_letP (d := .tuple (ts.map fun t => .tuple [.int (t.1 : Nat), .str t.2])) (pv_cb (pa_consD (Pv.to (pv_map (vs := [10]) (tgs := [10]) (f := fun d ρ => ρ.set 10 (.dat d)) (items := (tsT ts).map .str) (fun d => termR (strV d)) (iw_sl (Pi := fun is => is = (tsT ts).map .str) ((parts_call (ps := tsT ts) (pa_consD (ev_var rfl) (pa_consD ev_str ea_nil)) (prts_ok M.h4) (by have := prts_len M.h4 M.l4; omega)).imp (Nat.le_refl _) fun d e => ⟨_, e, rfl⟩) fun is e d hd => tg_name) (fun d hd => ?_) (by rw [List.length_map]; omega)) ?_) ea_nil) rda_tupL) ?_
  · obtain ⟨x, hx, rfl⟩ := List.mem_map.mp hd
    obtain ⟨t, ht, rfl⟩ := List.mem_map.mp hx
    exact Pv.to (term_call2 (pa_consD (ev_var rfl) ea_nil) (M.tb t ht).1 (by have := (ts_prt (M.tb t ht)).ln; omega)) (term_is (M.tb t ht).1).symm
  · unfold tsT
    rw [List.map_map, List.map_map]
    congr 1
    exact List.map_congr_left fun t ht => term_is (M.tb t ht).1
  exact bk_retP (pv_tup (ds := [.tuple (hs.map fun n => .int (n : Nat)), .tuple (ps.map fun p => .tuple [.str p.1, .str p.2]), .tuple (bs.map .str), .tuple (ts.map fun t => .tuple [.int (t.1 : Nat), .str t.2])]) (pa_consD (ev_var rfl) (pa_consD (ev_var rfl) (pa_consD (pv_cb (pa_consD (parts_call (ps := bs) (pa_consD (ev_var rfl) (pa_consD ev_str ea_nil)) (prts_ok M.h3) (by have := prts_len M.h3 M.bl; omega)) ea_nil) rda_tupL) (pa_consD (ev_var rfl) ea_nil))))) ⟨hs, ps, bs, ts, rfl, M, rfl⟩

/-! ### show_case, read_case -/
def caseR (x : Str) : PyData := match Txt.split x ";" with
  | [a, b, c, d] => .tuple [.tuple ((partsR a).map wholeR), .tuple ((partsR b).map partyR), .tuple ((partsR c).map .str), .tuple ((partsR d).map termR)]
  | _ => .none
theorem case_is {hs : List Nat} {ps : List (Str × Str)} {bs : List Str} {ts : List (Nat × Str)} (M : TC hs ps bs ts) : caseR (csT hs ps bs ts) = cdat hs ps bs ts := by
  unfold caseR
  rw [M.split]
  show PyData.tuple [.tuple ((partsR (Txt.join "," (hsT hs))).map wholeR), .tuple ((partsR (Txt.join "," (psT ps))).map partyR), .tuple ((partsR (Txt.join "," bs)).map .str), .tuple ((partsR (Txt.join "," (tsT ts))).map termR)] = _
  rw [parts_is (prts_ok M.h1), parts_is (prts_ok M.h2), parts_is (prts_ok M.h3), parts_is (prts_ok M.h4)]
  unfold cdat hsT psT tsT
  rw [List.map_map, List.map_map, List.map_map]
  have e1 : hs.map (wholeR ∘ numS) = hs.map fun n => .int (n : Nat) := List.map_congr_left fun n hn => whole_is (M.hb n hn)
  have e2 : ps.map (partyR ∘ fun p => p.1 ++ "=" ++ p.2) = ps.map fun p => .tuple [.str p.1, .str p.2] := List.map_congr_left fun p hp => party_is fun z => by have := (M.pb p hp).1.lo 61 z; omega
  have e3 : ts.map (termR ∘ fun t => numS t.1 ++ " " ++ t.2) = ts.map fun t => .tuple [.int (t.1 : Nat), .str t.2] := List.map_congr_left fun t ht => term_is (M.tb t ht).1
  rw [e1, e2, e3]
theorem cdat_inj {hs hs' : List Nat} {ps ps' : List (Str × Str)} {bs bs' : List Str} {ts ts' : List (Nat × Str)} (h : cdat hs ps bs ts = cdat hs' ps' bs' ts') : hs = hs' ∧ ps = ps' ∧ bs = bs' ∧ ts = ts' := by
  unfold cdat at h
  simp only [PyData.tuple.injEq, List.cons.injEq, and_true] at h
  obtain ⟨h1, h2, h3, h4⟩ := h
  refine ⟨(List.map_inj_right fun a b z => ?_).mp h1, (List.map_inj_right fun a b z => ?_).mp h2, (List.map_inj_right fun a b z => PyData.str.inj z).mp h3, (List.map_inj_right fun a b z => ?_).mp h4⟩
  · have := PyData.int.inj z
    omega
  · simp only [PyData.tuple.injEq, List.cons.injEq, PyData.str.injEq, and_true] at z
    exact Prod.ext z.1 z.2
  · simp only [PyData.tuple.injEq, List.cons.injEq, PyData.str.injEq, PyData.int.injEq, and_true] at z
    exact Prod.ext (by omega) z.2
section
variable {c : Ctx} {ρ : List Ent} {tr : TA} {E : XK} {hs : List Nat} {ps : List (Str × Str)} {bs : List Str} {ts : List (Nat × Str)}
theorem ctext_call (h : Pa c tr ρ [.dat (cdat hs ps bs ts)]) (M : TC hs ps bs ts) : Pv c (tCall (sp_case_text c.K) [] E tr) ρ (.str (csT hs ps bs ts)) := pv_callE h rfl ⟨hs, ps, bs, ts, rfl, M⟩ fun x ⟨hs', ps', bs', ts', e, q⟩ => by
  simp only [List.cons.injEq, Ent.dat.injEq, and_true] at e
  obtain ⟨rfl, rfl, rfl, rfl⟩ := cdat_inj e
  exact q
theorem caseof_call (h : Pa c tr ρ [.dat (.str (csT hs ps bs ts))]) (M : TC hs ps bs ts) : Pv c (tCall (sp_case_of c.K) [] E tr) ρ (cdat hs ps bs ts) := pv_callE h rfl ⟨hs, ps, bs, ts, rfl, M⟩ fun x ⟨hs', ps', bs', ts', e, M', q⟩ => by
  simp only [List.cons.injEq, Ent.dat.injEq, PyData.str.injEq, and_true] at e
  rw [q, ← case_is M', ← e, case_is M]
end
/-- a case that is one, and fit to be written -/
structure KC (hs : List Nat) (ps : List (Str × Str)) (bs : List Str) (ts : List (Nat × Str)) : Prop where
  M : TC hs ps bs ts
  ok : caseD (cdat hs ps bs ts) = true
  sm : Sm (cdat hs ps bs ts)
abbrev sp_check_case (K : PySem.W.Frag) : Sp := spD K 1 0 (fun es => ∃ d : PyData, es = [.dat d] ∧ Sm d ∧ caseD d = true) (fun _ r => r = .none)
theorem ok_check_case {P : Program} {w : World} {K : PySem.W.Frag} {mg : Str → Option Value} {base : Heap} (T : Tx K mg) : FnG P w K mg base 5 T.a_check_case T.d_check_case ["case"] (sp_check_case K) := by
  have H_is_case := ok_is_case (P := P) (w := w) (base := base) T
  refine fnG_ok T.F_check_case sc_check_case (fun cdv A outer s H E hr hc => ⟨_, (pss_one (ps_if (pt_not (pt_val (pe_callG H_is_case hr hc (by rfl) T.G_is_case T.F_is_case.kp T.B_is_case (pa_cons (pv 0) pa_nil))))
      (pss_one ps_never) pss_nil)), ?_⟩)
  rintro b I es hl ⟨d, rfl, hz, hok⟩
  exact bk_ifP (b := false) (Pt.to (pt_notD (pt_B (case_call (pa_consD (ev_var rfl) ea_nil) hz))) (by rw [hok]; rfl)) (fun z => nomatch z) fun _ => bk_next rfl
abbrev sp_show_case (K : PySem.W.Frag) : Sp := spD K 1 0 (fun es => ∃ hs ps bs ts, es = [.dat (cdat hs ps bs ts)] ∧ KC hs ps bs ts) (fun es r => ∃ hs ps bs ts, es = [.dat (cdat hs ps bs ts)] ∧ r = .str (csT hs ps bs ts))
theorem ok_show_case {P : Program} {w : World} {K : PySem.W.Frag} {mg : Str → Option Value} {base : Heap} (T : Tx K mg) : FnG P w K mg base 6 T.a_show_case T.d_show_case ["case"] (sp_show_case K) := by
  have H_check_case := ok_check_case (P := P) (w := w) (base := base) T
  have H_case_text := ok_case_text (P := P) (w := w) (base := base) T
  refine fnG_ok T.F_show_case sc_show_case (fun cdv A outer s H E hr hc => ⟨_, (pss_cons (ps_expr (pe_callG H_check_case hr hc (by rfl) T.G_check_case T.F_check_case.kp T.B_check_case (pa_cons (pv 0) pa_nil)))
      (pss_one (ps_ret (pe_callG H_case_text (hr.mono (by decide)) hc (by rfl) T.G_case_text T.F_case_text.kp T.B_case_text (pa_cons (pv 0) pa_nil))))), ?_⟩)
  rintro b I es hl ⟨hs, ps, bs, ts, rfl, M⟩
  refine bk_do (C1 := 0) (C2 := 0) (pv_callE (d := .none) (pa_consD (ev_var rfl) ea_nil) rfl ⟨_, rfl, M.sm, M.ok⟩ fun x q => q) ?_ (by omega)
  exact bk_retP (ctext_call (pa_consD (ev_var rfl) ea_nil) M.M) ⟨hs, ps, bs, ts, rfl, rfl⟩
abbrev sp_read_case (K : PySem.W.Frag) : Sp := spD K 1 0 (fun es => ∃ hs ps bs ts, es = [.dat (.str (csT hs ps bs ts))] ∧ KC hs ps bs ts) (fun es r => ∃ hs ps bs ts, es = [.dat (.str (csT hs ps bs ts))] ∧ KC hs ps bs ts ∧ r = cdat hs ps bs ts)
theorem ok_read_case {P : Program} {w : World} {K : PySem.W.Frag} {mg : Str → Option Value} {base : Heap} (T : Tx K mg) : FnG P w K mg base 5 T.a_read_case T.d_read_case ["text"] (sp_read_case K) := by
  have H_case_of := ok_case_of (P := P) (w := w) (base := base) T
  have H_is_case := ok_is_case (P := P) (w := w) (base := base) T
  have H_case_text := ok_case_text (P := P) (w := w) (base := base) T
  refine fnG_ok T.F_read_case sc_read_case (fun cdv A outer s H E hr hc => ⟨_, (pss_cons (ps_if (pt_not (pt_val (pe_callB (call_isiK' (K := K) rfl) (by rfl) T.N_isinstance (by decide +kernel) (pa_cons (pv 0) (pa_cons (pe_bltn (v := .ty "str") (by rfl) T.N_str (by decide +kernel) rfl) pa_nil)))))
      (pss_one ps_never) pss_nil)
      (pss_cons (ps_set (i := 1) sc_read_case.nd rfl (Or.inl rfl) (pe_callG H_case_of (hr.mono (by decide)) hc (by rfl) T.G_case_of T.F_case_of.kp T.B_case_of (pa_cons (pv 0) pa_nil)))
      (pss_cons (ps_if (PW.pt (pw_or (pt_not (pt_val (pe_callG H_is_case hr hc (by rfl) T.G_is_case T.F_is_case.kp T.B_is_case (pa_cons (pv 1) pa_nil)))) (pw_or1 (pt_cmpR (by refine op_neK (K := K) rfl ?_; exact hr.units) (pe_callG H_case_text (hr.mono (by decide)) hc (by rfl) T.G_case_text T.F_case_text.kp T.B_case_text (pa_cons (pv 1) pa_nil)) (pv 0) (nomark _)))))
      (pss_one ps_never) pss_nil)
      (pss_one (ps_ret (pv 1)))))), ?_⟩)
  rintro b I es hl ⟨hs, ps, bs, ts, rfl, M⟩
  refine bk_ifret (b := false) (Pt.to (pt_notD (pt_B (pv_is_str (d := .str (csT hs ps bs ts)) (ev_var rfl)))) rfl) (fun z => nomatch z) fun _ => ?_
  refine bk_letP (caseof_call (pa_consD (ev_var rfl) ea_nil) M.M) ?_
  refine bk_ifret (b := false) (Pt.to (pt_or (a := false) (Pt.to (pt_notD (pt_B (case_call (pa_consD (ev_var rfl) ea_nil) M.sm))) (by rw [M.ok]; rfl)) fun _ => Pt.to (pt_T (pv_neS (ctext_call (pa_consD (ev_var rfl) ea_nil) M.M) (ev_var rfl))) (by simp)) rfl) (fun z => nomatch z) fun _ => ?_
  exact bk_retP (ev_var rfl) ⟨hs, ps, bs, ts, rfl, M, rfl⟩

/-! ### the law's own -/
abbrev sp_law_cell_at (K : PySem.W.Frag) : Sp := spD K 2 0 (fun es => ∃ (ns : List Int) (k : Nat), es = [.scr ns, .dat (.int k)]) (fun es r => ∃ x : Int, r = .int x)
theorem ok_law_cell_at {P : Program} {w : World} {K : PySem.W.Frag} {mg : Str → Option Value} {base : Heap} (T : Tx K mg) : FnG P w K mg base 1 T.a_law_cell_at T.d_law_cell_at ["script", "k"] (sp_law_cell_at K) := by
  refine fnG_ok T.F_law_cell_at sc_law_cell_at (fun cdv A outer s H E hr hc => ⟨_, (pss_cons (ps_if (pt_cmpR op_ltA (pv 1) (pe_callB (call_lenK (K := K) rfl) (by rfl) T.N_len (by decide +kernel) (pa_cons (pv 0) pa_nil)) (nomark _))
      (pss_one (ps_ret (pe_ix (ix_K (K := K) rfl) (pv 0) (pv 1) (fun _ _ => rfl)))) pss_nil)
      (pss_one (ps_ret pe_int))), ?_⟩)
  rintro b I es hl ⟨ns, k, rfl⟩
  refine bk_ifret (b := decide ((k : Int) < ns.length)) (pt_T (pv_ltI (ev_var rfl) (pv_cb (pa_scr rfl ea_nil) rda_lenK))) (fun h => ?_) fun h => bk_retP ev_int ⟨_, rfl⟩
  rw [decide_eq_true_eq] at h
  have hk : k < ns.length := by omega
  exact bk_retP (pv_scr rfl (ev_var rfl) (List.getElem?_eq_getElem hk)) ⟨_, rfl⟩
abbrev sp_law_bag (K : PySem.W.Frag) : Sp := spNew
theorem p10 {j : Int} (h0 : 0 ≤ j) (h1 : j ≤ 1000) : CPowB 10 j := cpowB (n := 64) (by decide) h0 (by omega)
theorem w_none {K : PySem.W.Frag} {I H : Hp} (h : Same I H) : Wd ⟨K, none, H, I, bagB⟩ I H 0 := ⟨h, Same.refl _, fun _ _ _ h => h, fun _ _ => rfl, fun _ e => nomatch e⟩
theorem ok_law_bag {P : Program} {w : World} {K : PySem.W.Frag} {mg : Str → Option Value} {base : Heap} (T : Tx K mg) : FnG P w K mg base 1 T.a_law_bag T.d_law_bag ["cell", "k"] (sp_law_bag K) := by
  refine Fun.okG T.F_law_bag sc_law_bag ?many (fun cdv A outer s H vs Q E hr hc hsp => ?body)
  case many => rintro vs H Q E ⟨I, cell, k, rfl, _⟩; rfl
  case body =>
    refine ⟨_, (pss_one (ps_ret (pe_lst (pa_cons (pe_callB (call_max2 rfl) (by rfl) T.N_max (by decide +kernel) (pa_cons pe_int (pa_cons (pe_op op_sub (pv 0) (pe_op op_powB pe_int pe_int)) pa_nil))) (pa_cons (pe_op (op_addK (K := K) rfl) (pe_op op_mod (pv 0) (pe_op (op_addK (K := K) rfl) (pe_op op_powB pe_int pe_int) pe_int)) (pe_op op_mul pe_int (pv 1))) (pa_cons pe_int pa_nil)))))), ?_⟩
    obtain ⟨I, cell, k, rfl, h0, h1, ih, q⟩ := hsp
    refine lst_raw (c := ⟨K, none, H, I, bagB⟩) (I := I) (ρ := [.dat (.int cell), .dat (.int k)]) (Pe := fun es => ∃ x y : Int, es = [.dat (.int x), .dat (.int y), .dat (.int 0)] ∧ 0 ≤ x ∧ 0 ≤ y ∧ y < 2 ^ 200) ?_ (w_none ih) ?_ ?_
    · refine ea_cons (C1 := 0) (C2 := 0) (evI_max (C1 := 0) (C2 := 0) (R1 := fun x => x = 0) (R2 := fun _ => True) (R := fun x => 0 ≤ x) (evI_of ev_int rfl) (evI_of (pv_ii (ev_var rfl) (pv_iiC ev_int ev_int (p10 (by decide) (by decide)))) trivial) (fun i j h _ => by subst h; split <;> omega) (Nat.le_refl _)) (P2 := fun _ es => ∃ y : Int, es = [.dat (.int y), .dat (.int 0)] ∧ 0 ≤ y ∧ y < 2 ^ 200) (fun _ _ => ?_) (fun d es ⟨x, e, hx⟩ ⟨y, e2, hy, hy2⟩ => ⟨x, y, by rw [e, e2], hx, hy, hy2⟩) (Nat.le_refl _)
      refine ea_cons (C1 := 0) (C2 := 0) (P1 := fun d => ∃ y : Int, d = .int y ∧ 0 ≤ y ∧ y < 2 ^ 200) ?_ (P2 := fun _ es => es = [.dat (.int 0)]) (fun _ _ => pa_consD ev_int ea_nil) (fun d es ⟨y, e, h⟩ e2 => ⟨y, by rw [e, e2], h⟩) (Nat.le_refl _)
      refine evI_add (C1 := 0) (C2 := 0) (R1 := fun x => 0 ≤ x ∧ x < 10 ^ 40 + 121) (R2 := fun x => 0 ≤ x ∧ x < 2 ^ 64) (evI_op (C1 := 0) (C2 := 0) (D := fun _ j => 0 < j) (R1 := fun _ => True) (R2 := fun x => x = 10 ^ 40 + 121) (evI_of (ev_var rfl) trivial) (evI_of (pv_addI (pv_iiC ev_int ev_int (p10 (by decide) (by decide))) ev_int) (by decide)) (fun i j _ hj => by subst hj; exact ⟨by decide, Int.emod_nonneg _ (by decide), Int.emod_lt_of_pos _ (by decide)⟩) (Nat.le_refl _)) (evI_of (pv_iiC ev_int (ev_var rfl) (.inl (by decide))) (by omega)) (fun i j h1 h2 => by omega) (Nat.le_refl _)
    · exact start_env (N := ["cell", "k"]) (b := none) (vs := [.int cell, .int k]) (es := [.dat (.int cell), .dat (.int k)]) (.cons (show Rp K I (.int cell) (.int cell) from .int _) (.cons (show Rp K I (.int k) (.int k) from .int _) .nil))
    · rintro vs es I2 H2 g2 ih2 r2 ⟨x, y, rfl, hx, hy, hy2⟩
      obtain ⟨v1, rfl, hh⟩ : ∃ v1, vs = [.int x, .int y, .int 0] ∧ v1 = 0 := by
        cases r2 with
        | cons a r2 => cases r2 with
          | cons b r2 => cases r2 with
            | cons d r2 =>
              cases r2
              exact ⟨0, by rw [Rp.int_inv a, Rp.int_inv b, Rp.int_inv d], rfl⟩
      exact ⟨by show 3 ≤ sizeLine; decide, fun p np => q p x y I2 H2 g2 ih2 np hx hy hy2⟩
abbrev sp_law_dip (K : PySem.W.Frag) : Sp := sp_dip K
theorem mod_in {i j : Int} (h : 0 < j) : 0 ≤ i % j ∧ i % j < j := ⟨Int.emod_nonneg _ (by omega), Int.emod_lt_of_pos _ h⟩
theorem ok_law_dip {P : Program} {w : World} {K : PySem.W.Frag} {mg : Str → Option Value} {base : Heap} (T : Tx K mg) : FnG P w K mg base 1 T.a_law_dip T.d_law_dip ["bag", "many"] (sp_law_dip K) := by
  refine fnG_ok T.F_law_dip sc_law_dip (fun cdv A outer s H E hr hc => ⟨_, (pss_cons (ps_if (pt_cmpR op_gt (pe_ix (ix_K (K := K) rfl) (pv 0) pe_int (fun _ _ => rfl)) pe_int (nomark _))
      (pss_cons (ps_set (i := 2) sc_law_dip.nd rfl (Or.inl rfl) (pe_op op_mod (pe_ix (ix_K (K := K) rfl) (pv 0) pe_int (fun _ _ => rfl)) (pv 1)))
      (pss_cons (ps_asg (pe_op op_fdivW (pe_ix (ix_K (K := K) rfl) (pv 0) pe_int (fun _ _ => rfl)) (pv 1)) (pg_sub (pv 0) pe_int set_list))
      (pss_one (ps_ret (pv 2))))) pss_nil)
      (pss_cons (ps_asg (pe_op (op_addK (K := K) rfl) (pe_ix (ix_K (K := K) rfl) (pv 0) pe_int (fun _ _ => rfl)) pe_int) (pg_sub (pv 0) pe_int set_list))
      (pss_cons (ps_set (i := 3) sc_law_dip.nd rfl (Or.inl rfl) (pe_op op_mod (pe_op op_powB (pe_op (op_addK (K := K) rfl) (pe_ix (ix_K (K := K) rfl) (pv 0) pe_int (fun _ _ => rfl)) (pe_op op_mul pe_int (pe_ix (ix_K (K := K) rfl) (pv 0) pe_int (fun _ _ => rfl)))) pe_int) (pe_op (op_addK (K := K) rfl) (pe_op op_powB pe_int pe_int) pe_int)))
      (pss_cons (ps_set (i := 3) sc_law_dip.nd rfl (Or.inl rfl) (pe_op op_mod (pe_op op_powB (pe_op (op_addK (K := K) rfl) (pv 3) (pe_op op_mul pe_int (pe_ix (ix_K (K := K) rfl) (pv 0) pe_int (fun _ _ => rfl)))) pe_int) (pe_op (op_addK (K := K) rfl) (pe_op op_powB pe_int pe_int) pe_int)))
      (pss_one (ps_ret (pe_op op_mod (pe_op op_fdivW (pv 3) pe_int) (pv 1)))))))), ?_⟩)
  rintro b I es hl ⟨m, rfl, hm, hm2⟩
  have fin : ∀ r : PyData, (∃ x : Int, r = .int x ∧ 0 ≤ x ∧ x < m) → dipPost [.bag, .dat (.int m)] r := fun r h => ⟨m, rfl, h⟩
  refine bk_seq (C1 := 0) (C2 := 1) (N := fun ρ' => ρ' = [.bag, .dat (.int m), .any, .any]) ?_ ?_ (by omega)
  · refine bk_if (C1 := 0) (C2 := 0) (Pb := fun _ => True) ?_ (fun _ => ?_) (fun _ => bk_next rfl) (by omega)
    · exact fun σ I H n Q w e l k => evI_bag0 rfl σ I H n _ w e l fun v d I2 H2 g2 w2 r2 ⟨x, ed, _⟩ => by
        subst ed
        exact ⟨x, 1, r2.int_inv, rfl, _, rfl, k _ I2 H2 g2 w2 trivial⟩
    · refine bk_let (C1 := 0) (C2 := 0) (P := fun d => ∃ x : Int, d = .int x ∧ 0 ≤ x ∧ x < m) (evI_op (C1 := 0) (C2 := 0) (D := fun _ j => 0 < j) (R1 := fun x => 0 ≤ x) (R2 := fun x => x = m) (evI_bag0 rfl) (evI_of (ev_var rfl) rfl) (fun i j _ hj => by subst hj; exact ⟨hm, mod_in hm⟩) (Nat.le_refl _)) (fun d ⟨x, e, hx⟩ => ?_) (by omega)
      subst e
      refine bk_seq (C1 := 0) (C2 := 0) (N := fun ρ' => ρ' = [.bag, .dat (.int m), .dat (.int x), .any]) (bk_bag0 rfl (evI_op (C1 := 0) (C2 := 0) (D := CDivW) (R1 := fun x => 0 ≤ x) (R2 := fun x => x = m) (evI_bag0 rfl) (evI_of (ev_var rfl) rfl) (fun i j hi hj => by subst hj; exact ⟨cdivW hm hm2, Int.ediv_nonneg hi (by omega)⟩) (Nat.le_refl _)) rfl) ?_ (by omega)
      rintro ρ' rfl
      exact bk_retP (O := { nx := _, rt := _ }) (ev_var rfl) (fin _ ⟨x, rfl, hx⟩)
  · rintro ρ' rfl
    refine bk_seq (C1 := 1) (C2 := 0) (N := fun ρ' => ρ' = [.bag, .dat (.int m), .any, .any]) (bk_bag2 rfl rfl) ?_ (by omega)
    rintro ρ' rfl
    refine bk_let (C1 := 0) (C2 := 0) (P := fun d => ∃ x : Int, d = .int x ∧ 0 ≤ x ∧ x < 2 ^ 200) (evI_op (C1 := 0) (C2 := 0) (D := fun _ j => 0 < j) (R1 := fun _ => True) (R2 := fun x => x = 10 ^ 39 + 3)
      (evI_op (C1 := 0) (C2 := 0) (D := CPowB) (R1 := fun x => 0 ≤ x ∧ x < 2 ^ 202) (R2 := fun x => x = 5) (evI_add (C1 := 0) (C2 := 0) (R1 := fun x => 0 ≤ x ∧ x < 2 ^ 200) (R2 := fun x => 0 ≤ x ∧ x < 2 ^ 100) (evI_bag1 rfl) (evI_op (C1 := 0) (C2 := 0) (D := CMul) (R1 := fun x => x = 982451653) (R2 := fun x => 0 ≤ x ∧ x ≤ NMAX) (evI_of ev_int rfl) (evI_bag2 rfl) (fun i j hi hj => by subst hi; exact ⟨.inl (by decide), by unfold NMAX at hj; omega⟩) (Nat.le_refl _)) (fun i j h1 h2 => by omega) (Nat.le_refl _)) (evI_of ev_int rfl) (fun i j hi hj => by subst hj; exact ⟨cpowB (n := 202) (natAbs_lt hi.1 hi.2) (by decide) (by decide), trivial⟩) (Nat.le_refl _))
      (evI_of (pv_addI (pv_iiC ev_int ev_int (p10 (by decide) (by decide))) ev_int) (by decide)) (fun i j _ hj => by subst hj; exact ⟨by decide, (mod_in (by decide)).1, Int.lt_of_lt_of_le (mod_in (by decide)).2 (by decide)⟩) (Nat.le_refl _)) (fun d ⟨x, e, hx⟩ => ?_) (by omega)
    subst e
    refine bk_let (C1 := 0) (C2 := 0) (P := fun d => ∃ x : Int, d = .int x) (evI_op (C1 := 0) (C2 := 0) (D := fun _ j => 0 < j) (R := fun _ => True) (R1 := fun _ => True) (R2 := fun x => x = 10 ^ 36 + 67)
      (evI_op (C1 := 0) (C2 := 0) (D := CPowB) (R1 := fun x => 0 ≤ x ∧ x < 2 ^ 202) (R2 := fun x => x = 3) (evI_add (C1 := 0) (C2 := 0) (R1 := fun x => 0 ≤ x ∧ x < 2 ^ 200) (R2 := fun x => 0 ≤ x ∧ x < 2 ^ 100) (evI_of (ev_var rfl) hx) (evI_op (C1 := 0) (C2 := 0) (D := CMul) (R1 := fun x => x = 15485863) (R2 := fun x => 0 ≤ x ∧ x ≤ NMAX) (evI_of ev_int rfl) (evI_bag2 rfl) (fun i j hi hj => by subst hi; exact ⟨.inl (by decide), by unfold NMAX at hj; omega⟩) (Nat.le_refl _)) (fun i j h1 h2 => by omega) (Nat.le_refl _)) (evI_of ev_int rfl) (fun i j hi hj => by subst hj; exact ⟨cpowB (n := 202) (natAbs_lt hi.1 hi.2) (by decide) (by decide), trivial⟩) (Nat.le_refl _))
      (evI_of (pv_addI (pv_iiC ev_int ev_int (p10 (by decide) (by decide))) ev_int) (by decide)) (fun i j _ hj => by subst hj; exact ⟨by decide, trivial⟩) (Nat.le_refl _) |>.imp (Nat.le_refl _) fun d ⟨x, e, _⟩ => ⟨x, e⟩) (fun d ⟨y, e⟩ => ?_) (by omega)
    subst e
    exact (bk_ret (O := { nx := fun _ => False, rt := dipPost [.bag, .dat (.int m)] }) (pv_iiC (pv_iiC (ev_var rfl) ev_int (D := CDivW) (cdivW (by decide) (by decide))) (ev_var rfl) hm) fun r e => fin r ⟨_, e, mod_in hm⟩).imp (Nat.le_refl _) (fun _ z => z.elim) fun _ z => z


def abc : Str := "abcdefghijklmnopqrstuvwxyz"
theorem abc_mem (n : Nat) : decide (n ∈ abc.cps.toList) = lowC n := by
  have e : abc.cps.toList = (List.range 26).map (· + 97) := by decide +kernel
  rw [e]
  unfold lowC
  rw [Bool.eq_iff_iff, decide_eq_true_eq, Bool.and_eq_true, decide_eq_true_eq, decide_eq_true_eq, List.mem_map]
  constructor
  · rintro ⟨k, hk, rfl⟩
    have := List.mem_range.mp hk
    omega
  · intro h
    exact ⟨n - 97, List.mem_range.mpr (by omega), by omega⟩

/-- a list of drawn things -/
theorem ea_draws {c : Ctx} {ρ : List Ent} {P : PyData → Prop} {ta : TE} {tr : TA} {C1 C2 C m : Nat} (ha : Ev c ta ρ C1 P) (hr : Ea c tr ρ C2 (fun es => ∃ ds, es = dats ds ∧ ds.length = m ∧ ∀ x ∈ ds, P x)) (hC : C1 + C2 ≤ C) :
    Ea c (tCons ta tr) ρ C (fun es => ∃ ds, es = dats ds ∧ ds.length = m + 1 ∧ ∀ x ∈ ds, P x) :=
  ea_cons ha (fun _ _ => hr) (fun d es hd ⟨ds, e, hl, h⟩ => ⟨d :: ds, by rw [e]; rfl, by rw [List.length_cons, hl], fun x hx => (List.mem_cons.mp hx).elim (fun z => by rw [z]; exact hd) (h x)⟩) hC
theorem ea_drawn0 {c : Ctx} {ρ : List Ent} {P : PyData → Prop} : Ea c tNil ρ 0 (fun es => ∃ ds, es = dats ds ∧ ds.length = 0 ∧ ∀ x ∈ ds, P x) := ea_nil.imp (Nat.le_refl _) fun es e => ⟨[], e, rfl, fun _ h => nomatch h⟩
theorem ev_menu {c : Ctx} {ρ : List Ent} {P : PyData → Prop} {tr : TA} {C m : Nat} (hm : m ≤ 1000) (h : Ea c tr ρ C (fun es => ∃ ds, es = dats ds ∧ ds.length = m ∧ ∀ x ∈ ds, P x)) : Ev c (tLst tr) ρ C (fun d => ∃ ds, d = .list ds ∧ ds.length = m ∧ ∀ x ∈ ds, P x) :=
  ev_lst h fun es ⟨ds, e, hl, hp⟩ => ⟨ds, e, ⟨ds, rfl, hl, hp⟩, by omega⟩
/-- a drawn int lies in bounds -/
theorem dip_in {c : Ctx} {ρ : List Ent} {ta : TE} {i : Nat} {m : Int} {E : XK} {R : Int → Prop} (h : ρ[i]? = some .bag) (ha : Pv c ta ρ (.int m)) (h0 : 0 < m) (h1 : m < 2 ^ 60) (hR : ∀ r, 0 ≤ r → r < m → R r) : EvI c (tCall (sp_dip c.K) [] E (tCons (tVar i) (tCons ta tNil))) ρ 1 R :=
  (ev_dip h ha h0 h1).imp (Nat.le_refl _) fun d ⟨r, e, a, b⟩ => ⟨r, e, hR r a b⟩

theorem gath_nodup : ∀ (xs l : List Str), l.Nodup → (gath l xs).Nodup
  | [], l, h => h
  | x :: r, l, h => by
    rw [gath]
    by_cases m : x ∈ l
    · rw [if_pos m]; exact gath_nodup r l h
    · rw [if_neg m]; exact gath_nodup r _ (List.nodup_cons.mpr ⟨m, h⟩)
def Unit2 (u : Str) : Prop := u = "days" ∨ u = "open"
/-! ### what is drawn: names, terms, cases -/
theorem join_one : ∀ l : List Nat, (Str.join Str.empty (l.map fun ch => (⟨#[ch]⟩ : Str))).cps.toList = l
  | [] => rfl
  | [a] => rfl
  | a :: b :: r => by
    show ((⟨#[a]⟩ : Str) ++ Str.empty ++ Str.join Str.empty ((b :: r).map fun ch => (⟨#[ch]⟩ : Str))).cps.toList = a :: b :: r
    have ih := join_one (b :: r)
    have e : ∀ x y : Str, (x ++ y).cps.toList = x.cps.toList ++ y.cps.toList := fun x y => Array.toList_append
    rw [e, e, ih]
    rfl
theorem len_cps (x : Str) : x.length = x.cps.toList.length := by simp [Str.length]
theorem sum_ones : ∀ l : List Nat, ((l.map fun ch => (⟨#[ch]⟩ : Str)).map (·.length)).sum = l.length
  | [] => rfl
  | a :: r => by
    rw [List.map_cons, List.map_cons, List.sum_cons, sum_ones r, List.length_cons]
    show 1 + r.length = _
    omega
theorem abc_low {ch : Nat} (h : ch ∈ abc.cps.toList) : lowC ch = true := by
  rw [← abc_mem, decide_eq_true_eq]; exact h
theorem low_str {l : List Nat} (h : ∀ ch ∈ l, lowC ch = true) : lowS (Txt.join Str.empty (l.map fun ch => (⟨#[ch]⟩ : Str))) = true ∧ (Txt.join Str.empty (l.map fun ch => (⟨#[ch]⟩ : Str))).length = l.length := by
  rw [TL.join_eq, len_cps, join_one]
  refine ⟨?_, rfl⟩
  unfold lowS
  rw [join_one, List.all_eq_true]
  exact h
theorem signs_of {ds : List PyData} (h : ∀ d ∈ ds, ∃ ch, d = .str ⟨#[ch]⟩ ∧ lowC ch = true) : ∃ l : List Nat, ds = (l.map fun ch => (⟨#[ch]⟩ : Str)).map .str ∧ l.length = ds.length ∧ ∀ ch ∈ l, lowC ch = true := by
  induction ds with
  | nil => exact ⟨[], rfl, rfl, fun _ h => nomatch h⟩
  | cons d r ih =>
    obtain ⟨l, e, hl, hp⟩ := ih fun x hx => h x (List.mem_cons_of_mem _ hx)
    obtain ⟨ch, rfl, hc⟩ := h d List.mem_cons_self
    exact ⟨ch :: l, by rw [e]; rfl, by rw [List.length_cons, List.length_cons, hl], fun c hm => (List.mem_cons.mp hm).elim (fun z => by rw [z]; exact hc) (hp c)⟩
theorem low_app {x y : Str} (hx : lowS x = true) (hy : lowS y = true) : lowS (x ++ y) = true ∧ (x ++ y).length = x.length + y.length := by
  have e : (x ++ y).cps.toList = x.cps.toList ++ y.cps.toList := Array.toList_append
  unfold lowS at *
  rw [len_cps, len_cps x, len_cps y, e, List.all_append, hx, hy, List.length_append]
  exact ⟨rfl, rfl⟩
theorem named_ok {x : Str} (h : lowS x = true) (h1 : 1 ≤ x.length) (h8 : x.length ≤ 8) : nameB (x ++ (if decide (x = "public") then ("x" : Str) else Str.empty)) = true := by
  by_cases e : x = "public"
  · subst e; decide +kernel
  · rw [decide_eq_false e]
    have e2 : x ++ (if false = true then ("x" : Str) else Str.empty) = x := by
      rw [if_neg (by decide)]
      show (⟨x.cps ++ #[]⟩ : Str) = x
      simp
    rw [e2]
    unfold nameB
    rw [decide_eq_true h1, decide_eq_true h8, h, decide_eq_false e]
    rfl
abbrev sp_law_name (K : PySem.W.Frag) : Sp := spD K 1 12 (fun es => es = [.bag]) (fun _ r => ∃ x, r = .str x ∧ nameB x = true)
theorem ok_law_name {P : Program} {w : World} {K : PySem.W.Frag} {mg : Str → Option Value} {base : Heap} (T : Tx K mg) : FnG P w K mg base 2 T.a_law_name T.d_law_name ["bag"] (sp_law_name K) := by
  have H_law_dip := ok_law_dip (P := P) (w := w) (base := base) T
  refine fnG_ok T.F_law_name sc_law_name (fun cdv A outer s H E hr hc => ⟨_, (pss_cons (ps_set (i := 1) sc_law_name.nd rfl (Or.inr rfl) pe_str)
      (pss_cons (ps_set (i := 2) sc_law_name.nd rfl (Or.inl rfl) (pe_ix (ix_K (K := K) rfl) (pe_lst (pa_cons pe_int (pa_cons pe_int (pa_cons pe_int (pa_cons (pe_op (op_addK (K := K) rfl) pe_int (pe_callG H_law_dip hr hc (by rfl) T.G_law_dip T.F_law_dip.kp T.B_law_dip (pa_cons (pv 0) (pa_cons pe_int pa_nil)))) pa_nil))))) (pe_callG H_law_dip hr hc (by rfl) T.G_law_dip T.F_law_dip.kp T.B_law_dip (pa_cons (pv 0) (pa_cons pe_int pa_nil))) (fun _ _ => rfl)))
      (pss_cons (ps_set (i := 3) sc_law_name.nd rfl (Or.inl rfl) (pe_join pe_str (pe_lc (own := [("k", 4)]) (g := (gName 4)) rfl sc_law_name.nd (pi_range1 (by rfl) T.N_range (pa_cons (pv 2) pa_nil)) (blkOk_by (own := [("k", 4)]) (N := ["bag", "letters", "size", "name", "k"]) (sc := defScope s_law_name) (by decide +kernel)) (fun _ _ _ _ _ => (pg_name (i := 4) sc_law_name.nd rfl (Or.inl rfl))) (fun _ _ _ _ _ => pts_nil) (fun _ _ _ _ _ => (pe_ix (ix_K (K := K) rfl) (pv 1) (pe_callG H_law_dip hr hc (by rfl) T.G_law_dip T.F_law_dip.kp T.B_law_dip (pa_cons (pv 0) (pa_cons pe_int pa_nil))) (fun _ _ => rfl))))))
      (pss_one (ps_ret (pe_op (op_addK (K := K) rfl) (pv 3) (pe_op op_mulS1 pe_str (pe_callTy call_int1 (by rfl) T.N_int (by decide +kernel) (pa_cons (pe_cmpR (by refine op_eqK (K := K) rfl ?_; exact hr.units) (pv 3) pe_str (nomark _)) pa_nil))))))))), ?_⟩)
  rintro b I es hl rfl
  refine bk_letP (ev_str (i := abc)) ?_
  refine bk_let (C1 := 2) (C2 := 10) (P := fun d => ∃ m : Int, d = .int m ∧ 1 ≤ m ∧ m ≤ 8) (ev_pick (C1 := 1) (C2 := 1) (m := 4) (ev_menu (by decide) (ea_draws (C1 := 0) (C2 := 1) (evI_of ev_int (by decide)) (ea_draws (C1 := 0) (C2 := 1) (evI_of ev_int (by decide)) (ea_draws (C1 := 0) (C2 := 1) (evI_of ev_int (by decide)) (ea_draws (C1 := 1) (C2 := 0) (evI_add (C1 := 0) (C2 := 1) (R1 := fun x => x = 1) (R2 := fun x => 0 ≤ x ∧ x < 8) (evI_of ev_int rfl) (dip_in rfl ev_int (by decide) (by decide) fun r a b => ⟨a, b⟩) (fun i j h1 h2 => by omega) (by omega)) ea_drawn0 (by omega)) (by omega)) (by omega)) (by omega)))
    (dip_in rfl ev_int (by decide) (by decide) fun r a b => ⟨a, b⟩) (by omega)) ?_ (by omega)
  rintro d ⟨m, rfl, hm1, hm8⟩
  refine bk_let (C1 := 8) (C2 := 2) (P := fun d => ∃ x : Str, d = .str x ∧ lowS x = true ∧ 1 ≤ x.length ∧ x.length ≤ 8) (ev_join (C := 8) (P := fun ys => ∃ l : List Nat, ys = l.map (fun ch => (⟨#[ch]⟩ : Str)) ∧ 1 ≤ l.length ∧ l.length ≤ 8 ∧ ∀ ch ∈ l, lowC ch = true) (a := Str.empty) ev_str (ev_draws (C0 := 0) (Ce := 1) (m := 8) (vs := [4]) (Pe := fun d => ∃ ch, d = .str ⟨#[ch]⟩ ∧ lowC ch = true) (f := fun d ρ => ρ.set 4 (.dat d)) (iw_rangeP (i := m) (ev_var rfl) (by omega) fun d _ => tg_name) (fun is e => by subst e; rw [rngD_len]; omega) (by decide) (fun is e d hd => ?_) (by omega) (fun is os e hlen hP => ?_)) (fun ys ⟨l, e, h1, h2, h3⟩ => ?_) (fun ys ⟨l, e, h1, h2, h3⟩ => ?_)) ?_ (by omega)
  · exact (ev_sign (z := abc) (m := 26) (ev_var rfl) (by decide) (by decide +kernel) (dip_in rfl ev_int (by decide) (by decide) fun r a b => ⟨a, b⟩)).imp (Nat.le_refl _) fun d ⟨ch, e, h⟩ => ⟨ch, e, abc_low h⟩
  · obtain ⟨l, e1, e2, e3⟩ := signs_of hP
    subst e
    rw [rngD_len] at hlen
    exact ⟨_, by rw [e1], l, rfl, by omega, by omega, e3⟩
  · subst e
    rw [sum_ones, List.length_map]
    have e0 : Str.empty.length = 0 := rfl
    rw [e0]
    omega
  · subst e
    obtain ⟨q1, q2⟩ := low_str h3
    exact ⟨_, rfl, q1, by omega, by omega⟩
  rintro d ⟨x, rfl, hx, h1, h8⟩
  refine bk_retP (d := .str (x ++ (if decide (x = "public") then ("x" : Str) else Str.empty))) (pv_addS (ev_var rfl) (pv_mulS1 ev_str (pv_intB (pv_eqS (ev_var rfl) ev_str))) ?_) ⟨_, rfl, named_ok hx h1 h8⟩
  have : (if decide (x = "public") = true then ("x" : Str) else Str.empty).length ≤ 1 := by split <;> decide
  have s : (9 : Nat) ≤ sizeLine := by decide
  omega
/-! ### names, terms -/
theorem strs_of {ds : List PyData} {P : Str → Prop} (h : ∀ d ∈ ds, ∃ x, d = .str x ∧ P x) : ∃ ss : List Str, ds = ss.map .str ∧ ss.length = ds.length ∧ ∀ x ∈ ss, P x := by
  induction ds with
  | nil => exact ⟨[], rfl, rfl, fun _ h => nomatch h⟩
  | cons d r ih =>
    obtain ⟨l, e, hl, hp⟩ := ih fun x hx => h x (List.mem_cons_of_mem _ hx)
    obtain ⟨x, rfl, hx⟩ := h d List.mem_cons_self
    exact ⟨x :: l, by rw [e]; rfl, by rw [List.length_cons, List.length_cons, hl], fun c hm => (List.mem_cons.mp hm).elim (fun z => by rw [z]; exact hx) (hp c)⟩
structure NmsOk (ys : List Str) : Prop where
  h9 : ys.length ≤ 12
  nm : ∀ x ∈ ys, nameB x = true
  up : UpS ys
abbrev sp_law_names (K : PySem.W.Frag) : Sp := spD K 2 144 (fun es => ∃ m : Int, es = [.bag, .dat (.int m)] ∧ 3 ≤ m ∧ m ≤ 12) (fun _ r => ∃ ys : List Str, r = .tuple (ys.map .str) ∧ NmsOk ys)
theorem ok_law_names {P : Program} {w : World} {K : PySem.W.Frag} {mg : Str → Option Value} {base : Heap} (T : Tx K mg) : FnG P w K mg base 3 T.a_law_names T.d_law_names ["bag", "many"] (sp_law_names K) := by
  have H_law_name := ok_law_name (P := P) (w := w) (base := base) T
  refine fnG_ok T.F_law_names sc_law_names (fun cdv A outer s H E hr hc => ⟨_, (pss_one (ps_ret (pe_callTy (call_tupK (K := K) rfl) (by rfl) T.N_tuple (by decide +kernel) (pa_cons (pe_callB (cr_sortedSS rfl) (by rfl) T.N_sorted (by decide +kernel) (pa_cons (pe_callTy (call_setLS (K := K) rfl rfl) (by rfl) T.N_set (by decide +kernel) (pa_cons (pe_lc (own := [("k", 2)]) (g := (gName 2)) rfl sc_law_names.nd (pi_range1 (by rfl) T.N_range (pa_cons (pv 1) pa_nil)) (blkOk_by (own := [("k", 2)]) (N := ["bag", "many", "k"]) (sc := defScope s_law_names) (by decide +kernel)) (fun _ _ _ _ _ => (pg_name (i := 2) sc_law_names.nd rfl (Or.inl rfl))) (fun _ _ _ _ _ => pts_nil) (fun _ _ _ _ _ => (pe_callG H_law_name hr hc (by rfl) T.G_law_name T.F_law_name.kp T.B_law_name (pa_cons (pv 0) pa_nil)))) pa_nil)) pa_nil)) pa_nil)))), ?_⟩)
  rintro b I es hl ⟨m, rfl, hm0, hm1⟩
  refine bk_ret (P := fun r => ∃ ys : List Str, r = .tuple (ys.map .str) ∧ NmsOk ys) ((ev_tupL (Pd := fun zs => ∃ ys : List Str, zs = ys.map .str ∧ NmsOk ys) ((ev_sortedS (C := 144) (Pn := fun ss => ss.length ≤ 12 ∧ ∀ x ∈ ss, nameB x = true) (ev_draws (C0 := 0) (Ce := 12) (m := 12) (vs := [2]) (Pe := fun d => ∃ x, d = .str x ∧ nameB x = true) (f := fun d ρ => ρ.set 2 (.dat d)) (iw_rangeP (i := m) (ev_var rfl) (by omega) fun d _ => tg_name) (fun is e => by subst e; rw [rngD_len]; omega) (by decide) (fun is _ d _ => ev_call (C1 := 0) (C2 := 12) (pa_bag rfl ea_nil) (fun es e => by subst e; exact ⟨rfl, rfl⟩) (fun es d e q => q) (by omega)) (by omega) (fun is os e hlen hP => ?_)) (fun ss h => by omega)).imp (Nat.le_refl _) ?_)).imp (Nat.le_refl _) fun d ⟨ds, e, ys, e2, h⟩ => ⟨ys, by rw [e, e2], h⟩) fun d h => h
  · obtain ⟨ss, e1, e2, e3⟩ := strs_of hP
    subst e
    rw [rngD_len] at hlen
    exact ⟨ss, by rw [e1], by omega, e3⟩
  · rintro d ⟨ys, ss, rfl, ⟨hs9, hsn⟩, hperm, hsort⟩
    have hl9 := gath_len ss []
    simp only [List.length_nil] at hl9
    refine ⟨_, rfl, ys, rfl, by rw [hperm.length_eq]; omega, fun x hx => ?_, sorted_up hsort (hperm.nodup_iff.mpr (gath_nodup ss [] List.nodup_nil))⟩
    exact hsn x (by simpa using (gath_mem ss []).mp (hperm.mem_iff.mp hx))
abbrev sp_law_spans (K : PySem.W.Frag) : Sp := spD K 1 16 (fun es => es = [.bag]) (fun _ r => ∃ ts : List (Nat × Str), r = .tuple (ts.map fun t => .tuple [.int (t.1 : Nat), .str t.2]) ∧ ts.length = 4 ∧ ∀ p ∈ ts, p.1 < 401 ∧ Unit2 p.2)
theorem spans_of {ds : List PyData} (h : ∀ d ∈ ds, ∃ (n : Nat) (u : Str), d = .tuple [.int (n : Nat), .str u] ∧ n < 401 ∧ Unit2 u) : ∃ ts : List (Nat × Str), ds = (ts.map fun t => .tuple [.int (t.1 : Nat), .str t.2]) ∧ ts.length = ds.length ∧ ∀ p ∈ ts, p.1 < 401 ∧ Unit2 p.2 := by
  induction ds with
  | nil => exact ⟨[], rfl, rfl, fun _ h => nomatch h⟩
  | cons d r ih =>
    obtain ⟨l, e, hl, hp⟩ := ih fun x hx => h x (List.mem_cons_of_mem _ hx)
    obtain ⟨n, u, rfl, hx⟩ := h d List.mem_cons_self
    exact ⟨(n, u) :: l, by rw [e]; rfl, by rw [List.length_cons, List.length_cons, hl], fun c hm => (List.mem_cons.mp hm).elim (fun z => by rw [z]; exact hx) (hp c)⟩
theorem ok_law_spans {P : Program} {w : World} {K : PySem.W.Frag} {mg : Str → Option Value} {base : Heap} (T : Tx K mg) : FnG P w K mg base 2 T.a_law_spans T.d_law_spans ["bag"] (sp_law_spans K) := by
  have H_law_dip := ok_law_dip (P := P) (w := w) (base := base) T
  refine fnG_ok T.F_law_spans sc_law_spans (fun cdv A outer s H E hr hc => ⟨_, (pss_one (ps_ret (pe_callTy (call_tupK (K := K) rfl) (by rfl) T.N_tuple (by decide +kernel) (pa_cons (pe_lc (own := [("k", 1)]) (g := (gName 1)) rfl sc_law_spans.nd (pi_range1 (by rfl) T.N_range (pa_cons pe_int pa_nil)) (blkOk_by (own := [("k", 1)]) (N := ["bag", "k"]) (sc := defScope s_law_spans) (by decide +kernel)) (fun _ _ _ _ _ => (pg_name (i := 1) sc_law_spans.nd rfl (Or.inl rfl))) (fun _ _ _ _ _ => pts_nil) (fun _ _ _ _ _ => (pe_tup (pa_cons (pe_ix (ix_K (K := K) rfl) (pe_lst (pa_cons (pe_callG H_law_dip hr hc (by rfl) T.G_law_dip T.F_law_dip.kp T.B_law_dip (pa_cons (pv 0) (pa_cons pe_int pa_nil))) (pa_cons (pe_callG H_law_dip hr hc (by rfl) T.G_law_dip T.F_law_dip.kp T.B_law_dip (pa_cons (pv 0) (pa_cons pe_int pa_nil))) pa_nil))) (pe_callG H_law_dip hr hc (by rfl) T.G_law_dip T.F_law_dip.kp T.B_law_dip (pa_cons (pv 0) (pa_cons pe_int pa_nil))) (fun _ _ => rfl)) (pa_cons (pe_ix (ix_K (K := K) rfl) (pe_lst (pa_cons pe_str (pa_cons pe_str pa_nil))) (pe_callG H_law_dip hr hc (by rfl) T.G_law_dip T.F_law_dip.kp T.B_law_dip (pa_cons (pv 0) (pa_cons pe_int pa_nil))) (fun _ _ => rfl)) pa_nil))))) pa_nil)))), ?_⟩)
  rintro b I es hl rfl
  refine bk_ret (P := fun r => ∃ ts : List (Nat × Str), r = .tuple (ts.map fun t => .tuple [.int (t.1 : Nat), .str t.2]) ∧ ts.length = 4 ∧ ∀ p ∈ ts, p.1 < 401 ∧ Unit2 p.2) ((ev_tupL (Pd := fun ds => ds.length = 4 ∧ ∀ d ∈ ds, ∃ (n : Nat) (u : Str), d = .tuple [.int (n : Nat), .str u] ∧ n < 401 ∧ Unit2 u) (ev_draws (C0 := 0) (Ce := 4) (m := 4) (vs := [1]) (Pe := fun d => ∃ (n : Nat) (u : Str), d = .tuple [.int (n : Nat), .str u] ∧ n < 401 ∧ Unit2 u) (f := fun d ρ => ρ.set 1 (.dat d)) (iw_rangeP (i := 4) ev_int (by omega) fun d _ => tg_name) (fun is e => by subst e; rw [rngD_len]; decide) (by decide) (fun is _ d _ => ?_) (by omega) (fun is os e hlen hP => ?_))).imp (Nat.le_refl _) fun d ⟨ds, e, h4, h⟩ => ?_) fun d h => h
  · refine (ev_tup (Pe := fun es => ∃ (n : Nat) (u : Str), es = dats [.int (n : Nat), .str u] ∧ n < 401 ∧ Unit2 u) (ea_cons (C1 := 3) (C2 := 1) (P1 := fun d => ∃ x : Int, d = .int x ∧ 0 ≤ x ∧ x < 401) (ev_pick (C1 := 2) (C2 := 1) (m := 2) (ev_menu (by decide) (ea_draws (C1 := 1) (C2 := 1) (dip_in rfl ev_int (by decide) (by decide) fun r a b => ⟨a, by omega⟩) (ea_draws (C1 := 1) (C2 := 0) (dip_in rfl ev_int (by decide) (by decide) fun r a b => ⟨a, b⟩) ea_drawn0 (by omega)) (by omega))) (dip_in rfl ev_int (by decide) (by decide) fun r a b => ⟨a, b⟩) (by omega)) (P2 := fun _ es => ∃ u, es = dats [.str u] ∧ Unit2 u) (fun _ _ => ea_cons (C1 := 1) (C2 := 0) (P1 := fun d => ∃ u, d = .str u ∧ Unit2 u) ((ev_oneOf (C := 1) (ds := [.str "days", .str "open"]) (pv_lst (ds := [.str "days", .str "open"]) (pa_consD ev_str (pa_consD ev_str ea_nil))) (dip_in rfl ev_int (by decide) (by decide) fun r a b => ⟨a, b⟩)).imp (Nat.le_refl _) fun d hd => ?_) (P2 := fun _ es => es = []) (fun _ _ => ea_nil) (fun d es ⟨u, e, h⟩ e2 => ⟨u, by rw [e, e2]; rfl, h⟩) (by omega)) (fun d es ⟨x, e, h1, h2⟩ ⟨u, e2, h⟩ => ⟨x.toNat, u, by rw [e, e2, show ((x.toNat : Nat) : Int) = x by omega]; rfl, by omega, h⟩) (by omega)) fun es ⟨n, u, e, h⟩ => ⟨_, e, ⟨n, u, rfl, h⟩, by simp⟩)
    simp only [List.mem_cons, List.not_mem_nil, or_false] at hd
    rcases hd with rfl | rfl
    · exact ⟨_, rfl, .inl rfl⟩
    · exact ⟨_, rfl, .inr rfl⟩
  · subst e
    exact ⟨os, rfl, by rw [hlen, rngD_len]; rfl, hP⟩
  · obtain ⟨ts, e1, e2, e3⟩ := spans_of h
    exact ⟨ts, by rw [e, e1], by omega, e3⟩

/-! ### the law's own writing -/
theorem shown_is (a b d e : Str) : a ++ ";" ++ b ++ ";" ++ d ++ ";" ++ e = Txt.join ";" [a, b, d, e] := TL.ext_tl (by
  rw [join_tl, TL.tl_append, TL.tl_append, TL.tl_append, TL.tl_append, TL.tl_append, TL.tl_append, semi_tl]
  show TL.tl a ++ [59] ++ TL.tl b ++ [59] ++ TL.tl d ++ [59] ++ TL.tl e = TL.tl a ++ ([59] ++ (TL.tl b ++ ([59] ++ (TL.tl d ++ ([59] ++ TL.tl e)))))
  simp only [List.append_assoc])
abbrev sp_law_case_shown (K : PySem.W.Frag) : Sp := spD K 1 0 (fun es => ∃ hs ps bs ts, es = [.dat (cdat hs ps bs ts)] ∧ TC hs ps bs ts) (fun es r => ∃ hs ps bs ts, es = [.dat (cdat hs ps bs ts)] ∧ r = .str (csT hs ps bs ts))
theorem ok_law_case_shown {P : Program} {w : World} {K : PySem.W.Frag} {mg : Str → Option Value} {base : Heap} (T : Tx K mg) : FnG P w K mg base 1 T.a_law_case_shown T.d_law_case_shown ["case"] (sp_law_case_shown K) := by
  refine fnG_ok T.F_law_case_shown sc_law_case_shown (fun cdv A outer s H E hr hc => ⟨_, (pss_cons (ps_asg (pv 0) (pg_tup (by rfl) (pgs_cons (pg_name (i := 1) sc_law_case_shown.nd rfl (Or.inl rfl)) (pgs_cons (pg_name (i := 2) sc_law_case_shown.nd rfl (Or.inl rfl)) (pgs_cons (pg_name (i := 3) sc_law_case_shown.nd rfl (Or.inl rfl)) (pgs_cons (pg_name (i := 4) sc_law_case_shown.nd rfl (Or.inl rfl)) pgs_nil))))))
      (pss_cons (ps_set (i := 5) sc_law_case_shown.nd rfl (Or.inl rfl) (pe_op (op_addK (K := K) rfl) (pe_op (op_addK (K := K) rfl) (pe_join pe_str (pe_lc (own := [("one", 6)]) (g := (gName 6)) rfl sc_law_case_shown.nd (pi_seqK (K := K) rfl (pv 1)) (blkOk_by (own := [("one", 6)]) (N := ["case", "days", "parties", "bench", "spans", "found", "one", "name", "side", "count", "unit"]) (sc := defScope s_law_case_shown) (by decide +kernel)) (fun _ _ _ _ _ => (pg_name (i := 6) sc_law_case_shown.nd rfl (Or.inl rfl))) (fun _ _ _ _ _ => pts_nil) (fun _ _ _ _ _ => (pe_callTy call_str_int (by rfl) T.N_str (by decide +kernel) (pa_cons (pv 6) pa_nil))))) pe_str) (pe_join pe_str (pe_lc (own := [("name", 7), ("side", 8)]) (g := (gTup K 2 (gCons (gName 7) (gCons (gName 8) gNil)))) rfl sc_law_case_shown.nd (pi_seqK (K := K) rfl (pv 2)) (blkOk_by (own := [("name", 7), ("side", 8)]) (N := ["case", "days", "parties", "bench", "spans", "found", "one", "name", "side", "count", "unit"]) (sc := defScope s_law_case_shown) (by decide +kernel)) (fun _ _ _ _ _ => (pg_tup (by rfl) (pgs_cons (pg_name (i := 7) sc_law_case_shown.nd rfl (Or.inl rfl)) (pgs_cons (pg_name (i := 8) sc_law_case_shown.nd rfl (Or.inl rfl)) pgs_nil)))) (fun _ _ _ _ _ => pts_nil) (fun _ _ _ _ _ => (pe_op (op_addK (K := K) rfl) (pe_op (op_addK (K := K) rfl) (pv 7) pe_str) (pv 8)))))))
      (pss_one (ps_ret (pe_op (op_addK (K := K) rfl) (pe_op (op_addK (K := K) rfl) (pe_op (op_addK (K := K) rfl) (pe_op (op_addK (K := K) rfl) (pv 5) pe_str) (pe_join pe_str (pv 3))) pe_str) (pe_join pe_str (pe_lc (own := [("count", 9), ("unit", 10)]) (g := (gTup K 2 (gCons (gName 9) (gCons (gName 10) gNil)))) rfl sc_law_case_shown.nd (pi_seqK (K := K) rfl (pv 4)) (blkOk_by (own := [("count", 9), ("unit", 10)]) (N := ["case", "days", "parties", "bench", "spans", "found", "one", "name", "side", "count", "unit"]) (sc := defScope s_law_case_shown) (by decide +kernel)) (fun _ _ _ _ _ => (pg_tup (by rfl) (pgs_cons (pg_name (i := 9) sc_law_case_shown.nd rfl (Or.inl rfl)) (pgs_cons (pg_name (i := 10) sc_law_case_shown.nd rfl (Or.inl rfl)) pgs_nil)))) (fun _ _ _ _ _ => pts_nil) (fun _ _ _ _ _ => (pe_op (op_addK (K := K) rfl) (pe_op (op_addK (K := K) rfl) (pe_callTy call_str_int (by rfl) T.N_str (by decide +kernel) (pa_cons (pv 9) pa_nil)) pe_str) (pv 10)))))))))), ?_⟩)
  rintro b I es hl ⟨hs, ps, bs, ts, rfl, M⟩
  have hsz : (10002 : Nat) ≤ sizeLine := by decide
  have hc1 : ("," : Str).length = 1 := by decide
  have hc2 : (";" : Str).length = 1 := by decide
  have m1 := M.hl
  have m2 := M.pl
  have m3 := M.bl
  have m4 := M.tl
  have n1 := prts_len M.h1 M.l1
  have n2 := prts_len M.h2 M.l2
  have n3 := prts_len M.h3 M.bl
  have n4 := prts_len M.h4 M.l4
  refine bk_seq (C1 := 0) (C2 := 0) (N := fun ρ' => ρ' = [.dat (cdat hs ps bs ts), .dat (.tuple (hs.map fun n => .int (n : Nat))), .dat (.tuple (ps.map fun p => .tuple [.str p.1, .str p.2])), .dat (.tuple (bs.map .str)), .dat (.tuple (ts.map fun t => .tuple [.int (t.1 : Nat), .str t.2])), .any, .any, .any, .any, .any, .any]) (bk_asg (f := fun _ ρ => (((ρ.set 1 (.dat (.tuple (hs.map fun n => .int (n : Nat))))).set 2 (.dat (.tuple (ps.map fun p => .tuple [.str p.1, .str p.2])))).set 3 (.dat (.tuple (bs.map .str)))).set 4 (.dat (.tuple (ts.map fun t => .tuple [.int (t.1 : Nat), .str t.2])))) (ev_var rfl) (fun d e => by subst e; exact tg_four) fun d _ => rfl) ?_ (by omega)
  rintro ρ' rfl
  refine bk_letP (d := .str (Txt.join "," (hsT hs) ++ ";" ++ Txt.join "," (psT ps))) (pv_addS (x := Txt.join "," (hsT hs) ++ ";") (y := Txt.join "," (psT ps)) (pv_addS (x := Txt.join "," (hsT hs)) (y := ";") (pv_joinL (ys := hsT hs) ev_str (Pv.to (pv_map (vs := [6]) (tgs := [6]) (f := fun d ρ => ρ.set 6 (.dat d)) (items := hs.map fun n => .int (n : Nat)) (fun d => .str (numS (natV d))) (iw_st (Pi := fun is => is = hs.map fun n => .int (n : Nat)) ((ev_var rfl).imp (Nat.le_refl _) fun d e => ⟨_, e, rfl⟩) fun is e d hd => tg_name) (fun d hd => ?_) (by rw [List.length_map]; omega)) (by unfold hsT; rw [List.map_map, List.map_map]; rfl)) (prts_sum hc1 M.h1 M.l1)) ev_str (by omega)) (pv_joinL (ys := psT ps) ev_str (Pv.to (pv_map (vs := [7, 8]) (tgs := [7, 8]) (f := fun d ρ => (ρ.set 7 (.dat (fst2 d))).set 8 (.dat (snd2 d))) (items := ps.map fun p => .tuple [.str p.1, .str p.2]) (fun d => .str (strV (fst2 d) ++ "=" ++ strV (snd2 d))) (iw_st (Pi := fun is => is = ps.map fun p => .tuple [.str p.1, .str p.2]) ((ev_var rfl).imp (Nat.le_refl _) fun d e => ⟨_, e, rfl⟩) fun is e d hd => ?_) (fun d hd => ?_) (by rw [List.length_map]; omega)) (by unfold psT; rw [List.map_map, List.map_map]; rfl)) (prts_sum hc1 M.h2 M.l2)) (by rw [app_len]; omega)) ?_
  · obtain ⟨n, hn, rfl⟩ := List.mem_map.mp hd
    exact pv_cb (pa_consD (ev_var rfl) ea_nil) (rda_strI (log_small (M.hb n hn)))
  · subst e
    obtain ⟨p, hp, rfl⟩ := List.mem_map.mp hd
    exact tg_two
  · obtain ⟨p, hp, rfl⟩ := List.mem_map.mp hd
    have l1 := (M.pb p hp).1.ln
    have l2 := (M.pb p hp).2.ln
    have l3 : ("=" : Str).length = 1 := by decide
    exact pv_addS (x := p.1 ++ "=") (y := p.2) (pv_addS (x := p.1) (y := "=") (ev_var rfl) ev_str (by omega)) (ev_var rfl) (by rw [app_len]; omega)
  refine bk_retP (Pv.to (pv_addS (x := Txt.join "," (hsT hs) ++ ";" ++ Txt.join "," (psT ps) ++ ";" ++ Txt.join "," bs ++ ";") (y := Txt.join "," (tsT ts)) (pv_addS (x := Txt.join "," (hsT hs) ++ ";" ++ Txt.join "," (psT ps) ++ ";" ++ Txt.join "," bs) (y := ";") (pv_addS (x := Txt.join "," (hsT hs) ++ ";" ++ Txt.join "," (psT ps) ++ ";") (y := Txt.join "," bs) (pv_addS (x := Txt.join "," (hsT hs) ++ ";" ++ Txt.join "," (psT ps)) (y := ";") (ev_var rfl) ev_str (by rw [app_len, app_len]; omega)) (pv_joinT (ys := bs) ev_str (ev_var rfl) (prts_sum hc1 M.h3 m3)) (by rw [app_len, app_len, app_len]; omega)) ev_str (by rw [app_len, app_len, app_len, app_len]; omega)) (pv_joinL (ys := tsT ts) ev_str (Pv.to (pv_map (vs := [9, 10]) (tgs := [9, 10]) (f := fun d ρ => (ρ.set 9 (.dat (fst2 d))).set 10 (.dat (snd2 d))) (items := ts.map fun t => .tuple [.int (t.1 : Nat), .str t.2]) (fun d => .str (numS (natV (fst2 d)) ++ " " ++ strV (snd2 d))) (iw_st (Pi := fun is => is = ts.map fun t => .tuple [.int (t.1 : Nat), .str t.2]) ((ev_var rfl).imp (Nat.le_refl _) fun d e => ⟨_, e, rfl⟩) fun is e d hd => ?_) (fun d hd => ?_) (by rw [List.length_map]; omega)) (by unfold tsT; rw [List.map_map, List.map_map]; rfl)) (prts_sum hc1 M.h4 M.l4)) (by rw [app_len, app_len, app_len, app_len, app_len]; omega)) (by rw [shown_is]; rfl)) ⟨hs, ps, bs, ts, rfl, rfl⟩
  · subst e
    obtain ⟨p, hp, rfl⟩ := List.mem_map.mp hd
    exact tg_two
  · obtain ⟨p, hp, rfl⟩ := List.mem_map.mp hd
    have l1 := numS_len (M.tb p hp).1
    have l2 := (M.tb p hp).2.ln
    have l3 : (" " : Str).length = 1 := by decide
    exact pv_addS (x := numS p.1 ++ " ") (y := p.2) (pv_addS (x := numS p.1) (y := " ") (pv_cb (pa_consD (ev_var rfl) ea_nil) (rda_strI (log_small (M.tb p hp).1))) ev_str (by omega)) (ev_var rfl) (by rw [app_len]; omega)

/-! ### plain data -/
structure Pz (k : Nat) (d : PyData) : Prop where
  nd : noDic d = true
  cl : d.canLay0 = true
  dp : d.depth ≤ k
structure Pzs (k : Nat) (ds : List PyData) : Prop where
  nd : noDics ds = true
  cl : PyData.canLayAll0 ds = true
  dp : PyData.depthAll ds ≤ k
theorem Pz.mono {k j : Nat} {d : PyData} (h : Pz k d) (e : k ≤ j) : Pz j d := ⟨h.nd, h.cl, Nat.le_trans h.dp e⟩
theorem Pzs.nil {k : Nat} : Pzs k [] := ⟨rfl, rfl, by simp [PyData.depthAll]⟩
theorem Pzs.cons {k : Nat} {d : PyData} {ds : List PyData} (h : Pz k d) (r : Pzs k ds) : Pzs k (d :: ds) := ⟨by show (noDic d && noDics ds) = true; rw [h.nd, r.nd]; rfl, by show (d.canLay0 && PyData.canLayAll0 ds) = true; rw [h.cl, r.cl]; rfl, by
  have a := h.dp
  have b := r.dp
  rw [PyData.depthAll]
  omega⟩
theorem Pzs.of {k : Nat} : ∀ {ds : List PyData}, (∀ d ∈ ds, Pz k d) → Pzs k ds
  | [], _ => .nil
  | d :: r, h => .cons (h d List.mem_cons_self) (Pzs.of fun x hx => h x (List.mem_cons_of_mem _ hx))
theorem Pzs.mem {k : Nat} : ∀ {ds : List PyData}, Pzs k ds → ∀ d ∈ ds, Pz k d
  | d :: r, h, x, hx => by
    have a : (noDic d && noDics r) = true := h.nd
    have b : (d.canLay0 && PyData.canLayAll0 r) = true := h.cl
    have e := h.dp
    rw [Bool.and_eq_true] at a b
    rw [PyData.depthAll] at e
    rcases List.mem_cons.mp hx with rfl | hx'
    · exact ⟨a.1, b.1, by omega⟩
    · exact Pzs.mem ⟨a.2, b.2, by omega⟩ x hx'
theorem Pzs.tup {k : Nat} {ds : List PyData} (h : Pzs k ds) : Pz (k + 1) (.tuple ds) := ⟨h.nd, h.cl, by have := h.dp; rw [PyData.depth]; omega⟩
theorem Pzs.lst {k : Nat} {ds : List PyData} (h : Pzs k ds) : Pz (k + 1) (.list ds) := ⟨h.nd, h.cl, by have := h.dp; rw [PyData.depth]; omega⟩
theorem Pz.tup_inv {k : Nat} {ds : List PyData} (h : Pz k (.tuple ds)) : Pzs (k - 1) ds ∧ 1 ≤ k := by
  have e := h.dp
  rw [PyData.depth] at e
  exact ⟨⟨h.nd, h.cl, by omega⟩, by omega⟩
theorem Pz.lst_inv {k : Nat} {ds : List PyData} (h : Pz k (.list ds)) : Pzs (k - 1) ds ∧ 1 ≤ k := by
  have e := h.dp
  rw [PyData.depth] at e
  exact ⟨⟨h.nd, h.cl, by omega⟩, by omega⟩
theorem Pz.int {k : Nat} (i : Int) : Pz k (.int i) := ⟨rfl, rfl, by simp [PyData.depth]⟩
theorem Pz.non {k : Nat} : Pz k .none := ⟨rfl, rfl, by simp [PyData.depth]⟩
theorem Pz.bl {k : Nat} (b : Bool) : Pz k (.bool b) := ⟨rfl, rfl, by simp [PyData.depth]⟩
theorem Pz.str {k : Nat} {x : Str} (h : ∀ c ∈ x.cps.toList, c < 200) : Pz k (.str x) := ⟨rfl, by
  show x.cps.all (· < 0x110000) = true
  rw [Array.all_eq_true']
  intro c hc
  have := h c (by simpa using hc)
  rw [decide_eq_true_eq]
  omega, by simp [PyData.depth]⟩
theorem Pz.okD {k : Nat} {d : PyData} (h : Pz k d) (hk : k ≤ 64) : okD d = true := by
  unfold Hh.okD SeqAt.shaped
  rw [h.nd, h.cl, decide_eq_true (Nat.le_trans h.dp hk)]
  rfl
theorem name_pz {k : Nat} {d : PyData} (h : nameD d = true) : Pz k d := by
  obtain ⟨x, rfl, hx⟩ := nameD_inv h
  refine Pz.str fun c hc => ?_
  unfold nameB at hx
  rw [Bool.and_eq_true, Bool.and_eq_true, Bool.and_eq_true] at hx
  have q := List.all_eq_true.mp hx.2.2.1 c hc
  unfold lowC at q
  rw [Bool.and_eq_true, decide_eq_true_eq, decide_eq_true_eq] at q
  omega
/-! ### alike -/
def AlkP (n : Nat) (d : PyData) : Prop := noDic d = true ∧ d.canLay0 = true ∧ Sm d ∧ d.depth < n
abbrev sp_law_alike (n : Nat) (K : PySem.W.Frag) : Sp := spD K 2 0 (fun es => ∃ d, es = [.dat d, .dat d] ∧ AlkP n d) (fun _ r => r = .bool true)
theorem never_law_alike {P : Program} {w : World} {K : PySem.W.Frag} {mg : Str → Option Value} {base : Heap} {f : Addr} {fd : FuncData} {ps : List Str} : FnG P w K mg base 0 f fd ps (sp_law_alike 0 K) := FnG.never fun es ⟨d, _, _, _, _, h⟩ => absurd h (Nat.not_lt_zero _)
theorem Sm.lst {ds : List PyData} (h : Sm (.list ds)) : ds.length < sizeLine ∧ ds.length ≤ 2 ^ 22 ∧ ∀ x ∈ ds, Sm x := by
  have h' : szDs ds + 2 * ds.length + 3 ≤ 2 ^ 22 := h
  have s : (2 : Nat) ^ 22 < sizeLine := by decide
  exact ⟨by omega, by omega, fun x hx => by have := szD_mem hx; show szD x ≤ _; omega⟩
theorem alike_call {c : Ctx} {ρ : List Ent} {tr : TA} {E : XK} {n : Nat} {d : PyData} (h : Pa c tr ρ [.dat d, .dat d]) (hk : AlkP n d) : Pv c (tCall (sp_law_alike n c.K) [] E tr) ρ (.bool true) := pv_callE h rfl ⟨d, rfl, hk⟩ fun x e => e
theorem rng_true (m : Nat) : (rngD 0 m).map (fun _ => PyData.bool true) = ((List.range m).map fun _ => true).map .bool := by
  unfold rngD
  rw [List.map_map, List.map_map]
  rfl
theorem all_true (m : Nat) : ((List.range m).map fun _ => true).all id = true := by
  rw [List.all_map, List.all_eq_true]
  exact fun _ _ => rfl
theorem ok_law_alike {P : Program} {w : World} {K : PySem.W.Frag} {mg : Str → Option Value} {base : Heap} (T : Tx K mg) : ∀ n : Nat, FnG P w K mg base n T.a_law_alike T.d_law_alike ["found", "owed"] (sp_law_alike n K) := by
  intro n
  induction n with
  | zero => exact never_law_alike
  | succ n H_law_alike =>
  refine fnG_ok T.F_law_alike sc_law_alike (fun cdv A outer s H E hr hc => ⟨_, (pss_cons (ps_if (pt_val (pe_callB (call_isiTK (K := K) rfl) (by rfl) T.N_isinstance (by decide +kernel) (pa_cons (pv 1) (pa_cons (pe_tup (pa_cons (pe_bltn (v := .ty "list") (by rfl) T.N_list (by decide +kernel) rfl) (pa_cons (pe_bltn (v := .ty "tuple") (by rfl) T.N_tuple (by decide +kernel) rfl) pa_nil))) pa_nil))))
      (pss_cons (ps_if (PW.pt (pw_or (pt_not (pt_val (pe_callB (call_isiTK (K := K) rfl) (by rfl) T.N_isinstance (by decide +kernel) (pa_cons (pv 0) (pa_cons (pe_tup (pa_cons (pe_bltn (v := .ty "list") (by rfl) T.N_list (by decide +kernel) rfl) (pa_cons (pe_bltn (v := .ty "tuple") (by rfl) T.N_tuple (by decide +kernel) rfl) pa_nil))) pa_nil))))) (pw_or1 (pt_cmpR (by refine op_neK (K := K) rfl ?_; exact hr.units) (pe_callB (call_isiK' (K := K) rfl) (by rfl) T.N_isinstance (by decide +kernel) (pa_cons (pv 0) (pa_cons (pe_bltn (v := .ty "list") (by rfl) T.N_list (by decide +kernel) rfl) pa_nil))) (pe_callB (call_isiK' (K := K) rfl) (by rfl) T.N_isinstance (by decide +kernel) (pa_cons (pv 1) (pa_cons (pe_bltn (v := .ty "list") (by rfl) T.N_list (by decide +kernel) rfl) pa_nil))) (nomark _)))))
      (pss_one (ps_ret pe_bl)) pss_nil)
      (pss_one (ps_ret (pe_and (pe_cmpR (by refine op_eqK (K := K) rfl ?_; exact hr.units) (pe_callB (call_lenK (K := K) rfl) (by rfl) T.N_len (by decide +kernel) (pa_cons (pv 0) pa_nil)) (pe_callB (call_lenK (K := K) rfl) (by rfl) T.N_len (by decide +kernel) (pa_cons (pv 1) pa_nil)) (nomark _)) (pe_one (pe_callB (cr_allK (K := K) rfl rfl) (by rfl) T.N_all (by decide +kernel) (pa_cons (pe_lc (own := [("k", 2)]) (g := (gName 2)) rfl sc_law_alike.nd (pi_range1 (by rfl) T.N_range (pa_cons (pe_callB (call_lenK (K := K) rfl) (by rfl) T.N_len (by decide +kernel) (pa_cons (pv 1) pa_nil)) pa_nil)) (blkOk_by (own := [("k", 2)]) (N := ["found", "owed", "k"]) (sc := defScope s_law_alike) (by decide +kernel)) (fun _ _ _ _ _ => (pg_name (i := 2) sc_law_alike.nd rfl (Or.inl rfl))) (fun _ _ _ _ _ => pts_nil) (fun _ _ _ _ _ => (pe_callG H_law_alike hr hc (by rfl) T.G_law_alike T.F_law_alike.kp T.B_law_alike (pa_cons (pe_ix (ix_K (K := K) rfl) (pv 0) (pv 2) (fun _ _ => rfl)) (pa_cons (pe_ix (ix_K (K := K) rfl) (pv 1) (pv 2) (fun _ _ => rfl)) pa_nil))))) pa_nil))))))) pss_nil)
      (pss_cons (ps_if (PW.pt (pw_or (pt_cmpR op_isN (pv 1) pe_non (nomark _)) (pw_or1 (pt_val (pe_callB (call_isiK' (K := K) rfl) (by rfl) T.N_isinstance (by decide +kernel) (pa_cons (pv 1) (pa_cons (pe_bltn (v := .ty "str") (by rfl) T.N_str (by decide +kernel) rfl) pa_nil)))))))
      (pss_one (ps_ret (pe_and (pe_cmpR (by refine op_eqK (K := K) rfl ?_; exact hr.units) (pv 0) (pv 1) (nomark _)) (pe_one (pe_cmpR (by refine op_eqK (K := K) rfl ?_; exact hr.units) (pe_cmp (pc_isN (pv 1)) rfl) (pe_cmp (pc_isN (pv 0)) rfl) (nomark _)))))) pss_nil)
      (pss_one (ps_ret (pe_and (pe_cmpR (by refine op_eqK (K := K) rfl ?_; exact hr.units) (pe_callB (call_isiK' (K := K) rfl) (by rfl) T.N_isinstance (by decide +kernel) (pa_cons (pv 0) (pa_cons (pe_bltn (v := .ty "bool") (by rfl) T.N_bool (by decide +kernel) rfl) pa_nil))) (pe_callB (call_isiK' (K := K) rfl) (by rfl) T.N_isinstance (by decide +kernel) (pa_cons (pv 1) (pa_cons (pe_bltn (v := .ty "bool") (by rfl) T.N_bool (by decide +kernel) rfl) pa_nil))) (nomark _)) (pe_and (pe_callB (call_isiK' (K := K) rfl) (by rfl) T.N_isinstance (by decide +kernel) (pa_cons (pv 0) (pa_cons (pe_bltn (v := .ty "int") (by rfl) T.N_int (by decide +kernel) rfl) pa_nil))) (pe_one (pe_cmpR (by refine op_eqK (K := K) rfl ?_; exact hr.units) (pv 0) (pv 1) (nomark _))))))))), ?_⟩)
  rintro b I es hl ⟨d, rfl, hnd, hcl, hsm, hdp⟩
  cases d with
  | list ds =>
    have hs := Sm.lst hsm
    have hz : Pzs n ds := ⟨hnd, hcl, by rw [PyData.depth] at hdp; omega⟩
    have hm : ∀ x ∈ ds, AlkP n x := fun x hx => by
      have q := hz.mem x hx
      refine ⟨q.nd, q.cl, hs.2.2 x hx, ?_⟩
      rw [PyData.depth] at hdp
      have := PyData.depth_le_depthAll ds x hx
      omega
    refine bk_ifret (b := true) (Pt.to (pt_B (pv_isLT (ev_var rfl))) rfl) (fun _ => ?_) (fun e => nomatch e)
    refine bk_ifret (b := false) (Pt.to (pt_or (pt_notD (pt_B (pv_isLT (ev_var rfl)))) fun _ => pt_T (pv_neB (pv_is_list (ev_var rfl)) (pv_is_list (ev_var rfl)))) (by simp [isListD, isTupD])) (fun e => nomatch e) fun _ => ?_
    have lz : (rngD 0 ((ds.length : Nat) : Int).toNat).length < sizeLine := by rw [rngD_len]; exact hs.1
    have hsb := hs.2.1
    refine bk_retP (d := .bool true) (Pv.to (pv_and (pv_eqI (pv_cb (pa_consD (ev_var rfl) ea_nil) rda_lenL) (pv_cb (pa_consD (ev_var rfl) ea_nil) rda_lenL)) fun _ => pv_cb (pa_consD (Pv.to (pv_map (vs := [2]) (f := fun d ρ => ρ.set 2 (.dat d)) (fun _ => .bool true) (iw_rangeP (i := (ds.length : Int)) (pv_cb (pa_consD (ev_var rfl) ea_nil) rda_lenL) (by omega) fun d _ => tg_name) (fun d hd => ?_) lz) (congrArg PyData.list (rng_true _))) ea_nil) rda_all) (by rw [all_true]; simp)) rfl
    obtain ⟨i, hi⟩ := List.mem_iff_getElem?.mp hd
    obtain ⟨hlt, rfl⟩ := rngD_get hi
    have hil : i < ds.length := by omega
    rw [Int.zero_add]
    exact alike_call (d := ds[i]) (pa_consD (pv_op (ev_var rfl) (ev_var rfl) (rd_ixLs (atI_nat (List.getElem?_eq_getElem hil)))) (pa_consD (pv_op (ev_var rfl) (ev_var rfl) (rd_ixLs (atI_nat (List.getElem?_eq_getElem hil)))) ea_nil)) (hm _ (List.getElem_mem hil))
  | tuple ds =>
    have hs := Sm.tup hsm
    have hz : Pzs n ds := ⟨hnd, hcl, by rw [PyData.depth] at hdp; omega⟩
    have hm : ∀ x ∈ ds, AlkP n x := fun x hx => by
      have q := hz.mem x hx
      refine ⟨q.nd, q.cl, hs.2.2 x hx, ?_⟩
      rw [PyData.depth] at hdp
      have := PyData.depth_le_depthAll ds x hx
      omega
    refine bk_ifret (b := true) (Pt.to (pt_B (pv_isLT (ev_var rfl))) rfl) (fun _ => ?_) (fun e => nomatch e)
    refine bk_ifret (b := false) (Pt.to (pt_or (pt_notD (pt_B (pv_isLT (ev_var rfl)))) fun _ => pt_T (pv_neB (pv_is_list (ev_var rfl)) (pv_is_list (ev_var rfl)))) (by simp [isListD, isTupD])) (fun e => nomatch e) fun _ => ?_
    have lz : (rngD 0 ((ds.length : Nat) : Int).toNat).length < sizeLine := by rw [rngD_len]; exact hs.1
    have hsb := hs.2.1
    refine bk_retP (d := .bool true) (Pv.to (pv_and (pv_eqI (pv_cb (pa_consD (ev_var rfl) ea_nil) rda_lenT) (pv_cb (pa_consD (ev_var rfl) ea_nil) rda_lenT)) fun _ => pv_cb (pa_consD (Pv.to (pv_map (vs := [2]) (f := fun d ρ => ρ.set 2 (.dat d)) (fun _ => .bool true) (iw_rangeP (i := (ds.length : Int)) (pv_cb (pa_consD (ev_var rfl) ea_nil) rda_lenT) (by omega) fun d _ => tg_name) (fun d hd => ?_) lz) (congrArg PyData.list (rng_true _))) ea_nil) rda_all) (by rw [all_true]; simp)) rfl
    obtain ⟨i, hi⟩ := List.mem_iff_getElem?.mp hd
    obtain ⟨hlt, rfl⟩ := rngD_get hi
    have hil : i < ds.length := by omega
    rw [Int.zero_add]
    exact alike_call (d := ds[i]) (pa_consD (pv_op (ev_var rfl) (ev_var rfl) (rd_ixTs (atI_nat (List.getElem?_eq_getElem hil)))) (pa_consD (pv_op (ev_var rfl) (ev_var rfl) (rd_ixTs (atI_nat (List.getElem?_eq_getElem hil)))) ea_nil)) (hm _ (List.getElem_mem hil))
  | dict es => cases hnd
  | bool k =>
    refine bk_ifret (b := false) (Pt.to (pt_B (pv_isLT (ev_var rfl))) rfl) (fun e => nomatch e) fun _ => ?_
    refine bk_ifret (b := false) (Pt.to (pt_or (a := false) (Pt.to (pt_T (pv_isN2 (ev_var rfl))) rfl) fun _ => pt_B (pv_is_str (ev_var rfl))) rfl) (fun e => nomatch e) fun _ => ?_
    exact bk_retP (Pv.to (pv_and (pv_eqB (pv_is_bool (ev_var rfl)) (pv_is_bool (ev_var rfl))) fun _ => pv_and (pv_is_int (ev_var rfl)) fun _ => pv_eqB (ev_var rfl) (ev_var rfl)) (by cases k <;> rfl)) rfl
  | none =>
    refine bk_ifret (b := false) (Pt.to (pt_B (pv_isLT (ev_var rfl))) rfl) (fun e => nomatch e) fun _ => ?_
    refine bk_ifret (b := true) (Pt.to (pt_or (a := true) (b := false) (Pt.to (pt_T (pv_isN2 (ev_var rfl))) rfl) fun e => nomatch e) rfl) (fun _ => ?_) fun e => nomatch e
    exact bk_retP (Pv.to (pv_and (pv_eq (ev_var rfl) (ev_var rfl) (show okD PyData.none = true from rfl) (show okD PyData.none = true from rfl)) fun _ => pv_eqB (pv_isN (ev_var rfl)) (pv_isN (ev_var rfl))) (by simp [PyData.eqv])) rfl
  | int i =>
    refine bk_ifret (b := false) (Pt.to (pt_B (pv_isLT (ev_var rfl))) rfl) (fun e => nomatch e) fun _ => ?_
    refine bk_ifret (b := false) (Pt.to (pt_or (a := false) (Pt.to (pt_T (pv_isN2 (ev_var rfl))) rfl) fun _ => pt_B (pv_is_str (ev_var rfl))) rfl) (fun e => nomatch e) fun _ => ?_
    exact bk_retP (Pv.to (pv_and (pv_eqB (pv_is_bool (ev_var rfl)) (pv_is_bool (ev_var rfl))) fun _ => pv_and (pv_is_int (ev_var rfl)) fun _ => pv_eq (ev_var rfl) (ev_var rfl) (okD_int i) (okD_int i)) (by simp [PyData.eqv, isBoolD, isIntD])) rfl
  | str x =>
    refine bk_ifret (b := false) (Pt.to (pt_B (pv_isLT (ev_var rfl))) rfl) (fun e => nomatch e) fun _ => ?_
    refine bk_ifret (b := true) (Pt.to (pt_or (a := false) (Pt.to (pt_T (pv_isN2 (ev_var rfl))) rfl) fun _ => pt_B (pv_is_str (ev_var rfl))) rfl) (fun _ => ?_) fun e => nomatch e
    exact bk_retP (Pv.to (pv_and (pv_eq (ev_var rfl) (ev_var rfl) (Pz.okD (k := 0) ⟨rfl, hcl, by simp [PyData.depth]⟩ (by omega)) (Pz.okD (k := 0) ⟨rfl, hcl, by simp [PyData.depth]⟩ (by omega))) fun _ => pv_eqB (pv_isN (ev_var rfl)) (pv_isN (ev_var rfl))) (by simp [PyData.eqv])) rfl

def cD (hs : List Int) : PyData := .tuple (hs.map .int)
def tD (n : Int) (u : Str) : PyData := .tuple [.int n, .str u]
theorem lowS_lt {x : Str} {n : Nat} (h : lowS x = true) (hl : x.length ≤ n) : sgnS n x = true := by
  unfold sgnS
  rw [decide_eq_true hl, Bool.true_and]
  unfold lowS at h
  rw [List.all_eq_true] at h ⊢
  intro c hc
  have q := h c hc
  unfold lowC at q
  rw [Bool.and_eq_true, decide_eq_true_eq, decide_eq_true_eq] at q
  rw [decide_eq_true_eq]
  omega
theorem name_wz {x : Str} (h : nameB x = true) : Wz 82 0 (.str x) := by
  unfold nameB at h
  rw [Bool.and_eq_true, Bool.and_eq_true, Bool.and_eq_true, decide_eq_true_eq, decide_eq_true_eq] at h
  exact Wz.str (n := 8) (lowS_lt h.2.2.1 h.2.1)
theorem flen {told : List (Str × Str)} (h : told.length ≤ 12) (q : Str × Str → Bool) : (told.filter q).length ≤ 12 := Nat.le_trans (List.length_filter_le _ _) h
theorem map_getS {l : List Str} {k : Nat} {d : PyData} (h : (l.map PyData.str)[k]? = some d) : ∃ y, l[k]? = some y ∧ d = .str y := by
  rw [List.getElem?_map] at h
  cases q : l[k]? with
  | none => rw [q] at h; cases h
  | some y => rw [q] at h; exact ⟨y, rfl, (Option.some.inj h).symm⟩
def rowD (p : Str × Str) : PyData := .tuple [.str p.1, .str p.2]
def isBn (p : Str × Str) : Bool := decide (p.2 = "bench")
def caseV (hs : List Int) (told : List (Str × Str)) (ts : List (Int × Str)) : PyData :=
  .tuple [cD hs, .tuple ((told.filter fun p => !isBn p).map rowD), .tuple ((told.filter isBn).map fun p => .str p.1), .tuple (ts.map fun p => tD p.1 p.2)]
abbrev sd3L : List Str := ["asker", "answerer", "bench"]
def Sd3 (s : Str) : Prop := s = "asker" ∨ s = "answerer" ∨ s = "bench"
/-- a drawn case -/
structure CaseL (hs : List Int) (told : List (Str × Str)) (ts : List (Int × Str)) : Prop where
  hp : hs.Pairwise (· < ·)
  hb : ∀ n ∈ hs, 0 ≤ n ∧ n < 10 ^ 6
  hl : hs.length ≤ 6
  nm : ∀ p ∈ told, nameB p.1 = true
  sd : ∀ p ∈ told, Sd3 p.2
  up : UpS (told.map (·.1))
  s1 : ∃ p ∈ told, p.2 = "asker"
  s2 : ∃ p ∈ told, p.2 = "answerer"
  s3 : ∃ p ∈ told, p.2 = "bench"
  tl : told.length ≤ 12
  ul : ts.length = 4
  uu : ∀ p ∈ ts, 0 ≤ p.1 ∧ p.1 < 401 ∧ Unit2 p.2
theorem risD_of : ∀ ds : List PyData, ds.Pairwise (fun a b => ltD a b = true) → risD ds = true
  | [], _ => rfl
  | [_], _ => rfl
  | x :: y :: r, h => by
    have h1 := List.pairwise_cons.mp h
    show (ltD x y && risD (y :: r)) = true
    rw [h1.1 y List.mem_cons_self, risD_of (y :: r) h1.2]
    rfl
theorem up_ltD {ys : List Str} (h : UpS ys) : (ys.map PyData.str).Pairwise (fun a b => ltD a b = true) := List.pairwise_map.mpr (h.imp fun q => by
  show decide _ = true
  exact decide_eq_true q)
theorem ints_ltD {ns : List Int} (h : ns.Pairwise (· < ·)) : (ns.map PyData.int).Pairwise (fun a b => ltD a b = true) := List.pairwise_map.mpr (h.imp fun q => by
  show decide _ = true
  exact decide_eq_true q)
abbrev ptsT (told : List (Str × Str)) : List PyData := (told.filter fun p => !isBn p).map rowD
abbrev bnT (told : List (Str × Str)) : List PyData := (told.filter isBn).map fun p => .str p.1
theorem names_ok {ns : List Str} (h : ∀ x ∈ ns, nameB x = true) (u : UpS ns) : namesD (.tuple (ns.map .str)) = true := by
  show ((ns.map PyData.str).all nameD && risD (ns.map .str)) = true
  rw [risD_of _ (up_ltD u), Bool.and_true, List.all_map, List.all_eq_true]
  exact fun x hx => h x hx
theorem told_names {told : List (Str × Str)} : (ptsT told).map nmOf = ((told.filter fun p => !isBn p).map (·.1)).map .str := by
  rw [List.map_map, List.map_map]
  rfl
theorem told_row {p : Str × Str} (h1 : nameB p.1 = true) (h2 : Sd3 p.2) (h3 : isBn p = false) : partyD (rowD p) = true := by
  have h4 : p.2 = "asker" ∨ p.2 = "answerer" := by
    rcases h2 with h | h | h
    · exact .inl h
    · exact .inr h
    · unfold isBn at h3; rw [h] at h3; exact absurd h3 (by decide)
  show (nameB p.1 && (isStrD (.str p.2) && inSd (.str p.2))) = true
  rw [h1]
  rcases h4 with h | h <;> (rw [h]; decide)
section
variable {hs : List Int} {told : List (Str × Str)} {ts : List (Int × Str)} (L : CaseL hs told ts)
include L
theorem told_nd : (told.map (·.1)).Nodup := L.up.imp fun h z => by
  rw [z] at h
  exact absurd h (List.lt_irrefl _)
theorem pts_ok : partiesD (.tuple (ptsT told)) = true := by
  have hall : (ptsT told).all partyD = true := by
    rw [List.all_eq_true]
    intro x hx
    obtain ⟨p, hp, rfl⟩ := List.mem_map.mp hx
    obtain ⟨h1, h2⟩ := List.mem_filter.mp hp
    exact told_row (L.nm p h1) (L.sd p h1) (by simpa using h2)
  have hboth : bothD (ptsT told) = true := by
    have one : ∀ s : Str, s ≠ "bench" → (∃ p ∈ told, p.2 = s) → (((ptsT told).map sideOf).any fun y => PyData.eqv y (.str s)) = true := fun s hs ⟨p, hp, e⟩ => by
      refine List.any_eq_true.mpr ⟨.str s, List.mem_map.mpr ⟨rowD p, List.mem_map.mpr ⟨p, List.mem_filter.mpr ⟨hp, ?_⟩, rfl⟩, by rw [← e]; rfl⟩, by simp [PyData.eqv]⟩
      unfold isBn
      rw [e, decide_eq_false hs]
      rfl
    unfold bothD
    rw [List.all_cons, List.all_cons, List.all_nil, one "asker" (by decide) L.s1, one "answerer" (by decide) L.s2]
    rfl
  have hris : risD ((ptsT told).map nmOf) = true := by
    rw [told_names]
    exact risD_of _ (up_ltD (L.up.sublist ((List.filter_sublist).map _)))
  show ((ptsT told).all partyD && (bothD (ptsT told) && risD ((ptsT told).map nmOf))) = true
  rw [hall, hboth, hris]
  rfl
theorem bns_ok : namesD (.tuple (bnT told)) = true := by
  have e : bnT told = ((told.filter isBn).map (·.1)).map .str := by rw [List.map_map]; rfl
  rw [e]
  refine names_ok (fun x hx => ?_) (L.up.sublist ((List.filter_sublist).map _))
  obtain ⟨p, hp, rfl⟩ := List.mem_map.mp hx
  exact L.nm p (List.mem_filter.mp hp).1
theorem shared_no : (sharedD (ptsT told) (bnT told)).isEmpty = true := by
  unfold sharedD
  rw [List.isEmpty_iff, List.map_eq_nil_iff, List.filter_eq_nil_iff]
  intro x hx hq
  obtain ⟨p, hp, rfl⟩ := List.mem_map.mp hx
  obtain ⟨y, hy, e⟩ := List.any_eq_true.mp hq
  obtain ⟨q, hq', rfl⟩ := List.mem_map.mp hy
  have e2 : q.1 = p.1 := by simpa [PyData.eqv, nmOf, rowD] using e
  obtain ⟨h1, h2⟩ := List.mem_filter.mp hp
  obtain ⟨h3, h4⟩ := List.mem_filter.mp hq'
  have e3 : q = p := nodup_injS (told_nd L) q h3 p h1 e2
  rw [e3] at h4
  rw [h4] at h2
  cases h2
theorem tms_ok : termsD (.tuple (ts.map fun p => tD p.1 p.2)) = true := by
  show (decide ((ts.map fun p => tD p.1 p.2).length = 4) && (ts.map fun p => tD p.1 p.2).all isTermD) = true
  rw [List.length_map, L.ul, decide_eq_true rfl, Bool.true_and, List.all_map, List.all_eq_true]
  intro p hp
  obtain ⟨h0, _, h2⟩ := L.uu p hp
  show (isWh (.int p.1) 0 && (isStrD (.str p.2) && inU (.str p.2))) = true
  have h3 : isWh (.int p.1) 0 = true := by simp [isWh, isIntD, isBoolD, geD, h0]
  rw [h3]
  rcases h2 with h | h <;> (rw [h]; decide)
theorem cal_ok : calD (cD hs) = true := by
  show ((hs.map PyData.int).all dayD && risD (hs.map .int)) = true
  rw [risD_of _ (ints_ltD L.hp), Bool.and_true, List.all_map, List.all_eq_true]
  intro n hn
  show dayD (.int n) = true
  rw [dayD_int]
  exact decide_eq_true (L.hb n hn).1
theorem case_ok : caseD (caseV hs told ts) = true := by
  show (calD (cD hs) && (partiesD (.tuple (ptsT told)) && (namesD (.tuple (bnT told)) && (decide (0 < (bnT told).length) && ((sharedD (ptsT told) (bnT told)).isEmpty && termsD (.tuple (ts.map fun p => tD p.1 p.2))))))) = true
  rw [cal_ok L, pts_ok L, bns_ok L, shared_no L, tms_ok L]
  have : 0 < (bnT told).length := by
    obtain ⟨p, hp, ep⟩ := L.s3
    have m : PyData.str p.1 ∈ bnT told := List.mem_map.mpr ⟨p, List.mem_filter.mpr ⟨hp, by unfold isBn; rw [ep]; decide⟩, rfl⟩
    exact List.length_pos_of_mem m
  rw [decide_eq_true this]
  rfl
end
def okW (s k : Nat) (d : PyData) : Bool := goodA d && (decide (szD d ≤ s) && decide (PyData.depth d ≤ k))
theorem okW_wz {s k : Nat} {d : PyData} (h : okW s k d = true) : Wz s k d := by
  unfold okW at h
  rw [Bool.and_eq_true, Bool.and_eq_true, decide_eq_true_eq, decide_eq_true_eq] at h
  exact ⟨h.1, h.2.1, h.2.2⟩
theorem side_wz {s : Str} (h : Sd3 s) : Wz 92 0 (.str s) := by
  rcases h with rfl | rfl | rfl <;> exact (okW_wz (by decide +kernel))
theorem unit_wz {s : Str} (h : Unit2 s) : Wz 92 0 (.str s) := by
  rcases h with rfl | rfl <;> exact (okW_wz (by decide +kernel))
theorem row_wz {p : Str × Str} (h1 : nameB p.1 = true) (h2 : Sd3 p.2) : Wz 181 1 (rowD p) := ((Ws.cons (name_wz h1) (Ws.one ((side_wz h2)))).tup).mono
section
variable {hs : List Int} {told : List (Str × Str)} {ts : List (Int × Str)} (L : CaseL hs told ts)
include L
theorem part0 : Ws 12000 0 (hs.map .int) := (Ws.all (s := 1921) (k := 0) fun x hx => by
  obtain ⟨n, hn, rfl⟩ := List.mem_map.mp hx
  have := L.hb n hn
  exact Wz.int (by omega) (by omega)).mono (by rw [List.length_map]; have := L.hl; omega) (by omega)
theorem part1 : Ws 3000 1 ((told.filter fun p => !isBn p).map rowD) := (Ws.all (s := 181) (k := 1) fun x hx => by
  obtain ⟨p, hp, rfl⟩ := List.mem_map.mp hx
  have hp' := (List.mem_filter.mp hp).1
  exact row_wz (L.nm p hp') (L.sd p hp')).mono (by rw [List.length_map]; have := flen L.tl fun p => !isBn p; omega) (by omega)
theorem part2 : Ws 2000 0 ((told.filter isBn).map fun p => .str p.1) := (Ws.all (s := 82) (k := 0) fun x hx => by
  obtain ⟨p, hp, rfl⟩ := List.mem_map.mp hx
  exact name_wz (L.nm p (List.mem_filter.mp hp).1)).mono (by rw [List.length_map]; have := flen L.tl isBn; omega) (by omega)
theorem span_wz : ∀ p ∈ ts, Wz 2030 1 (tD p.1 p.2) := fun p hp => by
  obtain ⟨h0, h1, h2⟩ := L.uu p hp
  exact (Ws.cons (Wz.int (by omega) (by omega)) (Ws.one (unit_wz h2))).tup.mono
theorem part3 : Ws 8200 1 (ts.map fun p => tD p.1 p.2) := (Ws.all (s := 2030) (k := 1) fun x hx => by
  obtain ⟨p, hp, rfl⟩ := List.mem_map.mp hx
  exact span_wz L p hp).mono (by rw [List.length_map, L.ul]; omega) (by omega)
theorem case_wz : Wz 28000 3 (caseV hs told ts) := (Ws.cons ((part0 L).tup.mono (t := 12003) (j := 2)) (Ws.cons ((part1 L).tup.mono (t := 3003) (j := 2)) (Ws.cons ((part2 L).tup.mono (t := 2003) (j := 2)) (Ws.one ((part3 L).tup.mono (t := 8203) (j := 2)))))).tup.mono
end

def toldOf (ys pt : List Str) (sh : Int) : List (Str × Str) := ys.zipIdx.map fun p => (p.1, pt.getD (((p.2 : Int) + sh) % (ys.length : Int)).toNat "")
theorem told_fst (ys pt : List Str) (sh : Int) : (toldOf ys pt sh).map (·.1) = ys := by
  unfold toldOf
  rw [List.map_map]
  exact List.zipIdx_map_fst 0 ys
theorem told_get {ys pt : List Str} {sh : Int} {k : Nat} (hk : k < ys.length) : (ys[k], pt.getD (((k : Int) + sh) % (ys.length : Int)).toNat "") ∈ toldOf ys pt sh := by
  unfold toldOf
  refine List.mem_map.mpr ⟨(ys[k], k), ?_, rfl⟩
  exact List.mem_zipIdx_iff_getElem?.mpr (List.getElem?_eq_getElem hk)
theorem told_case {ys pt : List Str} {sh : Int} {hs : List Int} {ts : List (Int × Str)} (hy : NmsOk ys) (h3 : 3 ≤ ys.length) (hl : (sd3L ++ pt).length = ys.length) (hpt : ∀ x ∈ pt, Sd3 x) (h0 : 0 ≤ sh) (h1 : sh < ys.length)
    (hp : hs.Pairwise (· < ·)) (hb : ∀ n ∈ hs, 0 ≤ n ∧ n < 10 ^ 6) (hl6 : hs.length ≤ 6) (ul : ts.length = 4) (uu : ∀ p ∈ ts, 0 ≤ p.1 ∧ p.1 < 401 ∧ Unit2 p.2) : CaseL hs (toldOf ys (sd3L ++ pt) sh) ts := by
  have all : ∀ x ∈ (sd3L ++ pt), Sd3 x := fun x hx => by
    rcases List.mem_append.mp hx with q | q
    · simp only [List.mem_cons, List.not_mem_nil, or_false] at q
      exact q
    · exact hpt x q
  have n0 : (0 : Int) < ys.length := by omega
  have one : ∀ j : Nat, j < ys.length → ∃ p ∈ toldOf ys (sd3L ++ pt) sh, p.2 = (sd3L ++ pt).getD j "" := fun j hj => by
    obtain ⟨k, hk, e⟩ := shift_at hj h0 h1
    exact ⟨_, told_get hk, by rw [e]; rfl⟩
  refine ⟨hp, hb, hl6, fun p hq => ?_, fun p hq => ?_, by rw [told_fst]; exact hy.up, one 0 (by omega), one 1 (by omega), one 2 (by omega), by unfold toldOf; rw [List.length_map, List.length_zipIdx]; exact hy.h9, ul, uu⟩
  · have : p.1 ∈ (toldOf ys (sd3L ++ pt) sh).map (·.1) := List.mem_map.mpr ⟨p, hq, rfl⟩
    rw [told_fst] at this
    exact hy.nm _ this
  · obtain ⟨q, hq', rfl⟩ := List.mem_map.mp hq
    have m1 := Int.emod_nonneg ((q.2 : Int) + sh) (b := (ys.length : Int)) (by omega)
    have m2 := Int.emod_lt_of_pos ((q.2 : Int) + sh) n0
    have lt : (((q.2 : Int) + sh) % (ys.length : Int)).toNat < (sd3L ++ pt).length := by omega
    show Sd3 ((sd3L ++ pt).getD _ "")
    rw [List.getD_eq_getElem?_getD, List.getElem?_eq_getElem lt]
    exact all _ (List.getElem_mem lt)
theorem told_rng (ys pt : List Str) (sh : Int) : (rngD 0 ys.length).map (fun d => rowD (ys.getD (natV d) "", pt.getD (((natV d : Int) + sh) % (ys.length : Int)).toNat "")) = (toldOf ys pt sh).map rowD := by
  unfold rngD toldOf
  rw [List.map_map, List.map_map]
  refine List.ext_getElem? fun i => ?_
  rw [List.getElem?_map, List.getElem?_map]
  by_cases h : i < ys.length
  · rw [List.getElem?_range h, List.getElem?_zipIdx, List.getElem?_eq_getElem h]
    simp only [Option.map_some, Function.comp_apply, natV, Int.zero_add, Int.toNat_natCast, Nat.zero_add]
    rw [List.getD_eq_getElem?_getD, List.getElem?_eq_getElem h]
    rfl
  · rw [List.getElem?_eq_none (by rw [List.length_range]; omega), List.getElem?_eq_none (by rw [List.length_zipIdx]; omega)]
    rfl
theorem nms0 : NmsOk ["ab", "abc", "b"] := ⟨by decide, by decide +kernel, by decide +kernel⟩
abbrev sp_law_case (K : PySem.W.Frag) : Sp := spD K 1 220 (fun es => es = [.bag]) (fun _ r => ∃ hs told ts, r = caseV hs told ts ∧ CaseL hs told ts)
theorem ok_law_case {P : Program} {w : World} {K : PySem.W.Frag} {mg : Str → Option Value} {base : Heap} (T : Tx K mg) : FnG P w K mg base 4 T.a_law_case T.d_law_case ["bag"] (sp_law_case K) := by
  have H_law_dip := ok_law_dip (P := P) (w := w) (base := base) T
  have H_law_names := ok_law_names (P := P) (w := w) (base := base) T
  have H_law_spans := ok_law_spans (P := P) (w := w) (base := base) T
  refine fnG_ok T.F_law_case sc_law_case (fun cdv A outer s H E hr hc => ⟨_, (pss_cons (ps_set (i := 1) sc_law_case.nd rfl (Or.inl rfl) (pe_lst pa_nil))
      (pss_cons (ps_for PassesOwn.never rfl (pi_range1 (by rfl) T.N_range (pa_cons (pe_callG H_law_dip (hr.mono (by decide)) hc (by rfl) T.G_law_dip T.F_law_dip.kp T.B_law_dip (pa_cons (pv 0) (pa_cons pe_int pa_nil))) pa_nil)) (pg_name (i := 2) sc_law_case.nd rfl (Or.inl rfl))
      (pss_one (ps_expr (pe_bm PySem.F.plainAttrs_list PySem.F.slot_list_append PySem.F.type_list_append mt_append (pv 1) (pa_cons (pe_op (op_addK (K := K) rfl) (pe_op (op_addK (K := K) rfl) (pe_ix (ix_K (K := K) rfl) (pe_op (op_addK (K := K) rfl) (pv 1) (pe_lst (pa_cons (pe_un un_neg pe_int) pa_nil))) (pe_op op_sub (pe_callB (call_lenK (K := K) rfl) (by rfl) T.N_len (by decide +kernel) (pa_cons (pv 1) pa_nil)) pe_int) (fun _ _ => rfl)) pe_int) (pe_callG H_law_dip (hr.mono (by decide)) hc (by rfl) T.G_law_dip T.F_law_dip.kp T.B_law_dip (pa_cons (pv 0) (pa_cons (pe_ix (ix_K (K := K) rfl) (pe_lst (pa_cons pe_int (pa_cons pe_int pa_nil))) (pe_callG H_law_dip (hr.mono (by decide)) hc (by rfl) T.G_law_dip T.F_law_dip.kp T.B_law_dip (pa_cons (pv 0) (pa_cons pe_int pa_nil))) (fun _ _ => rfl)) pa_nil)))) pa_nil)))))
      (pss_cons (ps_set (i := 3) sc_law_case.nd rfl (Or.inr rfl) (pe_callG H_law_names hr hc (by rfl) T.G_law_names T.F_law_names.kp T.B_law_names (pa_cons (pv 0) (pa_cons (pe_op (op_addK (K := K) rfl) pe_int (pe_callG H_law_dip (hr.mono (by decide)) hc (by rfl) T.G_law_dip T.F_law_dip.kp T.B_law_dip (pa_cons (pv 0) (pa_cons pe_int pa_nil)))) pa_nil))))
      (pss_cons (ps_if (pt_cmpR op_ltA (pe_callB (call_lenK (K := K) rfl) (by rfl) T.N_len (by decide +kernel) (pa_cons (pv 3) pa_nil)) pe_int (nomark _))
      (pss_one (ps_set (i := 3) sc_law_case.nd rfl (Or.inr rfl) (pe_tup (pa_cons pe_str (pa_cons pe_str (pa_cons pe_str pa_nil)))))) pss_nil)
      (pss_cons (ps_set (i := 4) sc_law_case.nd rfl (Or.inr rfl) (pe_callG H_law_dip (hr.mono (by decide)) hc (by rfl) T.G_law_dip T.F_law_dip.kp T.B_law_dip (pa_cons (pv 0) (pa_cons (pe_callB (call_lenK (K := K) rfl) (by rfl) T.N_len (by decide +kernel) (pa_cons (pv 3) pa_nil)) pa_nil))))
      (pss_cons (ps_set (i := 5) sc_law_case.nd rfl (Or.inr rfl) (pe_op (op_addK (K := K) rfl) (pe_lst (pa_cons pe_str (pa_cons pe_str (pa_cons pe_str pa_nil)))) (pe_lc (own := [("k", 2)]) (g := (gName 2)) rfl sc_law_case.nd (pi_seqK (K := K) rfl (pe_slice (sl_K (K := K) rfl) (pv 3) (po_some pe_int) po_none)) (blkOk_by (own := [("k", 2)]) (N := ["bag", "days", "k", "names", "shift", "roles", "parted_so", "parties", "row", "name", "role"]) (sc := defScope s_law_case) (by decide +kernel)) (fun _ _ _ _ _ => (pg_name (i := 2) sc_law_case.nd rfl (Or.inl rfl))) (fun _ _ _ _ _ => pts_nil) (fun _ _ _ _ _ => (pe_ix (ix_K (K := K) rfl) (pe_lst (pa_cons pe_str (pa_cons pe_str (pa_cons pe_str pa_nil)))) (pe_callG H_law_dip (hr.mono (by decide)) hc (by rfl) T.G_law_dip T.F_law_dip.kp T.B_law_dip (pa_cons (pv 0) (pa_cons pe_int pa_nil))) (fun _ _ => rfl))))))
      (pss_cons (ps_setLc (i := 6) (own := [("k", 2)]) (g := (gName 2)) rfl sc_law_case.nd rfl rfl (sw_true rfl rfl rfl (by decide +kernel)) (pi_range1 (by rfl) T.N_range (pa_cons (pe_callB (call_lenK (K := K) rfl) (by rfl) T.N_len (by decide +kernel) (pa_cons (pv 3) pa_nil)) pa_nil)) (blkOk_by (own := [("k", 2)]) (N := ["bag", "days", "k", "names", "shift", "roles", "parted_so", "parties", "row", "name", "role"]) (sc := defScope s_law_case) (by decide +kernel)) (fun _ _ _ _ _ => (pg_name (i := 2) sc_law_case.nd rfl (Or.inl rfl))) (fun _ _ _ _ _ => pts_nil) (fun _ _ _ _ _ => (pe_tup (pa_cons (pe_ix (ix_K (K := K) rfl) (pv 3) (pv 2) (fun _ _ => rfl)) (pa_cons (pe_ix (ix_K (K := K) rfl) (pv 5) (pe_op op_mod (pe_op (op_addK (K := K) rfl) (pv 2) (pv 4)) (pe_callB (call_lenK (K := K) rfl) (by rfl) T.N_len (by decide +kernel) (pa_cons (pv 3) pa_nil))) (fun _ _ => rfl)) pa_nil)))))
      (pss_cons (ps_set (i := 7) sc_law_case.nd rfl (Or.inl rfl) (pe_callTy (call_tupK (K := K) rfl) (by rfl) T.N_tuple (by decide +kernel) (pa_cons (pe_lc (own := [("row", 8)]) (g := (gName 8)) rfl sc_law_case.nd (pi_seqK (K := K) rfl (pv 6)) (blkOk_by (own := [("row", 8)]) (N := ["bag", "days", "k", "names", "shift", "roles", "parted_so", "parties", "row", "name", "role"]) (sc := defScope s_law_case) (by decide +kernel)) (fun _ _ _ _ _ => (pg_name (i := 8) sc_law_case.nd rfl (Or.inl rfl))) (fun _ _ _ _ _ => (pts_one (pt_cmpR (by refine op_neK (K := K) rfl ?_; exact hr.units) (pe_ix (ix_K (K := K) rfl) (pv 8) pe_int (fun _ _ => rfl)) pe_str (nomark _)))) (fun _ _ _ _ _ => (pv 8))) pa_nil)))
      (pss_one (ps_ret (pe_tup (pa_cons (pe_callTy (call_tupK (K := K) rfl) (by rfl) T.N_tuple (by decide +kernel) (pa_cons (pv 1) pa_nil)) (pa_cons (pv 7) (pa_cons (pe_callTy (call_tupK (K := K) rfl) (by rfl) T.N_tuple (by decide +kernel) (pa_cons (pe_lc (own := [("name", 9), ("role", 10)]) (g := (gTup K 2 (gCons (gName 9) (gCons (gName 10) gNil)))) rfl sc_law_case.nd (pi_seqK (K := K) rfl (pv 6)) (blkOk_by (own := [("name", 9), ("role", 10)]) (N := ["bag", "days", "k", "names", "shift", "roles", "parted_so", "parties", "row", "name", "role"]) (sc := defScope s_law_case) (by decide +kernel)) (fun _ _ _ _ _ => (pg_tup (by rfl) (pgs_cons (pg_name (i := 9) sc_law_case.nd rfl (Or.inl rfl)) (pgs_cons (pg_name (i := 10) sc_law_case.nd rfl (Or.inl rfl)) pgs_nil)))) (fun _ _ _ _ _ => (pts_one (pt_cmpR (by refine op_eqK (K := K) rfl ?_; exact hr.units) (pv 10) pe_str (nomark _)))) (fun _ _ _ _ _ => (pv 9))) pa_nil)) (pa_cons (pe_callG H_law_spans (hr.mono (by decide)) hc (by rfl) T.G_law_spans T.F_law_spans.kp T.B_law_spans (pa_cons (pv 0) pa_nil)) pa_nil))))))))))))))), ?_⟩)
  rintro b I es hl rfl
  refine bk_seq (C1 := 0) (C2 := 220) (N := fun ρ' => ρ' = [.bag, .own [], .any, .any, .any, .any, .any, .any, .any, .any, .any]) (bk_own (ds := []) ea_nil (by decide) rfl) ?_ (by omega)
  rintro ρ' rfl
  refine bk_seq (C1 := 13) (C2 := 207) (N := fun ρ' => ∃ (ns : List Int) (e2 : Ent), ρ' = [.bag, .own (ns.map .int), e2, .any, .any, .any, .any, .any, .any, .any, .any] ∧ ns.Pairwise (· < ·) ∧ ns.length ≤ 6 ∧ ∀ n ∈ ns, 0 ≤ n ∧ n ≤ 20000) ?_ ?_ (by omega)
  · refine bk_for (m := 6) (C0 := 1) (C1 := 2) (f := fun d ρ => ρ.set 2 (.dat d)) (fun _ k ρ' => ∃ (ns : List Int) (e2 : Ent), ρ' = [.bag, .own (ns.map .int), e2, .any, .any, .any, .any, .any, .any, .any, .any] ∧ ns.Pairwise (· < ·) ∧ ns.length = k ∧ ∀ n ∈ ns, 0 ≤ n ∧ n ≤ 3001 * k)
      (iw_range1 (Pn := fun i => 0 ≤ i ∧ i < 7) (dip_in rfl ev_int (by decide) (by decide) fun r a b => ⟨a, b⟩) (fun i hi => by omega) fun i _ d _ => tg_name) (fun is ⟨i, hi, e⟩ => by subst e; rw [rngD_len]; omega) (fun is _ => ⟨[], _, rfl, .nil, rfl, fun _ h => nomatch h⟩) ?_ ?_ (by omega)
    · rintro is k d ρ' ⟨i, hi, rfl⟩ hk ⟨ns, e2, rfl, hp, hlen, hn⟩
      have hk6 : k < 6 := by have := (rngD_get hk).1; omega
      have hlb := last_bd (m := 3001 * k) hn (by omega)
      refine bk_append (ds := ns.map .int) (P := fun d => ∃ y : Int, d = .int y ∧ lastOr ns < y ∧ y ≤ lastOr ns + 3001) rfl (evI_add (C1 := 0) (C2 := 2) (R1 := fun x => x = lastOr ns + 1) (R2 := fun x => 0 ≤ x ∧ x < 3000) (evI_of (pv_addI (pv_op (pv_ownCat rfl (pv_lst (ds := [.int (-1)]) (pa_consD (pv_neg ev_int) ea_nil)) ?_) (pv_ii (Pv.to (pv_ownLen rfl) (by rw [List.length_map])) ev_int) (rd_ixLs (last_at ns))) ev_int) rfl) (dipE (C := 1) (Rm := fun m => 2 ≤ m ∧ m ≤ 3000) rfl (ev_pick (C1 := 0) (C2 := 1) (m := 2) (ev_menu (by decide) (ea_draws (C1 := 0) (C2 := 0) (evI_of ev_int (by decide)) (ea_draws (C1 := 0) (C2 := 0) (evI_of ev_int (by decide)) ea_drawn0 (by omega)) (by omega))) (dip_in rfl ev_int (by decide) (by decide) fun r a b => ⟨a, b⟩) (by omega)) (fun m h => by omega) (fun m r h a b => by omega)) (fun i j h1 h2 => by omega) (by omega)) (by rw [List.length_map]; omega) ?_
      · rw [List.length_map]
        have s : (8 : Nat) ≤ sizeLine := by decide
        simp only [List.length_singleton]
        omega
      · rintro d2 ⟨y, rfl, hy0, hy1⟩
        refine ⟨ns ++ [y], _, by rw [List.map_append]; rfl, List.pairwise_append.mpr ⟨hp, List.pairwise_singleton _ _, fun a ha z hz => ?_⟩, by rw [List.length_append, hlen]; rfl, fun n hn' => ?_⟩
        · rw [List.mem_singleton.mp hz]
          have := last_up hp a ha
          omega
        · rcases List.mem_append.mp hn' with q | q
          · have := hn n q; omega
          · rw [List.mem_singleton.mp q]; omega
    · rintro is ρ' ⟨i, hi, rfl⟩ ⟨ns, e2, rfl, hp, hlen, hn⟩
      rw [rngD_len] at hlen
      exact ⟨ns, e2, rfl, hp, by omega, fun n q => by have := hn n q; rw [rngD_len] at this; omega⟩
  rintro ρ' ⟨ns, e2, rfl, hp, hl6, hn⟩
  refine bk_freeze (i := 1) (ds := ns.map .int) rfl ?_
  refine bk_let (C1 := 145) (C2 := 62) (P := fun d => ∃ ys : List Str, d = .tuple (ys.map .str) ∧ NmsOk ys) (ev_call (C1 := 1) (C2 := 144) (Pe := fun es => ∃ m : Int, es = [.bag, .dat (.int m)] ∧ 3 ≤ m ∧ m ≤ 12) (ea_bag rfl (ea_cons (C1 := 1) (C2 := 0) (P1 := fun d => ∃ x : Int, d = .int x ∧ 3 ≤ x ∧ x ≤ 12) (evI_add (C1 := 0) (C2 := 1) (R1 := fun x => x = 3) (R2 := fun x => 0 ≤ x ∧ x < 10) (evI_of ev_int rfl) (dip_in (R := fun x => 0 ≤ x ∧ x < 10) rfl ev_int (by decide) (by decide) fun r a b => ⟨a, b⟩) (fun i j h1 h2 => by omega) (by omega)) (P2 := fun _ es => es = []) (fun _ _ => ea_nil) (P := fun es => ∃ m : Int, es = [.dat (.int m)] ∧ 3 ≤ m ∧ m ≤ 12) (fun d es ⟨x, e, h⟩ e2 => ⟨x, by rw [e, e2], h⟩) (by omega)) fun es ⟨m, e, h⟩ => ⟨m, by rw [e], h⟩) (fun es ⟨m, e, h1, h2⟩ => by subst e; exact ⟨rfl, m, rfl, h1, h2⟩) (fun es d e q => q) (by omega)) ?_ (by omega)
  rintro d ⟨zs, rfl, hz⟩
  refine bk_seq (C1 := 0) (C2 := 62) (N := fun ρ' => ∃ ys : List Str, ρ' = [.bag, .dat (.list (ns.map .int)), e2, .dat (.tuple (ys.map .str)), .any, .any, .any, .any, .any, .any, .any] ∧ NmsOk ys ∧ 3 ≤ ys.length) ?_ ?_ (by omega)
  · refine bk_ifP (b := decide ((zs.length : Int) < 3)) (pt_T (pv_ltI (Pv.to (pv_cb (pa_consD (ev_var rfl) ea_nil) rda_lenT) (by rw [List.length_map])) ev_int)) (fun h => ?_) fun h => bk_next ⟨zs, rfl, hz, by rw [decide_eq_false_iff_not] at h; omega⟩
    exact bk_set (pv_tup (ds := [.str "ab", .str "abc", .str "b"]) (pa_consD ev_str (pa_consD ev_str (pa_consD ev_str ea_nil)))) fun d e => by subst e; exact ⟨_, rfl, nms0, by decide⟩
  rintro ρ' ⟨ys, rfl, hy, h3⟩
  have h9 := hy.h9
  refine bk_let (C1 := 1) (C2 := 61) (P := fun d => ∃ x : Int, d = .int x ∧ 0 ≤ x ∧ x < ys.length) (dip_in (m := ys.length) rfl (Pv.to (pv_cb (pa_consD (ev_var rfl) ea_nil) rda_lenT) (by rw [List.length_map])) (by omega) (by omega) fun r a b => ⟨a, b⟩) ?_ (by omega)
  rintro d ⟨sh, rfl, hs0, hs1⟩
  refine bk_let (C1 := 12) (C2 := 49) (P := fun d => ∃ pt : List Str, d = .list ((sd3L ++ pt).map .str) ∧ (sd3L ++ pt).length = ys.length ∧ ∀ x ∈ pt, Sd3 x) ((ev_addL (C1 := 0) (C2 := 12) (P1 := fun ds => ds = [.str "asker", .str "answerer", .str "bench"]) (P2 := fun ds => ∃ pt : List Str, ds = pt.map .str ∧ pt.length = ys.length - 3 ∧ ∀ x ∈ pt, Sd3 x) ((pv_lst (ds := [.str "asker", .str "answerer", .str "bench"]) (pa_consD ev_str (pa_consD ev_str (pa_consD ev_str ea_nil)))).imp (Nat.le_refl _) fun d e => ⟨_, e, rfl⟩) (ev_draws (C0 := 0) (Ce := 1) (m := 12) (vs := [2]) (Pi := fun is => is = (ys.map PyData.str).drop 3) (Pe := fun d => ∃ x, d = .str x ∧ Sd3 x) (f := fun d ρ => ρ.set 2 (.dat d)) (iw_st ((pv_cutT (ev_var rfl) (pp_some ev_int) pp_no).imp (Nat.le_refl _) fun d e => ⟨_, e, cut_from (xs := ys.map PyData.str) 3⟩) fun _ _ d _ => tg_name) (fun is e => by subst e; rw [List.length_drop, List.length_map]; omega) (by decide) (fun is e d hd => ?_) (by omega) (fun is os e hlen hP => ?_)) (fun ds es e1 ⟨pt, e2, e3, _⟩ => ?_) (by omega)).imp (Nat.le_refl _) ?_) ?_ (by omega)
  · refine (ev_oneOf (C := 1) (ds := [.str "asker", .str "answerer", .str "bench"]) (pv_lst (ds := [.str "asker", .str "answerer", .str "bench"]) (pa_consD ev_str (pa_consD ev_str (pa_consD ev_str ea_nil)))) (dip_in rfl ev_int (by decide) (by decide) fun r a b => ⟨a, b⟩)).imp (Nat.le_refl _) fun d hd => ?_
    simp only [List.mem_cons, List.not_mem_nil, or_false] at hd
    rcases hd with rfl | rfl | rfl
    · exact ⟨_, rfl, .inl rfl⟩
    · exact ⟨_, rfl, .inr (.inl rfl)⟩
    · exact ⟨_, rfl, .inr (.inr rfl)⟩
  · obtain ⟨ss, e1, e2, e3⟩ := strs_of hP
    subst e
    rw [List.length_drop, List.length_map] at hlen
    exact ⟨os, rfl, ss, e1, by omega, e3⟩
  · rw [e1, e2, List.length_map]; simp only [List.length_cons, List.length_nil]; omega
  · rintro d ⟨ds, rfl, xs, zs', rfl, rfl, pt, rfl, hpl, hpt⟩
    exact ⟨pt, rfl, by rw [List.length_append, hpl]; simp only [List.length_cons, List.length_nil]; omega, hpt⟩
  rintro d ⟨pt, rfl, hpl, hpt⟩
  have n0 : (0 : Int) < ys.length := by omega
  have hss : (1000 : Nat) < sizeLine := by decide
  have etn : ((ys.length : Nat) : Int).toNat = ys.length := by omega
  refine bk_letP (d := .list ((toldOf ys (sd3L ++ pt) sh).map rowD)) (Pv.to (pv_map (vs := [2]) (tgs := [2]) (f := fun d ρ => ρ.set 2 (.dat d)) (items := rngD 0 ((ys.length : Nat) : Int).toNat) (fun d => rowD (ys.getD (natV d) "", (sd3L ++ pt).getD (((natV d : Int) + sh) % (ys.length : Int)).toNat "")) (iw_rangeP (i := (ys.length : Int)) (Pv.to (pv_cb (pa_consD (ev_var rfl) ea_nil) rda_lenT) (by rw [List.length_map])) (by omega) fun d _ => tg_name) (fun d hd => ?_) (by rw [rngD_len]; omega)) (by rw [etn, told_rng])) ?_
  · obtain ⟨i, hi⟩ := List.mem_iff_getElem?.mp hd
    obtain ⟨hlt, rfl⟩ := rngD_get hi
    rw [etn] at hlt
    rw [Int.zero_add]
    have m1 := Int.emod_nonneg ((i : Int) + sh) (b := (ys.length : Int)) (by omega)
    have m2 := Int.emod_lt_of_pos ((i : Int) + sh) n0
    have lt : (((i : Int) + sh) % (ys.length : Int)).toNat < (sd3L ++ pt).length := by omega
    have ei : natV (.int (i : Nat)) = i := by show ((i : Nat) : Int).toNat = i; omega
    rw [ei]
    refine pv_tup (ds := [.str (ys.getD i ""), .str ((sd3L ++ pt).getD (((i : Int) + sh) % (ys.length : Int)).toNat "")]) (pa_consD (pv_op (ev_var rfl) (ev_var rfl) (rd_ixTs (atI_nat (j := i) ?_))) (pa_consD (pv_ixL (ev_var rfl) (pv_iiC (pv_addI (i := (i : Int)) (ev_var rfl) (ev_var rfl)) (Pv.to (pv_cb (pa_consD (ev_var rfl) ea_nil) rda_lenT) (by rw [List.length_map])) n0) ?_) ea_nil))
    · rw [List.getElem?_map, List.getElem?_eq_getElem hlt, List.getD_eq_getElem?_getD, List.getElem?_eq_getElem hlt]
      rfl
    · have q := atI_nat (xs := (sd3L ++ pt).map PyData.str) (j := (((i : Int) + sh) % (ys.length : Int)).toNat) (by rw [List.getElem?_map, List.getElem?_eq_getElem lt]; rfl)
      rw [List.getD_eq_getElem?_getD, List.getElem?_eq_getElem lt]
      rwa [show (((((i : Int) + sh) % (ys.length : Int)).toNat : Nat) : Int) = ((i : Int) + sh) % (ys.length : Int) by omega] at q
  have tlen : (toldOf ys (sd3L ++ pt) sh).length = ys.length := by unfold toldOf; rw [List.length_map, List.length_zipIdx]
  generalize htold : toldOf ys (sd3L ++ pt) sh = told at tlen
  have zt : (told.map rowD).length < sizeLine := by rw [List.length_map, tlen]; omega
  have rows : ∀ d ∈ told.map rowD, ∃ p, d = rowD p := fun d hd => by
    obtain ⟨p, _, e⟩ := List.mem_map.mp hd
    exact ⟨p, e.symm⟩
  refine bk_letP (d := .tuple ((told.filter fun p => !isBn p).map rowD)) (pv_cb (pa_consD (Pv.to (pv_filt (vs := [8]) (tgs := [8]) (items := told.map rowD) (f := fun d ρ => ρ.set 8 (.dat d)) (fun d => match d with | .tuple [_, .str s] => !decide (s = "bench") | _ => false) id (iw_sl (Pi := fun x => x = told.map rowD) ((ev_var rfl).imp (Nat.le_refl _) fun d e => ⟨_, e, rfl⟩) fun is e d hd => tg_name) (fun d hd => ?_) (fun d hd _ => ev_var rfl) zt) ?_) ea_nil) rda_tupL) ?_
  · obtain ⟨p, rfl⟩ := rows d hd
    exact pt_T (pv_neS (pv_op (ev_var rfl) ev_int (rd_ixTs (atI_nat (j := 1) rfl))) ev_str)
  · rw [List.map_id, List.filter_map]
    rfl
  refine bk_ret (P := fun r => ∃ hs told ts, r = caseV hs told ts ∧ CaseL hs told ts) (ev_tup (Pe := fun es => ∃ ts : List (Nat × Str), es = dats [cD ns, .tuple ((told.filter fun p => !isBn p).map rowD), .tuple ((told.filter isBn).map fun p => .str p.1), .tuple (ts.map fun t => .tuple [.int (t.1 : Nat), .str t.2])] ∧ ts.length = 4 ∧ ∀ p ∈ ts, p.1 < 401 ∧ Unit2 p.2) (ea_pv (d := cD ns) (pv_cb (pa_consD (ev_var rfl) ea_nil) rda_tupL) (ea_pv (ev_var rfl) (ea_pv (d := .tuple ((told.filter isBn).map fun p => .str p.1)) (pv_cb (pa_consD (Pv.to (pv_filt (vs := [9, 10]) (tgs := [9, 10]) (f := fun d ρ => (ρ.set 9 (.dat (nmOf d))).set 10 (.dat (sideOf d))) (fun d => match d with | .tuple [_, .str s] => decide (s = "bench") | _ => false) nmOf (iw_sl (Pi := fun x => x = told.map rowD) ((ev_var rfl).imp (Nat.le_refl _) fun d e => ⟨_, e, rfl⟩) fun is e d hd => ?_) (fun d hd => ?_) (fun d hd _ => ?_) zt) ?_) ea_nil) rda_tupL) (ea_cons (C1 := 16) (C2 := 0) (P1 := fun r => ∃ ts : List (Nat × Str), r = .tuple (ts.map fun t => .tuple [.int (t.1 : Nat), .str t.2]) ∧ ts.length = 4 ∧ ∀ p ∈ ts, p.1 < 401 ∧ Unit2 p.2) (ev_call (C1 := 0) (C2 := 16) (pa_bag rfl ea_nil) (fun es e => by subst e; exact ⟨rfl, rfl⟩) (fun es d e q => q) (by omega)) (P2 := fun _ es => es = []) (fun _ _ => ea_nil) (fun d es ⟨ts, e, h⟩ e2 => ⟨ts, by rw [e, e2]; rfl, h⟩) (by omega))))) fun es ⟨ts, e, h4, h⟩ => ⟨_, e, ⟨ns, told, ts.map fun t => ((t.1 : Int), t.2), ?_, ?_⟩, by simp⟩) fun d h => h
  · subst e
    obtain ⟨p, rfl⟩ := rows d hd
    exact tg_two
  · obtain ⟨p, rfl⟩ := rows d hd
    exact pt_T (pv_eqS (ev_var rfl) ev_str)
  · obtain ⟨p, rfl⟩ := rows d hd
    exact ev_var rfl
  · rw [List.filter_map, List.map_map]
    rfl
  · unfold caseV
    rw [List.map_map]
    rfl
  · rw [← htold]
    refine told_case hy h3 hpl hpt hs0 hs1 hp (fun n hn' => by have := hn n hn'; omega) hl6 (by rw [List.length_map]; exact h4) fun p hp' => ?_
    obtain ⟨t, ht, rfl⟩ := List.mem_map.mp hp'
    have := h t ht
    exact ⟨by show (0 : Int) ≤ (t.1 : Int); omega, by show (t.1 : Int) < 401; omega, this.2⟩

/-! ### the drawn case, ready to be written -/
theorem name_low {x : Str} (h : nameB x = true) : Low x := by
  unfold nameB at h
  rw [Bool.and_eq_true, Bool.and_eq_true, Bool.and_eq_true, decide_eq_true_eq, decide_eq_true_eq] at h
  refine ⟨fun z => ?_, by omega, fun c hc => ?_⟩
  · rw [z] at h
    exact absurd h.1 (by decide)
  · have q := List.all_eq_true.mp h.2.2.1 c hc
    unfold lowC at q
    rw [Bool.and_eq_true, decide_eq_true_eq, decide_eq_true_eq] at q
    exact q
theorem lowB {x : Str} (h : (lowS x && (decide (x.length ≤ 10) && !decide (x = ""))) = true) : Low x := by
  rw [Bool.and_eq_true, Bool.and_eq_true, decide_eq_true_eq, Bool.not_eq_true', decide_eq_false_iff_not] at h
  refine ⟨h.2.2, h.2.1, fun c hc => ?_⟩
  have q := List.all_eq_true.mp h.1 c hc
  unfold lowC at q
  rw [Bool.and_eq_true, decide_eq_true_eq, decide_eq_true_eq] at q
  exact q
theorem side_low {x : Str} (h : Sd3 x) : Low x := by
  rcases h with rfl | rfl | rfl <;> exact lowB (by decide +kernel)
theorem unit_low {x : Str} (h : Unit2 x) : Low x := by
  rcases h with rfl | rfl <;> exact lowB (by decide +kernel)
theorem case_kc {hs : List Int} {told : List (Str × Str)} {ts : List (Int × Str)} (L : CaseL hs told ts) : ∃ (hs' : List Nat) (ps : List (Str × Str)) (bs : List Str) (ts' : List (Nat × Str)), caseV hs told ts = cdat hs' ps bs ts' ∧ KC hs' ps bs ts' := by
  have e : caseV hs told ts = cdat (hs.map Int.toNat) (told.filter fun p => !isBn p) ((told.filter isBn).map (·.1)) (ts.map fun t => (t.1.toNat, t.2)) := by
    unfold caseV cdat cD
    rw [List.map_map, List.map_map, List.map_map]
    have e1 : hs.map PyData.int = hs.map ((fun n : Nat => PyData.int (n : Nat)) ∘ Int.toNat) := List.map_congr_left fun n hn => by
      have := L.hb n hn
      show PyData.int n = .int ((n.toNat : Nat) : Int)
      congr 1
      omega
    have e2 : (ts.map fun p => tD p.1 p.2) = ts.map ((fun t : Nat × Str => PyData.tuple [.int (t.1 : Nat), .str t.2]) ∘ fun t => (t.1.toNat, t.2)) := List.map_congr_left fun t ht => by
      have := L.uu t ht
      show PyData.tuple [.int t.1, .str t.2] = .tuple [.int ((t.1.toNat : Nat) : Int), .str t.2]
      rw [show ((t.1.toNat : Nat) : Int) = t.1 by omega]
    rw [e1, e2]
    rfl
  refine ⟨_, _, _, _, e, ⟨?_, by rw [← e]; exact case_ok L, by rw [← e]; have := (case_wz L).z; show szD _ ≤ 2 ^ 22; omega⟩⟩
  have tl := L.tl
  refine ⟨by rw [List.length_map]; have := L.hl; omega, fun n hn => ?_, by have := flen tl fun p => !isBn p; omega, fun p hp => ?_, by rw [List.length_map]; have := flen tl isBn; omega, fun x hx => ?_, by rw [List.length_map, L.ul]; omega, fun t ht => ?_⟩
  · obtain ⟨m, hm, rfl⟩ := List.mem_map.mp hn
    have := L.hb m hm
    omega
  · have hp' := (List.mem_filter.mp hp).1
    exact ⟨name_low (L.nm p hp'), side_low (L.sd p hp')⟩
  · obtain ⟨p, hp, rfl⟩ := List.mem_map.mp hx
    exact name_low (L.nm p (List.mem_filter.mp hp).1)
  · obtain ⟨m, hm, rfl⟩ := List.mem_map.mp ht
    have := L.uu m hm
    exact ⟨by show m.1.toNat < 10 ^ 6; omega, unit_low this.2.2⟩
theorem Low.pz {x : Str} (h : Low x) (k : Nat) : Pz k (.str x) := Pz.str fun c hc => by have := h.lo c hc; omega
theorem cdat_pz {hs : List Nat} {ps : List (Str × Str)} {bs : List Str} {ts : List (Nat × Str)} (M : TC hs ps bs ts) : Pz 3 (cdat hs ps bs ts) :=
  (Pzs.cons (k := 2) ((Pzs.of (k := 1) fun x hx => by
    obtain ⟨n, _, rfl⟩ := List.mem_map.mp hx
    exact Pz.int _).tup) (Pzs.cons ((Pzs.of (k := 1) fun x hx => by
    obtain ⟨p, hp, rfl⟩ := List.mem_map.mp hx
    exact (Pzs.cons (k := 0) ((M.pb p hp).1.pz 0) (Pzs.cons ((M.pb p hp).2.pz 0) Pzs.nil)).tup).tup) (Pzs.cons ((Pzs.of (k := 1) fun x hx => by
    obtain ⟨p, hp, rfl⟩ := List.mem_map.mp hx
    exact (M.bb p hp).pz 1).tup) (Pzs.cons ((Pzs.of (k := 1) fun x hx => by
    obtain ⟨p, hp, rfl⟩ := List.mem_map.mp hx
    exact (Pzs.cons (k := 0) (Pz.int _) (Pzs.cons ((M.tb p hp).2.pz 0) Pzs.nil)).tup).tup) Pzs.nil)))).tup
theorem KC.alk {hs : List Nat} {ps : List (Str × Str)} {bs : List Str} {ts : List (Nat × Str)} (M : KC hs ps bs ts) : AlkP 8 (cdat hs ps bs ts) := by
  have h := cdat_pz M.M
  exact ⟨h.nd, h.cl, M.sm, by have := h.dp; omega⟩
section
variable {c : Ctx} {ρ : List Ent} {tr : TA} {E : XK} {hs : List Nat} {ps : List (Str × Str)} {bs : List Str} {ts : List (Nat × Str)}
theorem shown_call (h : Pa c tr ρ [.dat (cdat hs ps bs ts)]) (M : TC hs ps bs ts) : Pv c (tCall (sp_law_case_shown c.K) [] E tr) ρ (.str (csT hs ps bs ts)) := pv_callE h rfl ⟨hs, ps, bs, ts, rfl, M⟩ fun x ⟨hs', ps', bs', ts', e, q⟩ => by
  simp only [List.cons.injEq, Ent.dat.injEq, and_true] at e
  obtain ⟨rfl, rfl, rfl, rfl⟩ := cdat_inj e
  exact q
theorem showc_call (h : Pa c tr ρ [.dat (cdat hs ps bs ts)]) (M : KC hs ps bs ts) : Pv c (tCall (sp_show_case c.K) [] E tr) ρ (.str (csT hs ps bs ts)) := pv_callE h rfl ⟨hs, ps, bs, ts, rfl, M⟩ fun x ⟨hs', ps', bs', ts', e, q⟩ => by
  simp only [List.cons.injEq, Ent.dat.injEq, and_true] at e
  obtain ⟨rfl, rfl, rfl, rfl⟩ := cdat_inj e
  exact q
theorem readc_call (h : Pa c tr ρ [.dat (.str (csT hs ps bs ts))]) (M : KC hs ps bs ts) : Pv c (tCall (sp_read_case c.K) [] E tr) ρ (cdat hs ps bs ts) := pv_callE h rfl ⟨hs, ps, bs, ts, rfl, M⟩ fun x ⟨hs', ps', bs', ts', e, M', q⟩ => by
  simp only [List.cons.injEq, Ent.dat.injEq, PyData.str.injEq, and_true] at e
  rw [q, ← case_is M'.M, ← e, case_is M.M]
end
abbrev sp_law_right (K : PySem.W.Frag) : Sp := spS K 1 240 (fun es => es = [.bag]) (fun _ r => r = .bool true)
theorem ok_law_right {P : Program} {w : World} {K : PySem.W.Frag} {mg : Str → Option Value} {base : Heap} (T : Tx K mg) : FnG P w K mg base 9 T.a_law_right T.d_law_right ["bag"] (sp_law_right K) := by
  have H_law_case := ok_law_case (P := P) (w := w) (base := base) T
  have H_law_case_shown := ok_law_case_shown (P := P) (w := w) (base := base) T
  have H_is_case := ok_is_case (P := P) (w := w) (base := base) T
  have H_show_case := ok_show_case (P := P) (w := w) (base := base) T
  have H_law_alike := ok_law_alike (P := P) (w := w) (base := base) T 8
  have H_read_case := ok_read_case (P := P) (w := w) (base := base) T
  refine fnG_okS T.F_law_right sc_law_right (fun cdv A outer s H E hr hc => ⟨_, (pss_cons (ps_set (i := 1) sc_law_right.nd rfl (Or.inl rfl) (pe_callG H_law_case (hr.mono (by decide)) hc (by rfl) T.G_law_case T.F_law_case.kp T.B_law_case (pa_cons (pv 0) pa_nil)))
      (pss_cons (ps_set (i := 2) sc_law_right.nd rfl (Or.inl rfl) (pe_callB (by refine call_reprA (K := K) rfl ?_ hc; exact hr.units) (by rfl) T.N_repr (by decide +kernel) (pa_cons (pv 1) pa_nil)))
      (pss_cons (ps_set (i := 3) sc_law_right.nd rfl (Or.inl rfl) (pe_callG H_law_case_shown (hr.mono (by decide)) hc (by rfl) T.G_law_case_shown T.F_law_case_shown.kp T.B_law_case_shown (pa_cons (pv 1) pa_nil)))
      (pss_cons (ps_if (PW.pt (pw_or (pt_cmpR op_isnot_bl (pe_callG H_is_case (hr.mono (by decide)) hc (by rfl) T.G_is_case T.F_is_case.kp T.B_is_case (pa_cons (pv 1) pa_nil)) pe_bl (nomark _)) (pw_or (pt_cmpR (by refine op_neK (K := K) rfl ?_; exact hr.units) (pe_callG H_show_case (hr.mono (by decide)) hc (by rfl) T.G_show_case T.F_show_case.kp T.B_show_case (pa_cons (pv 1) pa_nil)) (pv 3) (nomark _)) (pw_or1 (pt_cmpR (by refine op_neK (K := K) rfl ?_; exact hr.units) (pe_callB (by refine call_reprA (K := K) rfl ?_ hc; exact hr.units) (by rfl) T.N_repr (by decide +kernel) (pa_cons (pv 1) pa_nil)) (pv 2) (nomark _))))))
      (pss_one (ps_ret pe_bl)) pss_nil)
      (pss_cons (ps_for PassesOwn.never rfl (pi_range1 (by rfl) T.N_range (pa_cons pe_int pa_nil)) (pg_name (i := 4) sc_law_right.nd rfl (Or.inl rfl))
      (pss_one (ps_if (PW.pt (pw_or (pt_not (pt_val (pe_callG H_law_alike hr hc (by rfl) T.G_law_alike T.F_law_alike.kp T.B_law_alike (pa_cons (pe_callG H_read_case (hr.mono (by decide)) hc (by rfl) T.G_read_case T.F_read_case.kp T.B_read_case (pa_cons (pv 3) pa_nil)) (pa_cons (pv 1) pa_nil))))) (pw_or1 (pt_cmpR (by refine op_neK (K := K) rfl ?_; exact hr.units) (pe_callG H_show_case (hr.mono (by decide)) hc (by rfl) T.G_show_case T.F_show_case.kp T.B_show_case (pa_cons (pe_callG H_read_case (hr.mono (by decide)) hc (by rfl) T.G_read_case T.F_read_case.kp T.B_read_case (pa_cons (pv 3) pa_nil)) pa_nil)) (pv 3) (nomark _)))))
      (pss_one (ps_ret pe_bl)) pss_nil)))
      (pss_one (ps_ret pe_bl))))))), ?_⟩)
  rintro b I es hF hl rfl
  refine bk_let (C1 := 220) (C2 := 20) (P := fun d => ∃ hs told ts, d = caseV hs told ts ∧ CaseL hs told ts) (ev_call (C1 := 0) (C2 := 220) (pa_bag rfl ea_nil) (fun es e => by subst e; exact ⟨rfl, rfl⟩) (fun es d e q => q) (by omega)) ?_ (by omega)
  rintro d ⟨hs0, told, ts0, rfl, L⟩
  have cw : Wz 28000 3 (caseV hs0 told ts0) := case_wz L
  obtain ⟨hs, ps, bs, ts, e, M⟩ := case_kc L
  rw [e] at cw ⊢
  refine bk_letP (pv_reprA hF (ev_var rfl) cw) ?_
  refine bk_letP (shown_call (pa_consD (ev_var rfl) ea_nil) M.M) ?_
  refine bk_ifret (b := false) (Pt.to (pt_or (a := false) (Pt.to (pt_T (pv_isnotB (case_call (pa_consD (ev_var rfl) ea_nil) M.sm) ev_bl)) (by rw [M.ok]; rfl)) fun _ => pt_or (a := false) (Pt.to (pt_T (pv_neS (showc_call (pa_consD (ev_var rfl) ea_nil) M) (ev_var rfl))) (by simp)) fun _ => Pt.to (pt_T (pv_neS (pv_reprA hF (ev_var rfl) cw) (ev_var rfl))) (by simp)) rfl) (fun z => nomatch z) fun _ => ?_
  refine bk_seq (C1 := 0) (C2 := 0) (N := fun ρ' => True) ?_ (fun ρ' _ => bk_retP ev_bl rfl) (by omega)
  refine bk_for (m := 2) (C0 := 0) (C1 := 0) (f := fun d ρ => ρ.set 4 (.dat d)) (fun _ _ ρ' => ∃ e4, ρ' = [.bag, .dat (cdat hs ps bs ts), .dat (.str (cdat hs ps bs ts).shown), .dat (.str (csT hs ps bs ts)), e4])
    (iw_rangeP (i := 2) ev_int (by omega) fun d _ => tg_name) (fun is e => by subst e; rw [rngD_len]; decide) (fun is _ => ⟨_, rfl⟩) ?_ (fun _ _ _ _ => trivial) (by omega)
  rintro is j d ρ' rfl hj ⟨e4, rfl⟩
  exact bk_ifP (b := false) (Pt.to (pt_or (a := false) (Pt.to (pt_notD (pt_B (alike_call (d := cdat hs ps bs ts) (pa_consD (readc_call (pa_consD (ev_var rfl) ea_nil) M) (pa_consD (ev_var rfl) ea_nil)) M.alk))) rfl) fun _ => Pt.to (pt_T (pv_neS (showc_call (pa_consD (readc_call (pa_consD (ev_var rfl) ea_nil) M) ea_nil) M) (ev_var rfl))) (by simp)) rfl) (fun z => nomatch z) fun _ => bk_next ⟨_, rfl⟩
abbrev sp_law (K : PySem.W.Frag) : Sp := spTopS K
theorem ok_law {P : Program} {w : World} {K : PySem.W.Frag} {mg : Str → Option Value} {base : Heap} (T : Tx K mg) : FnG P w K mg base 10 T.a_law T.d_law ["script"] (sp_law K) := by
  have H_law_right := ok_law_right (P := P) (w := w) (base := base) T
  have H_law_bag := ok_law_bag (P := P) (w := w) (base := base) T
  have H_law_cell_at := ok_law_cell_at (P := P) (w := w) (base := base) T
  refine fnG_okS T.F_law sc_law (fun cdv A outer s H E hr hc => ⟨_, (pss_cons (ps_for PassesOwn.never rfl (pi_range1 (by rfl) T.N_range (pa_cons (pe_callB (call_max2 rfl) (by rfl) T.N_max (by decide +kernel) (pa_cons pe_int (pa_cons (pe_callB (call_min2 rfl) (by rfl) T.N_min (by decide +kernel) (pa_cons pe_int (pa_cons (pe_callB (call_lenK (K := K) rfl) (by rfl) T.N_len (by decide +kernel) (pa_cons (pv 0) pa_nil)) pa_nil))) pa_nil))) pa_nil)) (pg_name (i := 1) sc_law.nd rfl (Or.inl rfl))
      (pss_one (ps_if (pt_not (pt_val (pe_callG H_law_right hr hc (by rfl) T.G_law_right T.F_law_right.kp T.B_law_right (pa_cons (pe_callG H_law_bag (hr.mono (by decide)) hc (by rfl) T.G_law_bag T.F_law_bag.kp T.B_law_bag (pa_cons (pe_callG H_law_cell_at (hr.mono (by decide)) hc (by rfl) T.G_law_cell_at T.F_law_cell_at.kp T.B_law_cell_at (pa_cons (pv 0) (pa_cons (pv 1) pa_nil))) (pa_cons (pv 1) pa_nil))) pa_nil))))
      (pss_one (ps_ret pe_bl)) pss_nil)))
      (pss_one (ps_ret pe_bl))), ?_⟩)
  rintro b I es hF hl ⟨ns, rfl, hlen⟩
  refine bk_seq (C1 := 0) (C2 := 0) (N := fun ρ' => True) ?_ (fun ρ' _ => bk_retP ev_bl rfl) (by omega)
  refine bk_for (m := 1000) (C0 := 0) (C1 := 0) (f := fun d ρ => ρ.set 1 (.dat d)) (fun _ _ ρ' => ∃ e, ρ' = [.scr ns, e])
    (iw_range1 (Pn := fun i => 0 ≤ i ∧ i ≤ 100) ((pv_cb (pa_consD ev_int (pa_consD (pv_cb (pa_consD ev_int (pa_consD (pv_cb (pa_scr rfl ea_nil) rda_lenK) ea_nil)) rda_min) ea_nil)) rda_max).imp (Nat.le_refl _) fun d e => ⟨_, e, by split <;> split <;> omega⟩) (fun i hi => by omega) fun i _ d _ => tg_name) (fun is ⟨i, hi, e⟩ => by subst e; rw [rngD_len]; omega) (fun is _ => ⟨_, rfl⟩) ?_ (fun _ _ _ _ => trivial) (by omega)
  rintro is k d ρ' ⟨i, hi, rfl⟩ hk ⟨e, rfl⟩
  obtain ⟨hk1, rfl⟩ := rngD_get hk
  rw [Int.zero_add]
  refine bk_ifP (b := false) ?_ (fun e => nomatch e) fun _ => bk_next ⟨_, rfl⟩
  refine Pt.to (pt_notD (a := true) (pt_B ?_)) rfl
  refine ev_callBagS hF (ea_cons (C1 := 0) (C2 := 0) (P1 := fun d => ∃ x : Int, d = .int x) (ev_call (C1 := 0) (C2 := 0) (pa_scr rfl (pa_consD (ev_var rfl) ea_nil)) (fun es e => by subst e; exact ⟨rfl, ns, k, rfl⟩) (fun es d e q => q) (by omega)) (P2 := fun _ es => es = [.dat (.int k)]) (fun _ _ => pa_consD (ev_var rfl) ea_nil) (fun d es ⟨x, e1⟩ e2 => ⟨x, k, by rw [e1, e2], by omega, by omega⟩) (by omega)) rfl (fun d q => q) (by decide)


theorem all_mk {l : PySem.W.OpenLaw} {w : World} {K : PySem.W.Frag} {h : Heap} {mg : Str → Option Value} {fa : Addr} (X : K.In h) (G : h.Ns mainGlobals mg) (hfa : mg "law" = some (.ref fa))
    {f_is_whole : Addr} {od_is_whole an_is_whole : Option Addr} {sl_is_whole : Array (Option Value)} {oc_is_whole kV_is_whole dc_is_whole pm_is_whole cd_is_whole ct_is_whole : Value}
    (a1_is_whole : PySem.W.nsIn K mainGlobals "is_whole" = some (some (.ref f_is_whole)))
    (l1_is_whole : K.lookup f_is_whole = some ⟨oc_is_whole, od_is_whole, .func (PySem.W.fnOf "is_whole" "is_whole" (defArgs s_is_whole) (defBody s_is_whole) (defScope s_is_whole) .none kV_is_whole dc_is_whole pm_is_whole an_is_whole cd_is_whole ct_is_whole), sl_is_whole⟩)
    (c1_is_whole : PySem.W.codeIn K cd_is_whole "is_whole" = true) (k1_is_whole : PySem.W.keepIn K (.ref f_is_whole) = true)
    {f_is_row : Addr} {od_is_row an_is_row : Option Addr} {sl_is_row : Array (Option Value)} {oc_is_row kV_is_row dc_is_row pm_is_row cd_is_row ct_is_row : Value}
    (a1_is_row : PySem.W.nsIn K mainGlobals "is_row" = some (some (.ref f_is_row)))
    (l1_is_row : K.lookup f_is_row = some ⟨oc_is_row, od_is_row, .func (PySem.W.fnOf "is_row" "is_row" (defArgs s_is_row) (defBody s_is_row) (defScope s_is_row) .none kV_is_row dc_is_row pm_is_row an_is_row cd_is_row ct_is_row), sl_is_row⟩)
    (c1_is_row : PySem.W.codeIn K cd_is_row "is_row" = true) (k1_is_row : PySem.W.keepIn K (.ref f_is_row) = true)
    {f_is_rising : Addr} {od_is_rising an_is_rising : Option Addr} {sl_is_rising : Array (Option Value)} {oc_is_rising kV_is_rising dc_is_rising pm_is_rising cd_is_rising ct_is_rising : Value}
    (a1_is_rising : PySem.W.nsIn K mainGlobals "is_rising" = some (some (.ref f_is_rising)))
    (l1_is_rising : K.lookup f_is_rising = some ⟨oc_is_rising, od_is_rising, .func (PySem.W.fnOf "is_rising" "is_rising" (defArgs s_is_rising) (defBody s_is_rising) (defScope s_is_rising) .none kV_is_rising dc_is_rising pm_is_rising an_is_rising cd_is_rising ct_is_rising), sl_is_rising⟩)
    (c1_is_rising : PySem.W.codeIn K cd_is_rising "is_rising" = true) (k1_is_rising : PySem.W.keepIn K (.ref f_is_rising) = true)
    {f_is_name : Addr} {od_is_name an_is_name : Option Addr} {sl_is_name : Array (Option Value)} {oc_is_name kV_is_name dc_is_name pm_is_name cd_is_name ct_is_name : Value}
    (a1_is_name : PySem.W.nsIn K mainGlobals "is_name" = some (some (.ref f_is_name)))
    (l1_is_name : K.lookup f_is_name = some ⟨oc_is_name, od_is_name, .func (PySem.W.fnOf "is_name" "is_name" (defArgs s_is_name) (defBody s_is_name) (defScope s_is_name) .none kV_is_name dc_is_name pm_is_name an_is_name cd_is_name ct_is_name), sl_is_name⟩)
    (c1_is_name : PySem.W.codeIn K cd_is_name "is_name" = true) (k1_is_name : PySem.W.keepIn K (.ref f_is_name) = true)
    {f_are_names : Addr} {od_are_names an_are_names : Option Addr} {sl_are_names : Array (Option Value)} {oc_are_names kV_are_names dc_are_names pm_are_names cd_are_names ct_are_names : Value}
    (a1_are_names : PySem.W.nsIn K mainGlobals "are_names" = some (some (.ref f_are_names)))
    (l1_are_names : K.lookup f_are_names = some ⟨oc_are_names, od_are_names, .func (PySem.W.fnOf "are_names" "are_names" (defArgs s_are_names) (defBody s_are_names) (defScope s_are_names) .none kV_are_names dc_are_names pm_are_names an_are_names cd_are_names ct_are_names), sl_are_names⟩)
    (c1_are_names : PySem.W.codeIn K cd_are_names "are_names" = true) (k1_are_names : PySem.W.keepIn K (.ref f_are_names) = true)
    {f_is_calendar : Addr} {od_is_calendar an_is_calendar : Option Addr} {sl_is_calendar : Array (Option Value)} {oc_is_calendar kV_is_calendar dc_is_calendar pm_is_calendar cd_is_calendar ct_is_calendar : Value}
    (a1_is_calendar : PySem.W.nsIn K mainGlobals "is_calendar" = some (some (.ref f_is_calendar)))
    (l1_is_calendar : K.lookup f_is_calendar = some ⟨oc_is_calendar, od_is_calendar, .func (PySem.W.fnOf "is_calendar" "is_calendar" (defArgs s_is_calendar) (defBody s_is_calendar) (defScope s_is_calendar) .none kV_is_calendar dc_is_calendar pm_is_calendar an_is_calendar cd_is_calendar ct_is_calendar), sl_is_calendar⟩)
    (c1_is_calendar : PySem.W.codeIn K cd_is_calendar "is_calendar" = true) (k1_is_calendar : PySem.W.keepIn K (.ref f_is_calendar) = true)
    {f_is_day : Addr} {od_is_day an_is_day : Option Addr} {sl_is_day : Array (Option Value)} {oc_is_day kV_is_day dc_is_day pm_is_day cd_is_day ct_is_day : Value}
    (a1_is_day : PySem.W.nsIn K mainGlobals "is_day" = some (some (.ref f_is_day)))
    (l1_is_day : K.lookup f_is_day = some ⟨oc_is_day, od_is_day, .func (PySem.W.fnOf "is_day" "is_day" (defArgs s_is_day) (defBody s_is_day) (defScope s_is_day) .none kV_is_day dc_is_day pm_is_day an_is_day cd_is_day ct_is_day), sl_is_day⟩)
    (c1_is_day : PySem.W.codeIn K cd_is_day "is_day" = true) (k1_is_day : PySem.W.keepIn K (.ref f_is_day) = true)
    {f_is_term : Addr} {od_is_term an_is_term : Option Addr} {sl_is_term : Array (Option Value)} {oc_is_term kV_is_term dc_is_term pm_is_term cd_is_term ct_is_term : Value}
    (a1_is_term : PySem.W.nsIn K mainGlobals "is_term" = some (some (.ref f_is_term)))
    (l1_is_term : K.lookup f_is_term = some ⟨oc_is_term, od_is_term, .func (PySem.W.fnOf "is_term" "is_term" (defArgs s_is_term) (defBody s_is_term) (defScope s_is_term) .none kV_is_term dc_is_term pm_is_term an_is_term cd_is_term ct_is_term), sl_is_term⟩)
    (c1_is_term : PySem.W.codeIn K cd_is_term "is_term" = true) (k1_is_term : PySem.W.keepIn K (.ref f_is_term) = true)
    {f_is_case : Addr} {od_is_case an_is_case : Option Addr} {sl_is_case : Array (Option Value)} {oc_is_case kV_is_case dc_is_case pm_is_case cd_is_case ct_is_case : Value}
    (a1_is_case : PySem.W.nsIn K mainGlobals "is_case" = some (some (.ref f_is_case)))
    (l1_is_case : K.lookup f_is_case = some ⟨oc_is_case, od_is_case, .func (PySem.W.fnOf "is_case" "is_case" (defArgs s_is_case) (defBody s_is_case) (defScope s_is_case) .none kV_is_case dc_is_case pm_is_case an_is_case cd_is_case ct_is_case), sl_is_case⟩)
    (c1_is_case : PySem.W.codeIn K cd_is_case "is_case" = true) (k1_is_case : PySem.W.keepIn K (.ref f_is_case) = true)
    {f_are_parties : Addr} {od_are_parties an_are_parties : Option Addr} {sl_are_parties : Array (Option Value)} {oc_are_parties kV_are_parties dc_are_parties pm_are_parties cd_are_parties ct_are_parties : Value}
    (a1_are_parties : PySem.W.nsIn K mainGlobals "are_parties" = some (some (.ref f_are_parties)))
    (l1_are_parties : K.lookup f_are_parties = some ⟨oc_are_parties, od_are_parties, .func (PySem.W.fnOf "are_parties" "are_parties" (defArgs s_are_parties) (defBody s_are_parties) (defScope s_are_parties) .none kV_are_parties dc_are_parties pm_are_parties an_are_parties cd_are_parties ct_are_parties), sl_are_parties⟩)
    (c1_are_parties : PySem.W.codeIn K cd_are_parties "are_parties" = true) (k1_are_parties : PySem.W.keepIn K (.ref f_are_parties) = true)
    {f_is_party : Addr} {od_is_party an_is_party : Option Addr} {sl_is_party : Array (Option Value)} {oc_is_party kV_is_party dc_is_party pm_is_party cd_is_party ct_is_party : Value}
    (a1_is_party : PySem.W.nsIn K mainGlobals "is_party" = some (some (.ref f_is_party)))
    (l1_is_party : K.lookup f_is_party = some ⟨oc_is_party, od_is_party, .func (PySem.W.fnOf "is_party" "is_party" (defArgs s_is_party) (defBody s_is_party) (defScope s_is_party) .none kV_is_party dc_is_party pm_is_party an_is_party cd_is_party ct_is_party), sl_is_party⟩)
    (c1_is_party : PySem.W.codeIn K cd_is_party "is_party" = true) (k1_is_party : PySem.W.keepIn K (.ref f_is_party) = true)
    {f_are_terms : Addr} {od_are_terms an_are_terms : Option Addr} {sl_are_terms : Array (Option Value)} {oc_are_terms kV_are_terms dc_are_terms pm_are_terms cd_are_terms ct_are_terms : Value}
    (a1_are_terms : PySem.W.nsIn K mainGlobals "are_terms" = some (some (.ref f_are_terms)))
    (l1_are_terms : K.lookup f_are_terms = some ⟨oc_are_terms, od_are_terms, .func (PySem.W.fnOf "are_terms" "are_terms" (defArgs s_are_terms) (defBody s_are_terms) (defScope s_are_terms) .none kV_are_terms dc_are_terms pm_are_terms an_are_terms cd_are_terms ct_are_terms), sl_are_terms⟩)
    (c1_are_terms : PySem.W.codeIn K cd_are_terms "are_terms" = true) (k1_are_terms : PySem.W.keepIn K (.ref f_are_terms) = true)
    {f_check_case : Addr} {od_check_case an_check_case : Option Addr} {sl_check_case : Array (Option Value)} {oc_check_case kV_check_case dc_check_case pm_check_case cd_check_case ct_check_case : Value}
    (a1_check_case : PySem.W.nsIn K mainGlobals "check_case" = some (some (.ref f_check_case)))
    (l1_check_case : K.lookup f_check_case = some ⟨oc_check_case, od_check_case, .func (PySem.W.fnOf "check_case" "check_case" (defArgs s_check_case) (defBody s_check_case) (defScope s_check_case) .none kV_check_case dc_check_case pm_check_case an_check_case cd_check_case ct_check_case), sl_check_case⟩)
    (c1_check_case : PySem.W.codeIn K cd_check_case "check_case" = true) (k1_check_case : PySem.W.keepIn K (.ref f_check_case) = true)
    {f_show_case : Addr} {od_show_case an_show_case : Option Addr} {sl_show_case : Array (Option Value)} {oc_show_case kV_show_case dc_show_case pm_show_case cd_show_case ct_show_case : Value}
    (a1_show_case : PySem.W.nsIn K mainGlobals "show_case" = some (some (.ref f_show_case)))
    (l1_show_case : K.lookup f_show_case = some ⟨oc_show_case, od_show_case, .func (PySem.W.fnOf "show_case" "show_case" (defArgs s_show_case) (defBody s_show_case) (defScope s_show_case) .none kV_show_case dc_show_case pm_show_case an_show_case cd_show_case ct_show_case), sl_show_case⟩)
    (c1_show_case : PySem.W.codeIn K cd_show_case "show_case" = true) (k1_show_case : PySem.W.keepIn K (.ref f_show_case) = true)
    {f_read_case : Addr} {od_read_case an_read_case : Option Addr} {sl_read_case : Array (Option Value)} {oc_read_case kV_read_case dc_read_case pm_read_case cd_read_case ct_read_case : Value}
    (a1_read_case : PySem.W.nsIn K mainGlobals "read_case" = some (some (.ref f_read_case)))
    (l1_read_case : K.lookup f_read_case = some ⟨oc_read_case, od_read_case, .func (PySem.W.fnOf "read_case" "read_case" (defArgs s_read_case) (defBody s_read_case) (defScope s_read_case) .none kV_read_case dc_read_case pm_read_case an_read_case cd_read_case ct_read_case), sl_read_case⟩)
    (c1_read_case : PySem.W.codeIn K cd_read_case "read_case" = true) (k1_read_case : PySem.W.keepIn K (.ref f_read_case) = true)
    {f_case_text : Addr} {od_case_text an_case_text : Option Addr} {sl_case_text : Array (Option Value)} {oc_case_text kV_case_text dc_case_text pm_case_text cd_case_text ct_case_text : Value}
    (a1_case_text : PySem.W.nsIn K mainGlobals "case_text" = some (some (.ref f_case_text)))
    (l1_case_text : K.lookup f_case_text = some ⟨oc_case_text, od_case_text, .func (PySem.W.fnOf "case_text" "case_text" (defArgs s_case_text) (defBody s_case_text) (defScope s_case_text) .none kV_case_text dc_case_text pm_case_text an_case_text cd_case_text ct_case_text), sl_case_text⟩)
    (c1_case_text : PySem.W.codeIn K cd_case_text "case_text" = true) (k1_case_text : PySem.W.keepIn K (.ref f_case_text) = true)
    {f_whole_of : Addr} {od_whole_of an_whole_of : Option Addr} {sl_whole_of : Array (Option Value)} {oc_whole_of kV_whole_of dc_whole_of pm_whole_of cd_whole_of ct_whole_of : Value}
    (a1_whole_of : PySem.W.nsIn K mainGlobals "whole_of" = some (some (.ref f_whole_of)))
    (l1_whole_of : K.lookup f_whole_of = some ⟨oc_whole_of, od_whole_of, .func (PySem.W.fnOf "whole_of" "whole_of" (defArgs s_whole_of) (defBody s_whole_of) (defScope s_whole_of) .none kV_whole_of dc_whole_of pm_whole_of an_whole_of cd_whole_of ct_whole_of), sl_whole_of⟩)
    (c1_whole_of : PySem.W.codeIn K cd_whole_of "whole_of" = true) (k1_whole_of : PySem.W.keepIn K (.ref f_whole_of) = true)
    {f_case_of : Addr} {od_case_of an_case_of : Option Addr} {sl_case_of : Array (Option Value)} {oc_case_of kV_case_of dc_case_of pm_case_of cd_case_of ct_case_of : Value}
    (a1_case_of : PySem.W.nsIn K mainGlobals "case_of" = some (some (.ref f_case_of)))
    (l1_case_of : K.lookup f_case_of = some ⟨oc_case_of, od_case_of, .func (PySem.W.fnOf "case_of" "case_of" (defArgs s_case_of) (defBody s_case_of) (defScope s_case_of) .none kV_case_of dc_case_of pm_case_of an_case_of cd_case_of ct_case_of), sl_case_of⟩)
    (c1_case_of : PySem.W.codeIn K cd_case_of "case_of" = true) (k1_case_of : PySem.W.keepIn K (.ref f_case_of) = true)
    {f_parts_of : Addr} {od_parts_of an_parts_of : Option Addr} {sl_parts_of : Array (Option Value)} {oc_parts_of kV_parts_of dc_parts_of pm_parts_of cd_parts_of ct_parts_of : Value}
    (a1_parts_of : PySem.W.nsIn K mainGlobals "parts_of" = some (some (.ref f_parts_of)))
    (l1_parts_of : K.lookup f_parts_of = some ⟨oc_parts_of, od_parts_of, .func (PySem.W.fnOf "parts_of" "parts_of" (defArgs s_parts_of) (defBody s_parts_of) (defScope s_parts_of) .none kV_parts_of dc_parts_of pm_parts_of an_parts_of cd_parts_of ct_parts_of), sl_parts_of⟩)
    (c1_parts_of : PySem.W.codeIn K cd_parts_of "parts_of" = true) (k1_parts_of : PySem.W.keepIn K (.ref f_parts_of) = true)
    {f_party_of : Addr} {od_party_of an_party_of : Option Addr} {sl_party_of : Array (Option Value)} {oc_party_of kV_party_of dc_party_of pm_party_of cd_party_of ct_party_of : Value}
    (a1_party_of : PySem.W.nsIn K mainGlobals "party_of" = some (some (.ref f_party_of)))
    (l1_party_of : K.lookup f_party_of = some ⟨oc_party_of, od_party_of, .func (PySem.W.fnOf "party_of" "party_of" (defArgs s_party_of) (defBody s_party_of) (defScope s_party_of) .none kV_party_of dc_party_of pm_party_of an_party_of cd_party_of ct_party_of), sl_party_of⟩)
    (c1_party_of : PySem.W.codeIn K cd_party_of "party_of" = true) (k1_party_of : PySem.W.keepIn K (.ref f_party_of) = true)
    {f_term_of : Addr} {od_term_of an_term_of : Option Addr} {sl_term_of : Array (Option Value)} {oc_term_of kV_term_of dc_term_of pm_term_of cd_term_of ct_term_of : Value}
    (a1_term_of : PySem.W.nsIn K mainGlobals "term_of" = some (some (.ref f_term_of)))
    (l1_term_of : K.lookup f_term_of = some ⟨oc_term_of, od_term_of, .func (PySem.W.fnOf "term_of" "term_of" (defArgs s_term_of) (defBody s_term_of) (defScope s_term_of) .none kV_term_of dc_term_of pm_term_of an_term_of cd_term_of ct_term_of), sl_term_of⟩)
    (c1_term_of : PySem.W.codeIn K cd_term_of "term_of" = true) (k1_term_of : PySem.W.keepIn K (.ref f_term_of) = true)
    {f_law_cell_at : Addr} {od_law_cell_at an_law_cell_at : Option Addr} {sl_law_cell_at : Array (Option Value)} {oc_law_cell_at kV_law_cell_at dc_law_cell_at pm_law_cell_at cd_law_cell_at ct_law_cell_at : Value}
    (a1_law_cell_at : PySem.W.nsIn K mainGlobals "_law_cell_at" = some (some (.ref f_law_cell_at)))
    (l1_law_cell_at : K.lookup f_law_cell_at = some ⟨oc_law_cell_at, od_law_cell_at, .func (PySem.W.fnOf "_law_cell_at" "_law_cell_at" (defArgs s_law_cell_at) (defBody s_law_cell_at) (defScope s_law_cell_at) .none kV_law_cell_at dc_law_cell_at pm_law_cell_at an_law_cell_at cd_law_cell_at ct_law_cell_at), sl_law_cell_at⟩)
    (c1_law_cell_at : PySem.W.codeIn K cd_law_cell_at "_law_cell_at" = true) (k1_law_cell_at : PySem.W.keepIn K (.ref f_law_cell_at) = true)
    {f_law_bag : Addr} {od_law_bag an_law_bag : Option Addr} {sl_law_bag : Array (Option Value)} {oc_law_bag kV_law_bag dc_law_bag pm_law_bag cd_law_bag ct_law_bag : Value}
    (a1_law_bag : PySem.W.nsIn K mainGlobals "_law_bag" = some (some (.ref f_law_bag)))
    (l1_law_bag : K.lookup f_law_bag = some ⟨oc_law_bag, od_law_bag, .func (PySem.W.fnOf "_law_bag" "_law_bag" (defArgs s_law_bag) (defBody s_law_bag) (defScope s_law_bag) .none kV_law_bag dc_law_bag pm_law_bag an_law_bag cd_law_bag ct_law_bag), sl_law_bag⟩)
    (c1_law_bag : PySem.W.codeIn K cd_law_bag "_law_bag" = true) (k1_law_bag : PySem.W.keepIn K (.ref f_law_bag) = true)
    {f_law_dip : Addr} {od_law_dip an_law_dip : Option Addr} {sl_law_dip : Array (Option Value)} {oc_law_dip kV_law_dip dc_law_dip pm_law_dip cd_law_dip ct_law_dip : Value}
    (a1_law_dip : PySem.W.nsIn K mainGlobals "_law_dip" = some (some (.ref f_law_dip)))
    (l1_law_dip : K.lookup f_law_dip = some ⟨oc_law_dip, od_law_dip, .func (PySem.W.fnOf "_law_dip" "_law_dip" (defArgs s_law_dip) (defBody s_law_dip) (defScope s_law_dip) .none kV_law_dip dc_law_dip pm_law_dip an_law_dip cd_law_dip ct_law_dip), sl_law_dip⟩)
    (c1_law_dip : PySem.W.codeIn K cd_law_dip "_law_dip" = true) (k1_law_dip : PySem.W.keepIn K (.ref f_law_dip) = true)
    {f_law_alike : Addr} {od_law_alike an_law_alike : Option Addr} {sl_law_alike : Array (Option Value)} {oc_law_alike kV_law_alike dc_law_alike pm_law_alike cd_law_alike ct_law_alike : Value}
    (a1_law_alike : PySem.W.nsIn K mainGlobals "_law_alike" = some (some (.ref f_law_alike)))
    (l1_law_alike : K.lookup f_law_alike = some ⟨oc_law_alike, od_law_alike, .func (PySem.W.fnOf "_law_alike" "_law_alike" (defArgs s_law_alike) (defBody s_law_alike) (defScope s_law_alike) .none kV_law_alike dc_law_alike pm_law_alike an_law_alike cd_law_alike ct_law_alike), sl_law_alike⟩)
    (c1_law_alike : PySem.W.codeIn K cd_law_alike "_law_alike" = true) (k1_law_alike : PySem.W.keepIn K (.ref f_law_alike) = true)
    {f_law_name : Addr} {od_law_name an_law_name : Option Addr} {sl_law_name : Array (Option Value)} {oc_law_name kV_law_name dc_law_name pm_law_name cd_law_name ct_law_name : Value}
    (a1_law_name : PySem.W.nsIn K mainGlobals "_law_name" = some (some (.ref f_law_name)))
    (l1_law_name : K.lookup f_law_name = some ⟨oc_law_name, od_law_name, .func (PySem.W.fnOf "_law_name" "_law_name" (defArgs s_law_name) (defBody s_law_name) (defScope s_law_name) .none kV_law_name dc_law_name pm_law_name an_law_name cd_law_name ct_law_name), sl_law_name⟩)
    (c1_law_name : PySem.W.codeIn K cd_law_name "_law_name" = true) (k1_law_name : PySem.W.keepIn K (.ref f_law_name) = true)
    {f_law_names : Addr} {od_law_names an_law_names : Option Addr} {sl_law_names : Array (Option Value)} {oc_law_names kV_law_names dc_law_names pm_law_names cd_law_names ct_law_names : Value}
    (a1_law_names : PySem.W.nsIn K mainGlobals "_law_names" = some (some (.ref f_law_names)))
    (l1_law_names : K.lookup f_law_names = some ⟨oc_law_names, od_law_names, .func (PySem.W.fnOf "_law_names" "_law_names" (defArgs s_law_names) (defBody s_law_names) (defScope s_law_names) .none kV_law_names dc_law_names pm_law_names an_law_names cd_law_names ct_law_names), sl_law_names⟩)
    (c1_law_names : PySem.W.codeIn K cd_law_names "_law_names" = true) (k1_law_names : PySem.W.keepIn K (.ref f_law_names) = true)
    {f_law_spans : Addr} {od_law_spans an_law_spans : Option Addr} {sl_law_spans : Array (Option Value)} {oc_law_spans kV_law_spans dc_law_spans pm_law_spans cd_law_spans ct_law_spans : Value}
    (a1_law_spans : PySem.W.nsIn K mainGlobals "_law_spans" = some (some (.ref f_law_spans)))
    (l1_law_spans : K.lookup f_law_spans = some ⟨oc_law_spans, od_law_spans, .func (PySem.W.fnOf "_law_spans" "_law_spans" (defArgs s_law_spans) (defBody s_law_spans) (defScope s_law_spans) .none kV_law_spans dc_law_spans pm_law_spans an_law_spans cd_law_spans ct_law_spans), sl_law_spans⟩)
    (c1_law_spans : PySem.W.codeIn K cd_law_spans "_law_spans" = true) (k1_law_spans : PySem.W.keepIn K (.ref f_law_spans) = true)
    {f_law_case : Addr} {od_law_case an_law_case : Option Addr} {sl_law_case : Array (Option Value)} {oc_law_case kV_law_case dc_law_case pm_law_case cd_law_case ct_law_case : Value}
    (a1_law_case : PySem.W.nsIn K mainGlobals "_law_case" = some (some (.ref f_law_case)))
    (l1_law_case : K.lookup f_law_case = some ⟨oc_law_case, od_law_case, .func (PySem.W.fnOf "_law_case" "_law_case" (defArgs s_law_case) (defBody s_law_case) (defScope s_law_case) .none kV_law_case dc_law_case pm_law_case an_law_case cd_law_case ct_law_case), sl_law_case⟩)
    (c1_law_case : PySem.W.codeIn K cd_law_case "_law_case" = true) (k1_law_case : PySem.W.keepIn K (.ref f_law_case) = true)
    {f_law_case_shown : Addr} {od_law_case_shown an_law_case_shown : Option Addr} {sl_law_case_shown : Array (Option Value)} {oc_law_case_shown kV_law_case_shown dc_law_case_shown pm_law_case_shown cd_law_case_shown ct_law_case_shown : Value}
    (a1_law_case_shown : PySem.W.nsIn K mainGlobals "_law_case_shown" = some (some (.ref f_law_case_shown)))
    (l1_law_case_shown : K.lookup f_law_case_shown = some ⟨oc_law_case_shown, od_law_case_shown, .func (PySem.W.fnOf "_law_case_shown" "_law_case_shown" (defArgs s_law_case_shown) (defBody s_law_case_shown) (defScope s_law_case_shown) .none kV_law_case_shown dc_law_case_shown pm_law_case_shown an_law_case_shown cd_law_case_shown ct_law_case_shown), sl_law_case_shown⟩)
    (c1_law_case_shown : PySem.W.codeIn K cd_law_case_shown "_law_case_shown" = true) (k1_law_case_shown : PySem.W.keepIn K (.ref f_law_case_shown) = true)
    {f_law_right : Addr} {od_law_right an_law_right : Option Addr} {sl_law_right : Array (Option Value)} {oc_law_right kV_law_right dc_law_right pm_law_right cd_law_right ct_law_right : Value}
    (a1_law_right : PySem.W.nsIn K mainGlobals "_law_right" = some (some (.ref f_law_right)))
    (l1_law_right : K.lookup f_law_right = some ⟨oc_law_right, od_law_right, .func (PySem.W.fnOf "_law_right" "_law_right" (defArgs s_law_right) (defBody s_law_right) (defScope s_law_right) .none kV_law_right dc_law_right pm_law_right an_law_right cd_law_right ct_law_right), sl_law_right⟩)
    (c1_law_right : PySem.W.codeIn K cd_law_right "_law_right" = true) (k1_law_right : PySem.W.keepIn K (.ref f_law_right) = true)
    {f_law : Addr} {od_law an_law : Option Addr} {sl_law : Array (Option Value)} {oc_law kV_law dc_law pm_law cd_law ct_law : Value}
    (a1_law : PySem.W.nsIn K mainGlobals "law" = some (some (.ref f_law)))
    (l1_law : K.lookup f_law = some ⟨oc_law, od_law, .func (PySem.W.fnOf "law" "law" (defArgs s_law) (defBody s_law) (defScope s_law) .none kV_law dc_law pm_law an_law cd_law ct_law), sl_law⟩)
    (c1_law : PySem.W.codeIn K cd_law "law" = true) (k1_law : PySem.W.keepIn K (.ref f_law) = true)
    (z_all : PySem.W.nsIn K mainGlobals "all" = some none)
    (z_bool : PySem.W.nsIn K mainGlobals "bool" = some none)
    (z_int : PySem.W.nsIn K mainGlobals "int" = some none)
    (z_isinstance : PySem.W.nsIn K mainGlobals "isinstance" = some none)
    (z_len : PySem.W.nsIn K mainGlobals "len" = some none)
    (z_list : PySem.W.nsIn K mainGlobals "list" = some none)
    (z_max : PySem.W.nsIn K mainGlobals "max" = some none)
    (z_min : PySem.W.nsIn K mainGlobals "min" = some none)
    (z_range : PySem.W.nsIn K mainGlobals "range" = some none)
    (z_repr : PySem.W.nsIn K mainGlobals "repr" = some none)
    (z_set : PySem.W.nsIn K mainGlobals "set" = some none)
    (z_sorted : PySem.W.nsIn K mainGlobals "sorted" = some none)
    (z_str : PySem.W.nsIn K mainGlobals "str" = some none)
    (z_tuple : PySem.W.nsIn K mainGlobals "tuple" = some none)
    (z_zip : PySem.W.nsIn K mainGlobals "zip" = some none)
    {t_LONGEST_NAME : Tok} (v_LONGEST_NAME : PySem.W.nsIn K mainGlobals "LONGEST_NAME" = some (some (.int 8 t_LONGEST_NAME)))
    {t_EVERYBODY : Tok} (v_EVERYBODY : PySem.W.nsIn K mainGlobals "EVERYBODY" = some (some (.str "public" t_EVERYBODY)))
    {f_UNITS : Addr} {t0_UNITS t1_UNITS : Tok} {dd_UNITS : Option Addr} {n_UNITS : Nat} {sl_UNITS : Array (Option Value)} (v_UNITS : PySem.W.nsIn K mainGlobals "UNITS" = some (some (.ref f_UNITS))) (o_UNITS : K.lookup f_UNITS = some ⟨.type "tuple", dd_UNITS, .seq #[Value.str "days" t0_UNITS, Value.str "open" t1_UNITS] n_UNITS, sl_UNITS⟩)
    {f_SIDES : Addr} {t0_SIDES t1_SIDES : Tok} {dd_SIDES : Option Addr} {n_SIDES : Nat} {sl_SIDES : Array (Option Value)} (v_SIDES : PySem.W.nsIn K mainGlobals "SIDES" = some (some (.ref f_SIDES))) (o_SIDES : K.lookup f_SIDES = some ⟨.type "tuple", dd_SIDES, .seq #[Value.str "asker" t0_SIDES, Value.str "answerer" t1_SIDES] n_SIDES, sl_SIDES⟩)
    {t_MOST_FIGURES : Tok} (v_MOST_FIGURES : PySem.W.nsIn K mainGlobals "MOST_FIGURES" = some (some (.int 12 t_MOST_FIGURES)))
    : ∃ fd : FuncData, (∀ (s : Shared) (v : Value), BindsTo s fd ⟨[v], []⟩ [("script", v)]) ∧ ∀ base : Heap, K.In base → base.Ns mainGlobals mg → FnG l.prog w K mg base 10 fa fd ["script"] (sp_law K) := by
  have e := hfa.symm.trans (PySem.W.mg_of X G a1_law)
  cases e
  have F_is_whole := fun_mk (st := s_is_whole) l1_is_whole c1_is_whole k1_is_whole
  have B_is_whole := F_is_whole.binds (ps := ["thing", "least"]) fun _ _ _ _ _ _ us hl => match us, hl with | [_, _], _ => rfl
  have F_is_row := fun_mk (st := s_is_row) l1_is_row c1_is_row k1_is_row
  have B_is_row := F_is_row.binds (ps := ["thing", "many"]) fun _ _ _ _ _ _ us hl => match us, hl with | [_, _], _ => rfl
  have F_is_rising := fun_mk (st := s_is_rising) l1_is_rising c1_is_rising k1_is_rising
  have B_is_rising := F_is_rising.binds (ps := ["row"]) fun _ _ _ _ _ _ us hl => match us, hl with | [_], _ => rfl
  have F_is_name := fun_mk (st := s_is_name) l1_is_name c1_is_name k1_is_name
  have B_is_name := F_is_name.binds (ps := ["thing"]) fun _ _ _ _ _ _ us hl => match us, hl with | [_], _ => rfl
  have F_are_names := fun_mk (st := s_are_names) l1_are_names c1_are_names k1_are_names
  have B_are_names := F_are_names.binds (ps := ["thing"]) fun _ _ _ _ _ _ us hl => match us, hl with | [_], _ => rfl
  have F_is_calendar := fun_mk (st := s_is_calendar) l1_is_calendar c1_is_calendar k1_is_calendar
  have B_is_calendar := F_is_calendar.binds (ps := ["thing"]) fun _ _ _ _ _ _ us hl => match us, hl with | [_], _ => rfl
  have F_is_day := fun_mk (st := s_is_day) l1_is_day c1_is_day k1_is_day
  have B_is_day := F_is_day.binds (ps := ["thing"]) fun _ _ _ _ _ _ us hl => match us, hl with | [_], _ => rfl
  have F_is_term := fun_mk (st := s_is_term) l1_is_term c1_is_term k1_is_term
  have B_is_term := F_is_term.binds (ps := ["thing"]) fun _ _ _ _ _ _ us hl => match us, hl with | [_], _ => rfl
  have F_is_case := fun_mk (st := s_is_case) l1_is_case c1_is_case k1_is_case
  have B_is_case := F_is_case.binds (ps := ["thing"]) fun _ _ _ _ _ _ us hl => match us, hl with | [_], _ => rfl
  have F_are_parties := fun_mk (st := s_are_parties) l1_are_parties c1_are_parties k1_are_parties
  have B_are_parties := F_are_parties.binds (ps := ["thing"]) fun _ _ _ _ _ _ us hl => match us, hl with | [_], _ => rfl
  have F_is_party := fun_mk (st := s_is_party) l1_is_party c1_is_party k1_is_party
  have B_is_party := F_is_party.binds (ps := ["thing"]) fun _ _ _ _ _ _ us hl => match us, hl with | [_], _ => rfl
  have F_are_terms := fun_mk (st := s_are_terms) l1_are_terms c1_are_terms k1_are_terms
  have B_are_terms := F_are_terms.binds (ps := ["thing"]) fun _ _ _ _ _ _ us hl => match us, hl with | [_], _ => rfl
  have F_check_case := fun_mk (st := s_check_case) l1_check_case c1_check_case k1_check_case
  have B_check_case := F_check_case.binds (ps := ["case"]) fun _ _ _ _ _ _ us hl => match us, hl with | [_], _ => rfl
  have F_show_case := fun_mk (st := s_show_case) l1_show_case c1_show_case k1_show_case
  have B_show_case := F_show_case.binds (ps := ["case"]) fun _ _ _ _ _ _ us hl => match us, hl with | [_], _ => rfl
  have F_read_case := fun_mk (st := s_read_case) l1_read_case c1_read_case k1_read_case
  have B_read_case := F_read_case.binds (ps := ["text"]) fun _ _ _ _ _ _ us hl => match us, hl with | [_], _ => rfl
  have F_case_text := fun_mk (st := s_case_text) l1_case_text c1_case_text k1_case_text
  have B_case_text := F_case_text.binds (ps := ["case"]) fun _ _ _ _ _ _ us hl => match us, hl with | [_], _ => rfl
  have F_whole_of := fun_mk (st := s_whole_of) l1_whole_of c1_whole_of k1_whole_of
  have B_whole_of := F_whole_of.binds (ps := ["text"]) fun _ _ _ _ _ _ us hl => match us, hl with | [_], _ => rfl
  have F_case_of := fun_mk (st := s_case_of) l1_case_of c1_case_of k1_case_of
  have B_case_of := F_case_of.binds (ps := ["text"]) fun _ _ _ _ _ _ us hl => match us, hl with | [_], _ => rfl
  have F_parts_of := fun_mk (st := s_parts_of) l1_parts_of c1_parts_of k1_parts_of
  have B_parts_of := F_parts_of.binds (ps := ["text", "sign"]) fun _ _ _ _ _ _ us hl => match us, hl with | [_, _], _ => rfl
  have F_party_of := fun_mk (st := s_party_of) l1_party_of c1_party_of k1_party_of
  have B_party_of := F_party_of.binds (ps := ["text"]) fun _ _ _ _ _ _ us hl => match us, hl with | [_], _ => rfl
  have F_term_of := fun_mk (st := s_term_of) l1_term_of c1_term_of k1_term_of
  have B_term_of := F_term_of.binds (ps := ["text"]) fun _ _ _ _ _ _ us hl => match us, hl with | [_], _ => rfl
  have F_law_cell_at := fun_mk (st := s_law_cell_at) l1_law_cell_at c1_law_cell_at k1_law_cell_at
  have B_law_cell_at := F_law_cell_at.binds (ps := ["script", "k"]) fun _ _ _ _ _ _ us hl => match us, hl with | [_, _], _ => rfl
  have F_law_bag := fun_mk (st := s_law_bag) l1_law_bag c1_law_bag k1_law_bag
  have B_law_bag := F_law_bag.binds (ps := ["cell", "k"]) fun _ _ _ _ _ _ us hl => match us, hl with | [_, _], _ => rfl
  have F_law_dip := fun_mk (st := s_law_dip) l1_law_dip c1_law_dip k1_law_dip
  have B_law_dip := F_law_dip.binds (ps := ["bag", "many"]) fun _ _ _ _ _ _ us hl => match us, hl with | [_, _], _ => rfl
  have F_law_alike := fun_mk (st := s_law_alike) l1_law_alike c1_law_alike k1_law_alike
  have B_law_alike := F_law_alike.binds (ps := ["found", "owed"]) fun _ _ _ _ _ _ us hl => match us, hl with | [_, _], _ => rfl
  have F_law_name := fun_mk (st := s_law_name) l1_law_name c1_law_name k1_law_name
  have B_law_name := F_law_name.binds (ps := ["bag"]) fun _ _ _ _ _ _ us hl => match us, hl with | [_], _ => rfl
  have F_law_names := fun_mk (st := s_law_names) l1_law_names c1_law_names k1_law_names
  have B_law_names := F_law_names.binds (ps := ["bag", "many"]) fun _ _ _ _ _ _ us hl => match us, hl with | [_, _], _ => rfl
  have F_law_spans := fun_mk (st := s_law_spans) l1_law_spans c1_law_spans k1_law_spans
  have B_law_spans := F_law_spans.binds (ps := ["bag"]) fun _ _ _ _ _ _ us hl => match us, hl with | [_], _ => rfl
  have F_law_case := fun_mk (st := s_law_case) l1_law_case c1_law_case k1_law_case
  have B_law_case := F_law_case.binds (ps := ["bag"]) fun _ _ _ _ _ _ us hl => match us, hl with | [_], _ => rfl
  have F_law_case_shown := fun_mk (st := s_law_case_shown) l1_law_case_shown c1_law_case_shown k1_law_case_shown
  have B_law_case_shown := F_law_case_shown.binds (ps := ["case"]) fun _ _ _ _ _ _ us hl => match us, hl with | [_], _ => rfl
  have F_law_right := fun_mk (st := s_law_right) l1_law_right c1_law_right k1_law_right
  have B_law_right := F_law_right.binds (ps := ["bag"]) fun _ _ _ _ _ _ us hl => match us, hl with | [_], _ => rfl
  have F_law := fun_mk (st := s_law) l1_law c1_law k1_law
  have B_law := F_law.binds (ps := ["script"]) fun _ _ _ _ _ _ us hl => match us, hl with | [_], _ => rfl
  exact ⟨PySem.W.fnOf "law" "law" (defArgs s_law) (defBody s_law) (defScope s_law) .none kV_law dc_law pm_law an_law cd_law ct_law, fun s v => .of_eq rfl, fun base _ _ => ok_law (P := l.prog) (w := w) (base := base) { a_is_whole := f_is_whole, d_is_whole := _, F_is_whole := F_is_whole, B_is_whole := B_is_whole, G_is_whole := PySem.W.mg_of X G a1_is_whole, a_is_row := f_is_row, d_is_row := _, F_is_row := F_is_row, B_is_row := B_is_row, G_is_row := PySem.W.mg_of X G a1_is_row, a_is_rising := f_is_rising, d_is_rising := _, F_is_rising := F_is_rising, B_is_rising := B_is_rising, G_is_rising := PySem.W.mg_of X G a1_is_rising, a_is_name := f_is_name, d_is_name := _, F_is_name := F_is_name, B_is_name := B_is_name, G_is_name := PySem.W.mg_of X G a1_is_name, a_are_names := f_are_names, d_are_names := _, F_are_names := F_are_names, B_are_names := B_are_names, G_are_names := PySem.W.mg_of X G a1_are_names, a_is_calendar := f_is_calendar, d_is_calendar := _, F_is_calendar := F_is_calendar, B_is_calendar := B_is_calendar, G_is_calendar := PySem.W.mg_of X G a1_is_calendar, a_is_day := f_is_day, d_is_day := _, F_is_day := F_is_day, B_is_day := B_is_day, G_is_day := PySem.W.mg_of X G a1_is_day, a_is_term := f_is_term, d_is_term := _, F_is_term := F_is_term, B_is_term := B_is_term, G_is_term := PySem.W.mg_of X G a1_is_term, a_is_case := f_is_case, d_is_case := _, F_is_case := F_is_case, B_is_case := B_is_case, G_is_case := PySem.W.mg_of X G a1_is_case, a_are_parties := f_are_parties, d_are_parties := _, F_are_parties := F_are_parties, B_are_parties := B_are_parties, G_are_parties := PySem.W.mg_of X G a1_are_parties, a_is_party := f_is_party, d_is_party := _, F_is_party := F_is_party, B_is_party := B_is_party, G_is_party := PySem.W.mg_of X G a1_is_party, a_are_terms := f_are_terms, d_are_terms := _, F_are_terms := F_are_terms, B_are_terms := B_are_terms, G_are_terms := PySem.W.mg_of X G a1_are_terms, a_check_case := f_check_case, d_check_case := _, F_check_case := F_check_case, B_check_case := B_check_case, G_check_case := PySem.W.mg_of X G a1_check_case, a_show_case := f_show_case, d_show_case := _, F_show_case := F_show_case, B_show_case := B_show_case, G_show_case := PySem.W.mg_of X G a1_show_case, a_read_case := f_read_case, d_read_case := _, F_read_case := F_read_case, B_read_case := B_read_case, G_read_case := PySem.W.mg_of X G a1_read_case, a_case_text := f_case_text, d_case_text := _, F_case_text := F_case_text, B_case_text := B_case_text, G_case_text := PySem.W.mg_of X G a1_case_text, a_whole_of := f_whole_of, d_whole_of := _, F_whole_of := F_whole_of, B_whole_of := B_whole_of, G_whole_of := PySem.W.mg_of X G a1_whole_of, a_case_of := f_case_of, d_case_of := _, F_case_of := F_case_of, B_case_of := B_case_of, G_case_of := PySem.W.mg_of X G a1_case_of, a_parts_of := f_parts_of, d_parts_of := _, F_parts_of := F_parts_of, B_parts_of := B_parts_of, G_parts_of := PySem.W.mg_of X G a1_parts_of, a_party_of := f_party_of, d_party_of := _, F_party_of := F_party_of, B_party_of := B_party_of, G_party_of := PySem.W.mg_of X G a1_party_of, a_term_of := f_term_of, d_term_of := _, F_term_of := F_term_of, B_term_of := B_term_of, G_term_of := PySem.W.mg_of X G a1_term_of, a_law_cell_at := f_law_cell_at, d_law_cell_at := _, F_law_cell_at := F_law_cell_at, B_law_cell_at := B_law_cell_at, G_law_cell_at := PySem.W.mg_of X G a1_law_cell_at, a_law_bag := f_law_bag, d_law_bag := _, F_law_bag := F_law_bag, B_law_bag := B_law_bag, G_law_bag := PySem.W.mg_of X G a1_law_bag, a_law_dip := f_law_dip, d_law_dip := _, F_law_dip := F_law_dip, B_law_dip := B_law_dip, G_law_dip := PySem.W.mg_of X G a1_law_dip, a_law_alike := f_law_alike, d_law_alike := _, F_law_alike := F_law_alike, B_law_alike := B_law_alike, G_law_alike := PySem.W.mg_of X G a1_law_alike, a_law_name := f_law_name, d_law_name := _, F_law_name := F_law_name, B_law_name := B_law_name, G_law_name := PySem.W.mg_of X G a1_law_name, a_law_names := f_law_names, d_law_names := _, F_law_names := F_law_names, B_law_names := B_law_names, G_law_names := PySem.W.mg_of X G a1_law_names, a_law_spans := f_law_spans, d_law_spans := _, F_law_spans := F_law_spans, B_law_spans := B_law_spans, G_law_spans := PySem.W.mg_of X G a1_law_spans, a_law_case := f_law_case, d_law_case := _, F_law_case := F_law_case, B_law_case := B_law_case, G_law_case := PySem.W.mg_of X G a1_law_case, a_law_case_shown := f_law_case_shown, d_law_case_shown := _, F_law_case_shown := F_law_case_shown, B_law_case_shown := B_law_case_shown, G_law_case_shown := PySem.W.mg_of X G a1_law_case_shown, a_law_right := f_law_right, d_law_right := _, F_law_right := F_law_right, B_law_right := B_law_right, G_law_right := PySem.W.mg_of X G a1_law_right, a_law := fa, d_law := _, F_law := F_law, B_law := B_law, G_law := PySem.W.mg_of X G a1_law, N_all := PySem.W.mg_none_of X G z_all, N_bool := PySem.W.mg_none_of X G z_bool, N_int := PySem.W.mg_none_of X G z_int, N_isinstance := PySem.W.mg_none_of X G z_isinstance, N_len := PySem.W.mg_none_of X G z_len, N_list := PySem.W.mg_none_of X G z_list, N_max := PySem.W.mg_none_of X G z_max, N_min := PySem.W.mg_none_of X G z_min, N_range := PySem.W.mg_none_of X G z_range, N_repr := PySem.W.mg_none_of X G z_repr, N_set := PySem.W.mg_none_of X G z_set, N_sorted := PySem.W.mg_none_of X G z_sorted, N_str := PySem.W.mg_none_of X G z_str, N_tuple := PySem.W.mg_none_of X G z_tuple, N_zip := PySem.W.mg_none_of X G z_zip, t_LONGEST_NAME := t_LONGEST_NAME, C_LONGEST_NAME := PySem.W.mg_of X G v_LONGEST_NAME, t_EVERYBODY := t_EVERYBODY, C_EVERYBODY := PySem.W.mg_of X G v_EVERYBODY, a_UNITS := f_UNITS, C_UNITS := PySem.W.mg_of X G v_UNITS, O_UNITS := ⟨_, _, _, o_UNITS, rfl, rfl, (by show 2 ≤ sizeLine; decide), .cons ⟨_, rfl⟩ (.cons ⟨_, rfl⟩ (.nil))⟩, a_SIDES := f_SIDES, C_SIDES := PySem.W.mg_of X G v_SIDES, O_SIDES := ⟨_, _, _, o_SIDES, rfl, rfl, (by show 2 ≤ sizeLine; decide), .cons ⟨_, rfl⟩ (.cons ⟨_, rfl⟩ (.nil))⟩, t_MOST_FIGURES := t_MOST_FIGURES, C_MOST_FIGURES := PySem.W.mg_of X G v_MOST_FIGURES }⟩
end Hh
open PySem PySem.W PyProof.Rows
set_option maxHeartbeats 0 in
theorem PySem.Challenge.cw_heardhouse_k49_cases_written_and_read_holds : PySem.Challenge.rw_heardhouse_k49_cases_written_and_read.Holds := by
  w_on; o_law; k_head; (case hw => w_witness2)
  k_fill
  refine Hh.walkGS (l := PySem.Challenge.rw_heardhouse_k49_cases_written_and_read) (n := 63) (k := 10) (x := "script") (sp := fun w => Hh.spTopS _) rfl (by decide) rfl ⟨rfl, by decide, by decide⟩ (fun w h Y => PySem.W.kIn_of Y) ?caseIm ?caseSM ?F (fun _ _ a ns hl hf hS => Hh.top_fitsS hl hf hS)
  case caseIm => first | rfl | decide +kernel
  case caseSM =>
    intro w
    first | rfl | kernel_rfl
  case F =>
    intro w mg fa h KX G hmg
    refine' Hh.all_mk KX G hmg ?a1_is_whole ?l1_is_whole ?c1_is_whole ?k1_is_whole ?a1_is_row ?l1_is_row ?c1_is_row ?k1_is_row ?a1_is_rising ?l1_is_rising ?c1_is_rising ?k1_is_rising ?a1_is_name ?l1_is_name ?c1_is_name ?k1_is_name ?a1_are_names ?l1_are_names ?c1_are_names ?k1_are_names ?a1_is_calendar ?l1_is_calendar ?c1_is_calendar ?k1_is_calendar ?a1_is_day ?l1_is_day ?c1_is_day ?k1_is_day ?a1_is_term ?l1_is_term ?c1_is_term ?k1_is_term ?a1_is_case ?l1_is_case ?c1_is_case ?k1_is_case ?a1_are_parties ?l1_are_parties ?c1_are_parties ?k1_are_parties ?a1_is_party ?l1_is_party ?c1_is_party ?k1_is_party ?a1_are_terms ?l1_are_terms ?c1_are_terms ?k1_are_terms ?a1_check_case ?l1_check_case ?c1_check_case ?k1_check_case ?a1_show_case ?l1_show_case ?c1_show_case ?k1_show_case ?a1_read_case ?l1_read_case ?c1_read_case ?k1_read_case ?a1_case_text ?l1_case_text ?c1_case_text ?k1_case_text ?a1_whole_of ?l1_whole_of ?c1_whole_of ?k1_whole_of ?a1_case_of ?l1_case_of ?c1_case_of ?k1_case_of ?a1_parts_of ?l1_parts_of ?c1_parts_of ?k1_parts_of ?a1_party_of ?l1_party_of ?c1_party_of ?k1_party_of ?a1_term_of ?l1_term_of ?c1_term_of ?k1_term_of ?a1_law_cell_at ?l1_law_cell_at ?c1_law_cell_at ?k1_law_cell_at ?a1_law_bag ?l1_law_bag ?c1_law_bag ?k1_law_bag ?a1_law_dip ?l1_law_dip ?c1_law_dip ?k1_law_dip ?a1_law_alike ?l1_law_alike ?c1_law_alike ?k1_law_alike ?a1_law_name ?l1_law_name ?c1_law_name ?k1_law_name ?a1_law_names ?l1_law_names ?c1_law_names ?k1_law_names ?a1_law_spans ?l1_law_spans ?c1_law_spans ?k1_law_spans ?a1_law_case ?l1_law_case ?c1_law_case ?k1_law_case ?a1_law_case_shown ?l1_law_case_shown ?c1_law_case_shown ?k1_law_case_shown ?a1_law_right ?l1_law_right ?c1_law_right ?k1_law_right ?a1_law ?l1_law ?c1_law ?k1_law ?z_all ?z_bool ?z_int ?z_isinstance ?z_len ?z_list ?z_max ?z_min ?z_range ?z_repr ?z_set ?z_sorted ?z_str ?z_tuple ?z_zip ?v_LONGEST_NAME ?v_EVERYBODY ?v_UNITS ?o_UNITS ?v_SIDES ?o_SIDES ?v_MOST_FIGURES
    (case a1_is_whole => k_is); (case l1_is_whole => k_is); (case c1_is_whole => k_is); (case k1_is_whole => k_is); (case a1_is_row => k_is); (case l1_is_row => k_is); (case c1_is_row => k_is); (case k1_is_row => k_is); (case a1_is_rising => k_is); (case l1_is_rising => k_is); (case c1_is_rising => k_is); (case k1_is_rising => k_is); (case a1_is_name => k_is); (case l1_is_name => k_is); (case c1_is_name => k_is); (case k1_is_name => k_is); (case a1_are_names => k_is); (case l1_are_names => k_is); (case c1_are_names => k_is); (case k1_are_names => k_is); (case a1_is_calendar => k_is); (case l1_is_calendar => k_is); (case c1_is_calendar => k_is); (case k1_is_calendar => k_is); (case a1_is_day => k_is); (case l1_is_day => k_is); (case c1_is_day => k_is); (case k1_is_day => k_is); (case a1_is_term => k_is); (case l1_is_term => k_is); (case c1_is_term => k_is); (case k1_is_term => k_is); (case a1_is_case => k_is); (case l1_is_case => k_is); (case c1_is_case => k_is); (case k1_is_case => k_is); (case a1_are_parties => k_is); (case l1_are_parties => k_is); (case c1_are_parties => k_is); (case k1_are_parties => k_is); (case a1_is_party => k_is); (case l1_is_party => k_is); (case c1_is_party => k_is); (case k1_is_party => k_is); (case a1_are_terms => k_is); (case l1_are_terms => k_is); (case c1_are_terms => k_is); (case k1_are_terms => k_is); (case a1_check_case => k_is); (case l1_check_case => k_is); (case c1_check_case => k_is); (case k1_check_case => k_is); (case a1_show_case => k_is); (case l1_show_case => k_is); (case c1_show_case => k_is); (case k1_show_case => k_is); (case a1_read_case => k_is); (case l1_read_case => k_is); (case c1_read_case => k_is); (case k1_read_case => k_is); (case a1_case_text => k_is); (case l1_case_text => k_is); (case c1_case_text => k_is); (case k1_case_text => k_is); (case a1_whole_of => k_is); (case l1_whole_of => k_is); (case c1_whole_of => k_is); (case k1_whole_of => k_is); (case a1_case_of => k_is); (case l1_case_of => k_is); (case c1_case_of => k_is); (case k1_case_of => k_is); (case a1_parts_of => k_is); (case l1_parts_of => k_is); (case c1_parts_of => k_is); (case k1_parts_of => k_is); (case a1_party_of => k_is); (case l1_party_of => k_is); (case c1_party_of => k_is); (case k1_party_of => k_is); (case a1_term_of => k_is); (case l1_term_of => k_is); (case c1_term_of => k_is); (case k1_term_of => k_is); (case a1_law_cell_at => k_is); (case l1_law_cell_at => k_is); (case c1_law_cell_at => k_is); (case k1_law_cell_at => k_is); (case a1_law_bag => k_is); (case l1_law_bag => k_is); (case c1_law_bag => k_is); (case k1_law_bag => k_is); (case a1_law_dip => k_is); (case l1_law_dip => k_is); (case c1_law_dip => k_is); (case k1_law_dip => k_is); (case a1_law_alike => k_is); (case l1_law_alike => k_is); (case c1_law_alike => k_is); (case k1_law_alike => k_is); (case a1_law_name => k_is); (case l1_law_name => k_is); (case c1_law_name => k_is); (case k1_law_name => k_is); (case a1_law_names => k_is); (case l1_law_names => k_is); (case c1_law_names => k_is); (case k1_law_names => k_is); (case a1_law_spans => k_is); (case l1_law_spans => k_is); (case c1_law_spans => k_is); (case k1_law_spans => k_is); (case a1_law_case => k_is); (case l1_law_case => k_is); (case c1_law_case => k_is); (case k1_law_case => k_is); (case a1_law_case_shown => k_is); (case l1_law_case_shown => k_is); (case c1_law_case_shown => k_is); (case k1_law_case_shown => k_is); (case a1_law_right => k_is); (case l1_law_right => k_is); (case c1_law_right => k_is); (case k1_law_right => k_is); (case a1_law => k_is); (case l1_law => k_is); (case c1_law => k_is); (case k1_law => k_is); (case z_all => k_is); (case z_bool => k_is); (case z_int => k_is); (case z_isinstance => k_is); (case z_len => k_is); (case z_list => k_is); (case z_max => k_is); (case z_min => k_is); (case z_range => k_is); (case z_repr => k_is); (case z_set => k_is); (case z_sorted => k_is); (case z_str => k_is); (case z_tuple => k_is); (case z_zip => k_is); (case v_LONGEST_NAME => k_is); (case v_EVERYBODY => k_is); (case v_UNITS => k_is); (case o_UNITS => k_is); (case v_SIDES => k_is); (case o_SIDES => k_is); (case v_MOST_FIGURES => k_is)

