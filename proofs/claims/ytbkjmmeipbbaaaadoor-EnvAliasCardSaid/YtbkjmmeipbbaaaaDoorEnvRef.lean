/- The document's own table: how it lies, and what its readers give. -/
import Derived.Test.YtbkjmmeipbbaaaaDoorEnvAwake
import Derived.Test.YtbkjmmeipbbaaaaDoorLexRef
namespace Go.Proofs.YtbkjmmeipbbaaaaDoor
open Go.ChangeShapes Go.WideShapes Go.ChangeAt Go.RowKit

namespace ER
/-- an alias: its name, what it was made of, where -/
structure Al where
  nm : ByteArray
  of : ByteArray
  at_ : Int
/-- the first of that name; the length, if there is none -/
def ix : List Al → ByteArray → Nat
  | [], _ => 0
  | a :: l, x => if a.nm = x then 0 else ix l x + 1
theorem ix_at : ∀ {A : List Al} {x : ByteArray} {i : Nat} {a : Al}, i ≤ ix A x → A[i]? = some a → (a.nm = x → ix A x = i) ∧ (¬ a.nm = x → i + 1 ≤ ix A x)
  | [], x, i, a, _, ha => by simp at ha
  | b :: l, x, 0, a, _, ha => by
    simp at ha; subst ha
    refine ⟨fun e => ?_, fun e => ?_⟩
    · unfold ix; rw [if_pos e]
    · unfold ix; rw [if_neg e]; omega
  | b :: l, x, i + 1, a, h, ha => by
    unfold ix at h ⊢
    by_cases e : b.nm = x
    · rw [if_pos e] at h; omega
    · rw [if_neg e] at h ⊢
      obtain ⟨h1, h2⟩ := ix_at (A := l) (x := x) (i := i) (a := a) (by omega) (by simpa using ha)
      exact ⟨fun q => by rw [h1 q], fun q => by have := h2 q; omega⟩
theorem ix_le : ∀ (A : List Al) (x : ByteArray), ix A x ≤ A.length
  | [], _ => Nat.zero_le _
  | a :: l, x => by
    unfold ix
    have := ix_le l x
    split <;> simp <;> omega
theorem ix_lt {A : List Al} {x : ByteArray} {j : Nat} {a : Al} (ha : A[j]? = some a) (e : a.nm = x) : ix A x ≤ j := by
  apply Decidable.byContradiction
  intro hn
  have := (ix_at (by omega) ha).1 e
  omega
/-- what stays right -/
def Ok (A : List Al) : Prop := A.length ≤ 65536 ∧ ∀ (i : Nat) a, A[i]? = some a → a.nm.size ≤ 100 ∧ a.of.size ≤ 100 ∧ (EM.sy a.of = true ∨ ∃ (j : Nat) (b : Al), j < i ∧ A[j]? = some b ∧ b.nm = a.of)
end ER

def acs (a : ER.Al) : List Value := [.string a.nm, .string a.of, .int .i64 a.at_]
def OwnAl (w : World) (v : Value) (l : List ER.Al) : Prop := w.ownsRow 0 65 3 v l.length (l.flatMap acs)
theorem al_at : ∀ (l : List ER.Al) (i j : Nat) (t : ER.Al), l[i]? = some t → j < 3 → (l.flatMap acs)[i * 3 + j]? = (acs t)[j]?
  | [], i, j, t, h, _ => by simp at h
  | x :: l, 0, j, t, h, hj => by
    simp at h; subst h
    rw [List.flatMap_cons, List.getElem?_append_left (by simp [acs]; omega)]; simp
  | x :: l, i + 1, j, t, h, hj => by
    have hl : (acs x).length = 3 := rfl
    rw [List.flatMap_cons, List.getElem?_append_right (by omega), hl, show (i + 1) * 3 + j - 3 = i * 3 + j by omega]
    exact al_at l i j t (by simpa using h) hj
theorem OwnAl.cell {w : World} {A : Option Addr} {n c : Nat} {l : List ER.Al} (h : OwnAl w (.slice A n c) l) {i : Nat} {t : ER.Al} (ht : l[i]? = some t) :
    ∃ g, A = some ⟨g, 0, none⟩ ∧ g < w.heap.size ∧ w.cell? ⟨g, i * 3, none⟩ = some (.string t.nm) ∧ w.cell? ⟨g, i * 3 + 1, none⟩ = some (.string t.of) ∧ w.cell? ⟨g, i * 3 + 2, none⟩ = some (.int .i64 t.at_) := by
  have hi : i < l.length := (List.getElem?_eq_some_iff.1 ht).1
  obtain ⟨A', c', e, hr⟩ := own_read h
  injection e with e1 e2 e3
  subst e1
  obtain ⟨g, hg, h1, h2, h3⟩ := hr (i * 3) (by omega)
  subst hg
  have at_ : ∀ j, j < 3 → w.cell? ⟨g, i * 3 + j, none⟩ = (acs t)[j]? := fun j hj => by
    obtain ⟨g', hg', _, _, h'⟩ := hr (i * 3 + j) (by omega)
    cases hg'
    rw [h', al_at l i j t ht hj]
  exact ⟨g, rfl, h2, at_ 0 (by omega), at_ 1 (by omega), at_ 2 (by omega)⟩

/-- The document's table lies at block r, all of it in blocks of E: np places, the aliases A, nt tops. -/
def Rw (w : World) (r : Nat) (E : Nat → Prop) (np nt : Nat) (A : List ER.Al) : Prop :=
  ∃ vP vA vT csP csT, Lies w r 34 [vP, vA, vT] ∧ w.ownsRow 0 70 4 vP np csP ∧ OwnAl w vA A ∧ w.ownsRow 0 70 4 vT nt csT
    ∧ (∀ g, vP.ownBlock = some g → E g ∧ vA.ownBlock ≠ some g ∧ vT.ownBlock ≠ some g ∧ g ≠ r) ∧ (∀ g, vA.ownBlock = some g → E g ∧ vT.ownBlock ≠ some g ∧ g ≠ r) ∧ (∀ g, vT.ownBlock = some g → E g ∧ g ≠ r) ∧ E r ∧ ∀ g, E g → g < w.heap.size
section
variable {w w' : World} {r np nt : Nat} {E X : Nat → Prop} {A : List ER.Al}
theorem Rw.turns (h : Rw w r E np nt A) (k : Turns X w w') (hx : ∀ g, E g → ¬ X g) : Rw w' r E np nt A := by
  obtain ⟨vP, vA, vT, csP, csT, h1, h2, h3, h4, h5, h6, h7, h8, h9⟩ := h
  exact ⟨vP, vA, vT, csP, csT, h1.turns k (hx r h8), own_turns h2 k (fun g hg => hx g (h5 g hg).1), own_turns h3 k (fun g hg => hx g (h6 g hg).1), own_turns h4 k (fun g hg => hx g (h7 g hg).1), h5, h6, h7, h8, fun g hg => Nat.lt_of_lt_of_le (h9 g hg) k.size⟩
theorem Rw.below (h : Rw w r E np nt A) (k : Below w.heap.size w w') : Rw w' r E np nt A := h.turns (Turns.of_below k (fun _ => False)) (fun _ _ h => h)
theorem Rw.made (w : World) : Rw (w.alloc (.cells #[.slice none 0 0, .slice none 0 0, .slice none 0 0] 34)) w.heap.size (fun g => g = w.heap.size) 0 0 [] := by
  have n2 : ∀ g : Nat, (Value.slice none 0 0).ownBlock ≠ some g := fun g h => by simp [Value.ownBlock] at h
  exact ⟨_, _, _, [], [], Lies.made w _ _, own_none _ 0 _ 4, own_none _ 0 _ 3, own_none _ 0 _ 4, fun g h => absurd h (n2 g), fun g h => absurd h (n2 g), fun g h => absurd h (n2 g), rfl, fun g hg => by subst hg; simp⟩

set_option maxRecDepth 100000 in
theorem ralias_any (h : Rw w r E np nt A) (hl : A.length ≤ 100000) (x : ByteArray) :
    Calls Tryd.prog 39 #[.pointer (some ⟨r, 0, none⟩), .string x] w fun e w' => e = .returned (.int .i64 (if ER.ix A x < A.length then (ER.ix A x : Int) else -1)) ∧ w = w' := by
  obtain ⟨vP, vA, vT, csP, csT, h1, -, h3, -⟩ := h
  obtain ⟨B, c, rfl, -⟩ := own_read h3
  have c1 : w.cell? ⟨r, 1, none⟩ = some (.slice B A.length c) := h1.cell 1
  obtain ⟨L, hL⟩ : ∃ L, A.length = L := ⟨_, rfl⟩
  rw [hL] at c1 hl ⊢
  have hL' := Lib.hid hL
  have h3' := Lib.hid h3
  have hle := ER.ix_le A x
  rw [hL] at hle
  obtain ⟨R, hR⟩ : ∃ R, ER.ix A x = R := ⟨_, rfl⟩
  rw [hR] at hle ⊢
  have hR' := Lib.hid hR
  clear h1 h3 hL hR
  go_enter Tryd.func39, Tryd.ntmps39
  go_wp2
  go_loopw [5] (fun v wr => ∃ (i : Nat), i ≤ R ∧ v = .int .i64 i ∧ wr = w) (fun v _ => L - (intOf v).toNat)
  case atStart => exact ⟨0, Nat.zero_le _, rfl, rfl⟩
  case round =>
    obtain ⟨i, hi, rfl, rfl⟩ := hrel
    by_cases hlt : i < L
    · obtain ⟨a, ha⟩ : ∃ a, A[i]? = some a := ⟨_, List.getElem?_eq_getElem (by rw [hL'.out]; exact hlt)⟩
      obtain ⟨g, rfl, hg, k0, k1, k2⟩ := h3'.out.cell ha
      obtain ⟨q1, q2⟩ := ER.ix_at (by rw [hR'.out]; exact hi) ha
      rw [hR'.out] at q1 q2
      by_cases e : a.nm = x
      · obtain rfl := q1 e
        rw [e] at k0
        clear ha q1 q2 e k1 k2
        go_wp2
        go_ret
        first
          | exact ⟨rfl, rfl⟩
          | (rw [if_pos hlt]; exact ⟨rfl, rfl⟩)
      · obtain ⟨n1, n2, n3⟩ := tl_ne e
        have q3 := q2 e
        clear ha q1 q2 e k1 k2
        go_wp2
        go_roundw
        case rel => exact ⟨i + 1, q3, by go_num, by first | rfl | trivial⟩
        case measure => simp [intOf]; omega
    · obtain rfl : R = L := by omega
      go_wp2
      go_ret
      first
        | exact ⟨rfl, rfl⟩
        | (rw [if_neg (by omega)]; exact ⟨rfl, rfl⟩)
theorem rplace_any (h : Rw w r E np nt A) (a : Int) :
    Calls Tryd.prog 25 #[.pointer (some ⟨r, 0, none⟩), .int .i64 a] w fun e w' => e = .returned (.bool (decide (0 ≤ a ∧ a ≤ np))) ∧ w = w' := by
  obtain ⟨vP, vA, vT, csP, csT, h1, h2, -⟩ := h
  obtain ⟨B, c, rfl, -⟩ := own_read h2
  have c0 : w.cell? ⟨r, 0, none⟩ = some (.slice B np c) := h1.cell 0
  clear h1 h2
  by_cases n1 : 0 ≤ a
  · by_cases n2 : a ≤ np
    · rw [decide_eq_true (show 0 ≤ a ∧ a ≤ np from ⟨n1, n2⟩)]
      go_enter Tryd.func25, Tryd.ntmps25
      go_wp2
      go_ret
      exact ⟨rfl, rfl⟩
    · rw [decide_eq_false (show ¬ (0 ≤ a ∧ a ≤ np) from fun h => n2 h.2)]
      go_enter Tryd.func25, Tryd.ntmps25
      go_wp2
      go_ret
      exact ⟨rfl, rfl⟩
  · rw [decide_eq_false (show ¬ (0 ≤ a ∧ a ≤ np) from fun h => n1 h.1)]
    go_enter Tryd.func25, Tryd.ntmps25
    go_wp2
    go_ret
    exact ⟨rfl, rfl⟩
/-- a name: a symbol's, or an alias' -/
def rnm (A : List ER.Al) (x : ByteArray) : Bool := EM.sy x || decide (ER.ix A x < A.length)
theorem rname_any (h : Rw w r E np nt A) (hl : A.length ≤ 100000) (x : ByteArray) (hx : x.size ≤ 1000) :
    Calls Tryd.prog 26 #[.pointer (some ⟨r, 0, none⟩), .string x] w fun e w' => e = .returned (.bool (rnm A x)) ∧ w = w' := by
  have hA := Lib.hid (ralias_any h hl x)
  have hS := Lib.hid (fun w => rSymbol_any x (by omega) w)
  clear h hl hx
  unfold rnm EM.sy
  cases hs : LM.sym x.data.toList with
  | true =>
    rw [hs] at hS
    go_enter Tryd.func26, Tryd.ntmps26
    go_wp2_with (go_at_call 23; refine (hS.out _).mono ?_; rintro e w' ⟨rfl, rfl⟩)
    go_ret
    exact ⟨rfl, rfl⟩
  | false =>
    rw [hs] at hS
    by_cases hi : ER.ix A x < A.length
    · rw [if_pos hi] at hA
      rw [decide_eq_true hi]
      go_enter Tryd.func26, Tryd.ntmps26
      go_wp2_with (first
        | (go_at_call 23; refine (hS.out _).mono ?_; rintro e w' ⟨rfl, rfl⟩)
        | (go_at_call 39; refine hA.out.mono ?_; rintro e w' ⟨rfl, rfl⟩))
      go_ret
      exact ⟨rfl, rfl⟩
    · rw [if_neg hi] at hA
      rw [decide_eq_false hi]
      go_enter Tryd.func26, Tryd.ntmps26
      go_wp2_with (first
        | (go_at_call 23; refine (hS.out _).mono ?_; rintro e w' ⟨rfl, rfl⟩)
        | (go_at_call 39; refine hA.out.mono ?_; rintro e w' ⟨rfl, rfl⟩))
      go_ret
      exact ⟨rfl, rfl⟩
set_option maxRecDepth 100000 in
theorem rstrip_any (h : Rw w r E np nt A) (hO : ER.Ok A) (x : ByteArray) (hx : x.size ≤ 100) :
    Calls Tryd.prog 29 #[.pointer (some ⟨r, 0, none⟩), .string x] w fun e w' => (∃ s : ByteArray, s.size ≤ 60 ∧ e = .returned (.string s)) ∧ w = w' := by
  have hA := Lib.hid (fun x => ralias_any h (by have := hO.1; omega) x)
  have hS := Lib.hid (fun (x : ByteArray) (hx : x.size ≤ 100) w => rSymbol_any x (by omega) w)
  obtain ⟨vP, vA, vT, csP, csT, h1, -, h3, -⟩ := h
  obtain ⟨B, c, rfl, -⟩ := own_read h3
  have c1 : w.cell? ⟨r, 1, none⟩ = some (.slice B A.length c) := h1.cell 1
  have h3' := Lib.hid h3
  have hO' := Lib.hid hO
  obtain ⟨L, hL⟩ : ∃ L, A.length = L := ⟨_, rfl⟩
  rw [hL] at c1
  simp only [hL] at hA
  have hL' := Lib.hid hL
  clear h1 h3 hO hL
  go_enter Tryd.func29, Tryd.ntmps29
  go_wp2
  go_loopw [1] (fun v wr => ∃ (y : ByteArray), y.size ≤ 100 ∧ v = .string y ∧ wr = w) (fun v _ => match v with | .string y => if EM.sy y = true then 0 else ER.ix A y + 1 | _ => 0)
  case atStart => exact ⟨x, hx, rfl, rfl⟩
  case round =>
    obtain ⟨y, hy, rfl, rfl⟩ := hrel
    have hSy := Lib.hid (hS.out y hy)
    cases hs : LM.sym y.data.toList with
    | true =>
      rw [hs] at hSy
      have h60 : y.size ≤ 60 := (EM.sy_size (x := y) hs).2
      have h60' := Lib.hid h60
      clear h60 hs
      go_wp2_with (go_at_call 23; refine (hSy.out _).mono ?_; rintro e w' ⟨rfl, rfl⟩)
      go_ret
      exact ⟨⟨y, h60'.out, rfl⟩, rfl⟩
    | false =>
      rw [hs] at hSy
      have hAy := Lib.hid (hA.out y)
      by_cases hi : ER.ix A y < L
      · rw [if_pos hi] at hAy
        obtain ⟨i, hie⟩ : ∃ i, ER.ix A y = i := ⟨_, rfl⟩
        rw [hie] at hAy hi
        have hie' := Lib.hid hie
        obtain ⟨a, ha⟩ : ∃ a, A[i]? = some a := ⟨_, List.getElem?_eq_getElem (by rw [hL'.out]; exact hi)⟩
        obtain ⟨g, rfl, hg, k0, k1, k2⟩ := h3'.out.cell ha
        obtain ⟨z1, z2, z3⟩ := hO'.out.2 i a ha
        have hmz : (if EM.sy a.of = true then 0 else ER.ix A a.of + 1) < (if EM.sy y = true then 0 else ER.ix A y + 1) := by
          have e1 : EM.sy y = false := hs
          have e2 : (if EM.sy y = true then 0 else ER.ix A y + 1) = i + 1 := by rw [e1, hie'.out]; rfl
          rw [e2]
          rcases z3 with h | ⟨j, b, h1, h2, h3⟩
          · rw [if_pos h]; omega
          · have := ER.ix_lt h2 h3
            split <;> omega
        have hmz' := Lib.hid hmz
        have z2' := Lib.hid z2
        clear hmz z1 z2 z3 ha hie hs k0 k2 hy
        go_wp2_with (first
          | (go_at_call 23; refine (hSy.out _).mono ?_; rintro e w' ⟨rfl, rfl⟩)
          | (go_at_call 39; refine hAy.out.mono ?_; rintro e w' ⟨rfl, rfl⟩))
        go_roundw
        case rel => exact ⟨a.of, z2'.out, by first | rfl | trivial, by first | rfl | trivial⟩
        case measure => exact hmz'.out
      · rw [if_neg hi] at hAy
        clear hs hi
        go_wp2_with (first
          | (go_at_call 23; refine (hSy.out _).mono ?_; rintro e w' ⟨rfl, rfl⟩)
          | (go_at_call 39; refine hAy.out.mono ?_; rintro e w' ⟨rfl, rfl⟩))
        go_ret
        exact ⟨⟨⟨#[]⟩, Nat.zero_le _, rfl⟩, rfl⟩
end
end Go.Proofs.YtbkjmmeipbbaaaaDoor
