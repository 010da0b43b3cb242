/- What the calls of package ring give over places that are there: a link read, links set, Init, Insert, Remove, Join, Alone. -/
import Derived.Test.YtnkfpnhifpblmaaRingMath
import Derived.LoopTactic
import Derived.Outline
namespace Go.Proofs.Ytnkfpnhifpblmaa
open Go.ChangeShapes Go.WideShapes Go.ChangeAt Go.RowKit

theorem check_ok (p : Nat) (a : Int) (w : World) (h0 : 0 ≤ a) (h1 : a ≤ 1048576) :
    Calls Try.prog 19 #[.pointer (some ⟨p, 0, none⟩), .int .i64 a] w fun e w' => e = .returned .nilIface ∧ w = w' := by
  go_enter Try.func19, Try.ntmps19
  go_wp2
  go_ret
  exact ⟨rfl, rfl⟩

/-- A store of the words xs, touched at most K times. -/
def Had (w : World) (p b : Nat) (xs : List Int) (K : Nat) : Prop := ∃ c : Int, 0 ≤ c ∧ c ≤ K ∧ St 51 w p b xs c

theorem hget (p b : Nat) (xs : List Int) (K : Nat) (i : Int) (w : World) (hs : Had w p b xs K) (hK : K ≤ 1000000000) (hi : inside xs.length i = true) :
    Calls Try.prog 21 #[.pointer (some ⟨p, 0, none⟩), .int .i64 i] w fun e w' =>
      e = .returned (.tuple #[.int .u64 (gv xs i), .nilIface]) ∧ Had w' p b xs (K + 1) ∧ Turns (· = p) w w' := by
  obtain ⟨c, c0, c1, hs⟩ := hs
  have H := get_any p b xs c i w hs c0 (by omega)
  rw [gk, hit, if_pos hi, if_pos hi, er_no] at H
  exact H.mono fun e w' ⟨he, hs', ht⟩ => ⟨he, ⟨c + 1, by omega, by omega, hs'⟩, ht⟩
theorem hset (p b : Nat) (xs : List Int) (K : Nat) (i v : Int) (w : World) (hs : Had w p b xs K) (hK : K ≤ 1000000000) (hi : inside xs.length i = true) :
    Calls Try.prog 20 #[.pointer (some ⟨p, 0, none⟩), .int .i64 i, .int .u64 v] w fun e w' =>
      e = .returned .nilIface ∧ Had w' p b (sv xs i v) (K + 1) ∧ Turns (fun k => k = p ∨ k = b) w w' := by
  obtain ⟨c, c0, c1, hs⟩ := hs
  have H := set_any p b xs c i v w hs c0 (by omega)
  rw [gk, hit, if_pos hi, if_pos hi, er_no] at H
  exact H.mono fun e w' ⟨he, hs', ht⟩ => ⟨he, ⟨c + 1, by omega, by omega, hs'⟩, ht⟩

theorem ring_get (p b : Nat) (xs : List Int) (K : Nat) (a s : Int) (w : World) (hs : Had w p b xs K) (hK : K ≤ 1000000000) (ha : 0 ≤ a ∧ a ≤ 1048576) (hs12 : 0 ≤ s ∧ s ≤ 2) (hi : inside xs.length (a + s) = true) (hv : 0 ≤ gv xs (a + s) ∧ gv xs (a + s) ≤ 1048576) :
    Calls Try.prog 18 #[.pointer (some ⟨p, 0, none⟩), .int .i64 a, .int .i64 s] w fun e w' =>
      e = .returned (.tuple #[.int .i64 (gv xs (a + s)), .nilIface]) ∧ Had w' p b xs (K + 1) ∧ Turns (· = p) w w' := by
  obtain ⟨ha0, ha1⟩ := ha
  obtain ⟨hs0, hs1⟩ := hs12
  have G := hget p b xs K (a + s) w hs hK hi
  generalize gv xs (a + s) = v at *
  obtain ⟨hv0, hv1⟩ := hv
  have GG := Lib.hid G
  clear G hi
  go_enter Try.func18, Try.ntmps18
  go_wp2_with (first
    | (go_at_call 19
       refine (check_ok p _ _ (by assumption) (by assumption)).mono ?_
       rintro e w' ⟨rfl, rfl⟩)
    | (go_at_call 21
       refine GG.out.mono ?_
       rintro e w1 ⟨rfl, hs1, ht1⟩))
  go_ret2
  exact ⟨rfl, hs1, ht1⟩

/-- links laid out in memory, and what setting them leaves -/
def flat : List (Int × Int × Int) → List Value
  | [] => []
  | (m, s, t) :: l => .int .i64 m :: .int .i64 s :: .int .i64 t :: flat l
def svs (xs : List Int) : List (Int × Int × Int) → List Int
  | [] => xs
  | (m, s, t) :: l => svs (sv xs (m + s) t) l
theorem flat_at : ∀ (l : List (Int × Int × Int)) (j : Nat) (q : Int × Int × Int), l[j]? = some q → (flat l)[j * 3]? = some (.int .i64 q.1) ∧ (flat l)[j * 3 + 1]? = some (.int .i64 q.2.1) ∧ (flat l)[j * 3 + 2]? = some (.int .i64 q.2.2)
  | [], j, q, h => by simp at h
  | (m, s, t) :: l, 0, q, h => by
    simp at h
    subst h
    simp [flat]
  | (m, s, t) :: l, j + 1, q, h => by
    have := flat_at l j q (by simpa using h)
    rw [show (j + 1) * 3 = j * 3 + 1 + 1 + 1 by omega]
    simpa [flat] using this
theorem svs_snoc : ∀ (l : List (Int × Int × Int)) (xs : List Int) (m s t : Int), svs xs (l ++ [(m, s, t)]) = sv (svs xs l) (m + s) t
  | [], xs, m, s, t => rfl
  | (a, b, c) :: l, xs, m, s, t => by
    simp only [List.cons_append, svs]
    exact svs_snoc l _ m s t
theorem svs_length : ∀ (l : List (Int × Int × Int)) (xs : List Int), (svs xs l).length = xs.length
  | [], xs => rfl
  | (a, b, c) :: l, xs => by
    simp only [svs]
    rw [svs_length l, sv_length]

theorem ring_set (p b g cap : Nat) (xs : List Int) (K : Nat) (ls : List (Int × Int × Int)) (w : World) (hs : Had w p b xs K) (hK : K + ls.length ≤ 1000000000) (hl : Lies w g 54 (flat ls))
    (hok : ∀ q ∈ ls, 0 ≤ q.1 ∧ q.1 ≤ 1048576 ∧ 0 ≤ q.2.1 ∧ q.2.1 ≤ 2 ∧ inside xs.length (q.1 + q.2.1) = true ∧ 0 ≤ q.2.2 ∧ q.2.2 ≤ 1048576) (hne : g ≠ p ∧ g ≠ b) :
    Calls Try.prog 17 #[.pointer (some ⟨p, 0, none⟩), .slice (some ⟨g, 0, none⟩) ls.length cap] w fun e w' =>
      e = .returned .nilIface ∧ Had w' p b (svs xs ls) (K + ls.length) ∧ Turns (fun k => k = p ∨ k = b) w w' := by
  have HL := Lib.hid hl
  clear hl
  have hlen : ls.length ≤ 1000000000 := by omega
  go_enter Try.func17, Try.ntmps17
  go_wp2_with fail
  go_loopw [11] (fun k wr => ∃ j : Nat, j ≤ ls.length ∧ k = .int .i64 j ∧ Had wr p b (svs xs (ls.take j)) (K + j) ∧ Turns (fun k => k = p ∨ k = b) w wr) (fun k _ => ls.length - (intOf k).toNat)
  case atStart => exact ⟨0, by omega, rfl, by simpa [svs] using hs, Turns.refl _ _⟩
  case round =>
    obtain ⟨j, hj, rfl, hs1, ht1⟩ := hrel
    by_cases hjl : j < ls.length
    · obtain ⟨m, s, t, hq⟩ : ∃ m s t, ls[j]? = some (m, s, t) := ⟨_, _, _, List.getElem?_eq_getElem hjl⟩
      obtain ⟨m0, m1, s0, s1, hin, t0, t1⟩ := hok _ (List.mem_of_getElem? hq)
      obtain ⟨c0, c1, c2⟩ := flat_at ls j _ hq
      have L1 := HL.out.turns ht1 (by omega)
      have d0 := (L1.cell _).trans c0
      have d1 := (L1.cell _).trans c1
      have d2 := (L1.cell _).trans c2
      have hnext : svs xs (ls.take (j + 1)) = sv (svs xs (ls.take j)) (m + s) t := by
        rw [List.take_add_one, hq]
        exact svs_snoc _ _ _ _ _
      have hin' : inside (svs xs (ls.take j)).length (m + s) = true := by rw [svs_length]; exact hin
      simp only at m0 m1 s0 s1 t0 t1 d0 d1 d2
      have S := fun w' h => hset p b (svs xs (ls.take j)) (K + j) (m + s) t w' h (by omega) hin'
      rw [← hnext] at S
      have SS := Lib.hid S
      have LL := Lies.made wr 54 #[.int .i64 m, .int .i64 s, .int .i64 t]
      have ht2 := ht1.alloc (.cells #[.int .i64 m, .int .i64 s, .int .i64 t] 54)
      obtain ⟨cc, hc0, hc1, hst⟩ := hs1
      have hs2 : Had (wr.alloc (.cells #[.int .i64 m, .int .i64 s, .int .i64 t] 54)) p b (svs xs (ls.take j)) (K + j) :=
        ⟨cc, hc0, hc1, hst.turns ((Turns.refl (fun _ => False) _).alloc _) (fun h => h) (fun h => h)⟩
      clear S hok hin hin' hq c0 c1 c2 hst hnext
      go_wp2_with (first
        | (go_at_call 19
           refine (check_ok p _ _ (by assumption) (by assumption)).mono ?_
           rintro e w' ⟨rfl, rfl⟩)
        | (go_at_call 20
           refine (SS.out _ hs2).mono ?_
           rintro e w2 ⟨rfl, hs3, ht3⟩))
      go_roundw
      case rel => exact ⟨j + 1, by omega, by go_num, hs3, ht2.trans ht3⟩
      case measure => simp [intOf]; omega
    · obtain rfl : j = ls.length := by omega
      go_wp2_with fail
      go_ret
      exact ⟨rfl, by simpa using hs1, ht1⟩

theorem ring_Behind (p b : Nat) (xs : List Int) (K : Nat) (a : Int) (w : World) (hs : Had w p b xs K) (hK : K ≤ 1000000000) (hn : xs.length ≤ 1048576) (ha : Pl xs.length a) (hv : Pl xs.length (gv xs (a + 2))) :
    Calls Try.prog 15 #[.pointer (some ⟨p, 0, none⟩), .int .i64 a] w fun e w' =>
      e = .returned (.tuple #[.int .i64 (gv xs (a + 2)), .nilIface]) ∧ Had w' p b xs (K + 1) ∧ Turns (· = p) w w' := by
  have G := ring_get p b xs K a 2 w hs hK ⟨ha.1, by have := ha.2.1; omega⟩ (by omega) ha.in2 ⟨hv.1, by have := hv.2.1; omega⟩
  have GG := Lib.hid G
  clear G ha hv
  go_enter Try.func15, Try.ntmps15
  go_wp2_with (
    go_at_call 18
    refine GG.out.mono ?_
    rintro e w1 ⟨rfl, hs1, ht1⟩)
  go_ret2
  exact ⟨rfl, hs1, ht1⟩
theorem ring_Ahead (p b : Nat) (xs : List Int) (K : Nat) (a : Int) (w : World) (hs : Had w p b xs K) (hK : K ≤ 1000000000) (hn : xs.length ≤ 1048576) (ha : Pl xs.length a) (hv : Pl xs.length (gv xs (a + 1))) :
    Calls Try.prog 16 #[.pointer (some ⟨p, 0, none⟩), .int .i64 a] w fun e w' =>
      e = .returned (.tuple #[.int .i64 (gv xs (a + 1)), .nilIface]) ∧ Had w' p b xs (K + 1) ∧ Turns (· = p) w w' := by
  have G := ring_get p b xs K a 1 w hs hK ⟨ha.1, by have := ha.2.1; omega⟩ (by omega) ha.in1 ⟨hv.1, by have := hv.2.1; omega⟩
  have GG := Lib.hid G
  clear G ha hv
  go_enter Try.func16, Try.ntmps16
  go_wp2_with (
    go_at_call 18
    refine GG.out.mono ?_
    rintro e w1 ⟨rfl, hs1, ht1⟩)
  go_ret2
  exact ⟨rfl, hs1, ht1⟩
theorem ring_Alone (p b : Nat) (xs : List Int) (K : Nat) (a : Int) (w : World) (hs : Had w p b xs K) (hK : K ≤ 1000000000) (hn : xs.length ≤ 1048576) (ha : Pl xs.length a) (hv : gv xs (a + 2) = a) :
    Calls Try.prog 11 #[.pointer (some ⟨p, 0, none⟩), .int .i64 a] w fun e w' =>
      e = .returned (.tuple #[.bool true, .nilIface]) ∧ Had w' p b xs (K + 1) ∧ Turns (· = p) w w' := by
  have G := ring_Behind p b xs K a w hs hK hn ha (by rw [hv]; exact ha)
  rw [hv] at G
  have GG := Lib.hid G
  clear G ha hv
  go_enter Try.func11, Try.ntmps11
  go_wp2_with (
    go_at_call 15
    refine GG.out.mono ?_
    rintro e w1 ⟨rfl, hs1, ht1⟩)
  go_ret2
  exact ⟨rfl, hs1, ht1⟩

theorem Had.st {w w' : World} {p b : Nat} {xs : List Int} {K K' : Nat} {X : Nat → Prop} (h : Had w p b xs K) (k : Turns X w w') (hp : ¬ X p) (hb : ¬ X b) (hK : K ≤ K') : Had w' p b xs K' := by
  obtain ⟨c, c0, c1, hs⟩ := h
  exact ⟨c, c0, by omega, hs.turns k hp hb⟩
theorem Had.lt {w : World} {p b : Nat} {xs : List Int} {K : Nat} (h : Had w p b xs K) : p < w.heap.size ∧ b < w.heap.size := by
  obtain ⟨c, c0, c1, hs⟩ := h
  exact hs.lt
/-- a call of set whose links were just laid into memory -/
theorem set_new (p b cap m : Nat) (xs : List Int) (K : Nat) (ls : List (Int × Int × Int)) (w : World) (hs : Had w p b xs K) (hK : K + ls.length ≤ 1000000000) (hm : ls.length = m)
    (hok : ∀ q ∈ ls, 0 ≤ q.1 ∧ q.1 ≤ 1048576 ∧ 0 ≤ q.2.1 ∧ q.2.1 ≤ 2 ∧ inside xs.length (q.1 + q.2.1) = true ∧ 0 ≤ q.2.2 ∧ q.2.2 ≤ 1048576) :
    Calls Try.prog 17 #[.pointer (some ⟨p, 0, none⟩), .slice (some ⟨w.heap.size, 0, none⟩) m cap] (w.alloc (.cells (flat ls).toArray 54)) fun e w' =>
      e = .returned .nilIface ∧ Had w' p b (svs xs ls) (K + ls.length) ∧ Turns (fun k => k = p ∨ k = b) w w' := by
  subst hm
  have ht := (Turns.refl (fun k => k = p ∨ k = b) w).alloc (.cells (flat ls).toArray 54)
  have := hs.lt
  exact (ring_set p b w.heap.size cap xs K ls _ (hs.st ((Turns.refl (fun _ => False) w).alloc _) (fun h => h) (fun h => h) (Nat.le_refl _)) hK (by simpa using Lies.made w 54 (flat ls).toArray) hok (by omega)).mono
    fun e w' ⟨he, hs', ht'⟩ => ⟨he, hs', ht.trans ht'⟩

theorem link_ok {n : Nat} {m s t : Int} (hn : n ≤ 1048576) (hm : Pl n m) (hs : s = 1 ∨ s = 2) (ht : Pl n t) :
    0 ≤ m ∧ m ≤ 1048576 ∧ 0 ≤ s ∧ s ≤ 2 ∧ inside n (m + s) = true ∧ 0 ≤ t ∧ t ≤ 1048576 := by
  have := hm.1
  have := hm.2.1
  have := ht.1
  have := ht.2.1
  refine ⟨by omega, by omega, by omega, by omega, ?_, by omega, by omega⟩
  rcases hs with rfl | rfl
  · exact hm.in1
  · exact hm.in2

theorem ring_Init (p b : Nat) (xs : List Int) (K : Nat) (a : Int) (w : World) (hs : Had w p b xs K) (hK : K + 2 ≤ 1000000000) (hn : xs.length ≤ 1048576) (ha : Pl xs.length a) :
    Calls Try.prog 8 #[.pointer (some ⟨p, 0, none⟩), .int .i64 a] w fun e w' =>
      e = .returned .nilIface ∧ Had w' p b (ini xs a) (K + 2) ∧ Turns (fun k => k = p ∨ k = b) w w' := by
  have G := fun cap => set_new p b cap 2 xs K [(a, 1, a), (a, 2, a)] w hs hK rfl
    (List.forall_mem_cons.2 ⟨link_ok hn ha (.inl rfl) ha, List.forall_mem_cons.2 ⟨link_ok hn ha (.inr rfl) ha, fun _ h => absurd h (by simp)⟩⟩)
  have GG := Lib.hid G
  clear G ha
  go_enter Try.func8, Try.ntmps8
  go_wp2_with (
    go_at_call 17
    refine (GG.out _).mono ?_
    rintro e w1 ⟨rfl, hs1, ht1⟩)
  go_ret
  exact ⟨rfl, hs1, ht1⟩

theorem ring_Insert (p b : Nat) (xs : List Int) (K : Nat) (a c : Int) (w : World) (hs : Had w p b xs K) (hK : K + 5 ≤ 1000000000) (hn : xs.length ≤ 1048576) (ha : Pl xs.length a) (hc : Pl xs.length c) (hx : Pl xs.length (gv xs (a + 2))) :
    Calls Try.prog 12 #[.pointer (some ⟨p, 0, none⟩), .int .i64 a, .int .i64 c] w fun e w' =>
      e = .returned .nilIface ∧ Had w' p b (ins xs a c) (K + 5) ∧ Turns (fun k => k = p ∨ k = b) w w' := by
  have B := ring_Behind p b xs K a w hs (by omega) hn ha hx
  have G := fun cap w1 h1 => set_new p b cap 4 xs (K + 1) [(c, 1, a), (c, 2, gv xs (a + 2)), (a, 2, c), (gv xs (a + 2), 1, c)] w1 h1 (by simp; omega) rfl
    (List.forall_mem_cons.2 ⟨link_ok hn hc (.inl rfl) ha, List.forall_mem_cons.2 ⟨link_ok hn hc (.inr rfl) hx, List.forall_mem_cons.2 ⟨link_ok hn ha (.inr rfl) hc, List.forall_mem_cons.2 ⟨link_ok hn hx (.inl rfl) hc, fun _ h => absurd h (by simp)⟩⟩⟩⟩)
  have hres : svs xs [(c, 1, a), (c, 2, gv xs (a + 2)), (a, 2, c), (gv xs (a + 2), 1, c)] = ins xs a c := rfl
  rw [hres] at G
  clear hres ha hc hx
  generalize ins xs a c = ys at *
  generalize gv xs (a + 2) = x at *
  have BB := Lib.hid B
  have GG := Lib.hid G
  clear B G
  go_enter Try.func12, Try.ntmps12
  go_wp2_with (first
    | (go_at_call 15
       refine BB.out.mono ?_
       rintro e w1 ⟨rfl, hs1, ht1⟩)
    | (go_at_call 17
       refine (GG.out _ _ hs1).mono ?_
       rintro e w2 ⟨rfl, hs2, ht2⟩))
  go_ret
  exact ⟨rfl, hs2, (ht1.mono fun _ _ e => .inl e).trans ht2⟩

theorem ring_Remove (p b : Nat) (xs : List Int) (K : Nat) (c : Int) (w : World) (hs : Had w p b xs K) (hK : K + 6 ≤ 1000000000) (hn : xs.length ≤ 1048576) (hc : Pl xs.length c) (hy : Pl xs.length (gv xs (c + 1))) (hx : Pl xs.length (gv xs (c + 2))) :
    Calls Try.prog 10 #[.pointer (some ⟨p, 0, none⟩), .int .i64 c] w fun e w' =>
      e = .returned .nilIface ∧ Had w' p b (rem xs c) (K + 6) ∧ Turns (fun k => k = p ∨ k = b) w w' := by
  have A := ring_Ahead p b xs K c w hs (by omega) hn hc hy
  have B := fun w1 h1 => ring_Behind p b xs (K + 1) c w1 h1 (by omega) hn hc hx
  have G := fun cap w1 h1 => set_new p b cap 2 xs (K + 2) [(gv xs (c + 1), 2, gv xs (c + 2)), (gv xs (c + 2), 1, gv xs (c + 1))] w1 h1 (by simp; omega) rfl
    (List.forall_mem_cons.2 ⟨link_ok hn hy (.inr rfl) hx, List.forall_mem_cons.2 ⟨link_ok hn hx (.inl rfl) hy, fun _ h => absurd h (by simp)⟩⟩)
  have hlen := svs_length [(gv xs (c + 1), 2, gv xs (c + 2)), (gv xs (c + 2), 1, gv xs (c + 1))] xs
  have hres : ini (svs xs [(gv xs (c + 1), 2, gv xs (c + 2)), (gv xs (c + 2), 1, gv xs (c + 1))]) c = rem xs c := rfl
  have I := fun w1 h1 => ring_Init p b (svs xs [(gv xs (c + 1), 2, gv xs (c + 2)), (gv xs (c + 2), 1, gv xs (c + 1))]) (K + 4) c w1 h1 (by omega) (by rw [hlen]; exact hn) (by rw [hlen]; exact hc)
  rw [hres] at I
  clear hres hlen hc hy hx
  generalize rem xs c = zs at *
  generalize svs xs [(gv xs (c + 1), 2, gv xs (c + 2)), (gv xs (c + 2), 1, gv xs (c + 1))] = ys at *
  generalize gv xs (c + 2) = x at *
  generalize gv xs (c + 1) = y at *
  have AA := Lib.hid A
  have BB := Lib.hid B
  have GG := Lib.hid G
  have II := Lib.hid I
  clear A B G I
  go_enter Try.func10, Try.ntmps10
  go_wp2_with (first
    | (go_at_call 16
       refine AA.out.mono ?_
       rintro e w1 ⟨rfl, hs1, ht1⟩)
    | (go_at_call 15
       refine (BB.out _ hs1).mono ?_
       rintro e w2 ⟨rfl, hs2, ht2⟩)
    | (go_at_call 17
       refine (GG.out _ _ hs2).mono ?_
       rintro e w3 ⟨rfl, hs3, ht3⟩)
    | (go_at_call 8
       refine (II.out _ hs3).mono ?_
       rintro e w4 ⟨rfl, hs4, ht4⟩))
  go_ret
  exact ⟨rfl, hs4, (((ht1.trans ht2).mono fun _ _ e => .inl e).trans ht3).trans ht4⟩

theorem ring_Join_no (p b : Nat) (xs : List Int) (K : Nat) (a c : Int) (w : World) (hs : Had w p b xs K) (hK : K + 10 ≤ 1000000000) (hn : xs.length ≤ 1048576) (hc : Pl xs.length c) (he : gv xs (c + 2) = c) :
    Calls Try.prog 9 #[.pointer (some ⟨p, 0, none⟩), .int .i64 a, .int .i64 c] w fun e w' =>
      e = .returned .nilIface ∧ Had w' p b (joi xs a c) (K + 10) ∧ Turns (fun k => k = p ∨ k = b) w w' := by
  have B := ring_Behind p b xs K c w hs (by omega) hn hc (by rw [he]; exact hc)
  have hres : joi xs a c = xs := by rw [joi, if_pos he]
  rw [hres]
  rw [he] at B
  have BB := Lib.hid B
  clear B hc he hres
  go_enter Try.func9, Try.ntmps9
  go_wp2_with (
    go_at_call 15
    refine BB.out.mono ?_
    rintro e w1 ⟨rfl, hs1, ht1⟩)
  go_ret
  exact ⟨rfl, hs1.st (Turns.refl (fun _ => False) _) (fun h => h) (fun h => h) (by omega), ht1.mono fun _ _ e => .inl e⟩

theorem ring_Join_yes (p b : Nat) (xs : List Int) (K : Nat) (a c : Int) (w : World) (hs : Had w p b xs K) (hK : K + 10 ≤ 1000000000) (hn : xs.length ≤ 1048576) (ha : Pl xs.length a) (hc : Pl xs.length c)
    (hf : Pl xs.length (gv xs (c + 2))) (hl : Pl xs.length (gv xs (c + 1))) (hz : Pl xs.length (gv xs (a + 1))) (hne : gv xs (c + 2) ≠ c) :
    Calls Try.prog 9 #[.pointer (some ⟨p, 0, none⟩), .int .i64 a, .int .i64 c] w fun e w' =>
      e = .returned .nilIface ∧ Had w' p b (joi xs a c) (K + 10) ∧ Turns (fun k => k = p ∨ k = b) w w' := by
  have B := ring_Behind p b xs K c w hs (by omega) hn hc hf
  have A1 := fun w1 h1 => ring_Ahead p b xs (K + 1) c w1 h1 (by omega) hn hc hl
  have A2 := fun w1 h1 => ring_Ahead p b xs (K + 1 + 1) a w1 h1 (by omega) hn ha hz
  have G := fun cap w1 h1 => set_new p b cap 4 xs (K + 1 + 1 + 1) [(gv xs (a + 1), 2, gv xs (c + 2)), (gv xs (c + 2), 1, gv xs (a + 1)), (gv xs (c + 1), 2, a), (a, 1, gv xs (c + 1))] w1 h1 (by simp; omega) rfl
    (List.forall_mem_cons.2 ⟨link_ok hn hz (.inr rfl) hf, List.forall_mem_cons.2 ⟨link_ok hn hf (.inl rfl) hz, List.forall_mem_cons.2 ⟨link_ok hn hl (.inr rfl) ha, List.forall_mem_cons.2 ⟨link_ok hn ha (.inl rfl) hl, fun _ h => absurd h (by simp)⟩⟩⟩⟩)
  have hlen := svs_length [(gv xs (a + 1), 2, gv xs (c + 2)), (gv xs (c + 2), 1, gv xs (a + 1)), (gv xs (c + 1), 2, a), (a, 1, gv xs (c + 1))] xs
  have hres : ini (svs xs [(gv xs (a + 1), 2, gv xs (c + 2)), (gv xs (c + 2), 1, gv xs (a + 1)), (gv xs (c + 1), 2, a), (a, 1, gv xs (c + 1))]) c = joi xs a c := by
    rw [joi, if_neg hne]
    rfl
  have I := fun w1 h1 => ring_Init p b (svs xs [(gv xs (a + 1), 2, gv xs (c + 2)), (gv xs (c + 2), 1, gv xs (a + 1)), (gv xs (c + 1), 2, a), (a, 1, gv xs (c + 1))]) (K + 1 + 1 + 1 + 4) c w1 h1 (by omega) (by rw [hlen]; exact hn) (by rw [hlen]; exact hc)
  rw [hres] at I
  clear hres hlen ha hc hf hl hz
  generalize joi xs a c = zs at *
  generalize svs xs [(gv xs (a + 1), 2, gv xs (c + 2)), (gv xs (c + 2), 1, gv xs (a + 1)), (gv xs (c + 1), 2, a), (a, 1, gv xs (c + 1))] = ys at *
  generalize gv xs (c + 2) = f at *
  generalize gv xs (c + 1) = l at *
  generalize gv xs (a + 1) = z at *
  have f1 : (f == c) = false := by simpa using hne
  have BB := Lib.hid B
  have AA1 := Lib.hid A1
  have AA2 := Lib.hid A2
  have GG := Lib.hid G
  have II := Lib.hid I
  clear B A1 A2 G I hne
  go_enter Try.func9, Try.ntmps9
  go_wp2_with (first
    | (go_at_call 15
       refine BB.out.mono ?_
       rintro e w1 ⟨rfl, hs1, ht1⟩)
    | (go_at_call 16
       (with_reducible refine (AA1.out _ hs1).mono ?_)
       rintro e w2 ⟨rfl, hs2, ht2⟩)
    | (go_at_call 16
       (with_reducible refine (AA2.out _ hs2).mono ?_)
       rintro e w3 ⟨rfl, hs3, ht3⟩)
    | (go_at_call 17
       refine (GG.out _ _ hs3).mono ?_
       rintro e w4 ⟨rfl, hs4, ht4⟩)
    | (go_at_call 8
       refine (II.out _ hs4).mono ?_
       rintro e w5 ⟨rfl, hs5, ht5⟩))
  go_ret
  exact ⟨rfl, hs5.st (Turns.refl (fun _ => False) _) (fun h => h) (fun h => h) (by omega), ((((ht1.trans ht2).trans ht3).mono fun _ _ e => .inl e).trans ht4).trans ht5⟩
end Go.Proofs.Ytnkfpnhifpblmaa
