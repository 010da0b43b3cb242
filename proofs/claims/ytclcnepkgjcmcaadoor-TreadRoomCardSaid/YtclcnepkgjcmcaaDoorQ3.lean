/- What the calls of package ring give over places that are there: a link read, links set, Init, Insert, Remove, Join, Alone. -/
import Derived.Test.YtclcnepkgjcmcaaDoorQ2
import Derived.LoopTactic
import Derived.Outline
namespace Go.Proofs.YtclcnepkgjcmcaaDoor
open Go.ChangeShapes Go.WideShapes Go.ChangeAt Go.RowKit

theorem check_ok (p : Nat) (a : Int) (w : World) (h0 : 0 ≤ a) (h1 : a ≤ 1048576) :
    Calls Tryd.prog 78 #[.pointer (some ⟨p, 0, none⟩), .int .i64 a] w fun e w' => e = .returned .nilIface ∧ w = w' := by
  go_enter Tryd.func78, Tryd.ntmps78
  go_wp2
  go_ret
  exact ⟨rfl, rfl⟩

theorem ring_get (p b : Nat) (xs : List Int) (a s : Int) (w : World) (hs : Sto w p b xs) (ha : 0 ≤ a ∧ a ≤ 1048576) (hs12 : 0 ≤ s ∧ s ≤ 2) (hi : inside xs.length (a + s) = true) (hv : 0 ≤ gv xs (a + s) ∧ gv xs (a + s) ≤ 1048576) :
    Calls Tryd.prog 60 #[.pointer (some ⟨p, 0, none⟩), .int .i64 a, .int .i64 s] w fun e w' =>
      e = .returned (.tuple #[.int .i64 (gv xs (a + s)), .nilIface]) ∧ Sto w' p b xs ∧ Turns (· = p) w w' := by
  obtain ⟨ha0, ha1⟩ := ha
  obtain ⟨hs0, hs1⟩ := hs12
  have G := get_in p b xs (a + s) w hs hi
  generalize gv xs (a + s) = v at *
  obtain ⟨hv0, hv1⟩ := hv
  have GG := Lib.hid G
  clear G hi
  go_enter Tryd.func60, Tryd.ntmps60
  go_wp2_with (first
    | (go_at_call 78
       refine (check_ok p _ _ (by assumption) (by assumption)).mono ?_
       rintro e w' ⟨rfl, rfl⟩)
    | (go_at_call 75
       refine GG.out.mono ?_
       rintro e w1 ⟨rfl, hs1, ht1⟩))
  go_ret2
  exact ⟨rfl, hs1, ht1⟩

/-- links laid out in memory, and what setting them leaves -/
def flat : List (Int × Int × Int) → List Value
  | [] => []
  | (m, s, t) :: l => .int .i64 m :: .int .i64 s :: .int .i64 t :: flat l
def svs (xs : List Int) : List (Int × Int × Int) → List Int
  | [] => xs
  | (m, s, t) :: l => svs (sv xs (m + s) t) l
theorem flat_at : ∀ (l : List (Int × Int × Int)) (j : Nat) (q : Int × Int × Int), l[j]? = some q → (flat l)[j * 3]? = some (.int .i64 q.1) ∧ (flat l)[j * 3 + 1]? = some (.int .i64 q.2.1) ∧ (flat l)[j * 3 + 2]? = some (.int .i64 q.2.2)
  | [], j, q, h => by simp at h
  | (m, s, t) :: l, 0, q, h => by
    simp at h
    subst h
    simp [flat]
  | (m, s, t) :: l, j + 1, q, h => by
    have := flat_at l j q (by simpa using h)
    rw [show (j + 1) * 3 = j * 3 + 1 + 1 + 1 by omega]
    simpa [flat] using this
theorem svs_snoc : ∀ (l : List (Int × Int × Int)) (xs : List Int) (m s t : Int), svs xs (l ++ [(m, s, t)]) = sv (svs xs l) (m + s) t
  | [], xs, m, s, t => rfl
  | (a, b, c) :: l, xs, m, s, t => by
    simp only [List.cons_append, svs]
    exact svs_snoc l _ m s t
theorem svs_length : ∀ (l : List (Int × Int × Int)) (xs : List Int), (svs xs l).length = xs.length
  | [], xs => rfl
  | (a, b, c) :: l, xs => by
    simp only [svs]
    rw [svs_length l, sv_length]

theorem ring_set (p b g cap : Nat) (xs : List Int) (ls : List (Int × Int × Int)) (w : World) (hs : Sto w p b xs) (hK : ls.length ≤ 1000) (hl : Lies w g 125 (flat ls))
    (hok : ∀ q ∈ ls, 0 ≤ q.1 ∧ q.1 ≤ 1048576 ∧ 0 ≤ q.2.1 ∧ q.2.1 ≤ 2 ∧ inside xs.length (q.1 + q.2.1) = true ∧ 0 ≤ q.2.2 ∧ q.2.2 ≤ 1048576) (hne : g ≠ p ∧ g ≠ b) :
    Calls Tryd.prog 77 #[.pointer (some ⟨p, 0, none⟩), .slice (some ⟨g, 0, none⟩) ls.length cap] w fun e w' =>
      e = .returned .nilIface ∧ Sto w' p b (svs xs ls) ∧ Turns (fun k => k = p ∨ k = b) w w' := by
  have HL := Lib.hid hl
  clear hl
  have hlen := hK
  go_enter Tryd.func77, Tryd.ntmps77
  go_wp2_with fail
  go_loopw [11] (fun k wr => ∃ j : Nat, j ≤ ls.length ∧ k = .int .i64 j ∧ Sto wr p b (svs xs (ls.take j)) ∧ Turns (fun k => k = p ∨ k = b) w wr) (fun k _ => ls.length - (intOf k).toNat)
  case atStart => exact ⟨0, by omega, rfl, by simpa [svs] using hs, Turns.refl _ _⟩
  case round =>
    obtain ⟨j, hj, rfl, hs1, ht1⟩ := hrel
    by_cases hjl : j < ls.length
    · obtain ⟨m, s, t, hq⟩ : ∃ m s t, ls[j]? = some (m, s, t) := ⟨_, _, _, List.getElem?_eq_getElem hjl⟩
      obtain ⟨m0, m1, s0, s1, hin, t0, t1⟩ := hok _ (List.mem_of_getElem? hq)
      obtain ⟨c0, c1, c2⟩ := flat_at ls j _ hq
      have L1 := HL.out.turns ht1 (by omega)
      have d0 := (L1.cell _).trans c0
      have d1 := (L1.cell _).trans c1
      have d2 := (L1.cell _).trans c2
      have hnext : svs xs (ls.take (j + 1)) = sv (svs xs (ls.take j)) (m + s) t := by
        rw [List.take_add_one, hq]
        exact svs_snoc _ _ _ _ _
      have hin' : inside (svs xs (ls.take j)).length (m + s) = true := by rw [svs_length]; exact hin
      simp only at m0 m1 s0 s1 t0 t1 d0 d1 d2
      have S := fun w' h => set_in p b (svs xs (ls.take j)) (m + s) t w' h hin'
      rw [← hnext] at S
      have SS := Lib.hid S
      have LL := Lies.made wr 125 #[.int .i64 m, .int .i64 s, .int .i64 t]
      have ht2 := ht1.alloc (.cells #[.int .i64 m, .int .i64 s, .int .i64 t] 125)
      have hs2 : Sto (wr.alloc (.cells #[.int .i64 m, .int .i64 s, .int .i64 t] 125)) p b (svs xs (ls.take j)) :=
        hs1.turns ((Turns.refl (fun _ => False) _).alloc _) (fun h => h) (fun h => h)
      clear S hok hin hin' hq c0 c1 c2 hnext
      go_wp2_with (first
        | (go_at_call 78
           refine (check_ok p _ _ (by assumption) (by assumption)).mono ?_
           rintro e w' ⟨rfl, rfl⟩)
        | (go_at_call 42
           refine (SS.out _ hs2).mono ?_
           rintro e w2 ⟨rfl, hs3, ht3⟩))
      go_roundw
      case rel => exact ⟨j + 1, by omega, by go_num, hs3, ht2.trans ht3⟩
      case measure => simp [intOf]; omega
    · obtain rfl : j = ls.length := by omega
      go_wp2_with fail
      go_ret
      exact ⟨rfl, by simpa using hs1, ht1⟩

theorem ring_Behind (p b : Nat) (xs : List Int) (a : Int) (w : World) (hs : Sto w p b xs) (hn : xs.length ≤ 1048576) (ha : Pl xs.length a) (hv : Pl xs.length (gv xs (a + 2))) :
    Calls Tryd.prog 32 #[.pointer (some ⟨p, 0, none⟩), .int .i64 a] w fun e w' =>
      e = .returned (.tuple #[.int .i64 (gv xs (a + 2)), .nilIface]) ∧ Sto w' p b xs ∧ Turns (· = p) w w' := by
  have G := ring_get p b xs a 2 w hs ⟨ha.1, by have := ha.2; omega⟩ (by omega) ha.in2 ⟨hv.1, by have := hv.2; omega⟩
  have GG := Lib.hid G
  clear G ha hv
  go_enter Tryd.func32, Tryd.ntmps32
  go_wp2_with (
    go_at_call 60
    refine GG.out.mono ?_
    rintro e w1 ⟨rfl, hs1, ht1⟩)
  go_ret2
  exact ⟨rfl, hs1, ht1⟩
theorem ring_Ahead (p b : Nat) (xs : List Int) (a : Int) (w : World) (hs : Sto w p b xs) (hn : xs.length ≤ 1048576) (ha : Pl xs.length a) (hv : Pl xs.length (gv xs (a + 1))) :
    Calls Tryd.prog 79 #[.pointer (some ⟨p, 0, none⟩), .int .i64 a] w fun e w' =>
      e = .returned (.tuple #[.int .i64 (gv xs (a + 1)), .nilIface]) ∧ Sto w' p b xs ∧ Turns (· = p) w w' := by
  have G := ring_get p b xs a 1 w hs ⟨ha.1, by have := ha.2; omega⟩ (by omega) ha.in1 ⟨hv.1, by have := hv.2; omega⟩
  have GG := Lib.hid G
  clear G ha hv
  go_enter Tryd.func79, Tryd.ntmps79
  go_wp2_with (
    go_at_call 60
    refine GG.out.mono ?_
    rintro e w1 ⟨rfl, hs1, ht1⟩)
  go_ret2
  exact ⟨rfl, hs1, ht1⟩
/-- a call of set whose links were just laid into memory -/
theorem set_new (p b cap m : Nat) (xs : List Int) (ls : List (Int × Int × Int)) (w : World) (hs : Sto w p b xs) (hK : ls.length ≤ 1000) (hm : ls.length = m)
    (hok : ∀ q ∈ ls, 0 ≤ q.1 ∧ q.1 ≤ 1048576 ∧ 0 ≤ q.2.1 ∧ q.2.1 ≤ 2 ∧ inside xs.length (q.1 + q.2.1) = true ∧ 0 ≤ q.2.2 ∧ q.2.2 ≤ 1048576) :
    Calls Tryd.prog 77 #[.pointer (some ⟨p, 0, none⟩), .slice (some ⟨w.heap.size, 0, none⟩) m cap] (w.alloc (.cells (flat ls).toArray 125)) fun e w' =>
      e = .returned .nilIface ∧ Sto w' p b (svs xs ls) ∧ Turns (fun k => k = p ∨ k = b) w w' := by
  subst hm
  have ht := (Turns.refl (fun k => k = p ∨ k = b) w).alloc (.cells (flat ls).toArray 125)
  have := hs.lt
  exact (ring_set p b w.heap.size cap xs ls _ (hs.turns ((Turns.refl (fun _ => False) w).alloc _) (fun h => h) (fun h => h)) hK (by simpa using Lies.made w 125 (flat ls).toArray) hok (by omega)).mono
    fun e w' ⟨he, hs', ht'⟩ => ⟨he, hs', ht.trans ht'⟩

theorem link_ok {n : Nat} {m s t : Int} (hn : n ≤ 1048576) (hm : Pl n m) (hs : s = 1 ∨ s = 2) (ht : Pl n t) :
    0 ≤ m ∧ m ≤ 1048576 ∧ 0 ≤ s ∧ s ≤ 2 ∧ inside n (m + s) = true ∧ 0 ≤ t ∧ t ≤ 1048576 := by
  have := hm.1
  have := hm.2
  have := ht.1
  have := ht.2
  refine ⟨by omega, by omega, by omega, by omega, ?_, by omega, by omega⟩
  rcases hs with rfl | rfl
  · exact hm.in1
  · exact hm.in2

theorem ring_Init (p b : Nat) (xs : List Int) (a : Int) (w : World) (hs : Sto w p b xs) (hn : xs.length ≤ 1048576) (ha : Pl xs.length a) :
    Calls Tryd.prog 58 #[.pointer (some ⟨p, 0, none⟩), .int .i64 a] w fun e w' =>
      e = .returned .nilIface ∧ Sto w' p b (ini xs a) ∧ Turns (fun k => k = p ∨ k = b) w w' := by
  have G := fun cap => set_new p b cap 2 xs [(a, 1, a), (a, 2, a)] w hs (by simp) rfl
    (List.forall_mem_cons.2 ⟨link_ok hn ha (.inl rfl) ha, List.forall_mem_cons.2 ⟨link_ok hn ha (.inr rfl) ha, fun _ h => absurd h (by simp)⟩⟩)
  have GG := Lib.hid G
  clear G ha
  go_enter Tryd.func58, Tryd.ntmps58
  go_wp2_with (
    go_at_call 77
    refine (GG.out _).mono ?_
    rintro e w1 ⟨rfl, hs1, ht1⟩)
  go_ret
  exact ⟨rfl, hs1, ht1⟩

theorem ring_Insert (p b : Nat) (xs : List Int) (a c : Int) (w : World) (hs : Sto w p b xs) (hn : xs.length ≤ 1048576) (ha : Pl xs.length a) (hc : Pl xs.length c) (hx : Pl xs.length (gv xs (a + 2))) :
    Calls Tryd.prog 59 #[.pointer (some ⟨p, 0, none⟩), .int .i64 a, .int .i64 c] w fun e w' =>
      e = .returned .nilIface ∧ Sto w' p b (ins xs a c) ∧ Turns (fun k => k = p ∨ k = b) w w' := by
  have B := ring_Behind p b xs a w hs hn ha hx
  have G := fun cap w1 h1 => set_new p b cap 4 xs [(c, 1, a), (c, 2, gv xs (a + 2)), (a, 2, c), (gv xs (a + 2), 1, c)] w1 h1 (by simp) rfl
    (List.forall_mem_cons.2 ⟨link_ok hn hc (.inl rfl) ha, List.forall_mem_cons.2 ⟨link_ok hn hc (.inr rfl) hx, List.forall_mem_cons.2 ⟨link_ok hn ha (.inr rfl) hc, List.forall_mem_cons.2 ⟨link_ok hn hx (.inl rfl) hc, fun _ h => absurd h (by simp)⟩⟩⟩⟩)
  have hres : svs xs [(c, 1, a), (c, 2, gv xs (a + 2)), (a, 2, c), (gv xs (a + 2), 1, c)] = ins xs a c := rfl
  rw [hres] at G
  clear hres ha hc hx
  generalize ins xs a c = ys at *
  generalize gv xs (a + 2) = x at *
  have BB := Lib.hid B
  have GG := Lib.hid G
  clear B G
  go_enter Tryd.func59, Tryd.ntmps59
  go_wp2_with (first
    | (go_at_call 32
       refine BB.out.mono ?_
       rintro e w1 ⟨rfl, hs1, ht1⟩)
    | (go_at_call 77
       refine (GG.out _ _ hs1).mono ?_
       rintro e w2 ⟨rfl, hs2, ht2⟩))
  go_ret
  exact ⟨rfl, hs2, (ht1.mono fun _ _ e => .inl e).trans ht2⟩

theorem ring_Remove (p b : Nat) (xs : List Int) (c : Int) (w : World) (hs : Sto w p b xs) (hn : xs.length ≤ 1048576) (hc : Pl xs.length c) (hy : Pl xs.length (gv xs (c + 1))) (hx : Pl xs.length (gv xs (c + 2))) :
    Calls Tryd.prog 61 #[.pointer (some ⟨p, 0, none⟩), .int .i64 c] w fun e w' =>
      e = .returned .nilIface ∧ Sto w' p b (rem xs c) ∧ Turns (fun k => k = p ∨ k = b) w w' := by
  have A := ring_Ahead p b xs c w hs hn hc hy
  have B := fun w1 h1 => ring_Behind p b xs c w1 h1 hn hc hx
  have G := fun cap w1 h1 => set_new p b cap 2 xs [(gv xs (c + 1), 2, gv xs (c + 2)), (gv xs (c + 2), 1, gv xs (c + 1))] w1 h1 (by simp) rfl
    (List.forall_mem_cons.2 ⟨link_ok hn hy (.inr rfl) hx, List.forall_mem_cons.2 ⟨link_ok hn hx (.inl rfl) hy, fun _ h => absurd h (by simp)⟩⟩)
  have hlen := svs_length [(gv xs (c + 1), 2, gv xs (c + 2)), (gv xs (c + 2), 1, gv xs (c + 1))] xs
  have hres : ini (svs xs [(gv xs (c + 1), 2, gv xs (c + 2)), (gv xs (c + 2), 1, gv xs (c + 1))]) c = rem xs c := rfl
  have I := fun w1 h1 => ring_Init p b (svs xs [(gv xs (c + 1), 2, gv xs (c + 2)), (gv xs (c + 2), 1, gv xs (c + 1))]) c w1 h1 (by rw [hlen]; exact hn) (by rw [hlen]; exact hc)
  rw [hres] at I
  clear hres hlen hc hy hx
  generalize rem xs c = zs at *
  generalize svs xs [(gv xs (c + 1), 2, gv xs (c + 2)), (gv xs (c + 2), 1, gv xs (c + 1))] = ys at *
  generalize gv xs (c + 2) = x at *
  generalize gv xs (c + 1) = y at *
  have AA := Lib.hid A
  have BB := Lib.hid B
  have GG := Lib.hid G
  have II := Lib.hid I
  clear A B G I
  go_enter Tryd.func61, Tryd.ntmps61
  go_wp2_with (first
    | (go_at_call 79
       refine AA.out.mono ?_
       rintro e w1 ⟨rfl, hs1, ht1⟩)
    | (go_at_call 32
       refine (BB.out _ hs1).mono ?_
       rintro e w2 ⟨rfl, hs2, ht2⟩)
    | (go_at_call 77
       refine (GG.out _ _ hs2).mono ?_
       rintro e w3 ⟨rfl, hs3, ht3⟩)
    | (go_at_call 58
       refine (II.out _ hs3).mono ?_
       rintro e w4 ⟨rfl, hs4, ht4⟩))
  go_ret
  exact ⟨rfl, hs4, (((ht1.trans ht2).mono fun _ _ e => .inl e).trans ht3).trans ht4⟩

theorem ring_Join_no (p b : Nat) (xs : List Int) (a c : Int) (w : World) (hs : Sto w p b xs) (hn : xs.length ≤ 1048576) (hc : Pl xs.length c) (he : gv xs (c + 2) = c) :
    Calls Tryd.prog 83 #[.pointer (some ⟨p, 0, none⟩), .int .i64 a, .int .i64 c] w fun e w' =>
      e = .returned .nilIface ∧ Sto w' p b (joi xs a c) ∧ Turns (fun k => k = p ∨ k = b) w w' := by
  have B := ring_Behind p b xs c w hs hn hc (by rw [he]; exact hc)
  have hres : joi xs a c = xs := by rw [joi, if_pos he]
  rw [hres]
  rw [he] at B
  have BB := Lib.hid B
  clear B hc he hres
  go_enter Tryd.func83, Tryd.ntmps83
  go_wp2_with (
    go_at_call 32
    refine BB.out.mono ?_
    rintro e w1 ⟨rfl, hs1, ht1⟩)
  go_ret
  exact ⟨rfl, hs1, ht1.mono fun _ _ e => .inl e⟩

theorem ring_Join_yes (p b : Nat) (xs : List Int) (a c : Int) (w : World) (hs : Sto w p b xs) (hn : xs.length ≤ 1048576) (ha : Pl xs.length a) (hc : Pl xs.length c)
    (hf : Pl xs.length (gv xs (c + 2))) (hl : Pl xs.length (gv xs (c + 1))) (hz : Pl xs.length (gv xs (a + 1))) (hne : gv xs (c + 2) ≠ c) :
    Calls Tryd.prog 83 #[.pointer (some ⟨p, 0, none⟩), .int .i64 a, .int .i64 c] w fun e w' =>
      e = .returned .nilIface ∧ Sto w' p b (joi xs a c) ∧ Turns (fun k => k = p ∨ k = b) w w' := by
  have B := ring_Behind p b xs c w hs hn hc hf
  have A1 := fun w1 h1 => ring_Ahead p b xs c w1 h1 hn hc hl
  have A2 := fun w1 h1 => ring_Ahead p b xs a w1 h1 hn ha hz
  have G := fun cap w1 h1 => set_new p b cap 4 xs [(gv xs (a + 1), 2, gv xs (c + 2)), (gv xs (c + 2), 1, gv xs (a + 1)), (gv xs (c + 1), 2, a), (a, 1, gv xs (c + 1))] w1 h1 (by simp) rfl
    (List.forall_mem_cons.2 ⟨link_ok hn hz (.inr rfl) hf, List.forall_mem_cons.2 ⟨link_ok hn hf (.inl rfl) hz, List.forall_mem_cons.2 ⟨link_ok hn hl (.inr rfl) ha, List.forall_mem_cons.2 ⟨link_ok hn ha (.inl rfl) hl, fun _ h => absurd h (by simp)⟩⟩⟩⟩)
  have hlen := svs_length [(gv xs (a + 1), 2, gv xs (c + 2)), (gv xs (c + 2), 1, gv xs (a + 1)), (gv xs (c + 1), 2, a), (a, 1, gv xs (c + 1))] xs
  have hres : ini (svs xs [(gv xs (a + 1), 2, gv xs (c + 2)), (gv xs (c + 2), 1, gv xs (a + 1)), (gv xs (c + 1), 2, a), (a, 1, gv xs (c + 1))]) c = joi xs a c := by
    rw [joi, if_neg hne]
    rfl
  have I := fun w1 h1 => ring_Init p b (svs xs [(gv xs (a + 1), 2, gv xs (c + 2)), (gv xs (c + 2), 1, gv xs (a + 1)), (gv xs (c + 1), 2, a), (a, 1, gv xs (c + 1))]) c w1 h1 (by rw [hlen]; exact hn) (by rw [hlen]; exact hc)
  rw [hres] at I
  clear hres hlen ha hc hf hl hz
  generalize joi xs a c = zs at *
  generalize svs xs [(gv xs (a + 1), 2, gv xs (c + 2)), (gv xs (c + 2), 1, gv xs (a + 1)), (gv xs (c + 1), 2, a), (a, 1, gv xs (c + 1))] = ys at *
  generalize gv xs (c + 2) = f at *
  generalize gv xs (c + 1) = l at *
  generalize gv xs (a + 1) = z at *
  have f1 : (f == c) = false := by simpa using hne
  have BB := Lib.hid B
  have AA1 := Lib.hid A1
  have AA2 := Lib.hid A2
  have GG := Lib.hid G
  have II := Lib.hid I
  clear B A1 A2 G I hne
  go_enter Tryd.func83, Tryd.ntmps83
  go_wp2_with (first
    | (go_at_call 32
       refine BB.out.mono ?_
       rintro e w1 ⟨rfl, hs1, ht1⟩)
    | (go_at_call 79
       (with_reducible refine (AA1.out _ hs1).mono ?_)
       rintro e w2 ⟨rfl, hs2, ht2⟩)
    | (go_at_call 79
       (with_reducible refine (AA2.out _ hs2).mono ?_)
       rintro e w3 ⟨rfl, hs3, ht3⟩)
    | (go_at_call 77
       refine (GG.out _ _ hs3).mono ?_
       rintro e w4 ⟨rfl, hs4, ht4⟩)
    | (go_at_call 58
       refine (II.out _ hs4).mono ?_
       rintro e w5 ⟨rfl, hs5, ht5⟩))
  go_ret
  exact ⟨rfl, hs5, ((((ht1.trans ht2).trans ht3).mono fun _ _ e => .inl e).trans ht4).trans ht5⟩
end Go.Proofs.YtclcnepkgjcmcaaDoor
