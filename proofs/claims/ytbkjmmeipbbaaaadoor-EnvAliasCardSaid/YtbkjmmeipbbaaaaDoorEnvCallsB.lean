/- What the readers of package env give, on: the error of a name at a place, the nearest place, what binds a name, what it means. -/
import Derived.Test.YtbkjmmeipbbaaaaDoorEnvCalls
import Derived.Deep.RegionHeld3
import Derived.Deep.RegionWith
namespace Go.Proofs.YtbkjmmeipbbaaaaDoor
open Go.ChangeShapes Go.WideShapes Go.ChangeAt Go.RowKit

theorem tl_ne {a b : ByteArray} (h : ¬ a = b) : (a.toList == b.toList) = false ∧ ¬ a.toList = b.toList ∧ (a.toList != b.toList) = true := by
  have e : ∀ s : ByteArray, s.toList = s.data.toList := fun s => by rw [ByteArray.toList_eq]
  have h2 : ¬ a.data.toList = b.data.toList := fun hh => h (by cases a; cases b; congr; exact Array.toList_inj.1 hh)
  rw [e, e]
  exact ⟨by simpa using h2, h2, by simpa using h2⟩

theorem er_n : er 0 = .nilIface := rfl
theorem er_y {k : Int} (h : k ≠ 0) : er k = .iface 57 (.int .i64 k) := if_neg h
theorem check_nil (a : Int) (x : ByteArray) (w : World) :
    Calls Tryd.prog 24 #[.pointer none, .int .i64 a, .string x] w fun e w' => e = .returned (er 1) ∧ w = w' := by
  rw [er_y (by omega)]
  go_enter Tryd.func24, Tryd.ntmps24
  go_wp2
  go_ret
  exact ⟨rfl, rfl⟩
theorem check_any (p : Nat) (D : Nat → Prop) (T : EM.Tb) (a : Int) (x : ByteArray) (hx : x.size ≤ 1000000) (w : World) (h : Tw w p D T) :
    Calls Tryd.prog 24 #[.pointer (some ⟨p, 0, none⟩), .int .i64 a, .string x] w fun e w' => e = .returned (er (EM.ck T a x)) ∧ Went w w' := by
  have hK := Lib.hid (fun w h => kind_any p D T x hx w h)
  have h' := Lib.hid h
  obtain ⟨⟨mt, v, ma, nt, h1, h2, h3, h4, h5, h6, h7, h8⟩, h9, h10⟩ := h
  obtain ⟨A, c, rfl⟩ := h2.read
  have c1 : w.cell? ⟨p, 1, none⟩ = some (.slice A T.P.length c) := h1.cell 1
  clear h1 h2 h3 h4 h5 h6 h7 h8 h9 h10
  unfold EM.ck
  by_cases n1 : a < 0
  · rw [if_pos (.inl n1), er_y (by omega)]
    go_enter Tryd.func24, Tryd.ntmps24
    go_wp2
    go_ret
    exact ⟨rfl, Below.refl _ _⟩
  · by_cases n2 : (T.P.length : Int) < a
    · rw [if_pos (.inr n2), er_y (by omega)]
      go_enter Tryd.func24, Tryd.ntmps24
      go_wp2
      go_ret
      exact ⟨rfl, Below.refl _ _⟩
    · rw [if_neg (by omega)]
      obtain ⟨k, hk⟩ : ∃ k, EM.kd T x = k := ⟨_, rfl⟩
      rw [hk] at hK ⊢
      clear hk
      by_cases hz : k = 0
      · subst hz
        rw [if_pos rfl, er_y (by omega)]
        go_enter Tryd.func24, Tryd.ntmps24
        go_wp2_with (go_at_call 31; refine (hK.out _ h'.out).mono ?_; rintro e w' ⟨rfl, hb⟩)
        go_ret
        exact ⟨rfl, hb⟩
      · rw [if_neg hz, er_n]
        have hz' : ¬ (k : Int) = 0 := by omega
        go_enter Tryd.func24, Tryd.ntmps24
        go_wp2_with (go_at_call 31; refine (hK.out _ h'.out).mono ?_; rintro e w' ⟨rfl, hb⟩)
        go_ret
        exact ⟨rfl, hb⟩

theorem nearest_any (p : Nat) (D : Nat → Prop) (T : EM.Tb) (hu : EM.Ups T.P) (hlen : T.P.length ≤ 100000) (a : Nat) (ha : a ≤ T.P.length) (x : ByteArray) (w : World) (h : Tw w p D T) :
    Calls Tryd.prog 41 #[.pointer (some ⟨p, 0, none⟩), .int .i64 (a : Nat), .string x] w fun e w' => e = .returned (.int .i64 (EM.nr T.P x a : Nat)) ∧ w = w' := by
  obtain ⟨⟨mt, v, ma, nt, h1, h2, h3, h4, h5, h6, h7, h8⟩, h9, h10⟩ := h
  obtain ⟨A, c, rfl⟩ := h2.read
  have c1 : w.cell? ⟨p, 1, none⟩ = some (.slice A T.P.length c) := h1.cell 1
  clear h1 h3 h4 h5 h6 h7 h8 h9 h10
  obtain ⟨R, hR⟩ : ∃ R, EM.nr T.P x a = R := ⟨_, rfl⟩
  rw [hR]
  have hR' := Lib.hid hR
  have hu' := Lib.hid hu
  have h2' := Lib.hid h2
  obtain ⟨L, hL⟩ : ∃ L, T.P.length = L := ⟨_, rfl⟩
  rw [hL] at c1 ha hlen
  have hL' := Lib.hid hL
  clear hR hu h2 hL
  go_enter Tryd.func41, Tryd.ntmps41
  go_wp2
  go_loopw [1] (fun i wr => ∃ (m : Nat), m ≤ L ∧ i = .int .i64 m ∧ wr = w ∧ Hid (EM.nr T.P x m = R)) (fun i _ => (intOf i).toNat)
  case atStart => exact ⟨a, ha, rfl, rfl, hR'⟩
  case round =>
    obtain ⟨m, hm, rfl, rfl, H⟩ := hrel
    by_cases h0 : m = 0
    · subst h0
      obtain rfl : 0 = R := by rw [← H.out, EM.nr_zero]
      go_wp2
      go_ret
      exact ⟨rfl, rfl⟩
    · obtain ⟨j, rfl⟩ : ∃ j, m = j + 1 := ⟨m - 1, by omega⟩
      have hj : j < T.P.length := by rw [hL'.out]; omega
      obtain ⟨q, hq⟩ : ∃ q, T.P[j]? = some q := ⟨_, List.getElem?_eq_getElem hj⟩
      have hup := hu'.out j q hq
      obtain ⟨g, rfl, hg, k0, k1, k2, k3⟩ := h2'.out.cell hq
      have hst := EM.nr_step hu'.out x (a := j + 1) (p := q) (by omega) hq
      have hw1 : IntKind.i64.wrap ((j : Int) + 1 - 1) = j := by rw [IntKind.wrap_i64]; omega
      have hne0 : ¬ (j : Int) + 1 = 0 := by omega
      by_cases hn : q.nm = x
      · rw [if_pos hn, H.out] at hst
        subst hst
        rw [hn] at k1
        clear hn hq hup k0 k2 k3 hj
        rw [show ((j + 1 : Nat) : Int) = (j : Int) + 1 by omega]
        go_wp2
        go_ret
        exact ⟨rfl, rfl⟩
      · rw [if_neg hn, H.out] at hst
        have hst' := Lib.hid hst.symm
        obtain ⟨e1, e2, e3⟩ := tl_ne hn
        clear hn hq hst hj H
        rw [show ((j + 1 : Nat) : Int) = (j : Int) + 1 by omega]
        go_wp2
        go_roundw
        case rel => exact ⟨q.up, by omega, by first | rfl | trivial, by first | rfl | trivial, hst'⟩
        case measure => simp [intOf]; omega
end Go.Proofs.YtbkjmmeipbbaaaaDoor
