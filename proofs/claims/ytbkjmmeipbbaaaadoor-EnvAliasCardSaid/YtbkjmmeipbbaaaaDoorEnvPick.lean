/- The law's pick: some name, not long. -/
import Derived.Test.YtbkjmmeipbbaaaaDoorEnvRefA
namespace Go.Proofs.YtbkjmmeipbbaaaaDoor
open Go.ChangeShapes Go.WideShapes Go.ChangeAt Go.RowKit

theorem Tryd.infoString : (Tryd.prog.info? 9).map (fun i => (i.zero, i.size, i.bytes)) = some (some (.string ⟨#[]⟩), 1, 16) := by kernel_rfl
def Short (ss : List ByteArray) : Prop := ∀ s ∈ ss, s.size ≤ 100
theorem tmod_in (u : Int) (N : Nat) (h : 0 ≤ u) (hN : 0 < N) : 0 ≤ u.tmod N ∧ u.tmod N < N := by
  rw [Int.tmod_eq_emod_of_nonneg h]
  exact ⟨Int.emod_nonneg _ (by omega), Int.emod_lt_of_pos _ (by omega)⟩
set_option maxRecDepth 100000 in
set_option maxHeartbeats 2000000 in
theorem rpick_any (r np nt : Nat) (E : Nat → Prop) (A : List ER.Al) (hO : ER.Ok A) (n : Int) (w : World) (h : Rw w r E np nt A) :
    Calls Tryd.prog 8 #[.pointer (some ⟨r, 0, none⟩), .int .i64 n, .string ⟨#[]⟩] w fun e w' => (∃ s : ByteArray, s.size ≤ 100 ∧ e = .returned (.string s)) ∧ Went w w' := by
  have hR := Lib.hid h
  have hO' := Lib.hid hO
  obtain ⟨L, hL⟩ : ∃ L, A.length = L := ⟨_, rfl⟩
  have hL' := Lib.hid hL
  have hl64 := Lib.hid (show L ≤ 65536 by have := hO.1; omega)
  have hlit : (w.alloc (.cells #[.string ⟨#[120]⟩, .string ⟨#[121]⟩, .string ⟨#[105, 102]⟩] 9)).ownsRow w.heap.size 9 1 (.slice (some ⟨w.heap.size, 0, none⟩) 3 3) 3 [.string ⟨#[120]⟩, .string ⟨#[121]⟩, .string ⟨#[105, 102]⟩] :=
    World.ownsRow_lit (base := w.heap.size) (e := 9) (size := 1) w #[.string ⟨#[120]⟩, .string ⟨#[121]⟩, .string ⟨#[105, 102]⟩] 3 (Nat.le_refl _) (by decide) (by decide)
  have hba : Below w.heap.size w (w.alloc (.cells #[.string ⟨#[120]⟩, .string ⟨#[121]⟩, .string ⟨#[105, 102]⟩] 9)) := (Below.refl _ w).alloc (Nat.le_refl _) _
  obtain ⟨W2, hW2⟩ : ∃ W2, w.alloc (.cells #[.string ⟨#[120]⟩, .string ⟨#[121]⟩, .string ⟨#[105, 102]⟩] 9) = W2 := ⟨_, rfl⟩
  rw [hW2] at hlit hba
  have hR2 := h.below hba
  obtain ⟨vP, vA, vT, csP, csT, h1, h2, h3, -⟩ := hR2
  obtain ⟨B8, q8, rfl, -⟩ := own_read h3
  have c1 : W2.cell? ⟨r, 1, none⟩ = some (.slice B8 A.length q8) := h1.cell 1
  rw [hL] at c1
  have c1w : (w.alloc (.cells #[.string ⟨#[120]⟩, .string ⟨#[121]⟩, .string ⟨#[105, 102]⟩] 9)).cell? ⟨r, 1, none⟩ = some (.slice B8 L q8) := by rw [hW2]; exact c1
  have hrow3 := Lib.hid h3
  have hg2 : Hid (∀ g, (Value.slice B8 A.length q8).ownBlock = some g → g < w.heap.size) := fun g hg => by
    obtain ⟨vP', vA', vT', csP', csT', l1, -, l3, -, -, l6, -, -, l9⟩ := hR.out
    have hc := Below.cell hba (p := ⟨r, 1, none⟩) l1.lt
    rw [l1.cell 1, h1.cell 1] at hc
    simp at hc
    exact l9 g (l6 g (by rw [← hc]; exact hg)).1
  have hlit' := Lib.hid hlit
  have hba' := Lib.hid hba
  have hW2' := Lib.hid hW2
  clear h h1 h2 h3 hO hL hlit hba hW2
  go_enter Tryd.func8, Tryd.ntmps8
  go_wp2
  go_loopw [19, 7] (fun i v wr => ∃ (j : Nat) (B : Option Addr) (c : Nat) (ss : List ByteArray), j ≤ L ∧ i = .int .i64 j ∧ v = .slice B (3 + j) c ∧ Hid (wr.ownsRow w.heap.size 9 1 (.slice B (3 + j) c) (3 + j) (ss.map Value.string)) ∧ Hid (Short ss ∧ ss.length = 3 + j) ∧ Hid (Below w.heap.size w wr ∧ OwnAl wr (.slice B8 A.length q8) A)) (fun i _ _ => L - (intOf i).toNat)
  case atStart =>
    rw [hW2'.out]
    refine ⟨0, _, _, [⟨#[120]⟩, ⟨#[121]⟩, ⟨#[105, 102]⟩], Nat.zero_le _, rfl, rfl, hlit'.out, ⟨fun s hs => ?_, rfl⟩, hba'.out, hrow3.out⟩
    simp at hs
    rcases hs with rfl | rfl | rfl <;> decide
  case round =>
    obtain ⟨j, B, c, ss, hj, rfl, rfl, hOw, hSh, hBO⟩ := hrel
    by_cases hlt : j < L
    · obtain ⟨a, ha⟩ : ∃ a, A[j]? = some a := ⟨_, List.getElem?_eq_getElem (by rw [hL'.out]; exact hlt)⟩
      obtain ⟨g, rfl, hg, k0, k1, k2⟩ := hBO.out.2.cell ha
      have ha100 := Lib.hid (hO'.out.2 j a ha).1
      obtain ⟨an, af, at_⟩ := a
      simp only at k0 k1 k2 ha100
      clear ha c1 c1w
      have hjb : j < 65536 := by have := hl64.out; omega
      have hal := Lib.hid (((Below.refl _ wr).alloc (Nat.le_refl wr.heap.size) (.cells #[.string an, .string af, .int .i64 at_] 65)).alloc (by simp) (.cells #[.string an] 9))
      have hown1 := Lib.hid (own_one (B := 0) (e := 9) (sz := 1) (wr.alloc (.cells #[.string an, .string af, .int .i64 at_] 65)) #[.string an] rfl (Nat.zero_le _))
      have hz : (wr.alloc (.cells #[.string an, .string af, .int .i64 at_] 65)).heap.size = wr.heap.size + 1 := by simp
      rw [hz] at hown1
      have hrowA := Lib.hid (own_below hOw.out hal.out)
      have hws := Lib.hid hBO.out.1.size
      go_wp2_with (
        at_builtin
        refine wpList_append_own (w := (wr.alloc (.cells #[.string an, .string af, .int .i64 at_] 65)).alloc (.cells #[.string an] 9)) (v := .slice B (3 + j) c) (x := .slice (some ⟨wr.heap.size + 1, 0, none⟩) 1 1) (B := w.heap.size) (B' := 0) (n := 3 + j) (xs := ss.map Value.string) (cs := [.string an]) (.string ⟨#[]⟩) 16 Tryd.infoString rfl (by decide) rfl _ _ 55 rfl Tryd.underlying55 rfl rfl hrowA.out hown1.out (by intro u hu; simp at hu; subst hu; rfl) (by have := hl64.out; omega) (by omega) (by have := hws.out; simp; omega) ?_
        intro v9 w9 hown9 hg9 hat9
        obtain ⟨A9, q9, rfl, -⟩ := own_read hown9
        have T9 : Turns (fun g => (Value.slice B (3 + j) c).ownBlock = some g) wr w9 := (Turns.of_below hal.out _).then (Turns.appendedS hg9) (fun _ _ h => h)
        have hb9 := Lib.hid (hBO.out.1.trans (T9.below hBO.out.1.size (fun g hg => (World.ownsRow.lt hOw.out g hg).1)))
        have hA9 := Lib.hid (own_turns hBO.out.2 T9 (fun g hg hh => by
          have h1 := (World.ownsRow.lt hOw.out g hh).1
          have h2 := hg2.out g hg
          omega))
        have hO9 := Lib.hid hown9
        clear hown9 hg9 hat9 T9)
      go_roundw
      case rel =>
        refine ⟨j + 1, _, _, ss ++ [an], by omega, by go_num, rfl, ?_, ⟨fun s hs => ?_, by simp [hSh.out.2]; omega⟩, hb9.out, hA9.out⟩
        · show World.ownsRow _ _ _ _ _ _ _
          rw [List.map_append]
          exact hO9.out
        · rcases List.mem_append.1 hs with hs | hs
          · exact hSh.out.1 s hs
          · simp at hs; subst hs; exact ha100.out
      case measure => simp [intOf]; omega
    · obtain rfl : j = L := by omega
      have hjb : j ≤ 65536 := hl64.out
      obtain ⟨u, hu⟩ : ∃ u, IntKind.u64.wrap n = u := ⟨_, rfl⟩
      have hu0 : 0 ≤ u := by rw [← hu, IntKind.wrap_u64]; omega
      obtain ⟨k, hk⟩ : ∃ k : Int, u % (3 + (j : Int)) = k := ⟨_, rfl⟩
      have hk0 : 0 ≤ k := by rw [← hk]; exact Int.emod_nonneg _ (by omega)
      have hk1 : k < 3 + (j : Int) := by rw [← hk]; exact Int.emod_lt_of_pos _ (by omega)
      obtain ⟨m, rfl⟩ := Int.eq_ofNat_of_zero_le hk0
      have hm : m < 3 + j := by omega
      obtain ⟨A', c', e', hr⟩ := own_read hOw.out
      injection e' with e1 e2 e3
      subst e1 e3
      obtain ⟨g, rfl, hg1, hg2, hc⟩ := hr m (by omega)
      have hms : m < ss.length := by rw [hSh.out.2]; exact hm
      obtain ⟨s, hs⟩ : ∃ s, ss[m]? = some s := ⟨_, List.getElem?_eq_getElem hms⟩
      have hs100 := Lib.hid (hSh.out.1 s (List.mem_of_getElem? hs))
      rw [List.getElem?_map, hs, Option.map_some] at hc
      clear hs hms hr hg1 hg2 hk0 e2 hlt c1 c1w
      go_wp2
      go_ret
      exact ⟨⟨s, hs100.out, rfl⟩, hBO.out.1⟩
end Go.Proofs.YtbkjmmeipbbaaaaDoor
