/- The document's own table: Alias. -/
import Derived.Test.YtbkjmmeipbbaaaaDoorEnvRefW
namespace Go.Proofs.YtbkjmmeipbbaaaaDoor
open Go.ChangeShapes Go.WideShapes Go.ChangeAt Go.RowKit

namespace ER
theorem ix_hit : ∀ {A : List Al} {x : ByteArray}, ix A x < A.length → ∃ b, A[ix A x]? = some b ∧ b.nm = x
  | [], x, h => by simp [ix] at h
  | a :: l, x, h => by
    unfold ix at h ⊢
    by_cases e : a.nm = x
    · rw [if_pos e]; exact ⟨a, by simp, e⟩
    · rw [if_neg e] at h ⊢
      obtain ⟨b, h1, h2⟩ := ix_hit (A := l) (x := x) (by simp at h; omega)
      exact ⟨b, by simpa using h1, h2⟩
theorem Ok.push {A : List Al} (h : Ok A) {x nm : ByteArray} {a : Int} (hl : A.length < 65536) (hn : rnm A x = true) (hx : x.size ≤ 100) (hm : nm.size ≤ 100) : Ok (A ++ [⟨nm, x, a⟩]) := by
  refine ⟨by simp; omega, fun i b hb => ?_⟩
  by_cases hi : i < A.length
  · rw [List.getElem?_append_left hi] at hb
    obtain ⟨h1, h2, h3⟩ := h.2 i b hb
    refine ⟨h1, h2, ?_⟩
    rcases h3 with h3 | ⟨j, c, q1, q2, q3⟩
    · exact .inl h3
    · exact .inr ⟨j, c, q1, by rw [List.getElem?_append_left (by omega)]; exact q2, q3⟩
  · rw [List.getElem?_append_right (by omega)] at hb
    have hl2 := (List.getElem?_eq_some_iff.1 hb).1
    simp only [List.length_cons, List.length_nil] at hl2
    obtain rfl : i = A.length := by omega
    simp at hb
    subst hb
    refine ⟨hm, hx, ?_⟩
    unfold rnm at hn
    rw [Bool.or_eq_true, decide_eq_true_eq] at hn
    rcases hn with hn | hn
    · exact .inl hn
    · obtain ⟨b, q1, q2⟩ := ix_hit hn
      exact .inr ⟨ix A x, b, hn, by rw [List.getElem?_append_left hn]; exact q1, q2⟩
end ER

set_option maxRecDepth 100000 in
set_option maxHeartbeats 2000000 in
theorem rali_any (r np nt : Nat) (E : Nat → Prop) (A : List ER.Al) (hO : ER.Ok A) (a : Int) (x : ByteArray) (hx : x.size ≤ 100) (w : World) (h : Rw w r E np nt A) :
    Calls Tryd.prog 14 #[.pointer (some ⟨r, 0, none⟩), .string x, .int .i64 a] w fun e w' => (∃ (s : ByteArray) (c : Int), e = .returned (.tuple #[.string s, .int .i64 c])) ∧ ∃ A', A'.length ≤ A.length + 1 ∧ ER.Ok A' ∧ RWrote r E np nt A' w w' := by
  have hPl := Lib.hid (rplace_any h a)
  have hNm := Lib.hid (rname_any h (by have := hO.1; omega) x (by omega))
  have hSt := Lib.hid (fun w' (hw : Rw w' r E np nt A) => rstrip_any hw hO x hx)
  have hsame := Lib.hid (RWrote.same h (Went.refl w))
  have hlowE : ∀ g, E g → g < w.heap.size := by
    obtain ⟨_, _, _, _, _, -, -, -, -, -, -, -, -, h9⟩ := h
    exact h9
  have hR := Lib.hid h
  obtain ⟨vP, vA, vT, csP, csT, h1, h2, h3, h4, h5, h6, h7, h8, h9⟩ := h
  obtain ⟨B, c, rfl, -⟩ := own_read h3
  have c1 : w.cell? ⟨r, 1, none⟩ = some (.slice B A.length c) := h1.cell 1
  have hrw := h1.lt
  have hAll := Lib.hid (And.intro h1 (And.intro h2 (And.intro h3 (And.intro h4 (And.intro h5 (And.intro h6 (And.intro h7 (And.intro h8 h9))))))))
  have hlow' := Lib.hid hlowE
  have hO' := Lib.hid hO
  have hx' := Lib.hid hx
  clear h1 h2 h3 h4 h5 h6 h7 h8 h9 hlowE
  obtain ⟨bp, hbp⟩ : ∃ bp, decide (0 ≤ a ∧ a ≤ np) = bp := ⟨_, rfl⟩
  obtain ⟨bn, hbn⟩ : ∃ bn, rnm A x = bn := ⟨_, rfl⟩
  rw [hbp] at hPl
  rw [hbn] at hNm
  have hbn' := Lib.hid hbn
  clear hbp hbn
  obtain ⟨L, hL⟩ : ∃ L, A.length = L := ⟨_, rfl⟩
  rw [hL] at c1
  have hL' := Lib.hid hL
  cases bp with
  | false =>
    clear hO hx hL
    go_enter Tryd.func14, Tryd.ntmps14
    go_wp2_with (go_at_call 25; refine hPl.out.mono ?_; rintro e w' ⟨rfl, rfl⟩)
    go_ret2
    exact ⟨⟨_, _, rfl⟩, A, Nat.le_succ _, hO'.out, hsame.out⟩
  | true =>
    cases bn with
    | false =>
      clear hO hx hL
      go_enter Tryd.func14, Tryd.ntmps14
      go_wp2_with (first
        | (go_at_call 25; refine hPl.out.mono ?_; rintro e w' ⟨rfl, rfl⟩)
        | (go_at_call 26; refine hNm.out.mono ?_; rintro e w' ⟨rfl, rfl⟩))
      go_ret2
      exact ⟨⟨_, _, rfl⟩, A, Nat.le_succ _, hO'.out, hsame.out⟩
    | true =>
      by_cases hfull : 65536 ≤ L
      · have hq : decide ((65536 : Int) ≤ (L : Int)) = true := decide_eq_true (by omega)
        clear hO hx hL hfull
        go_enter Tryd.func14, Tryd.ntmps14
        go_wp2_with (first
          | (go_at_call 25; refine hPl.out.mono ?_; rintro e w' ⟨rfl, rfl⟩)
          | (go_at_call 26; refine hNm.out.mono ?_; rintro e w' ⟨rfl, rfl⟩))
        go_ret2
        exact ⟨⟨_, _, rfl⟩, A, Nat.le_succ _, hO'.out, hsame.out⟩
      · have hq : decide ((65536 : Int) ≤ (L : Int)) = false := decide_eq_false (by omega)
        have hlt := Lib.hid (show L < 65536 by omega)
        have hX := Lib.hid (fun w => rtext_any ((L : Int) + 1) (by omega) (by omega) w)
        obtain ⟨tx, htx⟩ : ∃ tx : ByteArray, ⟨(Lib.itoa ((L : Int) + 1)).toArray⟩ = tx := ⟨_, rfl⟩
        have htx21 : tx.size ≤ 21 := by rw [← htx]; exact Lib.itoa_length_le ((L : Int) + 1) (by omega) (by omega)
        rw [htx] at hX
        have hw1 : IntKind.i64.wrap ((L : Int) + 1) = (L : Int) + 1 := by rw [IntKind.wrap_i64]; omega
        have htx' := Lib.hid htx21
        clear hO hx hL hfull htx
        go_enter Tryd.func14, Tryd.ntmps14
        go_upto_region 7 with (first
          | (go_at_call 25; refine hPl.out.mono ?_; rintro e w' ⟨rfl, rfl⟩)
          | (go_at_call 26; refine hNm.out.mono ?_; rintro e w' ⟨rfl, rfl⟩))
        go_cut [8] from 23 to 35 (fun s8 wx => ∃ nm : ByteArray, s8 = .string nm ∧ nm.size ≤ 100 ∧ Went w wx)
        case first =>
          go_region_law
            ((first
              | (rw [if_pos (by rfl)]
                 go_simp
                 go_at_call 29
                 refine (hSt.out _ (show Rw w.drew r E np nt A from hR.out)).mono ?_
                 rintro e w6 ⟨⟨s, hs60, rfl⟩, rfl⟩
                 have hz1 : ¬ 9223372036854775807 < s.size + 1 := by omega
                 have hz2 : ¬ 9223372036854775807 < s.size + 1 + tx.size := by omega
                 have hs60' := Lib.hid hs60
                 clear hs60)
              | (rw [if_pos (by rfl)]
                 go_simp
                 go_at_call 30
                 refine (hX.out _).mono ?_
                 rintro e w7 ⟨rfl, hb⟩
                 have hb7 := Lib.hid (Went.of_drew hb)
                 clear hb)))
          all_goals
            simp only [Act.put, List.setIfInBounds_toArray, List.set_cons_zero, List.set_cons_succ, List.getElem_toArray, List.getElem_cons_succ, List.getElem_cons_zero]
            go_wp2_with fail
            go_meet
            case rel => exact ⟨_, rfl, by have h1 := hs60'.out; have h2 := htx'.out; have h3 : (⟨#[32]⟩ : ByteArray).size = 1 := rfl; simp only [ByteArray.size_append]; omega, hb7.out⟩
        case rest =>
        obtain ⟨nm, rfl, hnm, hw⟩ := hcut
        have hR8 := hR.out.below hw
        obtain ⟨vP, vA, vT, csP, csT, h1, h2, h3, h4, h5, h6, h7, h8, h9⟩ := hR8
        obtain ⟨B8, q8, rfl, -⟩ := own_read h3
        have c8 : wc.cell? ⟨r, 1, none⟩ = some (.slice B8 A.length q8) := h1.cell 1
        rw [hL'.out] at c8
        have hr8 := h1.lt
        have hrow : (wc.alloc (.cells #[.string nm, .string x, .int .i64 a] 65)).ownsRow 0 65 3 (.slice B8 L q8) L (A.flatMap acs) := by
          have h3' := h3
          unfold OwnAl at h3'
          rw [hL'.out] at h3'
          exact own_below h3' ((Below.refl _ wc).alloc (Nat.le_refl _) _)
        have hrow' := Lib.hid hrow
        have hAll8 := Lib.hid (And.intro h1 (And.intro h2 (And.intro h3 (And.intro h4 (And.intro h5 (And.intro h6 (And.intro h7 (And.intro h8 h9))))))))
        have hw8 := Lib.hid hw
        have hnm' := Lib.hid hnm
        clear h1 h2 h3 h4 h5 h6 h7 h8 h9 hw hnm hrow c1 hrw hAll
        go_wp2_with (
          at_builtin
          refine wpList_append_own (w := wc.alloc (.cells #[.string nm, .string x, .int .i64 a] 65)) (v := .slice B8 L q8) (x := .slice (some ⟨wc.heap.size, 0, none⟩) 1 1) (B := 0) (B' := 0) (n := L) (xs := A.flatMap acs) (cs := [.string nm, .string x, .int .i64 a]) (.agg #[.string ⟨#[]⟩, .string ⟨#[]⟩, .int .i64 0]) 40 Tryd.infoRAlias rfl (by decide) rfl _ _ 32 rfl Tryd.underlying32 rfl rfl hrow'.out (own_one (B := 0) wc #[.string nm, .string x, .int .i64 a] rfl (Nat.zero_le _)) (by intro u hu; simp at hu; rcases hu with rfl | rfl | rfl <;> rfl) (by have := hlt.out; omega) (by omega) (Nat.zero_le _) ?_
          intro v9 w9 hown9 hg9 hat9
          obtain ⟨h1, h2, h3, h4, h5, h6, h7, h8, h9⟩ := hAll8.out
          obtain ⟨A9, q9, rfl, -⟩ := own_read hown9
          have hal : Went wc (wc.alloc (.cells #[.string nm, .string x, .int .i64 a] 65)) := (Below.refl _ wc).alloc (Nat.le_refl wc.heap.size) _
          rw [hL'.out] at h1 h3 h6 h5
          have hown10 : w9.ownsRow 0 65 3 (.slice A9 (L + 1) q9) (A.length + 1) (A.flatMap acs ++ acs ⟨nm, x, a⟩) := by rw [hL'.out]; exact hown9
          have hfin := Lib.hid (Rw.pushA (a := ⟨nm, x, a⟩) hlow'.out h1 h2 h3 h4 h5 h6 h7 h8 hw8.out hal w9 hown10 hg9 hat9)
          have hLr := (h1.below hal h1.lt).turns (Turns.appendedS hg9) (fun e => (h6 r e).2.2 rfl)
          have c9 : w9.cell? ⟨r, 1, none⟩ = some (.slice B8 L q8) := hLr.cell 1
          have f9 : w9.frozen? ⟨r, 1, none⟩ = false := hLr.free 1
          clear h1 h2 h3 h4 h5 h6 h7 h8 h9 hown9 hown10 hg9 hat9 hal hLr)
        go_ret2
        exact ⟨⟨_, _, rfl⟩, _, by simp, hO'.out.push (by rw [hL'.out]; exact hlt.out) hbn'.out hx'.out hnm'.out, hfin.out⟩
end Go.Proofs.YtbkjmmeipbbaaaaDoor
