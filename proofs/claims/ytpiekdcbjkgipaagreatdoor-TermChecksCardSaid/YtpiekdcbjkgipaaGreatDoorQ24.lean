/- What package term's writer puts: what stands ahead of a term's kids. -/
import Derived.Test.YtpiekdcbjkgipaaGreatDoorQ23
namespace Go.Proofs.YtpiekdcbjkgipaaGreatDoor
open Go.ChangeShapes Go.WideShapes Go.ChangeAt Go.RowKit
open TM (Tl Tm)

theorem ba_self (S : ByteArray) : (⟨S.data.toList.toArray⟩ : ByteArray) = S := by cases S; simp
theorem Base.putS {W0 w : World} {B p : Nat} {v : Value} {l : List UInt8} (h : Base W0 w B p v l) (S : ByteArray) (hl : l.length + S.data.toList.length ≤ 100000000000000) :
    Calls Tryz.prog 55 #[.pointer (some ⟨p, 0, none⟩), .string S] w (WtN B p (l ++ S.data.toList) w) := by
  have := h.put S.data.toList hl
  rwa [ba_self] at this
theorem Base.stored_box {W0 w : World} {B p h : Nat} {v : Value} {l : List UInt8} {t : TypeId} {cs : List Value} (hb : Base W0 w B p v l) (hM : Lies w h t cs) (ht : t ≠ 5) (i : Nat) (u : Value) (hne : t ≠ 63 := by decide) (hW : W0.heap.size ≤ h := by omega) : Base W0 (w.setCell ⟨h, i, none⟩ u) B p v l := by
  have T : Turns (fun k => k = h) w (w.setCell ⟨h, i, none⟩ u) := (Turns.refl (fun k => k = h) w).setCell (p := ⟨h, i, none⟩) (fun _ => rfl) u
  refine ⟨hb.tab, hb.hB, ⟨Nat.le_trans hb.below.size T.size, fun k hk hd => (T.block k (Nat.lt_of_lt_of_le hk hb.below.size) (by omega)).trans (hb.below.block k hk hd)⟩, by simpa using hb.size, by simpa using hb.wt.1, hb.wt.2.1.far (p := ⟨h, i, none⟩) (fun e => by subst e; exact hne (by have := hM.symm.trans hb.wt.2.1; simp at this; exact this.2)) u, own_turns hb.wt.2.2 T (fun g hg e => by subst e; exact ((hb.wt.2.2.byt _ hg).2).not_lies hM ht)⟩
theorem Ch.box {w0 w : World} {B p h : Nat} (hc : Ch B p w0 w) (hh : w0.heap.size ≤ h) (i : Nat) (u : Value) : Ch B p w0 (w.setCell ⟨h, i, none⟩ u) := Turns.setCell hc (p := ⟨h, i, none⟩) (fun hlt => by simp only at hlt; omega) u
section
variable (n : Int) (s : List UInt8) (ps : List Int) (P3 : Option Addr) (p3 : Nat) (dk dn : Int) (dS : ByteArray) (vi vk : Value) (W0 w : World) (B p : Nat) (v : Value) (l : List UInt8)
set_option maxRecDepth 100000 in
set_option maxHeartbeats 4000000 in
theorem head7 (_hp : PD W0 (fun g => g ≠ p) (.slice P3 ps.length p3) ps) (_h64 : ∀ q ∈ ps, b64 q) (_hn : b64 n) (_hs : s.length ≤ 60) (hb : Base W0 w B p v l) (hl : l.length + 40 * ps.length + 200 ≤ 100000000000000) :
    Calls Tryz.prog 58 #[.pointer (some ⟨p, 0, none⟩), .agg #[.int .i64 7, .int .i64 n, .string ⟨s.toArray⟩, .slice P3 ps.length p3, .int .i64 dk, .int .i64 dn, .string dS, vi, vk]] w (WtN B p (l ++ TM.hdt (7) n s ps) w) := by
  have hba : Below w.heap.size w (w.alloc (.cells #[.int .i64 7, .int .i64 n, .string ⟨s.toArray⟩, .slice P3 ps.length p3, .int .i64 dk, .int .i64 dn, .string dS, vi, vk] 28)) := went_alloc _ _
  have hb1 := Lib.hid (hb.grown hba)
  have hca := Lib.hid (Ch.of_below (B := B) (p := p) hba)
  clear hb hba
  go_enter Tryz.func58, Tryz.ntmps58
  go_wp2_with fail
  go_at_call 55
  refine (hb1.out.put [105, 102, 32] (by simp only [List.length_cons, List.length_nil]; omega)).mono ?_
  rintro e w4 ⟨rfl, hw4, hc4⟩
  have hc5 := hca.out.trans hc4
  clear hc4
  go_wp2_with fail
  go_end0
  exact ⟨rfl, by simpa [TM.hdt] using hw4, hc5⟩
set_option maxRecDepth 100000 in
set_option maxHeartbeats 4000000 in
theorem head9 (_hp : PD W0 (fun g => g ≠ p) (.slice P3 ps.length p3) ps) (_h64 : ∀ q ∈ ps, b64 q) (_hn : b64 n) (_hs : s.length ≤ 60) (hb : Base W0 w B p v l) (hl : l.length + 40 * ps.length + 200 ≤ 100000000000000) :
    Calls Tryz.prog 58 #[.pointer (some ⟨p, 0, none⟩), .agg #[.int .i64 9, .int .i64 n, .string ⟨s.toArray⟩, .slice P3 ps.length p3, .int .i64 dk, .int .i64 dn, .string dS, vi, vk]] w (WtN B p (l ++ TM.hdt (9) n s ps) w) := by
  have hba : Below w.heap.size w (w.alloc (.cells #[.int .i64 9, .int .i64 n, .string ⟨s.toArray⟩, .slice P3 ps.length p3, .int .i64 dk, .int .i64 dn, .string dS, vi, vk] 28)) := went_alloc _ _
  have hb1 := Lib.hid (hb.grown hba)
  have hca := Lib.hid (Ch.of_below (B := B) (p := p) hba)
  clear hb hba
  go_enter Tryz.func58, Tryz.ntmps58
  go_wp2_with fail
  go_at_call 55
  refine (hb1.out.put [98, 101, 103, 105, 110, 32] (by simp only [List.length_cons, List.length_nil]; omega)).mono ?_
  rintro e w4 ⟨rfl, hw4, hc4⟩
  have hc5 := hca.out.trans hc4
  clear hc4
  go_wp2_with fail
  go_end0
  exact ⟨rfl, by simpa [TM.hdt] using hw4, hc5⟩
set_option maxRecDepth 100000 in
set_option maxHeartbeats 4000000 in
theorem head5 (_hp : PD W0 (fun g => g ≠ p) (.slice P3 ps.length p3) ps) (_h64 : ∀ q ∈ ps, b64 q) (_hn : b64 n) (hs : s.length ≤ 60) (hb : Base W0 w B p v l) (hl : l.length + 40 * ps.length + 200 ≤ 100000000000000) :
    Calls Tryz.prog 58 #[.pointer (some ⟨p, 0, none⟩), .agg #[.int .i64 5, .int .i64 n, .string ⟨s.toArray⟩, .slice P3 ps.length p3, .int .i64 dk, .int .i64 dn, .string dS, vi, vk]] w (WtN B p (l ++ TM.hdt (5) n s ps) w) := by
  obtain ⟨S, hS⟩ : ∃ S : ByteArray, ⟨s.toArray⟩ = S := ⟨_, rfl⟩
  have hz : S.size ≤ 60 := by rw [← hS]; simpa [ByteArray.size] using hs
  have hSd : S.data.toList = s := by rw [← hS]
  rw [hS]
  have hba : Below w.heap.size w (w.alloc (.cells #[.int .i64 5, .int .i64 n, .string S, .slice P3 ps.length p3, .int .i64 dk, .int .i64 dn, .string dS, vi, vk] 28)) := went_alloc _ _
  have hb1 := Lib.hid (hb.grown hba)
  have hca := Lib.hid (Ch.of_below (B := B) (p := p) hba)
  have hSd' := Lib.hid hSd
  clear hb hba hS hSd
  go_enter Tryz.func58, Tryz.ntmps58
  go_wp2_with fail
  go_at_call 55
  refine (hb1.out.putS _ (by simp [ByteArray.data_append]; omega)).mono ?_
  rintro e w4 ⟨rfl, hw4, hc4⟩
  have hc5 := hca.out.trans hc4
  have hw5 := Lib.hid hw4
  clear hc4 hw4
  go_wp2_with fail
  go_end0
  refine ⟨rfl, ?_, hc5⟩
  have h := hw5.out
  simp only [ByteArray.data_append, Array.toList_append, hSd'.out] at h
  simpa [TM.hdt, List.append_assoc] using h
set_option maxRecDepth 100000 in
set_option maxHeartbeats 4000000 in
theorem head6 (_hp : PD W0 (fun g => g ≠ p) (.slice P3 ps.length p3) ps) (_h64 : ∀ q ∈ ps, b64 q) (_hn : b64 n) (hs : s.length ≤ 60) (hb : Base W0 w B p v l) (hl : l.length + 40 * ps.length + 200 ≤ 100000000000000) :
    Calls Tryz.prog 58 #[.pointer (some ⟨p, 0, none⟩), .agg #[.int .i64 6, .int .i64 n, .string ⟨s.toArray⟩, .slice P3 ps.length p3, .int .i64 dk, .int .i64 dn, .string dS, vi, vk]] w (WtN B p (l ++ TM.hdt (6) n s ps) w) := by
  obtain ⟨S, hS⟩ : ∃ S : ByteArray, ⟨s.toArray⟩ = S := ⟨_, rfl⟩
  have hz : S.size ≤ 60 := by rw [← hS]; simpa [ByteArray.size] using hs
  have hSd : S.data.toList = s := by rw [← hS]
  rw [hS]
  have hba : Below w.heap.size w (w.alloc (.cells #[.int .i64 6, .int .i64 n, .string S, .slice P3 ps.length p3, .int .i64 dk, .int .i64 dn, .string dS, vi, vk] 28)) := went_alloc _ _
  have hb1 := Lib.hid (hb.grown hba)
  have hca := Lib.hid (Ch.of_below (B := B) (p := p) hba)
  have hSd' := Lib.hid hSd
  clear hb hba hS hSd
  go_enter Tryz.func58, Tryz.ntmps58
  go_wp2_with fail
  go_at_call 55
  refine (hb1.out.putS _ (by simp [ByteArray.data_append]; omega)).mono ?_
  rintro e w4 ⟨rfl, hw4, hc4⟩
  have hc5 := hca.out.trans hc4
  have hw5 := Lib.hid hw4
  clear hc4 hw4
  go_wp2_with fail
  go_end0
  refine ⟨rfl, ?_, hc5⟩
  have h := hw5.out
  simp only [ByteArray.data_append, Array.toList_append, hSd'.out] at h
  simpa [TM.hdt, List.append_assoc] using h
set_option maxRecDepth 100000 in
set_option maxHeartbeats 4000000 in
theorem head4 (_hp : PD W0 (fun g => g ≠ p) (.slice P3 ps.length p3) ps) (_h64 : ∀ q ∈ ps, b64 q) (hn : b64 n) (_hs : s.length ≤ 60) (hb : Base W0 w B p v l) (hl : l.length + 40 * ps.length + 200 ≤ 100000000000000) :
    Calls Tryz.prog 58 #[.pointer (some ⟨p, 0, none⟩), .agg #[.int .i64 4, .int .i64 n, .string ⟨s.toArray⟩, .slice P3 ps.length p3, .int .i64 dk, .int .i64 dn, .string dS, vi, vk]] w (WtN B p (l ++ TM.hdt (4) n s ps) w) := by
  have hba : Below w.heap.size w (w.alloc (.cells #[.int .i64 4, .int .i64 n, .string ⟨s.toArray⟩, .slice P3 ps.length p3, .int .i64 dk, .int .i64 dn, .string dS, vi, vk] 28)) := went_alloc _ _
  have hb1 := Lib.hid (hb.grown hba)
  have hca := Lib.hid (Ch.of_below (B := B) (p := p) hba)
  have hlc := Lib.hid (local_any n hn _ hb1.out.tabNow)
  obtain ⟨S, hS⟩ : ∃ S : ByteArray, ⟨(TM.loc n).toArray⟩ = S := ⟨_, rfl⟩
  have hlo := TM.loc_len hn
  have hz : S.size ≤ 30 := by rw [← hS]; simpa [ByteArray.size] using hlo
  have hSd : S.data.toList = TM.loc n := by rw [← hS]
  rw [hS] at hlc
  have hM := Lies.made w 28 #[.int .i64 4, .int .i64 n, .string ⟨s.toArray⟩, .slice P3 ps.length p3, .int .i64 dk, .int .i64 dn, .string dS, vi, vk]
  have hSd' := Lib.hid hSd
  have hw0 : W0.heap.size ≤ w.heap.size := hb.below.size
  clear hb hba hS hSd hlo
  go_enter Tryz.func58, Tryz.ntmps58
  go_wp2_with fail
  go_at_call 57
  refine hlc.out.mono ?_
  rintro e w3 ⟨rfl, hb3⟩
  have hM3 := hM.below hb3 hM.lt
  have x2 := hM3.cell 2
  have f2 := hM3.free 2
  have hlt := hM3.lt
  have G3 := hb1.out.grown hb3
  have G4 := Lib.hid (G3.stored_box hM3 (by decide) 2 (.string S))
  simp only [List.getElem?_cons_succ, List.getElem?_cons_zero] at x2
  have hc3 := Lib.hid (hca.out.trans (Ch.of_below hb3))
  clear hb3 G3
  go_wp2_with fail
  go_at_call 55
  refine (G4.out.putS _ (by simp [ByteArray.data_append]; omega)).mono ?_
  rintro e w5 ⟨rfl, hw5, hc5⟩
  have hw6 := Lib.hid hw5
  have hc6 := Lib.hid hc5
  clear hw5 hc5
  go_wp2_with fail
  go_end0
  refine ⟨rfl, ?_, ?_⟩
  · have h := hw6.out
    simp only [ByteArray.data_append, Array.toList_append, hSd'.out] at h
    simpa [TM.hdt, List.append_assoc] using h
  · exact (hc3.out.box (Nat.le_refl _) 2 (.string S)).trans hc6.out
set_option maxRecDepth 100000 in
set_option maxHeartbeats 4000000 in
theorem head8 (hp : PD W0 (fun g => g ≠ p) (.slice P3 ps.length p3) ps) (h64 : ∀ q ∈ ps, b64 q) (_hn : b64 n) (_hs : s.length ≤ 60) (hb : Base W0 w B p v l) (hl : l.length + 40 * ps.length + 200 ≤ 100000000000000) :
    Calls Tryz.prog 58 #[.pointer (some ⟨p, 0, none⟩), .agg #[.int .i64 8, .int .i64 n, .string ⟨s.toArray⟩, .slice P3 ps.length p3, .int .i64 dk, .int .i64 dn, .string dS, vi, vk]] w (WtN B p (l ++ TM.hdt (8) n s ps) w) := by
  have hba : Below w.heap.size w (w.alloc (.cells #[.int .i64 8, .int .i64 n, .string ⟨s.toArray⟩, .slice P3 ps.length p3, .int .i64 dk, .int .i64 dn, .string dS, vi, vk] 28)) := went_alloc _ _
  have hb1 := Lib.hid (hb.grown hba)
  have hca := Lib.hid (Ch.of_below (B := B) (p := p) hba)
  have hpl := TM.prt_len n ps h64
  have hM := Lies.made w 28 #[.int .i64 8, .int .i64 n, .string ⟨s.toArray⟩, .slice P3 ps.length p3, .int .i64 dk, .int .i64 dn, .string dS, vi, vk]
  have hpp := hb.wt.lt.2
  have hP := Lib.hid (fun (w' : World) (v' : Value) (l' : List UInt8) (hb' : Base W0 w' B p v' l') (hl' : l'.length + 40 * ps.length + 10 ≤ 100000000000000) => pars_any 8 n s ps P3 p3 dk dn dS vi vk W0 w' B p v' l' hp h64 hb' hl')
  generalize ps.length = L at hP hM hb1 hca hl hpl ⊢
  clear hb hba h64 hp
  go_enter Tryz.func58, Tryz.ntmps58
  go_wp2_with fail
  go_at_call 55
  refine (hb1.out.put [108, 97, 109, 98, 100, 97, 32] (by simp only [List.length_cons, List.length_nil]; omega)).mono ?_
  rintro e w3 ⟨rfl, ⟨v3, hw3⟩, hc3⟩
  have G3 := hb1.out.on hw3 hc3
  have hM3 := hM.ch (by decide) (by omega) hc3
  have z0 := hM3.cell 0
  have z1 := hM3.cell 1
  have z2 := hM3.cell 2
  have z3 := hM3.cell 3
  have z4 := hM3.cell 4
  have z5 := hM3.cell 5
  have z6 := hM3.cell 6
  have z7 := hM3.cell 7
  have z8 := hM3.cell 8
  simp only [List.getElem?_cons_succ, List.getElem?_cons_zero] at z0 z1 z2 z3 z4 z5 z6 z7 z8
  have hc4 := Lib.hid (hca.out.trans hc3)
  clear hc3 hw3
  go_wp2_with fail
  go_at_call 83
  refine (hP.out _ _ _ G3 (by simp only [List.length_append, List.length_cons, List.length_nil]; omega)).mono ?_
  rintro e w5 ⟨rfl, ⟨v5, hw5⟩, hc5⟩
  have G5 := G3.on hw5 hc5
  have hc6 := Lib.hid (hc4.out.trans hc5)
  clear hc5 hw5
  go_wp2_with fail
  go_at_call 55
  refine (G5.put [32] (by simp only [List.length_append, List.length_cons, List.length_nil]; omega)).mono ?_
  rintro e w7 ⟨rfl, hw7, hc7⟩
  have hw8 := Lib.hid hw7
  have hc8 := Lib.hid (hc6.out.trans hc7)
  clear hw7 hc7
  go_wp2_with fail
  go_end0
  refine ⟨rfl, ?_, hc8.out⟩
  have h := hw8.out
  simpa [TM.hdt, List.append_assoc] using h
set_option maxRecDepth 100000 in
set_option maxHeartbeats 4000000 in
theorem head_none (k : Int) (hk : k < 4 ∨ 9 < k) (_hp : PD W0 (fun g => g ≠ p) (.slice P3 ps.length p3) ps) (_h64 : ∀ q ∈ ps, b64 q) (_hn : b64 n) (_hs : s.length ≤ 60) (hb : Base W0 w B p v l) (_ : l.length + 40 * ps.length + 200 ≤ 100000000000000) :
    Calls Tryz.prog 58 #[.pointer (some ⟨p, 0, none⟩), .agg #[.int .i64 k, .int .i64 n, .string ⟨s.toArray⟩, .slice P3 ps.length p3, .int .i64 dk, .int .i64 dn, .string dS, vi, vk]] w (WtN B p (l ++ TM.hdt k n s ps) w) := by
  have hba : Below w.heap.size w (w.alloc (.cells #[.int .i64 k, .int .i64 n, .string ⟨s.toArray⟩, .slice P3 ps.length p3, .int .i64 dk, .int .i64 dn, .string dS, vi, vk] 28)) := went_alloc _ _
  have hb1 := Lib.hid (hb.grown hba)
  have hca := Lib.hid (Ch.of_below (B := B) (p := p) hba)
  have k4 : (k == 4) = false := by rw [beq_eq_false_iff_ne]; omega
  have k5 : (k == 5) = false := by rw [beq_eq_false_iff_ne]; omega
  have k6 : (k == 6) = false := by rw [beq_eq_false_iff_ne]; omega
  have k7 : (k == 7) = false := by rw [beq_eq_false_iff_ne]; omega
  have k8 : (k == 8) = false := by rw [beq_eq_false_iff_ne]; omega
  have k9 : (k == 9) = false := by rw [beq_eq_false_iff_ne]; omega
  have q4 : ¬ k = 4 := by omega
  have q5 : ¬ k = 5 := by omega
  have q6 : ¬ k = 6 := by omega
  have q7 : ¬ k = 7 := by omega
  have q8 : ¬ k = 8 := by omega
  have q9 : ¬ k = 9 := by omega
  have hw := Lib.hid hb1.out.wt
  have e : TM.hdt k n s ps = [] := by simp [TM.hdt, q4, q5, q6, q7, q8, q9]
  rw [e, List.append_nil]
  clear hb hba e
  go_enter Tryz.func58, Tryz.ntmps58
  go_wp2_with fail
  go_end0
  exact ⟨rfl, ⟨_, hw.out⟩, hca.out⟩
end
end Go.Proofs.YtpiekdcbjkgipaaGreatDoor
