/- The reference's Own: a datum in new memory. -/
import Derived.Test.YtbomodendobnkaaGreatQ7
import Derived.Deep.CutRange
import Derived.Test.YtbomodendobnkaaGreatQ4
import Derived.Shelf.Spec.SlicesGrow
namespace Go.Proofs.YtbomodendobnkaaGreat
open Go.ChangeShapes Go.WideShapes Go.ChangeAt Go.RowKit

namespace SM
/-- the first data -/
def tk : RM.Dl → Nat → RM.Dl
  | _, 0 => .nil
  | .nil, _ + 1 => .nil
  | .cons k n s is r, i + 1 => .cons k n s is (tk r i)
theorem tk_all : ∀ d : RM.Dl, tk d d.len = d
  | .nil => rfl
  | .cons k n s is r => by rw [RM.Dl.len, tk, tk_all r]
theorem tk_len : ∀ (d : RM.Dl) (i : Nat), i ≤ d.len → (tk d i).len = i
  | .nil, 0, _ => rfl
  | .nil, i + 1, h => by simp [RM.Dl.len] at h
  | .cons k n s is r, 0, _ => rfl
  | .cons k n s is r, i + 1, h => by rw [tk, RM.Dl.len, tk_len r i (by simp only [RM.Dl.len] at h; omega)]
theorem tk_snoc : ∀ (d : RM.Dl) (i : Nat) (x : RM.Dm), d.at_ i = some x → tk d (i + 1) = (tk d i).snoc x
  | .nil, i, x, h => by simp [RM.Dl.at_] at h
  | .cons k n s is r, 0, x, h => by
    simp only [RM.Dl.at_, Option.some.injEq] at h
    subst h
    cases r <;> rfl
  | .cons k n s is r, i + 1, x, h => by
    show RM.Dl.cons k n s is (tk r (i + 1)) = _
    rw [tk_snoc r i x h]; rfl
theorem sz_in {d : RM.Dl} {i : Nat} {x : RM.Dm} (h : d.at_ i = some x) : sz x.is + 1 ≤ sz d := by
  have h2 : ∀ (d : RM.Dl) (i : Nat), sz (dr d i) ≤ sz d := by
    intro d
    induction d with
    | nil => intro i; cases i <;> exact Nat.le_refl _
    | cons k n s is r _ ih =>
      intro i
      cases i with
      | zero => exact Nat.le_refl _
      | succ i => have := ih i; show sz (dr r i) ≤ sz is + 1 + sz r; omega
  have := h2 d i
  rw [sz_at h] at this
  omega
theorem len_sz : ∀ d : RM.Dl, d.len ≤ sz d
  | .nil => Nat.le_refl _
  | .cons k n s is r => by have := len_sz r; simp only [RM.Dl.len, sz]; omega
end SM
theorem went_box' (w : World) (vs : Array Value) (t : TypeId) : Went w (w.alloc (.cells vs t)) := (Below.refl _ w).alloc (Nat.le_refl _) _
def OwnOk (x : RM.Dm) : Prop := ∀ (w : World) (v : Value), In w v x.is → SM.sz x.is ≤ 5000 →
  Calls Tryz.prog 9 #[dtv x v] w fun e w' => ∃ v', e = .returned (dtv x v') ∧ Dat w' (fun g => w.heap.size ≤ g) v' x.is ∧ Went w w'
set_option maxRecDepth 100000 in
set_option maxHeartbeats 8000000 in
theorem own_step (k n : Int) (s : List UInt8) (is : RM.Dl) (hP : ∀ i x, is.at_ i = some x → OwnOk x) : OwnOk ⟨k, n, s, is⟩ := by
  intro w v h1 hsz
  obtain ⟨A1, c1, rfl⟩ := h1.read
  have hlen := h1.len
  simp only at h1 hlen hsz ⊢
  unfold dtv
  simp only
  obtain ⟨N, hN⟩ : ∃ N, is.len = N := ⟨_, rfl⟩
  obtain ⟨Z, hZ⟩ : ∃ Z, SM.sz is = Z := ⟨_, rfl⟩
  rw [hN] at h1 hlen ⊢
  rw [hZ] at hsz
  have hN' := Lib.hid hN
  have hZ' := Lib.hid hZ
  have hP' := Lib.hid hP
  have hL := (Lies.made w 24 #[.int .i64 k, .int .i64 n, .string ⟨s.toArray⟩, .slice A1 N c1]).alloc (.cells #[.int .i64 0, .int .i64 0, .string ⟨#[]⟩, .slice none 0 0] 24)
  have hL2 : Lies ((w.alloc (.cells #[.int .i64 k, .int .i64 n, .string ⟨s.toArray⟩, .slice A1 N c1] 24)).alloc (.cells #[.int .i64 0, .int .i64 0, .string ⟨#[]⟩, .slice none 0 0] 24)) (w.heap.size + 1) 24 [.int .i64 0, .int .i64 0, .string ⟨#[]⟩, .slice none 0 0] := by
    have := Lies.made (w.alloc (.cells #[.int .i64 k, .int .i64 n, .string ⟨s.toArray⟩, .slice A1 N c1] 24)) 24 #[.int .i64 0, .int .i64 0, .string ⟨#[]⟩, .slice none 0 0]
    rwa [show (w.alloc (.cells #[.int .i64 k, .int .i64 n, .string ⟨s.toArray⟩, .slice A1 N c1] 24)).heap.size = w.heap.size + 1 by simp] at this
  have hb0 : Below w.heap.size w ((w.alloc (.cells #[.int .i64 k, .int .i64 n, .string ⟨s.toArray⟩, .slice A1 N c1] 24)).alloc (.cells #[.int .i64 0, .int .i64 0, .string ⟨#[]⟩, .slice none 0 0] 24)) := (went_box' _ _ _).alloc (by simp) _
  clear hN hP hZ
  go_enter Tryz.func9, Tryz.ntmps9
  go_wp2_with fail
  go_loopw [3, 4] (fun v8 i wr => ∃ (j : Nat), j ≤ N ∧ i = .int .i64 j ∧ Its wr (fun g => w.heap.size + 1 < g) v8 (SM.tk is j) ∧ Lies wr w.heap.size 24 [.int .i64 k, .int .i64 n, .string ⟨s.toArray⟩, .slice A1 N c1] ∧ Lies wr (w.heap.size + 1) 24 [.int .i64 0, .int .i64 0, .string ⟨#[]⟩, .slice none 0 0] ∧ Below w.heap.size w wr) (fun _ i _ => N - (intOf i).toNat)
  case atStart => exact ⟨0, by omega, rfl, by rw [show SM.tk is 0 = .nil by cases is <;> rfl]; exact Its.nil _ _, hL, hL2, hb0⟩
  case round =>
    obtain ⟨j, hj, rfl, hI, hM1, hM2, hb⟩ := hrel
    clear hL hL2 hb0
    have y3 : wr.cell? ⟨w.heap.size, 3, none⟩ = some (.slice A1 N c1) := hM1.cell 3
    have hz2 := hM2.lt
    obtain ⟨A8, c8, rfl⟩ := hI.read
    have htl : (SM.tk is j).len = j := SM.tk_len is j (by rw [hN'.out]; exact hj)
    by_cases hlt : j < N
    · obtain ⟨x, hx⟩ := is.at_some j (by rw [hN'.out]; exact hlt)
      obtain ⟨b, o, B, q, rfl, hbl, p0, p1, p2, p3, hd1⟩ := (h1.below hb).at_ hx
      have hup := SM.sz_in hx
      rw [hZ'.out] at hup
      have hjz : j ≤ Z := by
        have := SM.len_sz is
        rw [hN'.out, hZ'.out] at this
        omega
      have hC := Lib.hid (hP'.out j x hx wr (.slice B x.is.len q) hd1 (by omega))
      unfold dtv at hC
      have hsn := SM.tk_snoc is j x hx
      generalize SM.tk is j = out at hI hsn htl ⊢
      have hsn' := Lib.hid hsn
      have hIl2 := Lib.hid hI.lt
      have e8 : Value.slice A8 out.len c8 = .slice A8 j c8 := by rw [htl]
      rw [e8] at hI hIl2
      rw [e8]
      have htl' := Lib.hid htl
      clear hx hup hsn htl e8
      go_wp2_with (first
        | (go_at_call 9
           refine hC.out.mono ?_
           rintro e w3 ⟨v3, rfl, hd3, hb3⟩
           obtain ⟨A3, c3, rfl⟩ := hd3.read
           have hM3 := hM1.below hb3 hM1.lt
           have hM4 := hM2.below hb3 hM2.lt
           have hb4 : Below w.heap.size w w3 := hb.trans (hb3.mono hb.size)
           have hI3 := hI.below hb3
           have hs3 := hb3.size
           have hone : DatAt w3 (fun g => w.heap.size + 1 < g ∧ (Value.slice A8 j c8).ownBlock ≠ some g) (.one x) [.int .i64 x.k, .int .i64 x.n, .string ⟨x.s.toArray⟩, .slice A3 x.is.len c3] :=
             DatAt.cell1 (hd3.mono (fun g _ hs => ⟨by omega, fun hh => by have := (hIl2.out _ hh).2; omega⟩))
           clear hb3 hd3 p0 p1 p2 p3 y3)
        | (at_builtin
           have hIl3 := hI3.lt
           obtain ⟨cs, h1', -, h3⟩ := hI3
           rw [htl'.out] at h1'
           refine wpList_append_row (v := .slice A8 j c8) (x := .slice (some ⟨w3.heap.size, 0, none⟩) 1 1) (.agg #[.int .i64 0, .int .i64 0, .string ⟨#[]⟩, .slice none 0 0]) 56 Tryz.infoDatum rfl (by decide) rfl _ _ 22 rfl Tryz.underlying22 rfl rfl (own_turns h1' ((Turns.refl (fun _ => False) _).alloc _) (fun _ _ h => h)) (own_one (e := 24) (sz := 4) (B := 0) w3 #[.int .i64 x.k, .int .i64 x.n, .string ⟨x.s.toArray⟩, .slice A3 x.is.len c3] rfl (Nat.zero_le _)) (DatAt.one hone) (by omega) (by omega) (by simp) ?_
           intro v9 w9 hown9 hg9 hat9
           have T1 := Turns.appendedS hg9
           have hown9' : w9.ownsRow 0 24 4 v9 (out.len + (RM.Dl.one x).len) (cs ++ [.int .i64 x.k, .int .i64 x.n, .string ⟨x.s.toArray⟩, .slice A3 x.is.len c3]) := by rw [htl'.out]; exact hown9
           have hI9 : Its w9 (fun g => w.heap.size + 1 < g) v9 (out.snoc x) := Its.grew (e := .one x) hIl3 h3 hone ((Turns.refl (fun _ => False) _).alloc _) hown9' hg9 hat9 (fun g _ hs => hs) (by simp; omega)
           have hM5 := (Lies.alloc hM3 _).turns T1 (fun hh => by have := (hIl3 _ hh).1; omega)
           have hM6 := (Lies.alloc hM4 _).turns T1 (fun hh => by have := (hIl3 _ hh).1; omega)
           have hb9 : Below w.heap.size w w9 := (((Turns.of_below hb4 (fun _ => False)).alloc _).then T1 (fun k hk hh => by have := (hIl3 _ hh).1; omega)).below (Nat.le_refl _) (fun _ h => h.elim)
           clear hg9 hat9 hown9 hown9' T1 h1' h3 hone))
      go_roundw
      case rel => exact ⟨j + 1, by omega, by go_num, by rw [hsn'.out]; exact hI9, hM5, hM6, hb9⟩
      case measure => simp [intOf]; omega
    · obtain rfl : j = N := by omega
      have hall : SM.tk is j = is := by rw [← hN'.out]; exact SM.tk_all is
      rw [hall] at hI htl ⊢
      rw [htl] at hI ⊢
      have hL9 := (hM1.stored 3 (.slice A8 j c8))
      have hI9 := hI.dat.turns ((Turns.refl (fun k => k = w.heap.size) wr).setCell (p := ⟨w.heap.size, 3, none⟩) (fun _ => rfl) (.slice A8 j c8)) (fun g _ hs hh => by omega)
      have hM9 := hM2.far (p := ⟨w.heap.size, 3, none⟩) (by simp) (.slice A8 j c8)
      have hb9 : Below w.heap.size w (wr.setCell ⟨w.heap.size, 3, none⟩ (.slice A8 j c8)) := hb.setCell (p := ⟨w.heap.size, 3, none⟩) (Nat.le_refl _) _
      have q0 := hL9.cell 0
      have q1 := hL9.cell 1
      have q2 := hL9.cell 2
      have q3 := hL9.cell 3
      have f1 := hM1.free
      have f2 := hM9.free
      have m0 := hM9.cell 0
      have m1 := hM9.cell 1
      have m2 := hM9.cell 2
      have m3 := hM9.cell 3
      simp only [List.getElem?_cons_zero, List.getElem?_cons_succ, List.set_cons_zero, List.set_cons_succ] at q0 q1 q2 q3 m0 m1 m2 m3
      go_wp2_with fail
      have hF := four_lies hM9 (.int .i64 k) (.int .i64 n) (.string ⟨s.toArray⟩) (.slice A8 j c8)
      have r0 := hF.cell 0
      have r1 := hF.cell 1
      have r2 := hF.cell 2
      have r3 := hF.cell 3
      have hd9 := hI9.turns (four_one (wr.setCell ⟨w.heap.size, 3, none⟩ (.slice A8 j c8)) (w.heap.size + 1) (.int .i64 k) (.int .i64 n) (.string ⟨s.toArray⟩) (.slice A8 j c8)) (fun g _ hs hh => by omega)
      have hb10 := four_below hb9 (g := w.heap.size + 1) (by omega) (.int .i64 k) (.int .i64 n) (.string ⟨s.toArray⟩) (.slice A8 j c8)
      unfold four at r0 r1 r2 r3 hd9 hb10
      simp only [List.getElem?_cons_zero, List.getElem?_cons_succ] at r0 r1 r2 r3
      exact bodyPost_ret (v := .agg #[.int .i64 k, .int .i64 n, .string ⟨s.toArray⟩, .slice A8 j c8]) (by simp [results, Tryz.results9, go_sem, r0, r1, r2, r3]) rfl ⟨_, rfl, hd9.mono (fun g _ hs => by omega), hb10⟩
theorem own_any (x : RM.Dm) : OwnOk x := RM.Dl.all_of OwnOk own_step (.one x) 0 x (by cases x; rfl)
end Go.Proofs.YtbomodendobnkaaGreat

/- slices.Grow of nothing, over data and over bounds: a row of one's own that has no elements yet. -/
namespace Go.Proofs
open Go.Shelf
def Tryz.growD_ren : Go.Shelf.Ren := ⟨fun | 4 => 90 | n => n, fun | 0 => 0 | 3 => 3 | 4 => 4 | 9 => 9 | 20 => 20 | 22 => 22 | 25 => 24 | n => n, fun | n => n⟩
theorem Tryz.growD : Go.Proofs.Lays8.n4 Tryz.prog Tryz.growD_ren := {
  mixed := by kernel_rfl
  f4 := ⟨"slices.Grow[[]spindle/api.Datum,spindle/api.Datum]", by decide, Tryz.func90.trans (congrArg some (by kernel_rfl))⟩
  t0 := Tryz.underlying0
  a0 := Tryz.isAgg0
  z0 := Tryz.sizeOf0
  v0 := Tryz.zeroValue0
  t3 := Tryz.underlying3
  a3 := Tryz.isAgg3
  z3 := Tryz.sizeOf3
  v3 := Tryz.zeroValue3
  t4 := Tryz.underlying4
  a4 := Tryz.isAgg4
  z4 := Tryz.sizeOf4
  v4 := Tryz.zeroValue4
  t9 := Tryz.underlying9
  a9 := Tryz.isAgg9
  z9 := Tryz.sizeOf9
  v9 := Tryz.zeroValue9
  t20 := Tryz.underlying20
  a20 := Tryz.isAgg20
  z20 := Tryz.sizeOf20
  v20 := Tryz.zeroValue20
  t22 := Tryz.underlying22
  a22 := Tryz.isAgg22
  z22 := Tryz.sizeOf22
  v22 := Tryz.zeroValue22 }
def Tryz.growB_ren : Go.Shelf.Ren := ⟨fun | 4 => 82 | n => n, fun | 0 => 0 | 3 => 3 | 4 => 4 | 9 => 9 | 20 => 20 | 22 => 29 | 25 => 38 | n => n, fun | n => n⟩
theorem Tryz.growB : Go.Proofs.Lays8.n4 Tryz.prog Tryz.growB_ren := {
  mixed := by kernel_rfl
  f4 := ⟨"slices.Grow[[]spindle/api.Bound,spindle/api.Bound]", by decide, Tryz.func82.trans (congrArg some (by kernel_rfl))⟩
  t0 := Tryz.underlying0
  a0 := Tryz.isAgg0
  z0 := Tryz.sizeOf0
  v0 := Tryz.zeroValue0
  t3 := Tryz.underlying3
  a3 := Tryz.isAgg3
  z3 := Tryz.sizeOf3
  v3 := Tryz.zeroValue3
  t4 := Tryz.underlying4
  a4 := Tryz.isAgg4
  z4 := Tryz.sizeOf4
  v4 := Tryz.zeroValue4
  t9 := Tryz.underlying9
  a9 := Tryz.isAgg9
  z9 := Tryz.sizeOf9
  v9 := Tryz.zeroValue9
  t20 := Tryz.underlying20
  a20 := Tryz.isAgg20
  z20 := Tryz.sizeOf20
  v20 := Tryz.zeroValue20
  t22 := Tryz.underlying29
  a22 := Tryz.isAgg29
  z22 := Tryz.sizeOf29
  v22 := Tryz.zeroValue29 }
end Go.Proofs
namespace Go.Proofs.YtbomodendobnkaaGreat
open Go.RowKit

theorem m_box (w : World) (vs : Array Value) (t : TypeId) : Below w.heap.size w (w.alloc (.cells vs t)) := (Below.refl _ w).alloc (Nat.le_refl _) _

theorem info_parts' {t : TypeId} {z : Value} {n b : Nat} (h : (Tryz.prog.info? t).map (fun i => (i.zero, i.size, i.bytes)) = some (some z, n, b)) : ∃ i0 : TypeInfo, Tryz.prog.info? t = some i0 ∧ i0.zero = some z ∧ i0.size = n ∧ i0.bytes = b := by
  cases hi : Tryz.prog.info? t with
  | none => rw [hi] at h; cases h
  | some i0 =>
    rw [hi] at h
    simp only [Option.map_some, Option.some.injEq, Prod.mk.injEq] at h
    exact ⟨i0, rfl, h.1, h.2.1, h.2.2⟩
/-- a row of no elements, with room -/
theorem grown_own (w : World) (e : TypeId) (sz _ G : Nat) (cs : Array Value) (hs : cs.size = G * sz) (hG : G ≤ maxLen) : (w.drew.alloc (.cells cs e)).ownsRow w.heap.size e sz (.slice (some ⟨w.heap.size, 0, none⟩) 0 G) 0 [] := by
  refine ⟨by simp, .inr ⟨w.heap.size, G, cs, rfl, Nat.le_refl _, ?_, Nat.zero_le _, hG, hs, by simp⟩⟩
  exact heap_alloc_new w.drew _
theorem growD_any (n : Nat) (hn : n ≤ 1000000) (w : World) :
    Calls Tryz.prog 90 #[.slice none 0 0, .int .i64 (n : Int)] w fun e w' => ∃ v, e = .returned v ∧ w'.ownsRow w.heap.size 24 4 v 0 [] ∧ Went w w' := by
  obtain ⟨i0, hi, hz, hs, hb⟩ := info_parts' Tryz.infoDatum
  by_cases h0 : n = 0
  · subst h0
    refine (Any8.slices_Grow_room Tryz.growD none 0 0 0 w (Nat.le_refl _) (by omega) (by omega) (Nat.le_refl _)).mono ?_
    rintro e w' ⟨rfl, rfl⟩
    exact ⟨_, rfl, own_none _ _ _ _, Below.refl _ _⟩
  · refine (Any8.slices_Grow_grow Tryz.growD i0 _ hi hz (by omega) none 0 0 n [] w (Nat.le_refl _) (by omega) (by rw [hb]; omega) (by omega) (by simp) (fun _ => rfl) (fun a h => by cases h)).mono ?_
    rintro e w' ⟨he, hw⟩
    rw [show Tryz.growD_ren.t 25 = 24 from rfl] at he hw
    subst he hw
    refine ⟨_, rfl, ?_, below_of_drew ((Below.refl _ w.drew).alloc (Nat.le_refl _) _)⟩
    have hge : 0 + n ≤ grownCap w (0 + n) 0 24 := grownCap_ge w _ _ _
    have hle : grownCap w (0 + n) 0 24 ≤ maxLen := grownCap_le_maxLen w (0 + n) 0 24 (by unfold maxLen; omega)
    show (w.drew.alloc (.cells _ 24)).ownsRow w.heap.size 24 4 (.slice _ 0 (grownCap w (0 + n) 0 24)) 0 []
    generalize grownCap w (0 + n) 0 24 = G at hge hle
    refine grown_own w _ _ n G _ ?_ hle
    rw [Array.size_append, Array.size_append, size_zeroCells, size_zeroCells]
    show 0 + (0 + n - 0) * 4 + (G - (0 + n)) * 4 = G * 4
    omega
theorem Tryz.infoBound : (Tryz.prog.info? 38).map (fun i => (i.zero, i.size, i.bytes)) = some (some (.agg #[.string ⟨#[]⟩, .int .i64 0, .int .i64 0, .int .i64 0, .string ⟨#[]⟩, .slice none 0 0, .slice none 0 0]), 7, 104) := by kernel_rfl
theorem growB_any (n : Nat) (hn : n ≤ 1000000) (w : World) :
    Calls Tryz.prog 82 #[.slice none 0 0, .int .i64 (n : Int)] w fun e w' => ∃ v, e = .returned v ∧ w'.ownsRow w.heap.size 38 7 v 0 [] ∧ Went w w' := by
  obtain ⟨i0, hi, hz, hs, hb⟩ := info_parts' Tryz.infoBound
  by_cases h0 : n = 0
  · subst h0
    refine (Any8.slices_Grow_room Tryz.growB none 0 0 0 w (Nat.le_refl _) (by omega) (by omega) (Nat.le_refl _)).mono ?_
    rintro e w' ⟨rfl, rfl⟩
    exact ⟨_, rfl, own_none _ _ _ _, Below.refl _ _⟩
  · refine (Any8.slices_Grow_grow Tryz.growB i0 _ hi hz (by omega) none 0 0 n [] w (Nat.le_refl _) (by omega) (by rw [hb]; omega) (by omega) (by simp) (fun _ => rfl) (fun a h => by cases h)).mono ?_
    rintro e w' ⟨he, hw⟩
    rw [show Tryz.growB_ren.t 25 = 38 from rfl] at he hw
    subst he hw
    refine ⟨_, rfl, ?_, below_of_drew ((Below.refl _ w.drew).alloc (Nat.le_refl _) _)⟩
    have hge : 0 + n ≤ grownCap w (0 + n) 0 38 := grownCap_ge w _ _ _
    have hle : grownCap w (0 + n) 0 38 ≤ maxLen := grownCap_le_maxLen w (0 + n) 0 38 (by unfold maxLen; omega)
    show (w.drew.alloc (.cells _ 38)).ownsRow w.heap.size 38 7 (.slice _ 0 (grownCap w (0 + n) 0 38)) 0 []
    generalize grownCap w (0 + n) 0 38 = G at hge hle
    refine grown_own w _ _ n G _ ?_ hle
    rw [Array.size_append, Array.size_append, size_zeroCells, size_zeroCells]
    show 0 + (0 + n - 0) * 7 + (G - (0 + n)) * 7 = G * 7
    omega
end Go.Proofs.YtbomodendobnkaaGreat
