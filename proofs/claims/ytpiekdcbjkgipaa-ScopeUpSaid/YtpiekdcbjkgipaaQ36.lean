/- Package datum: a datum in new memory (Copy, by way of Rename with names as they are). -/
import Derived.Test.YtpiekdcbjkgipaaQ35
import Derived.Deep.RegionLawGrows
import Derived.Deep.RegionHeld3
import Derived.Deep.RegionWith
namespace Go.Proofs.Ytpiekdcbjkgipaa
open Go.ChangeShapes Go.WideShapes Go.ChangeAt Go.RowKit Go.Deep

def CopyOk (x : RM.Dm) : Prop := ∀ (w : World) (v : Value), In w v x.is → SM.sz x.is ≤ 5000 →
  Calls Try.prog 30 #[dtv x v] w fun e w' => ∃ v', e = .returned (dtv x v') ∧ Dat w' (fun g => w.heap.size ≤ g) v' x.is ∧ Went w w'
theorem Its.of_own {w : World} {S : Nat → Prop} {B : Nat} {v : Value} (h : w.ownsRow B 29 4 v 0 []) (hS : ∀ g, B ≤ g → S g) : Its w S v .nil := by
  refine ⟨[], ⟨h.1, ?_⟩, fun g hg => hS g (World.ownsRow.lt h g hg).1, rfl⟩
  rcases h.2 with h2 | ⟨g, cap, cur, a1, a2, a3, a4⟩
  · exact .inl h2
  · exact .inr ⟨g, cap, cur, a1, Nat.zero_le _, a3, a4⟩
/-- one more datum behind one's own row: what append wants, and what it gives -/
theorem its_push {w : World} {S S3 : Nat → Prop} {A : Option Addr} {j c : Nat} {out : RM.Dl} {x : RM.Dm} {v3 : Value} (e : out.len = j) (h : Its w S (.slice A j c) out) (hd : Dat w S3 v3 x.is)
    (h3 : ∀ g, g < w.heap.size → S3 g → S g ∧ (Value.slice A j c).ownBlock ≠ some g) (hS : S (w.heap.size + 1)) :
    ∃ cs, (w.alloc (.cells #[.int .i64 x.k, .int .i64 x.n, .string ⟨x.s.toArray⟩, v3] 29)).ownsRow 0 29 4 (.slice A j c) j cs
      ∧ (∀ u ∈ [Value.int .i64 x.k, .int .i64 x.n, .string ⟨x.s.toArray⟩, v3], u.oneCell' = true)
      ∧ ∀ v9 w9, w9.ownsRow 0 29 4 v9 (j + 1) (cs ++ [.int .i64 x.k, .int .i64 x.n, .string ⟨x.s.toArray⟩, v3]) → (w.alloc (.cells #[.int .i64 x.k, .int .i64 x.n, .string ⟨x.s.toArray⟩, v3] 29)).grownBy w9 (Value.slice A j c).ownBlock →
        (v9.ownBlock = (Value.slice A j c).ownBlock ∨ v9.ownBlock = some (w.alloc (.cells #[.int .i64 x.k, .int .i64 x.n, .string ⟨x.s.toArray⟩, v3] 29)).heap.size) → Its w9 S v9 (out.snoc x) := by
  have hl := h.lt
  obtain ⟨cs, h1, h2, h4⟩ := h
  rw [e] at h1
  have hone : DatAt w (fun g => S g ∧ (Value.slice A j c).ownBlock ≠ some g) (.one x) [.int .i64 x.k, .int .i64 x.n, .string ⟨x.s.toArray⟩, v3] := DatAt.cell1 (hd.mono h3)
  refine ⟨cs, own_turns h1 ((Turns.refl (fun _ => False) _).alloc _) (fun _ _ h => h), hone.one, fun v9 w9 h9 hg9 hat9 => ?_⟩
  exact Its.grew (e := .one x) hl h4 hone ((Turns.refl (fun _ => False) _).alloc _) (by rw [e]; exact h9) hg9 hat9 (fun g _ hs => hs) (by simpa using hS)
/-- the function that leaves names as they are -/
def idv : Value := .func (.func 40) #[] #[]
theorem id_call (s : List UInt8) (w : World) : Calls Try.prog 40 #[.string ⟨s.toArray⟩] w fun e w' => e = .returned (.string ⟨s.toArray⟩) ∧ w' = w := by
  go_enter Try.func40, Try.ntmps40
  go_wp2_with fail
  exact bodyPost_ret (v := .string ⟨s.toArray⟩) (by simp [results, Try.results40, go_sem]) rfl ⟨rfl, rfl⟩
def RenOk (x : RM.Dm) : Prop := ∀ (w : World) (v : Value), In w v x.is → SM.sz x.is ≤ 5000 →
  Calls Try.prog 39 #[dtv x v, idv] w fun e w' => ∃ v', e = .returned (dtv x v') ∧ Dat w' (fun g => w.heap.size ≤ g) v' x.is ∧ Went w w'
set_option maxRecDepth 100000 in
set_option maxHeartbeats 8000000 in
theorem ren_step (k n : Int) (s : List UInt8) (is : RM.Dl) (hP : ∀ i x, is.at_ i = some x → RenOk x) : RenOk ⟨k, n, s, is⟩ := by
  intro w v h1 hsz
  obtain ⟨A1, c1, rfl⟩ := h1.read
  have hlen := h1.len
  simp only at h1 hlen hsz ⊢
  unfold dtv idv
  simp only
  have hls := SM.len_sz is
  obtain ⟨N, hN⟩ : ∃ N, is.len = N := ⟨_, rfl⟩
  obtain ⟨Z, hZ⟩ : ∃ Z, SM.sz is = Z := ⟨_, rfl⟩
  rw [hN] at h1 hlen hls ⊢
  rw [hZ] at hsz hls
  have hN' := Lib.hid hN
  have hZ' := Lib.hid hZ
  have hP' := Lib.hid hP
  have hG := Lib.hid (fun w => growD_any N (by omega) w)
  have hL := (Lies.made w 29 #[.int .i64 k, .int .i64 n, .string ⟨s.toArray⟩, .slice A1 N c1]).alloc (.cells #[.int .i64 0, .int .i64 0, .string ⟨#[]⟩, .slice none 0 0] 29)
  have hL2 : Lies ((w.alloc (.cells #[.int .i64 k, .int .i64 n, .string ⟨s.toArray⟩, .slice A1 N c1] 29)).alloc (.cells #[.int .i64 0, .int .i64 0, .string ⟨#[]⟩, .slice none 0 0] 29)) (w.heap.size + 1) 29 [.int .i64 0, .int .i64 0, .string ⟨#[]⟩, .slice none 0 0] := by
    have := Lies.made (w.alloc (.cells #[.int .i64 k, .int .i64 n, .string ⟨s.toArray⟩, .slice A1 N c1] 29)) 29 #[.int .i64 0, .int .i64 0, .string ⟨#[]⟩, .slice none 0 0]
    rwa [show (w.alloc (.cells #[.int .i64 k, .int .i64 n, .string ⟨s.toArray⟩, .slice A1 N c1] 29)).heap.size = w.heap.size + 1 by simp] at this
  have hb0 : Below w.heap.size w ((w.alloc (.cells #[.int .i64 k, .int .i64 n, .string ⟨s.toArray⟩, .slice A1 N c1] 29)).alloc (.cells #[.int .i64 0, .int .i64 0, .string ⟨#[]⟩, .slice none 0 0] 29)) := (went_box' _ _ _).alloc (by simp) _
  clear hN hP hZ
  by_cases hk : (k == 5) = true
  case' pos =>
    go_enter Try.func39, Try.ntmps39
    go_wp2_with (first
      | (go_at_call 40
         refine (id_call s _).mono ?_
         rintro e w3 ⟨rfl, rfl⟩)
      | (go_at_call 49
         refine (hG.out _).mono ?_
         rintro e w3 ⟨v3, rfl, ho3, hb3⟩
         obtain ⟨A3, c3, rfl⟩ : ∃ A3 c3, v3 = .slice A3 0 c3 := by
           obtain ⟨A3, c3, e, _⟩ := own_read ho3
           exact ⟨A3, c3, e⟩
         have hI3 : Its w3 (fun g => w.heap.size + 1 < g) (.slice A3 0 c3) .nil := Its.of_own ho3 (fun g hg => by simp at hg; omega)
         have hM3 := hL.below hb3 hL.lt
         have hM4 := hL2.below hb3 hL2.lt
         have hb4 : Below w.heap.size w w3 := hb0.trans (hb3.mono hb0.size)
         have y3 : w3.cell? ⟨w.heap.size, 3, none⟩ = some (.slice A1 N c1) := hM3.cell 3
         have yf := hM3.free
         clear ho3 hb3))
  case' neg =>
    have hk : (k == 5) = false := by simpa using hk
    go_enter Try.func39, Try.ntmps39
    go_wp2_with (
      go_at_call 49
      refine (hG.out _).mono ?_
      rintro e w3 ⟨v3, rfl, ho3, hb3⟩
      obtain ⟨A3, c3, rfl⟩ : ∃ A3 c3, v3 = .slice A3 0 c3 := by
        obtain ⟨A3, c3, e, _⟩ := own_read ho3
        exact ⟨A3, c3, e⟩
      have hI3 : Its w3 (fun g => w.heap.size + 1 < g) (.slice A3 0 c3) .nil := Its.of_own ho3 (fun g hg => by simp at hg; omega)
      have hM3 := hL.below hb3 hL.lt
      have hM4 := hL2.below hb3 hL2.lt
      have hb4 : Below w.heap.size w w3 := hb0.trans (hb3.mono hb0.size)
      have y3 : w3.cell? ⟨w.heap.size, 3, none⟩ = some (.slice A1 N c1) := hM3.cell 3
      have yf := hM3.free
      clear ho3 hb3)
  all_goals (
    go_loopw [24] (fun i wr => ∃ (j : Nat) (A8 : Option Addr) (c8 : Nat), j ≤ N ∧ i = .int .i64 j ∧ Its wr (fun g => w.heap.size + 1 < g) (.slice A8 j c8) (SM.tk is j) ∧ Lies wr w.heap.size 29 [.int .i64 k, .int .i64 n, .string ⟨s.toArray⟩, .slice A8 j c8] ∧ Lies wr (w.heap.size + 1) 29 [.int .i64 0, .int .i64 0, .string ⟨#[]⟩, .slice none 0 0] ∧ Below w.heap.size w wr) (fun i _ => N - (intOf i).toNat)
    case atStart =>
      have hb5 : Turns (fun k => k = w.heap.size) w3 (w3.setCell ⟨w.heap.size, 3, none⟩ (.slice A3 0 c3)) := (Turns.refl (fun k => k = w.heap.size) w3).setCell (p := ⟨w.heap.size, 3, none⟩) (fun _ => rfl) _
      refine ⟨0, A3, c3, by omega, rfl, ?_, hM3.stored 3 _, hM4.far (p := ⟨w.heap.size, 3, none⟩) (by simp) _, hb4.setCell (p := ⟨w.heap.size, 3, none⟩) (Nat.le_refl _) _⟩
      rw [show SM.tk is 0 = .nil by cases is <;> rfl]
      exact hI3.turns hb5 (fun g hg hh => by omega)
    case round =>
      obtain ⟨j, A8, c8, hj, rfl, hI, hM1, hM2, hb⟩ := hrel
      clear hL hL2 hb0 hI3 hM3 hM4 hb4 y3 yf
      have y3 : wr.cell? ⟨w.heap.size, 3, none⟩ = some (.slice A8 j c8) := hM1.cell 3
      have yf := hM1.free
      have hz2 := hM2.lt
      have htl : (SM.tk is j).len = j := SM.tk_len is j (by rw [hN'.out]; exact hj)
      by_cases hlt : j < N
      · obtain ⟨x, hx⟩ := is.at_some j (by rw [hN'.out]; exact hlt)
        obtain ⟨b, o, B, q, rfl, hbl, p0, p1, p2, p3, hd1⟩ := (h1.below hb).at_ hx
        have hup := SM.sz_in hx
        rw [hZ'.out] at hup
        have hC := Lib.hid (fun (w' : World) (hb' : Below wr.heap.size wr w') => hP'.out j x hx w' (.slice B x.is.len q) (hd1.below hb') (by omega))
        unfold dtv idv at hC
        have hsn := SM.tk_snoc is j x hx
        generalize SM.tk is j = out at hI hsn htl ⊢
        have hsn' := Lib.hid hsn
        have hIl := Lib.hid hI.lt
        have htl' := Lib.hid htl
        have hI' := Lib.hid hI
        have hbx := m_box wr #[.int .i64 x.k, .int .i64 x.n, .string ⟨x.s.toArray⟩, .slice B x.is.len q] 29
        have hMx := Lies.made wr 29 #[.int .i64 x.k, .int .i64 x.n, .string ⟨x.s.toArray⟩, .slice B x.is.len q]
        have y3b : (wr.alloc (.cells #[.int .i64 x.k, .int .i64 x.n, .string ⟨x.s.toArray⟩, .slice B x.is.len q] 29)).cell? ⟨w.heap.size, 3, none⟩ = some (.slice A8 j c8) := (hbx.cell (p := ⟨w.heap.size, 3, none⟩) (by show w.heap.size < wr.heap.size; omega)).trans y3
        clear hx hup hsn htl hI hd1
        go_wp2_with fail
        refine wp_region_held_drew (S := fun w' => Lies w' wr.heap.size 29 [.int .i64 x.k, .int .i64 x.n, .string ⟨x.s.toArray⟩, .slice B x.is.len q]) rfl hMx.drew (fun hHeld => ?_)
        refine wpAnyH_take (i := 0) (oi := { dst := some 28, op := Go.Op.fieldAddr 29 (Go.Operand.tmp 2) 3, type := 0, pos := "datum.go:24", after := #[], guard := none }) (v := ?_) rfl (by kernel_rfl) (by kernel_rfl) (by kernel_rfl) (fun _ _ _ h => h) (Or.inl ⟨by rfl, ?_⟩) (by assumption) ?_
        rotate_left
        · intro w hSw; clear hSw; go_simp; try with_reducible rfl
        try simp only [Act.put, List.setIfInBounds_toArray, List.set_cons_zero, List.set_cons_succ]
        refine wpAnyH_take (i := 2) (oi := { dst := some 30, op := Go.Op.load 29 (Go.Operand.tmp 7), type := 29, pos := "datum.go:24", after := #[], guard := none }) (v := ?_) rfl (by kernel_rfl) (by kernel_rfl) (by kernel_rfl) (fun _ _ _ h => h) (Or.inl ⟨by rfl, ?_⟩) (by assumption) ?_
        rotate_left
        · intro w7 hS7
          have l0 := hS7.cell 0
          have l1 := hS7.cell 1
          have l2 := hS7.cell 2
          have l3 := hS7.cell 3
          simp only [List.getElem?_cons_succ, List.getElem?_cons_zero] at l0 l1 l2 l3
          clear hS7
          go_simp
          try with_reducible rfl
        try simp only [Act.put, List.setIfInBounds_toArray, List.set_cons_zero, List.set_cons_succ]
        refine wpAnyH_take (i := 3) (oi := { dst := some 31, op := Go.Op.move (Go.Operand.tmp 1), type := 94, pos := "datum.go:24", after := #[], guard := none }) (v := ?_) rfl (by kernel_rfl) (by kernel_rfl) (by kernel_rfl) (fun _ _ _ h => h) (Or.inl ⟨by rfl, ?_⟩) (by assumption) ?_
        rotate_left
        · intro w hSw; clear hSw; go_simp; try with_reducible rfl
        try simp only [Act.put, List.setIfInBounds_toArray, List.set_cons_zero, List.set_cons_succ]
        refine wpAnyH_ready (rs := [1, 4]) (by kernel_rfl) (by simp) ?_
        refine AllReadyH.cons (o := { dst := some 29, op := Go.Op.load 27 (Go.Operand.tmp 28), type := 27, pos := "datum.go:24", after := #[{ on := 0, ground := Go.Ground.data }], guard := none }) rfl (fun K hK => ?_) ?_
        · rw [if_pos (by rfl)]
          go_simp
          refine hK.out _ _ hHeld (fun hHeld => ?_)
          clear hK K
          try simp only [Act.put, List.setIfInBounds_toArray, List.set_cons_zero, List.set_cons_succ]
          refine wpAnyH_ready (rs := [4]) (by kernel_rfl) (by simp) ?_
          refine AllReadyH.cons (o := { dst := some 32, op := Go.Op.call { callee := Go.Callee.value (Go.Operand.func 39), args := #[Go.Operand.tmp 30, Go.Operand.tmp 31], argTypes := #[29, 94] }, type := 29, pos := "datum.go:24", after := #[{ on := 2, ground := Go.Ground.data }, { on := 3, ground := Go.Ground.data }], guard := none }) rfl (fun K hK => ?_) AllReadyH.nil
          rw [if_pos (by rfl)]
          go_simp
          refine (hC.out _ (below_drewN hbx 1)).mono ?_
          rintro e w3 ⟨v3, rfl, hd3, hb3⟩
          obtain ⟨A3, c3, rfl⟩ := hd3.read
          have hbw : Below wr.heap.size wr w3 := hbx.trans (below_of_drew (hb3.mono (by simp)))
          have hs4 : wr.heap.size < w3.heap.size := by have := hb3.size; simp at this; omega
          have z3 : w3.cell? ⟨w.heap.size, 3, none⟩ = some (.slice A8 j c8) := (hbw.cell (p := ⟨w.heap.size, 3, none⟩) (by show w.heap.size < wr.heap.size; omega)).trans y3
          have z3a : (w3.alloc (.cells #[.int .i64 x.k, .int .i64 x.n, .string ⟨x.s.toArray⟩, .slice A3 x.is.len c3] 29)).cell? ⟨w.heap.size, 3, none⟩ = some (.slice A8 j c8) := (((Below.refl _ w3).alloc (Nat.le_refl _) _).cell (p := ⟨w.heap.size, 3, none⟩) (by show w.heap.size < w3.heap.size; omega)).trans z3
          have hD3 := Lib.hid hd3
          have hK3 := Lib.hid (hHeld.below (w' := w3) hb3 hHeld.lt)
          clear hd3 hHeld
          refine hK.out _ _ hK3.out (fun hHeld => ?_)
          clear hK K
          try simp only [Act.put, List.setIfInBounds_toArray, List.set_cons_zero, List.set_cons_succ]
          refine wpAnyH_ready (rs := [5]) (by kernel_rfl) (by simp) ?_
          refine AllReadyH.cons (o := { dst := some 33, op := Go.Op.buildSlice 27 1 #[(0, Go.Operand.tmp 32)], type := 27, pos := "datum.go:24", after := #[{ on := 4, ground := Go.Ground.data }], guard := none }) rfl (fun K hK => ?_) AllReadyH.nil
          rw [if_pos (by rfl)]
          go_simp
          have hK4 := Lib.hid (hHeld.alloc (.cells #[.int .i64 x.k, .int .i64 x.n, .string ⟨x.s.toArray⟩, .slice A3 x.is.len c3] 29))
          clear hHeld
          refine hK.out _ _ hK4.out (fun hHeld => ?_)
          clear hK K
          try simp only [Act.put, List.setIfInBounds_toArray, List.set_cons_zero, List.set_cons_succ]
          refine wpAnyH_ready (rs := [6]) (by kernel_rfl) (by simp) ?_
          refine AllReadyH.cons (o := { dst := some 34, op := Go.Op.call { callee := Go.Callee.builtin Go.Builtin.append, args := #[Go.Operand.tmp 29, Go.Operand.tmp 33], argTypes := #[27, 27] }, type := 27, pos := "datum.go:24", after := #[{ on := 1, ground := Go.Ground.data }, { on := 5, ground := Go.Ground.data }, { on := 4, ground := Go.Ground.chain }], guard := none }) rfl (fun K hK => ?_) AllReadyH.nil
          rw [if_pos (by rfl)]
          obtain ⟨cs, r1, r2, r3⟩ := its_push htl'.out (hI'.out.below hbw) hD3.out (fun g _ hg => by simp at hg; exact ⟨by omega, fun hh => by have := (hIl.out _ hh).2; omega⟩) (show w.heap.size + 1 < w3.heap.size + 1 by omega)
          have r3' := Lib.hid r3
          clear r3
          refine wp_append_row (v := .slice A8 j c8) (x := .slice (some ⟨w3.heap.size, 0, none⟩) 1 1) (.agg #[.int .i64 0, .int .i64 0, .string ⟨#[]⟩, .slice none 0 0]) 56 Try.infoDatum rfl (by decide) _ _ 27 rfl Try.underlying27 rfl rfl r1 (own_one (e := 29) (sz := 4) (B := 0) w3 #[.int .i64 x.k, .int .i64 x.n, .string ⟨x.s.toArray⟩, .slice A3 x.is.len c3] rfl (Nat.zero_le _)) r2 (by omega) (by omega) (by simp) ?_
          intro v9 w9 hown9 hg9 hat9
          have hR9 := Lib.hid (r3'.out v9 w9 hown9 hg9 hat9)
          have T1 := Turns.appendedS hg9
          have hK5 := Lib.hid (hHeld.turns T1 (fun hh => by have := (hIl.out _ hh).2; omega))
          obtain ⟨A9, c9, rfl⟩ : ∃ A9 c9, v9 = .slice A9 (j + 1) c9 := by obtain ⟨A9, c9, e, _⟩ := own_read hown9; exact ⟨A9, c9, e⟩
          have L9 := Lib.hid (((hM1.below hbw hM1.lt).alloc (.cells #[.int .i64 x.k, .int .i64 x.n, .string ⟨x.s.toArray⟩, .slice A3 x.is.len c3] 29)).turns T1 (fun hh => by have := (hIl.out _ hh).1; omega))
          have L9b := Lib.hid (((hM2.below hbw hM2.lt).alloc (.cells #[.int .i64 x.k, .int .i64 x.n, .string ⟨x.s.toArray⟩, .slice A3 x.is.len c3] 29)).turns T1 (fun hh => by have := (hIl.out _ hh).1; omega))
          have z9 : w9.cell? ⟨w.heap.size, 3, none⟩ = some (.slice A8 j c8) := L9.out.cell 3
          have f9 : w9.frozen? ⟨w.heap.size, 3, none⟩ = false := L9.out.free 3
          have hb9 := Lib.hid (show Below w.heap.size w w9 from (((Turns.of_below (hb.trans (hbw.mono hb.size)) (fun _ => False)).alloc _).then T1 (fun k hk hh => by have := (hIl.out _ hh).1; omega)).below (Nat.le_refl _) (fun _ h => h.elim))
          clear hown9 hg9 hat9 T1 hHeld r1 r2 r3'
          refine hK.out _ _ hK5.out (fun hHeld => ?_)
          clear hK K
          try simp only [Act.put, List.setIfInBounds_toArray, List.set_cons_zero, List.set_cons_succ]
          refine wpAnyH_take (i := 7) (oi := { dst := some 35, op := Go.Op.fieldAddr 29 (Go.Operand.tmp 2) 3, type := 0, pos := "datum.go:24", after := #[{ on := 0, ground := Go.Ground.phase }, { on := 1, ground := Go.Ground.phase }, { on := 2, ground := Go.Ground.phase }, { on := 3, ground := Go.Ground.phase }, { on := 4, ground := Go.Ground.phase }, { on := 5, ground := Go.Ground.phase }, { on := 6, ground := Go.Ground.phase }], guard := none }) (v := ?_) rfl (by kernel_rfl) (by kernel_rfl) (by kernel_rfl) (fun _ _ _ h => h) (Or.inl ⟨by rfl, ?_⟩) (by assumption) ?_
          rotate_left
          · intro w hSw; clear hSw; go_simp; try with_reducible rfl
          try simp only [Act.put, List.setIfInBounds_toArray, List.set_cons_zero, List.set_cons_succ]
          refine wpAnyH_ready (rs := [8]) (by kernel_rfl) (by simp) ?_
          refine AllReadyH.cons (o := { dst := none, op := Go.Op.store 27 (Go.Operand.tmp 35) (Go.Operand.tmp 34), type := 0, pos := "datum.go:24", after := #[{ on := 7, ground := Go.Ground.data }, { on := 6, ground := Go.Ground.data }, { on := 6, ground := Go.Ground.chain }, { on := 0, ground := Go.Ground.phase }, { on := 1, ground := Go.Ground.phase }, { on := 2, ground := Go.Ground.phase }, { on := 3, ground := Go.Ground.phase }, { on := 4, ground := Go.Ground.phase }, { on := 5, ground := Go.Ground.phase }, { on := 6, ground := Go.Ground.phase }], guard := none }) rfl (fun K hK => ?_) AllReadyH.nil
          rw [if_pos (by rfl)]
          go_simp
          have hK6 := Lib.hid (hHeld.far (p := ⟨w.heap.size, 3, none⟩) (by show ¬ wr.heap.size = w.heap.size; omega) (.slice A9 (j + 1) c9))
          clear hHeld
          refine hK.out _ _ hK6.out (fun hHeld => ?_)
          clear hK K
          try simp only [Act.put, List.setIfInBounds_toArray, List.set_cons_zero, List.set_cons_succ]
          refine wpAnyH_done (by kernel_rfl) ?_ _
          go_wp2_with fail
          go_roundw
          case rel => exact ⟨j + 1, A9, c9, by omega, by go_num, by rw [hsn'.out]; exact hR9.out.turns ((Turns.refl (fun k => k = w.heap.size) w9).setCell (p := ⟨w.heap.size, 3, none⟩) (fun _ => rfl) _) (fun g _ hs hh => by omega), L9.out.stored 3 _, L9b.out.far (p := ⟨w.heap.size, 3, none⟩) (by simp) _, hb9.out.setCell (p := ⟨w.heap.size, 3, none⟩) (Nat.le_refl _) _⟩
          case measure => simp [intOf]; omega
        refine AllReadyH.cons (o := { dst := some 32, op := Go.Op.call { callee := Go.Callee.value (Go.Operand.func 39), args := #[Go.Operand.tmp 30, Go.Operand.tmp 31], argTypes := #[29, 94] }, type := 29, pos := "datum.go:24", after := #[{ on := 2, ground := Go.Ground.data }, { on := 3, ground := Go.Ground.data }], guard := none }) rfl (fun K hK => ?_) AllReadyH.nil
        · rw [if_pos (by rfl)]
          go_simp
          refine (hC.out _ (below_drewN hbx 1)).mono ?_
          rintro e w3 ⟨v3, rfl, hd3, hb3⟩
          obtain ⟨A3, c3, rfl⟩ := hd3.read
          have hbw : Below wr.heap.size wr w3 := hbx.trans (below_of_drew (hb3.mono (by simp)))
          have hs4 : wr.heap.size < w3.heap.size := by have := hb3.size; simp at this; omega
          have z3 : w3.cell? ⟨w.heap.size, 3, none⟩ = some (.slice A8 j c8) := (hbw.cell (p := ⟨w.heap.size, 3, none⟩) (by show w.heap.size < wr.heap.size; omega)).trans y3
          have z3a : (w3.alloc (.cells #[.int .i64 x.k, .int .i64 x.n, .string ⟨x.s.toArray⟩, .slice A3 x.is.len c3] 29)).cell? ⟨w.heap.size, 3, none⟩ = some (.slice A8 j c8) := (((Below.refl _ w3).alloc (Nat.le_refl _) _).cell (p := ⟨w.heap.size, 3, none⟩) (by show w.heap.size < w3.heap.size; omega)).trans z3
          have hD3 := Lib.hid hd3
          have hK3 := Lib.hid (hHeld.below (w' := w3) hb3 hHeld.lt)
          clear hd3 hHeld
          refine hK.out _ _ hK3.out (fun hHeld => ?_)
          clear hK K
          try simp only [Act.put, List.setIfInBounds_toArray, List.set_cons_zero, List.set_cons_succ]
          refine wpAnyH_ready (rs := [1, 5]) (by kernel_rfl) (by simp) ?_
          refine AllReadyH.cons (o := { dst := some 29, op := Go.Op.load 27 (Go.Operand.tmp 28), type := 27, pos := "datum.go:24", after := #[{ on := 0, ground := Go.Ground.data }], guard := none }) rfl (fun K hK => ?_) ?_
          · rw [if_pos (by rfl)]
            go_simp
            refine hK.out _ _ hHeld (fun hHeld => ?_)
            clear hK K
            try simp only [Act.put, List.setIfInBounds_toArray, List.set_cons_zero, List.set_cons_succ]
            refine wpAnyH_ready (rs := [5]) (by kernel_rfl) (by simp) ?_
            refine AllReadyH.cons (o := { dst := some 33, op := Go.Op.buildSlice 27 1 #[(0, Go.Operand.tmp 32)], type := 27, pos := "datum.go:24", after := #[{ on := 4, ground := Go.Ground.data }], guard := none }) rfl (fun K hK => ?_) AllReadyH.nil
            rw [if_pos (by rfl)]
            go_simp
            have hK4 := Lib.hid (hHeld.alloc (.cells #[.int .i64 x.k, .int .i64 x.n, .string ⟨x.s.toArray⟩, .slice A3 x.is.len c3] 29))
            clear hHeld
            refine hK.out _ _ hK4.out (fun hHeld => ?_)
            clear hK K
            try simp only [Act.put, List.setIfInBounds_toArray, List.set_cons_zero, List.set_cons_succ]
            refine wpAnyH_ready (rs := [6]) (by kernel_rfl) (by simp) ?_
            refine AllReadyH.cons (o := { dst := some 34, op := Go.Op.call { callee := Go.Callee.builtin Go.Builtin.append, args := #[Go.Operand.tmp 29, Go.Operand.tmp 33], argTypes := #[27, 27] }, type := 27, pos := "datum.go:24", after := #[{ on := 1, ground := Go.Ground.data }, { on := 5, ground := Go.Ground.data }, { on := 4, ground := Go.Ground.chain }], guard := none }) rfl (fun K hK => ?_) AllReadyH.nil
            rw [if_pos (by rfl)]
            obtain ⟨cs, r1, r2, r3⟩ := its_push htl'.out (hI'.out.below hbw) hD3.out (fun g _ hg => by simp at hg; exact ⟨by omega, fun hh => by have := (hIl.out _ hh).2; omega⟩) (show w.heap.size + 1 < w3.heap.size + 1 by omega)
            have r3' := Lib.hid r3
            clear r3
            refine wp_append_row (v := .slice A8 j c8) (x := .slice (some ⟨w3.heap.size, 0, none⟩) 1 1) (.agg #[.int .i64 0, .int .i64 0, .string ⟨#[]⟩, .slice none 0 0]) 56 Try.infoDatum rfl (by decide) _ _ 27 rfl Try.underlying27 rfl rfl r1 (own_one (e := 29) (sz := 4) (B := 0) w3 #[.int .i64 x.k, .int .i64 x.n, .string ⟨x.s.toArray⟩, .slice A3 x.is.len c3] rfl (Nat.zero_le _)) r2 (by omega) (by omega) (by simp) ?_
            intro v9 w9 hown9 hg9 hat9
            have hR9 := Lib.hid (r3'.out v9 w9 hown9 hg9 hat9)
            have T1 := Turns.appendedS hg9
            have hK5 := Lib.hid (hHeld.turns T1 (fun hh => by have := (hIl.out _ hh).2; omega))
            obtain ⟨A9, c9, rfl⟩ : ∃ A9 c9, v9 = .slice A9 (j + 1) c9 := by obtain ⟨A9, c9, e, _⟩ := own_read hown9; exact ⟨A9, c9, e⟩
            have L9 := Lib.hid (((hM1.below hbw hM1.lt).alloc (.cells #[.int .i64 x.k, .int .i64 x.n, .string ⟨x.s.toArray⟩, .slice A3 x.is.len c3] 29)).turns T1 (fun hh => by have := (hIl.out _ hh).1; omega))
            have L9b := Lib.hid (((hM2.below hbw hM2.lt).alloc (.cells #[.int .i64 x.k, .int .i64 x.n, .string ⟨x.s.toArray⟩, .slice A3 x.is.len c3] 29)).turns T1 (fun hh => by have := (hIl.out _ hh).1; omega))
            have z9 : w9.cell? ⟨w.heap.size, 3, none⟩ = some (.slice A8 j c8) := L9.out.cell 3
            have f9 : w9.frozen? ⟨w.heap.size, 3, none⟩ = false := L9.out.free 3
            have hb9 := Lib.hid (show Below w.heap.size w w9 from (((Turns.of_below (hb.trans (hbw.mono hb.size)) (fun _ => False)).alloc _).then T1 (fun k hk hh => by have := (hIl.out _ hh).1; omega)).below (Nat.le_refl _) (fun _ h => h.elim))
            clear hown9 hg9 hat9 T1 hHeld r1 r2 r3'
            refine hK.out _ _ hK5.out (fun hHeld => ?_)
            clear hK K
            try simp only [Act.put, List.setIfInBounds_toArray, List.set_cons_zero, List.set_cons_succ]
            refine wpAnyH_take (i := 7) (oi := { dst := some 35, op := Go.Op.fieldAddr 29 (Go.Operand.tmp 2) 3, type := 0, pos := "datum.go:24", after := #[{ on := 0, ground := Go.Ground.phase }, { on := 1, ground := Go.Ground.phase }, { on := 2, ground := Go.Ground.phase }, { on := 3, ground := Go.Ground.phase }, { on := 4, ground := Go.Ground.phase }, { on := 5, ground := Go.Ground.phase }, { on := 6, ground := Go.Ground.phase }], guard := none }) (v := ?_) rfl (by kernel_rfl) (by kernel_rfl) (by kernel_rfl) (fun _ _ _ h => h) (Or.inl ⟨by rfl, ?_⟩) (by assumption) ?_
            rotate_left
            · intro w hSw; clear hSw; go_simp; try with_reducible rfl
            try simp only [Act.put, List.setIfInBounds_toArray, List.set_cons_zero, List.set_cons_succ]
            refine wpAnyH_ready (rs := [8]) (by kernel_rfl) (by simp) ?_
            refine AllReadyH.cons (o := { dst := none, op := Go.Op.store 27 (Go.Operand.tmp 35) (Go.Operand.tmp 34), type := 0, pos := "datum.go:24", after := #[{ on := 7, ground := Go.Ground.data }, { on := 6, ground := Go.Ground.data }, { on := 6, ground := Go.Ground.chain }, { on := 0, ground := Go.Ground.phase }, { on := 1, ground := Go.Ground.phase }, { on := 2, ground := Go.Ground.phase }, { on := 3, ground := Go.Ground.phase }, { on := 4, ground := Go.Ground.phase }, { on := 5, ground := Go.Ground.phase }, { on := 6, ground := Go.Ground.phase }], guard := none }) rfl (fun K hK => ?_) AllReadyH.nil
            rw [if_pos (by rfl)]
            go_simp
            have hK6 := Lib.hid (hHeld.far (p := ⟨w.heap.size, 3, none⟩) (by show ¬ wr.heap.size = w.heap.size; omega) (.slice A9 (j + 1) c9))
            clear hHeld
            refine hK.out _ _ hK6.out (fun hHeld => ?_)
            clear hK K
            try simp only [Act.put, List.setIfInBounds_toArray, List.set_cons_zero, List.set_cons_succ]
            refine wpAnyH_done (by kernel_rfl) ?_ _
            go_wp2_with fail
            go_roundw
            case rel => exact ⟨j + 1, A9, c9, by omega, by go_num, by rw [hsn'.out]; exact hR9.out.turns ((Turns.refl (fun k => k = w.heap.size) w9).setCell (p := ⟨w.heap.size, 3, none⟩) (fun _ => rfl) _) (fun g _ hs hh => by omega), L9.out.stored 3 _, L9b.out.far (p := ⟨w.heap.size, 3, none⟩) (by simp) _, hb9.out.setCell (p := ⟨w.heap.size, 3, none⟩) (Nat.le_refl _) _⟩
            case measure => simp [intOf]; omega
          refine AllReadyH.cons (o := { dst := some 33, op := Go.Op.buildSlice 27 1 #[(0, Go.Operand.tmp 32)], type := 27, pos := "datum.go:24", after := #[{ on := 4, ground := Go.Ground.data }], guard := none }) rfl (fun K hK => ?_) AllReadyH.nil
          · rw [if_pos (by rfl)]
            go_simp
            have hK4 := Lib.hid (hHeld.alloc (.cells #[.int .i64 x.k, .int .i64 x.n, .string ⟨x.s.toArray⟩, .slice A3 x.is.len c3] 29))
            clear hHeld
            refine hK.out _ _ hK4.out (fun hHeld => ?_)
            clear hK K
            try simp only [Act.put, List.setIfInBounds_toArray, List.set_cons_zero, List.set_cons_succ]
            refine wpAnyH_ready (rs := [1]) (by kernel_rfl) (by simp) ?_
            refine AllReadyH.cons (o := { dst := some 29, op := Go.Op.load 27 (Go.Operand.tmp 28), type := 27, pos := "datum.go:24", after := #[{ on := 0, ground := Go.Ground.data }], guard := none }) rfl (fun K hK => ?_) AllReadyH.nil
            rw [if_pos (by rfl)]
            go_simp
            refine hK.out _ _ hHeld (fun hHeld => ?_)
            clear hK K
            try simp only [Act.put, List.setIfInBounds_toArray, List.set_cons_zero, List.set_cons_succ]
            refine wpAnyH_ready (rs := [6]) (by kernel_rfl) (by simp) ?_
            refine AllReadyH.cons (o := { dst := some 34, op := Go.Op.call { callee := Go.Callee.builtin Go.Builtin.append, args := #[Go.Operand.tmp 29, Go.Operand.tmp 33], argTypes := #[27, 27] }, type := 27, pos := "datum.go:24", after := #[{ on := 1, ground := Go.Ground.data }, { on := 5, ground := Go.Ground.data }, { on := 4, ground := Go.Ground.chain }], guard := none }) rfl (fun K hK => ?_) AllReadyH.nil
            rw [if_pos (by rfl)]
            obtain ⟨cs, r1, r2, r3⟩ := its_push htl'.out (hI'.out.below hbw) hD3.out (fun g _ hg => by simp at hg; exact ⟨by omega, fun hh => by have := (hIl.out _ hh).2; omega⟩) (show w.heap.size + 1 < w3.heap.size + 1 by omega)
            have r3' := Lib.hid r3
            clear r3
            refine wp_append_row (v := .slice A8 j c8) (x := .slice (some ⟨w3.heap.size, 0, none⟩) 1 1) (.agg #[.int .i64 0, .int .i64 0, .string ⟨#[]⟩, .slice none 0 0]) 56 Try.infoDatum rfl (by decide) _ _ 27 rfl Try.underlying27 rfl rfl r1 (own_one (e := 29) (sz := 4) (B := 0) w3 #[.int .i64 x.k, .int .i64 x.n, .string ⟨x.s.toArray⟩, .slice A3 x.is.len c3] rfl (Nat.zero_le _)) r2 (by omega) (by omega) (by simp) ?_
            intro v9 w9 hown9 hg9 hat9
            have hR9 := Lib.hid (r3'.out v9 w9 hown9 hg9 hat9)
            have T1 := Turns.appendedS hg9
            have hK5 := Lib.hid (hHeld.turns T1 (fun hh => by have := (hIl.out _ hh).2; omega))
            obtain ⟨A9, c9, rfl⟩ : ∃ A9 c9, v9 = .slice A9 (j + 1) c9 := by obtain ⟨A9, c9, e, _⟩ := own_read hown9; exact ⟨A9, c9, e⟩
            have L9 := Lib.hid (((hM1.below hbw hM1.lt).alloc (.cells #[.int .i64 x.k, .int .i64 x.n, .string ⟨x.s.toArray⟩, .slice A3 x.is.len c3] 29)).turns T1 (fun hh => by have := (hIl.out _ hh).1; omega))
            have L9b := Lib.hid (((hM2.below hbw hM2.lt).alloc (.cells #[.int .i64 x.k, .int .i64 x.n, .string ⟨x.s.toArray⟩, .slice A3 x.is.len c3] 29)).turns T1 (fun hh => by have := (hIl.out _ hh).1; omega))
            have z9 : w9.cell? ⟨w.heap.size, 3, none⟩ = some (.slice A8 j c8) := L9.out.cell 3
            have f9 : w9.frozen? ⟨w.heap.size, 3, none⟩ = false := L9.out.free 3
            have hb9 := Lib.hid (show Below w.heap.size w w9 from (((Turns.of_below (hb.trans (hbw.mono hb.size)) (fun _ => False)).alloc _).then T1 (fun k hk hh => by have := (hIl.out _ hh).1; omega)).below (Nat.le_refl _) (fun _ h => h.elim))
            clear hown9 hg9 hat9 T1 hHeld r1 r2 r3'
            refine hK.out _ _ hK5.out (fun hHeld => ?_)
            clear hK K
            try simp only [Act.put, List.setIfInBounds_toArray, List.set_cons_zero, List.set_cons_succ]
            refine wpAnyH_take (i := 7) (oi := { dst := some 35, op := Go.Op.fieldAddr 29 (Go.Operand.tmp 2) 3, type := 0, pos := "datum.go:24", after := #[{ on := 0, ground := Go.Ground.phase }, { on := 1, ground := Go.Ground.phase }, { on := 2, ground := Go.Ground.phase }, { on := 3, ground := Go.Ground.phase }, { on := 4, ground := Go.Ground.phase }, { on := 5, ground := Go.Ground.phase }, { on := 6, ground := Go.Ground.phase }], guard := none }) (v := ?_) rfl (by kernel_rfl) (by kernel_rfl) (by kernel_rfl) (fun _ _ _ h => h) (Or.inl ⟨by rfl, ?_⟩) (by assumption) ?_
            rotate_left
            · intro w hSw; clear hSw; go_simp; try with_reducible rfl
            try simp only [Act.put, List.setIfInBounds_toArray, List.set_cons_zero, List.set_cons_succ]
            refine wpAnyH_ready (rs := [8]) (by kernel_rfl) (by simp) ?_
            refine AllReadyH.cons (o := { dst := none, op := Go.Op.store 27 (Go.Operand.tmp 35) (Go.Operand.tmp 34), type := 0, pos := "datum.go:24", after := #[{ on := 7, ground := Go.Ground.data }, { on := 6, ground := Go.Ground.data }, { on := 6, ground := Go.Ground.chain }, { on := 0, ground := Go.Ground.phase }, { on := 1, ground := Go.Ground.phase }, { on := 2, ground := Go.Ground.phase }, { on := 3, ground := Go.Ground.phase }, { on := 4, ground := Go.Ground.phase }, { on := 5, ground := Go.Ground.phase }, { on := 6, ground := Go.Ground.phase }], guard := none }) rfl (fun K hK => ?_) AllReadyH.nil
            rw [if_pos (by rfl)]
            go_simp
            have hK6 := Lib.hid (hHeld.far (p := ⟨w.heap.size, 3, none⟩) (by show ¬ wr.heap.size = w.heap.size; omega) (.slice A9 (j + 1) c9))
            clear hHeld
            refine hK.out _ _ hK6.out (fun hHeld => ?_)
            clear hK K
            try simp only [Act.put, List.setIfInBounds_toArray, List.set_cons_zero, List.set_cons_succ]
            refine wpAnyH_done (by kernel_rfl) ?_ _
            go_wp2_with fail
            go_roundw
            case rel => exact ⟨j + 1, A9, c9, by omega, by go_num, by rw [hsn'.out]; exact hR9.out.turns ((Turns.refl (fun k => k = w.heap.size) w9).setCell (p := ⟨w.heap.size, 3, none⟩) (fun _ => rfl) _) (fun g _ hs hh => by omega), L9.out.stored 3 _, L9b.out.far (p := ⟨w.heap.size, 3, none⟩) (by simp) _, hb9.out.setCell (p := ⟨w.heap.size, 3, none⟩) (Nat.le_refl _) _⟩
            case measure => simp [intOf]; omega
      · obtain rfl : j = N := by omega
        have hall : SM.tk is j = is := by rw [← hN'.out]; exact SM.tk_all is
        rw [hall] at hI
        have q0 := hM1.cell 0
        have q1 := hM1.cell 1
        have q2 := hM1.cell 2
        have m0 := hM2.cell 0
        have m1 := hM2.cell 1
        have m2 := hM2.cell 2
        have m3 := hM2.cell 3
        have f2 := hM2.free
        simp only [List.getElem?_cons_zero, List.getElem?_cons_succ] at q0 q1 q2 m0 m1 m2 m3
        have hD := hI.dat
        go_wp2_with fail
        have hF := four_lies hM2 (.int .i64 k) (.int .i64 n) (.string ⟨s.toArray⟩) (.slice A8 j c8)
        have r0 := hF.cell 0
        have r1 := hF.cell 1
        have r2 := hF.cell 2
        have r3 := hF.cell 3
        have hd9 := hD.turns (four_one wr (w.heap.size + 1) (.int .i64 k) (.int .i64 n) (.string ⟨s.toArray⟩) (.slice A8 j c8)) (fun g _ hs hh => by omega)
        have hb10 := four_below hb (g := w.heap.size + 1) (by omega) (.int .i64 k) (.int .i64 n) (.string ⟨s.toArray⟩) (.slice A8 j c8)
        unfold four at r0 r1 r2 r3 hd9 hb10
        simp only [List.getElem?_cons_zero, List.getElem?_cons_succ] at r0 r1 r2 r3
        exact bodyPost_ret (v := .agg #[.int .i64 k, .int .i64 n, .string ⟨s.toArray⟩, .slice A8 j c8]) (by simp [results, Try.results39, go_sem, r0, r1, r2, r3]) rfl ⟨_, rfl, hd9.mono (fun g _ hs => by omega), hb10⟩)
theorem ren_any (x : RM.Dm) : RenOk x := RM.Dl.all_of RenOk ren_step (.one x) 0 x (by cases x; rfl)
theorem copy_any (x : RM.Dm) : CopyOk x := by
  intro w v h hs
  obtain ⟨A1, c1, rfl⟩ := h.read
  have hC := Lib.hid (fun (w' : World) (hb : Below w.heap.size w w') => ren_any x w' _ (h.below hb) hs)
  unfold dtv idv at hC
  unfold dtv
  have hL2 : Lies ((w.alloc (.cells #[.int .i64 x.k, .int .i64 x.n, .string ⟨x.s.toArray⟩, .slice A1 x.is.len c1] 29)).alloc (.cells #[.int .i64 0, .int .i64 0, .string ⟨#[]⟩, .slice none 0 0] 29)) (w.heap.size + 1) 29 [.int .i64 0, .int .i64 0, .string ⟨#[]⟩, .slice none 0 0] := by
    have := Lies.made (w.alloc (.cells #[.int .i64 x.k, .int .i64 x.n, .string ⟨x.s.toArray⟩, .slice A1 x.is.len c1] 29)) 29 #[.int .i64 0, .int .i64 0, .string ⟨#[]⟩, .slice none 0 0]
    rwa [show (w.alloc (.cells #[.int .i64 x.k, .int .i64 x.n, .string ⟨x.s.toArray⟩, .slice A1 x.is.len c1] 29)).heap.size = w.heap.size + 1 by simp] at this
  have hb0 : Below w.heap.size w ((w.alloc (.cells #[.int .i64 x.k, .int .i64 x.n, .string ⟨x.s.toArray⟩, .slice A1 x.is.len c1] 29)).alloc (.cells #[.int .i64 0, .int .i64 0, .string ⟨#[]⟩, .slice none 0 0] 29)) := (went_box' _ _ _).alloc (by simp) _
  clear h
  go_enter Try.func30, Try.ntmps30
  go_wp2_with (
    go_at_call 39
    refine (hC.out _ hb0).mono ?_
    rintro e w3 ⟨v3, rfl, hd3, hb3⟩
    obtain ⟨A3, c3, rfl⟩ := hd3.read
    have hM2 := hL2.below hb3 hL2.lt
    have hb4 : Below w.heap.size w w3 := hb0.trans (hb3.mono hb0.size)
    have m0 := hM2.cell 0
    have m1 := hM2.cell 1
    have m2 := hM2.cell 2
    have m3 := hM2.cell 3
    have f2 := hM2.free
    simp only [List.getElem?_cons_zero, List.getElem?_cons_succ] at m0 m1 m2 m3)
  have hF := four_lies hM2 (.int .i64 x.k) (.int .i64 x.n) (.string ⟨x.s.toArray⟩) (.slice A3 x.is.len c3)
  have r0 := hF.cell 0
  have r1 := hF.cell 1
  have r2 := hF.cell 2
  have r3 := hF.cell 3
  have hd9 := hd3.turns (four_one w3 (w.heap.size + 1) (.int .i64 x.k) (.int .i64 x.n) (.string ⟨x.s.toArray⟩) (.slice A3 x.is.len c3)) (fun g _ hs hh => by simp at hs; omega)
  have hb10 := four_below hb4 (g := w.heap.size + 1) (by omega) (.int .i64 x.k) (.int .i64 x.n) (.string ⟨x.s.toArray⟩) (.slice A3 x.is.len c3)
  unfold four at r0 r1 r2 r3 hd9 hb10
  simp only [List.getElem?_cons_zero, List.getElem?_cons_succ] at r0 r1 r2 r3
  exact bodyPost_ret (v := .agg #[.int .i64 x.k, .int .i64 x.n, .string ⟨x.s.toArray⟩, .slice A3 x.is.len c3]) (by simp [results, Try.results30, go_sem, r0, r1, r2, r3]) rfl ⟨_, rfl, hd9.mono (fun g _ hs => by simp at hs; omega), hb10⟩
end Go.Proofs.Ytpiekdcbjkgipaa
