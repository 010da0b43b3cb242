/- The law TermSame: its shifted, walked. -/
import Derived.Test.YtpiekdcbjkgipaaGreatDoorQ44
import Derived.Test.YtpiekdcbjkgipaaGreatDoorQ30
import Derived.Test.YtpiekdcbjkgipaaGreatDoorQ38
import Derived.Test.YtpiekdcbjkgipaaGreatDoorQ40
import Derived.Deep.Cut
import Derived.Deep.CutRange
import Derived.Deep.CutBlock
namespace Go.Proofs.YtpiekdcbjkgipaaGreatDoor
open Go.ChangeShapes Go.WideShapes Go.ChangeAt Go.RowKit Go.Deep
open TM (Tl Tm)

def ShN (by_ : Int) (D S : Nat → Prop) (t : Tm) (vp vi vk : Value) (w : World) (e : Ending) (w' : World) : Prop :=
  e = .returned (tmv (TM.sh by_ t) vp vi vk) ∧ TmOwn w' D S (TM.sh by_ t) vp vi vk ∧ Turns S w w'
def ShOk (t : Tm) : Prop := ∀ (w : World) (D S : Nat → Prop) (vp vi vk : Value) (by_ : Int), TmOwn w D S t vp vi vk → (∀ g, g < w.heap.size → S g → D g → False) → (∀ g, D g → g < w.heap.size) → 0 ≤ by_ → by_ ≤ 2199023255553 → TM.sh1 t →
  Calls Tryz.prog 24 #[tmv t vp vi vk, .int .i64 by_] w (ShN by_ D S t vp vi vk w)
set_option maxRecDepth 100000 in
set_option maxHeartbeats 8000000 in
theorem sh_step (k n : Int) (s : List UInt8) (ps : List Int) (d : RM.Dm) (ks : Tl) (hR : ∀ i x, ks.at_ i = some x → ShOk x) : ShOk ⟨k, n, s, ps, d, ks⟩ := by
  intro w D S vp vi vk by_ hT0 hSD hDw hby0 hby1 hsb
  have hdd := Lib.hid hDw
  clear hDw
  have hT := hT0.mono (S' := fun g => S g ∧ g < w.heap.size) (fun g hg hs => ⟨hs, hg⟩)
  obtain ⟨c0, hp, hpS, hdi, hrow, hkS, hat⟩ := hT
  obtain ⟨P3, L3, p3, rfl⟩ := slice_of hp
  obtain ⟨I7, q7, rfl⟩ := hdi.in_.read
  obtain ⟨A1, c1, rfl, -⟩ := own_read hrow
  have hN63 := own_len hrow
  obtain ⟨hsb1, hsb2, hsb3⟩ := hsb
  simp only at hp hpS hdi hrow hkS hat hN63 hsb1 hsb2 hsb3 ⊢
  obtain ⟨N, hN⟩ : ∃ N, ks.len = N := ⟨_, rfl⟩
  obtain ⟨L7, hL7⟩ : ∃ x, d.is.len = x := ⟨_, rfl⟩
  have hL3 : ps.length = L3 := by
    obtain ⟨A, c, e, -⟩ := hp.read
    injection e with e1 e2 e3
    exact e2.symm
  have hl63 : L3 ≤ 9223372036854775807 := by rw [← hL3]; exact hp.pin.len
  obtain ⟨nn, hnn⟩ : ∃ nn, (if k = 2 ∨ k = 4 then by_ - n else n) = nn := ⟨_, rfl⟩
  unfold ShN TM.sh TM.ren1
  simp only
  rw [hnn]
  unfold tmv
  simp only
  rw [hN] at hrow hkS hat hN63 ⊢
  rw [hL7] at hdi ⊢
  have hL := (Lies.made w 28 #[.int .i64 k, .int .i64 n, .string ⟨s.toArray⟩, .slice P3 L3 p3, .int .i64 d.k, .int .i64 d.n, .string ⟨d.s.toArray⟩, .slice I7 L7 q7, .slice A1 N c1]).alloc (.cells #[.int .i64 0, .int .i64 0, .string ⟨#[]⟩, .slice none 0 0, .int .i64 0, .int .i64 0, .string ⟨#[]⟩, .slice none 0 0, .slice none 0 0] 28)
  have hz1 : (w.alloc (.cells #[.int .i64 k, .int .i64 n, .string ⟨s.toArray⟩, .slice P3 L3 p3, .int .i64 d.k, .int .i64 d.n, .string ⟨d.s.toArray⟩, .slice I7 L7 q7, .slice A1 N c1] 28)).heap.size = w.heap.size + 1 := by simp
  have hLr := Lies.made (w.alloc (.cells #[.int .i64 k, .int .i64 n, .string ⟨s.toArray⟩, .slice P3 L3 p3, .int .i64 d.k, .int .i64 d.n, .string ⟨d.s.toArray⟩, .slice I7 L7 q7, .slice A1 N c1] 28)) 28 #[.int .i64 0, .int .i64 0, .string ⟨#[]⟩, .slice none 0 0, .int .i64 0, .int .i64 0, .string ⟨#[]⟩, .slice none 0 0, .slice none 0 0]
  rw [hz1] at hLr
  obtain ⟨W2, hW2⟩ : ∃ W2, ((w.alloc (.cells #[.int .i64 k, .int .i64 n, .string ⟨s.toArray⟩, .slice P3 L3 p3, .int .i64 d.k, .int .i64 d.n, .string ⟨d.s.toArray⟩, .slice I7 L7 q7, .slice A1 N c1] 28)).alloc (.cells #[.int .i64 0, .int .i64 0, .string ⟨#[]⟩, .slice none 0 0, .int .i64 0, .int .i64 0, .string ⟨#[]⟩, .slice none 0 0, .slice none 0 0] 28)) = W2 := ⟨_, rfl⟩
  have hba : Below w.heap.size w W2 := by rw [← hW2]; exact ((Below.refl _ w).alloc (Nat.le_refl _) _).alloc (by simp) _
  rw [hW2] at hL hLr
  have hN' := Lib.hid hN
  have hL3' := Lib.hid hL3
  have hR' := Lib.hid hR
  have hSD' := Lib.hid hSD
  have hp' := Lib.hid hp
  have hpS' := Lib.hid hpS
  have hrow' := Lib.hid hrow
  have hkS' := Lib.hid hkS
  have hat' := Lib.hid hat
  have hdi' := Lib.hid hdi
  have hsb2' := Lib.hid hsb2
  have hsb3' := Lib.hid hsb3
  have hnn' := Lib.hid hnn
  obtain ⟨kk, hkk⟩ : ∃ kk, decide (k = 2 ∨ k = 4) = kk := ⟨_, rfl⟩
  have hkk' := Lib.hid hkk
  have hsb1' := Lib.hid hsb1
  have x0 := hL.cell 0
  have x1 := hL.cell 1
  have f1 := hL.free 1
  have hltL := hL.lt
  simp only [List.getElem?_cons_succ, List.getElem?_cons_zero] at x0 x1
  have hL5 := hL.stored 1 (.int .i64 nn)
  have hLr5 := hLr.far (p := ⟨w.heap.size, 1, none⟩) (by simp) (.int .i64 nn)
  simp only [List.set_cons_succ, List.set_cons_zero] at hL5
  have hb5 : Below w.heap.size w (W2.setCell ⟨w.heap.size, 1, none⟩ (.int .i64 nn)) := hba.setCell (p := ⟨w.heap.size, 1, none⟩) (Nat.le_refl _) _
  clear hR hN hz1 hSD hp hpS hrow hkS hat hT0 hdi hL7 hL3 hsb1 hsb2 hsb3 hnn hkk
  go_enter Tryz.func24, Tryz.ntmps24
  go_upto_region 1 with fail
  go_cut [14] from 7 to 14 (fun s14 wx => s14 = .bool kk ∧ W2 = wx)
  case first =>
    by_cases h2 : k = 2
    · obtain rfl : kk = true := by rw [← hkk'.out]; simp [h2]
      subst h2
      go_wp2_with fail
      go_meet
      case rel => exact ⟨rfl, rfl⟩
    · by_cases h4 : k = 4
      · obtain rfl : kk = true := by rw [← hkk'.out]; simp [h4]
        subst h4
        go_wp2_with fail
        go_meet
        case rel => exact ⟨rfl, rfl⟩
      · obtain rfl : kk = false := by rw [← hkk'.out]; simp [h2, h4]
        have q2 : (k == 2) = false := by simp [h2]
        have q4 : (k == 4) = false := by simp [h4]
        go_wp2_with fail
        go_meet
        case rel => exact ⟨rfl, rfl⟩
  case rest =>
  obtain ⟨rfl, rfl⟩ := hcut
  go_upto_if 14 with fail
  go_cut [15] from 15 to 19 (fun s15 wx => Lies wx w.heap.size 28 [.int .i64 k, .int .i64 nn, .string ⟨s.toArray⟩, .slice P3 L3 p3, .int .i64 d.k, .int .i64 d.n, .string ⟨d.s.toArray⟩, .slice I7 L7 q7, .slice A1 N c1] ∧ Lies wx (w.heap.size + 1) 28 [.int .i64 0, .int .i64 0, .string ⟨#[]⟩, .slice none 0 0, .int .i64 0, .int .i64 0, .string ⟨#[]⟩, .slice none 0 0, .slice none 0 0] ∧ Below w.heap.size w wx)
  case first =>
    cases kk
    · have hne : ¬ (k = 2 ∨ k = 4) := of_decide_eq_false hkk'.out
      have hnn2 := hnn'.out
      rw [if_neg hne] at hnn2
      subst hnn2
      go_wp2_with fail
      go_meet
      case rel => exact ⟨hL, hLr, hba⟩
    · have hne : k = 2 ∨ k = 4 := of_decide_eq_true hkk'.out
      have hnn2 := hnn'.out
      rw [if_pos hne] at hnn2
      have hb2 := hsb1'.out hne
      have hwr : IntKind.i64.wrap (by_ - n) = nn := by rw [IntKind.wrap_i64, hnn2]; omega
      clear hnn2 hne hb2
      go_wp2_with fail
      go_meet
      case rel => exact ⟨hL5, hLr5, hb5⟩
  case rest =>
  obtain ⟨hLc, hLrc, hbc⟩ := hcut
  clear hL hLr hba hL5 hLr5 hb5 x0 x1 f1 hltL hkk' hW2 hsb1'
  have y3 : wc.cell? ⟨w.heap.size, 3, none⟩ = some (.slice P3 L3 p3) := hLc.cell 3
  go_upto_block 0 with fail
  go_cut [5, 23] from 23 to 37 (fun s5 s23 wx => Hid (Own wx 0 (.slice P3 L3 p3) (ps.map (fun a => by_ - a))) ∧ Lies wx w.heap.size 28 [.int .i64 k, .int .i64 nn, .string ⟨s.toArray⟩, .slice P3 L3 p3, .int .i64 d.k, .int .i64 d.n, .string ⟨d.s.toArray⟩, .slice I7 L7 q7, .slice A1 N c1] ∧ Lies wx (w.heap.size + 1) 28 [.int .i64 0, .int .i64 0, .string ⟨#[]⟩, .slice none 0 0, .int .i64 0, .int .i64 0, .string ⟨#[]⟩, .slice none 0 0, .slice none 0 0] ∧ Turns (fun g => (Value.slice P3 L3 p3).ownBlock = some g) w wx)
  case first =>
    have hO0 : Own wc 0 (.slice P3 L3 p3) ps := hp'.out.below hbc
    have hTc : Turns (fun g => (Value.slice P3 L3 p3).ownBlock = some g) w wc := Turns.of_below hbc _
    go_wp2_with fail
    go_loopw [23] (fun i wr => ∃ (j : Nat), j ≤ L3 ∧ i = .int .i64 j ∧ Own wr 0 (.slice P3 L3 p3) ((ps.take j).map (fun a => by_ - a) ++ ps.drop j) ∧ Lies wr w.heap.size 28 [.int .i64 k, .int .i64 nn, .string ⟨s.toArray⟩, .slice P3 L3 p3, .int .i64 d.k, .int .i64 d.n, .string ⟨d.s.toArray⟩, .slice I7 L7 q7, .slice A1 N c1] ∧ Lies wr (w.heap.size + 1) 28 [.int .i64 0, .int .i64 0, .string ⟨#[]⟩, .slice none 0 0, .int .i64 0, .int .i64 0, .string ⟨#[]⟩, .slice none 0 0, .slice none 0 0] ∧ Turns (fun g => (Value.slice P3 L3 p3).ownBlock = some g) w wr) (fun i _ => L3 - (intOf i).toNat)
    case atStart => exact ⟨0, by omega, rfl, by simpa using hO0, hLc, hLrc, hTc⟩
    case round =>
      obtain ⟨j, hj, rfl, hO, hM1, hM2, hT⟩ := hrel
      clear hO0 hTc hLc hLrc y3
      have hlr := hM2.lt
      by_cases hlt : j < L3
      · have hx : ps[j]? = some (ps[j]'(by rw [hL3'.out]; exact hlt)) := List.getElem?_eq_getElem _
        obtain ⟨x, hxe⟩ : ∃ x, ps[j]'(by rw [hL3'.out]; exact hlt) = x := ⟨_, rfl⟩
        rw [hxe] at hx
        have hbx := hsb2'.out x (List.mem_of_getElem? hx)
        have hlo : ((ps.take j).map (fun a => by_ - a) ++ ps.drop j).length = L3 := by simp; rw [hL3'.out]; omega
        have hgx : ((ps.take j).map (fun a => by_ - a) ++ ps.drop j).getD j 0 = x := by
          rw [List.getD_eq_getElem?_getD, List.getElem?_append_right (by simp; omega)]
          simp [hx, Nat.min_eq_left (by rw [hL3'.out]; exact hj : j ≤ ps.length)]
        obtain ⟨g, hAg, -, hglt, p0⟩ := hO.cell (j := j) (by rw [hlo]; exact hlt)
        rw [hgx] at p0
        subst hAg
        have hgw : g < w.heap.size := (hp'.out.lt g rfl).2
        have hO2 : Own (wr.setCell ⟨g, j, none⟩ (.int .i64 (by_ - x))) 0 (.slice (some ⟨g, 0, none⟩) L3 p3) ((ps.take (j + 1)).map (fun a => by_ - a) ++ ps.drop (j + 1)) := by
          rw [← TM.upd_at ps (fun a => by_ - a) hx]
          unfold Own at hO ⊢
          rw [List.length_set, hlo, List.map_set]
          rw [hlo] at hO
          exact (hO.stored j _).1
        have hfz : wr.frozen? ⟨g, j, none⟩ = false := by
          unfold Own at hO
          rw [hlo] at hO
          exact hO.frozenAt j
        obtain ⟨y, hy⟩ : ∃ y, by_ - x = y := ⟨_, rfl⟩
        rw [hy] at hO2
        have hwr : IntKind.i64.wrap (by_ - x) = y := by rw [IntKind.wrap_i64, hy]; omega
        have hO2' := Lib.hid hO2
        have hM1' := Lib.hid (Lies.far hM1.drew (p := ⟨g, j, none⟩) (by show w.heap.size ≠ g; omega) (.int .i64 y))
        have hM2' := Lib.hid (Lies.far hM2.drew (p := ⟨g, j, none⟩) (by show w.heap.size + 1 ≠ g; omega) (.int .i64 y))
        have hT' := Lib.hid (hT.drew.setCell (p := ⟨g, j, none⟩) (fun _ => rfl) (.int .i64 y))
        have p1 : wr.drew.cell? ⟨g, j, none⟩ = some (.int .i64 x) := p0
        have f1 : wr.drew.frozen? ⟨g, j, none⟩ = false := hfz
        clear hx hxe hlo hgx hO hO2 hy hT hfz p0
        go_wp2_with fail
        refine wp_region_held_drew (S := fun w' => Lies w' w.heap.size 28 [.int .i64 k, .int .i64 nn, .string ⟨s.toArray⟩, .slice (some ⟨g, 0, none⟩) L3 p3, .int .i64 d.k, .int .i64 d.n, .string ⟨d.s.toArray⟩, .slice I7 L7 q7, .slice A1 N c1]) rfl hM1.drew (fun hHeld => ?_)
        refine wpAnyH_take (i := 0) (oi := { dst := some 26, op := Go.Op.fieldAddr 28 (Go.Operand.tmp 2) 3, type := 0, pos := "law.go:59", after := #[], guard := none }) (v := ?_) rfl (by kernel_rfl) (by kernel_rfl) (by kernel_rfl) (fun _ _ _ h => h) (Or.inl ⟨by rfl, ?_⟩) (by assumption) ?_
        rotate_left
        · intro w hSw; clear hSw; go_simp; try with_reducible rfl
        try simp only [Act.put, List.setIfInBounds_toArray, List.set_cons_zero, List.set_cons_succ]
        refine wpAnyH_take (i := 1) (oi := { dst := some 27, op := Go.Op.load 22 (Go.Operand.tmp 26), type := 22, pos := "law.go:59", after := #[{ on := 0, ground := Go.Ground.data }], guard := none }) (v := ?_) rfl (by kernel_rfl) (by kernel_rfl) (by kernel_rfl) (fun _ _ _ h => h) (Or.inl ⟨by rfl, ?_⟩) (by assumption) ?_
        rotate_left
        · intro w7 hS7
          have k3 := hS7.cell 3
          simp only [List.getElem?_cons_succ, List.getElem?_cons_zero] at k3
          clear hS7
          go_simp
          try with_reducible rfl
        try simp only [Act.put, List.setIfInBounds_toArray, List.set_cons_zero, List.set_cons_succ]
        refine wpAnyH_take (i := 2) (oi := { dst := some 28, op := Go.Op.move (Go.Operand.tmp 5), type := 3, pos := "law.go:59", after := #[], guard := none }) (v := ?_) rfl (by kernel_rfl) (by kernel_rfl) (by kernel_rfl) (fun _ _ _ h => h) (Or.inl ⟨by rfl, ?_⟩) (by assumption) ?_
        rotate_left
        · intro w hSw; clear hSw; go_simp; try with_reducible rfl
        try simp only [Act.put, List.setIfInBounds_toArray, List.set_cons_zero, List.set_cons_succ]
        refine wpAnyH_take (i := 3) (oi := { dst := some 29, op := Go.Op.move (Go.Operand.tmp 1), type := 3, pos := "law.go:59", after := #[], guard := none }) (v := ?_) rfl (by kernel_rfl) (by kernel_rfl) (by kernel_rfl) (fun _ _ _ h => h) (Or.inl ⟨by rfl, ?_⟩) (by assumption) ?_
        rotate_left
        · intro w hSw; clear hSw; go_simp; try with_reducible rfl
        try simp only [Act.put, List.setIfInBounds_toArray, List.set_cons_zero, List.set_cons_succ]
        refine wpAnyH_take (i := 4) (oi := { dst := some 30, op := Go.Op.fieldAddr 28 (Go.Operand.tmp 2) 3, type := 0, pos := "law.go:59", after := #[], guard := none }) (v := ?_) rfl (by kernel_rfl) (by kernel_rfl) (by kernel_rfl) (fun _ _ _ h => h) (Or.inl ⟨by rfl, ?_⟩) (by assumption) ?_
        rotate_left
        · intro w hSw; clear hSw; go_simp; try with_reducible rfl
        try simp only [Act.put, List.setIfInBounds_toArray, List.set_cons_zero, List.set_cons_succ]
        refine wpAnyH_take (i := 5) (oi := { dst := some 31, op := Go.Op.load 22 (Go.Operand.tmp 30), type := 22, pos := "law.go:59", after := #[{ on := 4, ground := Go.Ground.data }], guard := none }) (v := ?_) rfl (by kernel_rfl) (by kernel_rfl) (by kernel_rfl) (fun _ _ _ h => h) (Or.inl ⟨by rfl, ?_⟩) (by assumption) ?_
        rotate_left
        · intro w7 hS7
          have k3 := hS7.cell 3
          simp only [List.getElem?_cons_succ, List.getElem?_cons_zero] at k3
          clear hS7
          go_simp
          try with_reducible rfl
        try simp only [Act.put, List.setIfInBounds_toArray, List.set_cons_zero, List.set_cons_succ]
        refine wpAnyH_take (i := 6) (oi := { dst := some 32, op := Go.Op.move (Go.Operand.tmp 5), type := 3, pos := "law.go:59", after := #[], guard := none }) (v := ?_) rfl (by kernel_rfl) (by kernel_rfl) (by kernel_rfl) (fun _ _ _ h => h) (Or.inl ⟨by rfl, ?_⟩) (by assumption) ?_
        rotate_left
        · intro w hSw; clear hSw; go_simp; try with_reducible rfl
        try simp only [Act.put, List.setIfInBounds_toArray, List.set_cons_zero, List.set_cons_succ]
        refine wpAnyH_take (i := 7) (oi := { dst := some 33, op := Go.Op.indexAddr 22 (Go.Operand.tmp 31) (Go.Operand.tmp 32), type := 0, pos := "law.go:59", after := #[{ on := 5, ground := Go.Ground.data }, { on := 6, ground := Go.Ground.data }], guard := none }) (v := ?_) rfl (by kernel_rfl) (by kernel_rfl) (by kernel_rfl) (fun _ _ _ h => h) (Or.inl ⟨by rfl, ?_⟩) (by assumption) ?_
        rotate_left
        · intro w hSw; clear hSw; go_simp; try with_reducible rfl
        try simp only [Act.put, List.setIfInBounds_toArray, List.set_cons_zero, List.set_cons_succ]
        refine wpAnyH_ready (rs := [8]) (by kernel_rfl) (by simp) ?_
        refine AllReadyH.cons (o := { dst := some 34, op := Go.Op.load 3 (Go.Operand.tmp 33), type := 3, pos := "law.go:59", after := #[{ on := 7, ground := Go.Ground.data }], guard := none }) rfl (fun K hK => ?_) AllReadyH.nil
        rw [if_pos (by rfl)]
        go_simp
        refine hK.out _ _ hHeld (fun hHeld => ?_)
        clear hK K
        try simp only [Act.put, List.setIfInBounds_toArray, List.set_cons_zero, List.set_cons_succ]
        refine wpAnyH_take (i := 9) (oi := { dst := some 35, op := Go.Op.binOp Go.BinOp.sub 3 (Go.Operand.tmp 29) (Go.Operand.tmp 34) 3, type := 3, pos := "law.go:59", after := #[{ on := 3, ground := Go.Ground.data }, { on := 8, ground := Go.Ground.data }], guard := none }) (v := ?_) rfl (by kernel_rfl) (by kernel_rfl) (by kernel_rfl) (fun _ _ _ h => h) (Or.inl ⟨by rfl, ?_⟩) (by assumption) ?_
        rotate_left
        · intro w hSw; clear hSw; go_simp; try with_reducible rfl
        try simp only [Act.put, List.setIfInBounds_toArray, List.set_cons_zero, List.set_cons_succ]
        refine wpAnyH_take (i := 10) (oi := { dst := some 36, op := Go.Op.indexAddr 22 (Go.Operand.tmp 27) (Go.Operand.tmp 28), type := 0, pos := "law.go:59", after := #[{ on := 1, ground := Go.Ground.data }, { on := 2, ground := Go.Ground.data }, { on := 0, ground := Go.Ground.phase }, { on := 1, ground := Go.Ground.phase }, { on := 2, ground := Go.Ground.phase }, { on := 3, ground := Go.Ground.phase }, { on := 4, ground := Go.Ground.phase }, { on := 5, ground := Go.Ground.phase }, { on := 6, ground := Go.Ground.phase }, { on := 7, ground := Go.Ground.phase }, { on := 8, ground := Go.Ground.phase }, { on := 9, ground := Go.Ground.phase }], guard := none }) (v := ?_) rfl (by kernel_rfl) (by kernel_rfl) (by kernel_rfl) (fun _ _ _ h => h) (Or.inl ⟨by rfl, ?_⟩) (by assumption) ?_
        rotate_left
        · intro w hSw; clear hSw; go_simp; try with_reducible rfl
        try simp only [Act.put, List.setIfInBounds_toArray, List.set_cons_zero, List.set_cons_succ]
        refine wpAnyH_ready (rs := [11]) (by kernel_rfl) (by simp) ?_
        refine AllReadyH.cons (o := { dst := none, op := Go.Op.store 3 (Go.Operand.tmp 36) (Go.Operand.tmp 35), type := 0, pos := "law.go:59", after := #[{ on := 10, ground := Go.Ground.data }, { on := 9, ground := Go.Ground.data }, { on := 0, ground := Go.Ground.phase }, { on := 1, ground := Go.Ground.phase }, { on := 2, ground := Go.Ground.phase }, { on := 3, ground := Go.Ground.phase }, { on := 4, ground := Go.Ground.phase }, { on := 5, ground := Go.Ground.phase }, { on := 6, ground := Go.Ground.phase }, { on := 7, ground := Go.Ground.phase }, { on := 8, ground := Go.Ground.phase }, { on := 9, ground := Go.Ground.phase }], guard := none }) rfl (fun K hK => ?_) AllReadyH.nil
        rw [if_pos (by rfl)]
        go_simp
        have hHn := Lies.far hHeld (p := ⟨g, j, none⟩) (by show w.heap.size ≠ g; omega) (.int .i64 y)
        clear hHeld
        refine hK.out _ _ hHn (fun hHeld => ?_)
        clear hK K
        try simp only [Act.put, List.setIfInBounds_toArray, List.set_cons_zero, List.set_cons_succ]
        refine wpAnyH_done (by kernel_rfl) ?_ _
        clear hHeld p1 f1 hwr
        go_wp2_with fail
        go_roundw
        case rel => exact ⟨j + 1, by omega, by go_num, hO2'.out, hM1'.out, hM2'.out, hT'.out⟩
        case measure => simp [intOf]; omega
      · obtain rfl : j = L3 := by omega
        have hall : (ps.take j).map (fun a => by_ - a) ++ ps.drop j = ps.map (fun a => by_ - a) := by rw [← hL3'.out, List.take_length, List.drop_length, List.append_nil]
        rw [hall] at hO
        have hO' := Lib.hid hO
        clear hall hO
        go_wp2_with fail
        go_meet
        case rel => exact ⟨hO', hM1, hM2, hT⟩
  case rest =>
  obtain ⟨hO5, hM1, hM2, hT5⟩ := hcut
  have hRow0 := Lib.hid (own_turns hrow'.out hT5 (fun g hg hh => own_differ hp'.out hrow'.out hh hg))
  have hAt0 := Lib.hid (TAt.turns hT5 (fun g _ hs hh => hs.2.2 hh) (fun g hg hs hh => hSD'.out g hg (hpS'.out g hh).1 hs) hat'.out)
  have hI0 := Lib.hid (hdi'.out.agr (Agr.of_turns hT5 (fun g hg hd hh => hSD'.out g hg (hpS'.out g hh).1 hd)))
  have hTS : Turns (fun g => S g ∧ g < w.heap.size) w wc := hT5.mono (fun g _ hh => hpS'.out g hh)
  have hTS' := Lib.hid hTS
  have y8 : wc.cell? ⟨w.heap.size, 8, none⟩ = some (.slice A1 N c1) := hM1.cell 8
  clear hT5 hTS hLc hLrc hbc y3
  go_wp2_with fail
  go_loopw [41] (fun i wr => ∃ (j : Nat) (csd csr : List Value) (Sd Sr : Nat → Prop), j ≤ N ∧ i = .int .i64 j ∧ wr.ownsRow 0 28 9 (.slice A1 N c1) N (csd ++ csr) ∧ TAt wr D ((TM.ren (fun a => by_ - a) ks).tk j) Sd csd ∧ TAt wr D (ks.dr j) Sr csr
      ∧ (∀ g, Sd g → (S g ∧ g < w.heap.size) ∧ (Value.slice A1 N c1).ownBlock ≠ some g ∧ (Value.slice P3 L3 p3).ownBlock ≠ some g) ∧ (∀ g, Sr g → (S g ∧ g < w.heap.size) ∧ (Value.slice A1 N c1).ownBlock ≠ some g ∧ (Value.slice P3 L3 p3).ownBlock ≠ some g) ∧ (∀ g, Sd g → Sr g → False)
      ∧ Own wr 0 (.slice P3 L3 p3) (ps.map (fun a => by_ - a)) ∧ InD wr D (.slice I7 L7 q7) d.is ∧ Lies wr w.heap.size 28 [.int .i64 k, .int .i64 nn, .string ⟨s.toArray⟩, .slice P3 L3 p3, .int .i64 d.k, .int .i64 d.n, .string ⟨d.s.toArray⟩, .slice I7 L7 q7, .slice A1 N c1] ∧ Lies wr (w.heap.size + 1) 28 [.int .i64 0, .int .i64 0, .string ⟨#[]⟩, .slice none 0 0, .int .i64 0, .int .i64 0, .string ⟨#[]⟩, .slice none 0 0, .slice none 0 0] ∧ Turns (fun g => S g ∧ g < w.heap.size) w wr) (fun i _ => N - (intOf i).toNat)
  case atStart =>
    refine ⟨0, [], c0, fun _ => False, _, Nat.zero_le _, rfl, hRow0.out, ?_, ?_, fun _ h => h.elim, fun _ h => h, fun _ h _ => h, hO5.out, hI0.out, hM1, hM2, hTS'.out⟩
    · rw [Tl.tk_zero]; rfl
    · rw [Tl.dr_zero]; exact hAt0.out
  case round =>
    clear y8 hM1 hM2 hRow0 hAt0 hI0 hTS' hO5
    obtain ⟨j, csd, csr, Sd, Sr, hj, rfl, hOr, hAd, hAr, hSd, hSr, hdj, hPr, hIr, hMb, hMr, hTr⟩ := hrel
    have hOr' := Lib.hid hOr
    have hAd' := Lib.hid hAd
    have hAr' := Lib.hid hAr
    have hSd' := Lib.hid hSd
    have hSr' := Lib.hid hSr
    have hdj' := Lib.hid hdj
    have hPr' := Lib.hid hPr
    have hIr' := Lib.hid hIr
    have hTr' := Lib.hid hTr
    have y8 : wr.cell? ⟨w.heap.size, 8, none⟩ = some (.slice A1 N c1) := hMb.cell 8
    clear hOr hAd hAr hSd hSr hdj hPr hIr hTr
    by_cases hlt : j < N
    · obtain ⟨x, hx⟩ := ks.at_some j (by rw [hN'.out]; exact hlt)
      obtain ⟨S1, S2, vp5, vi5, vk5, csq, hcs, hS1, hS2, hS12, hT5, hRw2⟩ := hAr'.out.split hx
      have hcl : csd.length = j * 9 := by have h1 := hAd'.out.len; rw [Tl.tk_len _ j (by rw [TM.ren_len, hN'.out]; exact hj)] at h1; exact h1
      obtain ⟨P5, m5, p5, rfl⟩ : ∃ A m c, vp5 = .slice A m c := by obtain ⟨A, c, e⟩ := hT5.tmin.p.read; exact ⟨_, _, _, e⟩
      obtain ⟨I5, l5, q5, rfl⟩ : ∃ A m c, vi5 = .slice A m c := by obtain ⟨A, c, e⟩ := hT5.tmin.d.read; exact ⟨_, _, _, e⟩
      obtain ⟨K5, n5, r5, rfl⟩ : ∃ A m c, vk5 = .slice A m c := by obtain ⟨A, c, e⟩ := hT5.tmin.k.read; exact ⟨_, _, _, e⟩
      subst hcs
      have hOr2 := hOr'.out
      obtain ⟨A9, c9, e9, hrd⟩ := own_read hOr2
      obtain ⟨g, hB9, -, hg2, hg0⟩ := hrd (j * 9) (by omega)
      have hB5 : A1 = some ⟨g, 0, none⟩ := by injection e9 with e; rw [e, hB9]
      subst hB5
      have rc : ∀ i u, (tcells x (.slice P5 m5 p5) (.slice I5 l5 q5) (.slice K5 n5 r5))[i]? = some u → i < 9 → wr.drew.cell? ⟨g, j * 9 + i, none⟩ = some u := fun i u hu hi => by
        show wr.cell? _ = _
        rw [hOr2.cellAt (j * 9 + i) (by omega), List.getElem?_append_right (by omega), hcl, Nat.add_sub_cancel_left, List.getElem?_append_left (by simp [tcells]; omega)]
        exact hu
      have c10 := rc 0 _ rfl (by omega)
      have c11 := rc 1 _ rfl (by omega)
      have c12 := rc 2 _ rfl (by omega)
      have c13 := rc 3 _ rfl (by omega)
      have c14 := rc 4 _ rfl (by omega)
      have c15 := rc 5 _ rfl (by omega)
      have c16 := rc 6 _ rfl (by omega)
      have c17 := rc 7 _ rfl (by omega)
      have c18 := rc 8 _ rfl (by omega)
      rw [Nat.add_zero] at c10
      have hgS := hkS'.out g rfl
      have hgw : g < w.heap.size := hgS.2
      have htk := Tl.tk_snoc _ j _ (TM.ren_at (fun a => by_ - a) hx)
      have hT5' := Lib.hid hT5
      have hS1' := Lib.hid hS1
      have hC := Lib.hid (fun (w' : World) (hsz' : w.heap.size ≤ w'.heap.size) (ht : TmOwn w' D S1 x (.slice P5 m5 p5) (.slice I5 l5 q5) (.slice K5 n5 r5)) => hR'.out j x hx w' D S1 _ _ _ by_ ht (fun g' _ h1 h2 => hSD'.out g' (hSr'.out g' (hS1'.out g' h1)).1.2 (hSr'.out g' (hS1'.out g' h1)).1.1 h2) (fun g' h1 => Nat.lt_of_lt_of_le (hdd.out g' h1) hsz') hby0 hby1 (TM.shb_in hsb3'.out hx))
      have hTk := Lib.hid (hT5.turns ((Turns.refl (fun _ => False) wr).drew) (fun _ _ _ h => h) (fun _ _ _ h => h))
      have hshe : TM.ren1 (fun a => by_ - a) x = TM.sh by_ x := rfl
      rw [hshe] at htk
      unfold ShN at hC
      generalize TM.sh by_ x = z at hC htk
      unfold tmv at hC
      have htk' := Lib.hid htk
      have hRw3 := Lib.hid hRw2
      have hcl' := Lib.hid hcl
      have hOr3 := Lib.hid hOr2
      have hS2' := Lib.hid hS2
      have hS12' := Lib.hid hS12
      have hgS' := Lib.hid hgS
      have hwr : w.heap.size + 1 < wr.heap.size := hMr.lt
      clear rc hrd htk hT5 hRw2 hcl hx hOr2 hB9 hg0 hAr' e9 hOr' hS1 hS2 hS12 hgS hshe
      go_wp2_with fail
      refine wp_region_held_drew (S := fun w' => Lies w' w.heap.size 28 [.int .i64 k, .int .i64 nn, .string ⟨s.toArray⟩, .slice P3 L3 p3, .int .i64 d.k, .int .i64 d.n, .string ⟨d.s.toArray⟩, .slice I7 L7 q7, .slice (some ⟨g, 0, none⟩) N c1]) rfl hMb.drew (fun hHeld => ?_)
      refine wpAnyH_take (i := 0) (oi := { dst := some 44, op := Go.Op.fieldAddr 28 (Go.Operand.tmp 2) 5, type := 0, pos := "law.go:62", after := #[], guard := none }) (v := ?_) rfl (by kernel_rfl) (by kernel_rfl) (by kernel_rfl) (fun _ _ _ h => h) (Or.inl ⟨by rfl, ?_⟩) (by assumption) ?_
      rotate_left
      · intro w hSw; clear hSw; go_simp; try with_reducible rfl
      try simp only [Act.put, List.setIfInBounds_toArray, List.set_cons_zero, List.set_cons_succ]
      refine wpAnyH_take (i := 1) (oi := { dst := some 45, op := Go.Op.load 26 (Go.Operand.tmp 44), type := 26, pos := "law.go:62", after := #[{ on := 0, ground := Go.Ground.data }], guard := none }) (v := ?_) rfl (by kernel_rfl) (by kernel_rfl) (by kernel_rfl) (fun _ _ _ h => h) (Or.inl ⟨by rfl, ?_⟩) (by assumption) ?_
      rotate_left
      · intro w7 hS7
        have k8 := hS7.cell 8
        simp only [List.getElem?_cons_succ, List.getElem?_cons_zero] at k8
        clear hS7
        go_simp
        try with_reducible rfl
      try simp only [Act.put, List.setIfInBounds_toArray, List.set_cons_zero, List.set_cons_succ]
      refine wpAnyH_take (i := 2) (oi := { dst := some 46, op := Go.Op.move (Go.Operand.tmp 6), type := 3, pos := "law.go:62", after := #[], guard := none }) (v := ?_) rfl (by kernel_rfl) (by kernel_rfl) (by kernel_rfl) (fun _ _ _ h => h) (Or.inl ⟨by rfl, ?_⟩) (by assumption) ?_
      rotate_left
      · intro w hSw; clear hSw; go_simp; try with_reducible rfl
      try simp only [Act.put, List.setIfInBounds_toArray, List.set_cons_zero, List.set_cons_succ]
      refine wpAnyH_take (i := 3) (oi := { dst := some 47, op := Go.Op.fieldAddr 28 (Go.Operand.tmp 2) 5, type := 0, pos := "law.go:62", after := #[], guard := none }) (v := ?_) rfl (by kernel_rfl) (by kernel_rfl) (by kernel_rfl) (fun _ _ _ h => h) (Or.inl ⟨by rfl, ?_⟩) (by assumption) ?_
      rotate_left
      · intro w hSw; clear hSw; go_simp; try with_reducible rfl
      try simp only [Act.put, List.setIfInBounds_toArray, List.set_cons_zero, List.set_cons_succ]
      refine wpAnyH_take (i := 4) (oi := { dst := some 48, op := Go.Op.load 26 (Go.Operand.tmp 47), type := 26, pos := "law.go:62", after := #[{ on := 3, ground := Go.Ground.data }], guard := none }) (v := ?_) rfl (by kernel_rfl) (by kernel_rfl) (by kernel_rfl) (fun _ _ _ h => h) (Or.inl ⟨by rfl, ?_⟩) (by assumption) ?_
      rotate_left
      · intro w7 hS7
        have k8 := hS7.cell 8
        simp only [List.getElem?_cons_succ, List.getElem?_cons_zero] at k8
        clear hS7
        go_simp
        try with_reducible rfl
      try simp only [Act.put, List.setIfInBounds_toArray, List.set_cons_zero, List.set_cons_succ]
      refine wpAnyH_take (i := 5) (oi := { dst := some 49, op := Go.Op.move (Go.Operand.tmp 6), type := 3, pos := "law.go:62", after := #[], guard := none }) (v := ?_) rfl (by kernel_rfl) (by kernel_rfl) (by kernel_rfl) (fun _ _ _ h => h) (Or.inl ⟨by rfl, ?_⟩) (by assumption) ?_
      rotate_left
      · intro w hSw; clear hSw; go_simp; try with_reducible rfl
      try simp only [Act.put, List.setIfInBounds_toArray, List.set_cons_zero, List.set_cons_succ]
      refine wpAnyH_take (i := 6) (oi := { dst := some 50, op := Go.Op.indexAddr 26 (Go.Operand.tmp 48) (Go.Operand.tmp 49), type := 0, pos := "law.go:62", after := #[{ on := 4, ground := Go.Ground.data }, { on := 5, ground := Go.Ground.data }], guard := none }) (v := ?_) rfl (by kernel_rfl) (by kernel_rfl) (by kernel_rfl) (fun _ _ _ h => h) (Or.inl ⟨by rfl, ?_⟩) (by assumption) ?_
      rotate_left
      · intro w hSw; clear hSw; go_simp; try with_reducible rfl
      try simp only [Act.put, List.setIfInBounds_toArray, List.set_cons_zero, List.set_cons_succ]
      refine wpAnyH_take (i := 8) (oi := { dst := some 52, op := Go.Op.move (Go.Operand.tmp 1), type := 3, pos := "law.go:62", after := #[], guard := none }) (v := ?_) rfl (by kernel_rfl) (by kernel_rfl) (by kernel_rfl) (fun _ _ _ h => h) (Or.inl ⟨by rfl, ?_⟩) (by assumption) ?_
      rotate_left
      · intro w hSw; clear hSw; go_simp; try with_reducible rfl
      try simp only [Act.put, List.setIfInBounds_toArray, List.set_cons_zero, List.set_cons_succ]
      refine wpAnyH_ready (rs := [7]) (by kernel_rfl) (by simp) ?_
      refine AllReadyH.cons (o := { dst := some 51, op := Go.Op.load 28 (Go.Operand.tmp 50), type := 28, pos := "law.go:62", after := #[{ on := 6, ground := Go.Ground.data }], guard := none }) rfl (fun K hK => ?_) AllReadyH.nil
      rw [if_pos (by rfl)]
      go_simp
      refine hK.out _ _ hHeld (fun hHeld => ?_)
      clear hK K
      try simp only [Act.put, List.setIfInBounds_toArray, List.set_cons_zero, List.set_cons_succ]
      refine wpAnyH_ready (rs := [9]) (by kernel_rfl) (by simp) ?_
      refine AllReadyH.cons (o := { dst := some 53, op := Go.Op.call { callee := Go.Callee.value (Go.Operand.func 24), args := #[Go.Operand.tmp 51, Go.Operand.tmp 52], argTypes := #[28, 3] }, type := 28, pos := "law.go:62", after := #[{ on := 7, ground := Go.Ground.data }, { on := 8, ground := Go.Ground.data }], guard := none }) rfl (fun K hK => ?_) AllReadyH.nil
      rw [if_pos (by rfl)]
      go_simp
      refine (hC.out _ (by show w.heap.size ≤ wr.heap.size; omega) hTk.out).mono ?_
      rintro e w7 ⟨rfl, hTo, hb7⟩
      have Tb : Turns S1 wr w7 := (Turns.refl S1 wr).drew.then hb7 (fun _ _ h => h)
      have hMb7 := hMb.turns Tb (fun h => by have := (hSr'.out _ (hS1'.out _ h)).1.2; omega)
      have hOr7 := own_turns hOr3.out Tb (fun g' hg' h => (hSr'.out _ (hS1'.out _ h)).2.1 hg')
      have hfr7 : ∀ i, w7.frozen? ⟨g, i, none⟩ = false := fun i => hOr7.frozenAt i
      have rc7 : ∀ i u, (tcells x (.slice P5 m5 p5) (.slice I5 l5 q5) (.slice K5 n5 r5))[i]? = some u → i < 9 → w7.cell? ⟨g, j * 9 + i, none⟩ = some u := fun i u hu hi => by
        rw [hOr7.cellAt (j * 9 + i) (by omega), List.getElem?_append_right (by rw [hcl'.out]; omega), hcl'.out, Nat.add_sub_cancel_left, List.getElem?_append_left (by simp [tcells]; omega)]
        exact hu
      have e10 := rc7 0 _ rfl (by omega)
      have e11 := rc7 1 _ rfl (by omega)
      have e12 := rc7 2 _ rfl (by omega)
      have e13 := rc7 3 _ rfl (by omega)
      have e14 := rc7 4 _ rfl (by omega)
      have e15 := rc7 5 _ rfl (by omega)
      have e16 := rc7 6 _ rfl (by omega)
      have e17 := rc7 7 _ rfl (by omega)
      have e18 := rc7 8 _ rfl (by omega)
      rw [Nat.add_zero] at e10
      have R7 := Lib.hid (And.intro hTo (And.intro Tb (And.intro hOr7 hMb7)))
      clear hTo hb7 Tb hOr7 rc7 hHeld
      refine hK.out _ _ hMb7 (fun hHeld => ?_)
      clear hK K
      try simp only [Act.put, List.setIfInBounds_toArray, List.set_cons_zero, List.set_cons_succ]
      refine wpAnyH_take (i := 10) (oi := { dst := some 54, op := Go.Op.indexAddr 26 (Go.Operand.tmp 45) (Go.Operand.tmp 46), type := 0, pos := "law.go:62", after := #[{ on := 1, ground := Go.Ground.data }, { on := 2, ground := Go.Ground.data }, { on := 0, ground := Go.Ground.phase }, { on := 1, ground := Go.Ground.phase }, { on := 2, ground := Go.Ground.phase }, { on := 3, ground := Go.Ground.phase }, { on := 4, ground := Go.Ground.phase }, { on := 5, ground := Go.Ground.phase }, { on := 6, ground := Go.Ground.phase }, { on := 7, ground := Go.Ground.phase }, { on := 8, ground := Go.Ground.phase }, { on := 9, ground := Go.Ground.phase }], guard := none }) (v := ?_) rfl (by kernel_rfl) (by kernel_rfl) (by kernel_rfl) (fun _ _ _ h => h) (Or.inl ⟨by rfl, ?_⟩) (by assumption) ?_
      rotate_left
      · intro w hSw; clear hSw; go_simp; try with_reducible rfl
      try simp only [Act.put, List.setIfInBounds_toArray, List.set_cons_zero, List.set_cons_succ]
      refine wpAnyH_ready (rs := [11]) (by kernel_rfl) (by simp) ?_
      refine AllReadyH.cons (o := { dst := none, op := Go.Op.store 28 (Go.Operand.tmp 54) (Go.Operand.tmp 53), type := 0, pos := "law.go:62", after := #[{ on := 10, ground := Go.Ground.data }, { on := 9, ground := Go.Ground.data }, { on := 9, ground := Go.Ground.chain }, { on := 0, ground := Go.Ground.phase }, { on := 1, ground := Go.Ground.phase }, { on := 2, ground := Go.Ground.phase }, { on := 3, ground := Go.Ground.phase }, { on := 4, ground := Go.Ground.phase }, { on := 5, ground := Go.Ground.phase }, { on := 6, ground := Go.Ground.phase }, { on := 7, ground := Go.Ground.phase }, { on := 8, ground := Go.Ground.phase }, { on := 9, ground := Go.Ground.phase }], guard := none }) rfl (fun K hK => ?_) AllReadyH.nil
      rw [if_pos (by rfl)]
      go_simp
      have hHn := nine_far hHeld (g := g) (by omega) (j * 9) (.int .i64 z.k) (.int .i64 z.n) (.string ⟨z.s.toArray⟩) (.slice P5 m5 p5) (.int .i64 z.d.k) (.int .i64 z.d.n) (.string ⟨z.d.s.toArray⟩) (.slice I5 l5 q5) (.slice K5 n5 r5)
      clear hHeld
      refine hK.out _ _ hHn (fun hHeld => ?_)
      clear hK K
      try simp only [Act.put, List.setIfInBounds_toArray, List.set_cons_zero, List.set_cons_succ]
      refine wpAnyH_done (by kernel_rfl) ?_ _
      obtain ⟨hTo, Tb, hOr7, hMb7⟩ := R7.out
      clear hHeld c10 c11 c12 c13 c14 c15 c16 c17 c18 e10 e11 e12 e13 e14 e15 e16 e17 e18 hfr7
      have T9 := nine_turns (Tb.mono (Y := fun k => S1 k ∨ k = g) (fun _ _ h => .inl h)) (g := g) (fun _ => .inr rfl) (j * 9) (.int .i64 z.k) (.int .i64 z.n) (.string ⟨z.s.toArray⟩) (.slice P5 m5 p5) (.int .i64 z.d.k) (.int .i64 z.d.n) (.string ⟨z.d.s.toArray⟩) (.slice I5 l5 q5) (.slice K5 n5 r5)
      have T7 := nine_turns (Turns.refl (fun k => k = g) w7) (g := g) (fun _ => rfl) (j * 9) (.int .i64 z.k) (.int .i64 z.n) (.string ⟨z.s.toArray⟩) (.slice P5 m5 p5) (.int .i64 z.d.k) (.int .i64 z.d.n) (.string ⟨z.d.s.toArray⟩) (.slice I5 l5 q5) (.slice K5 n5 r5)
      have nS1 : ∀ g', S1 g' → g' ≠ g := fun g' h e => (hSr'.out _ (hS1'.out _ h)).2.1 (by rw [e]; rfl)
      have nSd : ∀ g', Sd g' → g' ≠ g := fun g' h e => (hSd'.out _ h).2.1 (by rw [e]; rfl)
      have nD : ∀ g', D g' → g' ≠ g := fun g' h e => hSD'.out g hgS'.out.2 hgS'.out.1 (e ▸ h)
      have hMbf := Lib.hid (nine_far hMb7 (g := g) (by omega) (j * 9) (.int .i64 z.k) (.int .i64 z.n) (.string ⟨z.s.toArray⟩) (.slice P5 m5 p5) (.int .i64 z.d.k) (.int .i64 z.d.n) (.string ⟨z.d.s.toArray⟩) (.slice I5 l5 q5) (.slice K5 n5 r5))
      have hOf := Lib.hid (nine_row hOr7 hcl'.out (.int .i64 z.k) (.int .i64 z.n) (.string ⟨z.s.toArray⟩) (.slice P5 m5 p5) (.int .i64 z.d.k) (.int .i64 z.d.n) (.string ⟨z.d.s.toArray⟩) (.slice I5 l5 q5) (.slice K5 n5 r5))
      have hTo9 := hTo.turns T7 (fun g' _ hs he => nS1 g' hs he) (fun g' _ hs he => nD g' hs he)
      have hAw := TAt.turns T9 (fun g' _ hs he => by
        rcases he with he | he
        · exact hdj'.out g' hs (hS1'.out g' he)
        · exact nSd g' hs he) (fun g' _ hs he => by
        rcases he with he | he
        · exact hSD'.out g' (hSr'.out _ (hS1'.out _ he)).1.2 (hSr'.out _ (hS1'.out _ he)).1.1 hs
        · exact nD g' hs he) hAd'.out
      have hAf := Lib.hid (TAt.app hAw hTo9.at_ (fun g' _ h1 h2 => hdj'.out g' h1 (hS1'.out g' h2)))
      have hArf := Lib.hid (TAt.turns T9 (fun g' _ hs he => by
        rcases he with he | he
        · exact hS12'.out g' he hs
        · exact (hSr'.out _ (hS2'.out _ hs)).2.1 (by rw [he]; rfl)) (fun g' _ hs he => by
        rcases he with he | he
        · exact hSD'.out g' (hSr'.out _ (hS1'.out _ he)).1.2 (hSr'.out _ (hS1'.out _ he)).1.1 hs
        · exact nD g' hs he) hRw3.out)
      have hPf := Lib.hid (hPr'.out.turns T9 (fun g' hg' he => by
        rcases he with he | he
        · exact (hSr'.out _ (hS1'.out _ he)).2.2 hg'
        · subst he
          exact own_differ hPr'.out hOr3.out hg' rfl))
      have hIf := Lib.hid (hIr'.out.agr (Agr.of_turns T9 (fun g' _ hs he => by
        rcases he with he | he
        · exact hSD'.out g' (hSr'.out _ (hS1'.out _ he)).1.2 (hSr'.out _ (hS1'.out _ he)).1.1 hs
        · exact nD g' hs he)))
      have hMrf := Lib.hid (hMr.turns T9 (fun he => by
        rcases he with he | he
        · have := (hSr'.out _ (hS1'.out _ he)).1.2; omega
        · omega))
      have hTf := Lib.hid (hTr'.out.then T9 (fun i hi he => by
        rcases he with he | he
        · exact (hSr'.out _ (hS1'.out _ he)).1
        · subst he; exact hgS'.out))
      clear hTo Tb hMb7 hOr7 T9 T7 hTo9 hAw R7 nS1 nSd nD
      go_wp2_with fail
      go_roundw
      case rel =>
        refine ⟨j + 1, _, csq, fun g' => Sd g' ∨ S1 g', S2, by omega, by go_num, hOf.out, ?_, hArf.out, fun g' h => h.elim (hSd'.out g') (fun h => hSr'.out g' (hS1'.out g' h)), fun g' h => hSr'.out g' (hS2'.out g' h), fun g' h1 h2 => h1.elim (fun h => hdj'.out g' h (hS2'.out g' h2)) (fun h => hS12'.out g' h h2), hPf.out, hIf.out, hMbf.out, hMrf.out, hTf.out⟩
        rw [htk'.out]; exact hAf.out
      case measure => simp [intOf]; omega
    · obtain rfl : j = N := by omega
      have hcr : csr = [] := by have h := hAr'.out; rw [Tl.dr_end ks j (by rw [hN'.out]; exact Nat.le_refl _)] at h; exact h
      have hall : (TM.ren (fun a => by_ - a) ks).tk j = TM.ren (fun a => by_ - a) ks := by rw [← hN'.out, ← TM.ren_len (fun a => by_ - a) ks]; exact Tl.tk_all _
      subst hcr
      have hOr2 := hOr'.out
      rw [List.append_nil] at hOr2
      have hOr3 := Lib.hid hOr2
      have hall' := Lib.hid hall
      have z0 := hMb.cell 0
      have fz0 := hMr.free 0
      have cz0 := hMr.cell 0
      have z1 := hMb.cell 1
      have fz1 := hMr.free 1
      have cz1 := hMr.cell 1
      have z2 := hMb.cell 2
      have fz2 := hMr.free 2
      have cz2 := hMr.cell 2
      have z3 := hMb.cell 3
      have fz3 := hMr.free 3
      have cz3 := hMr.cell 3
      have z4 := hMb.cell 4
      have fz4 := hMr.free 4
      have cz4 := hMr.cell 4
      have z5 := hMb.cell 5
      have fz5 := hMr.free 5
      have cz5 := hMr.cell 5
      have z6 := hMb.cell 6
      have fz6 := hMr.free 6
      have cz6 := hMr.cell 6
      have z7 := hMb.cell 7
      have fz7 := hMr.free 7
      have cz7 := hMr.cell 7
      have z8 := hMb.cell 8
      have fz8 := hMr.free 8
      have cz8 := hMr.cell 8
      have hltr := hMr.lt
      simp only [List.getElem?_cons_succ, List.getElem?_cons_zero] at z0 z1 z2 z3 z4 z5 z6 z7 z8 cz0 cz1 cz2 cz3 cz4 cz5 cz6 cz7 cz8
      clear hOr2 hall y8 hOr' hAr'
      go_wp2_with fail
      have Tz := nine_turns (Turns.refl (fun k => k = w.heap.size + 1) wr) (g := w.heap.size + 1) (fun _ => rfl) 0 (.int .i64 k) (.int .i64 nn) (.string ⟨s.toArray⟩) (.slice P3 L3 p3) (.int .i64 d.k) (.int .i64 d.n) (.string ⟨d.s.toArray⟩) (.slice I7 L7 q7) (.slice A1 j c1)
      have hTz := (hTr'.out.mono (Y := S) (fun _ _ h => h.1)).then Tz (fun i hi he => by omega)
      have hMz := nine_res hMr (w.heap.size + 1) rfl (.int .i64 k) (.int .i64 nn) (.string ⟨s.toArray⟩) (.slice P3 L3 p3) (.int .i64 d.k) (.int .i64 d.n) (.string ⟨d.s.toArray⟩) (.slice I7 L7 q7) (.slice A1 j c1)
      have rz0 := hMz.cell 0
      have rz1 := hMz.cell 1
      have rz2 := hMz.cell 2
      have rz3 := hMz.cell 3
      have rz4 := hMz.cell 4
      have rz5 := hMz.cell 5
      have rz6 := hMz.cell 6
      have rz7 := hMz.cell 7
      have rz8 := hMz.cell 8
      unfold nine at rz0 rz1 rz2 rz3 rz4 rz5 rz6 rz7 rz8
      simp only [List.getElem?_cons_succ, List.getElem?_cons_zero, Nat.zero_add] at rz0 rz1 rz2 rz3 rz4 rz5 rz6 rz7 rz8
      refine bodyPost_ret (v := .agg #[.int .i64 k, .int .i64 nn, .string ⟨s.toArray⟩, .slice P3 L3 p3, .int .i64 d.k, .int .i64 d.n, .string ⟨d.s.toArray⟩, .slice I7 L7 q7, .slice A1 j c1]) (by simp [results, Tryz.results24, go_sem, rz0, rz1, rz2, rz3, rz4, rz5, rz6, rz7, rz8]) rfl ⟨rfl, ⟨csd, ?_, ?_, ?_, ?_, ?_, ?_⟩, hTz⟩
      · exact hPr'.out.turns Tz (fun g' hg' he => by have h1 := hpS'.out g' hg'; omega)
      · exact fun g' hg' => (hpS'.out g' hg').1
      · exact hIr'.out.agr (Agr.of_turns Tz (fun g' hg h e => by have := hdd.out g' h; omega))
      · have h1 := own_turns hOr3.out Tz (fun g' hg' he => by have h1 := hkS'.out g' hg'; omega)
        show World.ownsRow _ 0 _ 9 _ (TM.ren (fun a => by_ - a) ks).len csd
        rw [TM.ren_len, hN'.out]
        exact h1
      · exact fun g' hg' => (hkS'.out g' hg').1
      · have h1 := hAd'.out
        rw [hall'.out] at h1
        have h2 := TAt.turns Tz (fun g' _ hs he => by have h3 := (hSd'.out g' hs).1.2; omega) (fun g' _ hs he => by have := hdd.out g' hs; omega) h1
        exact TAt.mono (fun g' _ hs => ⟨(hSd'.out g' hs).1.1, (hSd'.out g' hs).2.1, (hSd'.out g' hs).2.2⟩) h2
theorem shifted_any (t : Tm) : ShOk t := Tl.all_one ShOk sh_step t
end Go.Proofs.YtpiekdcbjkgipaaGreatDoor
