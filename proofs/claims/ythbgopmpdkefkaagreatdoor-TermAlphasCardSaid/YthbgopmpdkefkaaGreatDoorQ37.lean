/- The reference of layer 10: Alpha. -/
import Derived.Test.YthbgopmpdkefkaaGreatDoorQ35
import Derived.Test.YthbgopmpdkefkaaGreatDoorQ36
namespace Go.Proofs.YthbgopmpdkefkaaGreatDoor
open Go.ChangeShapes Go.WideShapes Go.ChangeAt Go.RowKit Go.Deep
open TM (Tl Tm)

set_option maxRecDepth 100000 in
set_option maxHeartbeats 4000000 in
theorem ralpha_any (t : Tm) (w : World) (vp vi vk : Value) (h : TmIn w t vp vi vk) (hsd : TM.sd1 t = true) (hsz : TM.sz t.ks ≤ 5000) (hmany : (t.ps ++ TM.prs t.ks).length ≤ 1000000) :
    Calls Tryz.prog 21 #[tmv t vp vi vk] w fun e w' => ∃ vp' vi' vk', e = .returned (tmv (TM.alpha t) vp' vi' vk') ∧ TmIn w' (TM.alpha t) vp' vi' vk' ∧ Went w w' := by
  have hM := Lib.hid (fun (w' : World) (hb : Below w.heap.size w w') => params_any t w' vp vi vk (h.below hb) hmany)
  have hN := Lib.hid (fun (w' : World) (hb : Below w.heap.size w w') (vl : Value) (hl : PIn w' vl (t.ps ++ TM.prs t.ks)) => numbered_any t w' vl (t.ps ++ TM.prs t.ks) vp vi vk (h.below hb) hl hsd hsz)
  have hal : TM.nm1 (t.ps ++ TM.prs t.ks) t = TM.alpha t := rfl
  rw [hal] at hN
  unfold tmv at hM hN ⊢
  have hL1 := (Lies.made w 28 #[.int .i64 t.k, .int .i64 t.n, .string ⟨t.s.toArray⟩, vp, .int .i64 t.d.k, .int .i64 t.d.n, .string ⟨t.d.s.toArray⟩, vi, vk]).alloc (.cells #[.int .i64 0, .int .i64 0, .string ⟨#[]⟩, .slice none 0 0, .int .i64 0, .int .i64 0, .string ⟨#[]⟩, .slice none 0 0, .slice none 0 0] 28)
  have hz1 : (w.alloc (.cells #[.int .i64 t.k, .int .i64 t.n, .string ⟨t.s.toArray⟩, vp, .int .i64 t.d.k, .int .i64 t.d.n, .string ⟨t.d.s.toArray⟩, vi, vk] 28)).heap.size = w.heap.size + 1 := by simp
  have hL2 := Lies.made (w.alloc (.cells #[.int .i64 t.k, .int .i64 t.n, .string ⟨t.s.toArray⟩, vp, .int .i64 t.d.k, .int .i64 t.d.n, .string ⟨t.d.s.toArray⟩, vi, vk] 28)) 28 #[.int .i64 0, .int .i64 0, .string ⟨#[]⟩, .slice none 0 0, .int .i64 0, .int .i64 0, .string ⟨#[]⟩, .slice none 0 0, .slice none 0 0]
  rw [hz1] at hL2
  have hba : Below w.heap.size w ((w.alloc (.cells #[.int .i64 t.k, .int .i64 t.n, .string ⟨t.s.toArray⟩, vp, .int .i64 t.d.k, .int .i64 t.d.n, .string ⟨t.d.s.toArray⟩, vi, vk] 28)).alloc (.cells #[.int .i64 0, .int .i64 0, .string ⟨#[]⟩, .slice none 0 0, .int .i64 0, .int .i64 0, .string ⟨#[]⟩, .slice none 0 0, .slice none 0 0] 28)) := ((Below.refl _ w).alloc (Nat.le_refl _) _).alloc (by simp) _
  obtain ⟨W2, hW2⟩ : ∃ W2, ((w.alloc (.cells #[.int .i64 t.k, .int .i64 t.n, .string ⟨t.s.toArray⟩, vp, .int .i64 t.d.k, .int .i64 t.d.n, .string ⟨t.d.s.toArray⟩, vi, vk] 28)).alloc (.cells #[.int .i64 0, .int .i64 0, .string ⟨#[]⟩, .slice none 0 0, .int .i64 0, .int .i64 0, .string ⟨#[]⟩, .slice none 0 0, .slice none 0 0] 28)) = W2 := ⟨_, rfl⟩
  rw [hW2] at hL1 hL2 hba
  have hbd := below_drew1 hba
  have hlt2 : w.heap.size + 1 < W2.heap.size := hL2.lt
  clear h hz1 hal hsd hsz hmany
  go_enter Tryz.func21, Tryz.ntmps21
  go_upto_region 1 with fail
  refine wp_region_held_drew (S := fun w' => Lies w' w.heap.size 28 [.int .i64 t.k, .int .i64 t.n, .string ⟨t.s.toArray⟩, vp, .int .i64 t.d.k, .int .i64 t.d.n, .string ⟨t.d.s.toArray⟩, vi, vk] ∧ w.heap.size + 1 < w'.heap.size) rfl ⟨hL1.drew, hlt2⟩ (fun hHeld => ?_)
  refine wpAnyH_take (i := 0) (oi := { dst := some 3, op := Go.Op.load 28 (Go.Operand.tmp 1), type := 28, pos := "ref.go:145", after := #[], guard := none }) (v := _) rfl (by kernel_rfl) (by kernel_rfl) (by kernel_rfl) (fun _ _ _ h => h) (Or.inl ⟨by rfl, fun w' hS => load_term w' _ _ _ _ _ _ _ _ _ _ _ _ _ rfl rfl hS.1⟩) (by assumption) ?_
  try simp only [Act.put, List.setIfInBounds_toArray, List.set_cons_zero, List.set_cons_succ]
  refine wpAnyH_take (i := 1) (oi := { dst := some 4, op := Go.Op.load 28 (Go.Operand.tmp 1), type := 28, pos := "ref.go:145", after := #[], guard := none }) (v := _) rfl (by kernel_rfl) (by kernel_rfl) (by kernel_rfl) (fun _ _ _ h => h) (Or.inl ⟨by rfl, fun w' hS => load_term w' _ _ _ _ _ _ _ _ _ _ _ _ _ rfl rfl hS.1⟩) (by assumption) ?_
  try simp only [Act.put, List.setIfInBounds_toArray, List.set_cons_zero, List.set_cons_succ]
  refine wpAnyH_ready (rs := [2]) (by kernel_rfl) (by simp) ?_
  refine AllReadyH.cons (o := { dst := some 5, op := Go.Op.call { callee := Go.Callee.value (Go.Operand.func 23), args := #[Go.Operand.tmp 4], argTypes := #[28] }, type := 22, pos := "ref.go:145", after := #[{ on := 1, ground := Go.Ground.data }], guard := none }) rfl (fun K hK => ?_) AllReadyH.nil
  rw [if_pos (by rfl)]
  go_simp
  refine (hM.out _ hbd).mono ?_
  rintro e w5 ⟨v5, rfl, hO5, hb5⟩
  obtain ⟨P5, m5, p5, rfl⟩ := slice_of hO5
  have hM5 := hHeld.1.below hb5 hHeld.1.lt
  have hR5 := hL2.drew.below hb5 hL2.lt
  have c5 := Lib.hid (hbd.trans (Below.mono hb5 hbd.size))
  have hp5 := Lib.hid hO5.pin
  have hs5 := hR5.lt
  clear hb5 hO5 hHeld
  refine hK.out _ _ ⟨hM5, hs5⟩ (fun hHeld => ?_)
  clear hK K
  try simp only [Act.put, List.setIfInBounds_toArray, List.set_cons_zero, List.set_cons_succ]
  refine wpAnyH_ready (rs := [3]) (by kernel_rfl) (by simp) ?_
  refine AllReadyH.cons (o := { dst := some 6, op := Go.Op.call { callee := Go.Callee.value (Go.Operand.func 43), args := #[Go.Operand.tmp 3, Go.Operand.tmp 5], argTypes := #[28, 22] }, type := 28, pos := "ref.go:145", after := #[{ on := 0, ground := Go.Ground.data }, { on := 2, ground := Go.Ground.data }, { on := 2, ground := Go.Ground.chain }], guard := none }) rfl (fun K hK => ?_) AllReadyH.nil
  rw [if_pos (by rfl)]
  go_simp
  refine (hN.out _ c5.out _ hp5.out).mono ?_
  rintro e w7 ⟨v1, v2, v3, rfl, hT7, hb7⟩
  obtain ⟨P6, m6, p6, rfl⟩ : ∃ A m c, v1 = .slice A m c := by obtain ⟨A, c, e⟩ := hT7.tmin.p.read; exact ⟨_, _, _, e⟩
  obtain ⟨I6, l6, q6, rfl⟩ : ∃ A m c, v2 = .slice A m c := by obtain ⟨A, c, e⟩ := hT7.tmin.d.read; exact ⟨_, _, _, e⟩
  obtain ⟨K6, n6, r6, rfl⟩ : ∃ A m c, v3 = .slice A m c := by obtain ⟨A, c, e⟩ := hT7.tmin.k.read; exact ⟨_, _, _, e⟩
  have hM7 := hHeld.1.below hb7 hHeld.1.lt
  have hR7 := hR5.below hb7 hR5.lt
  have c7 := Lib.hid (c5.out.trans (Below.mono hb7 c5.out.size))
  have hT7' := Lib.hid hT7
  have hs7 := hR7.lt
  have hs57 := hs5
  clear hb7 hT7 hHeld
  refine hK.out _ _ ⟨hM7, hs7⟩ (fun hHeld => ?_)
  clear hK K
  try simp only [Act.put, List.setIfInBounds_toArray, List.set_cons_zero, List.set_cons_succ]
  have cz0 := hR7.cell 0
  have fz0 := hR7.free 0
  have cz1 := hR7.cell 1
  have fz1 := hR7.free 1
  have cz2 := hR7.cell 2
  have fz2 := hR7.free 2
  have cz3 := hR7.cell 3
  have fz3 := hR7.free 3
  have cz4 := hR7.cell 4
  have fz4 := hR7.free 4
  have cz5 := hR7.cell 5
  have fz5 := hR7.free 5
  have cz6 := hR7.cell 6
  have fz6 := hR7.free 6
  have cz7 := hR7.cell 7
  have fz7 := hR7.free 7
  have cz8 := hR7.cell 8
  have fz8 := hR7.free 8
  simp only [List.getElem?_cons_succ, List.getElem?_cons_zero] at cz0 cz1 cz2 cz3 cz4 cz5 cz6 cz7 cz8
  refine wpAnyH_ready (rs := [4]) (by kernel_rfl) (by simp) ?_
  refine AllReadyH.cons (o := { dst := none, op := Go.Op.store 28 (Go.Operand.tmp 2) (Go.Operand.tmp 6), type := 0, pos := "ref.go:145", after := #[{ on := 3, ground := Go.Ground.data }, { on := 3, ground := Go.Ground.chain }, { on := 0, ground := Go.Ground.phase }, { on := 1, ground := Go.Ground.phase }, { on := 2, ground := Go.Ground.phase }, { on := 3, ground := Go.Ground.phase }], guard := none }) rfl (fun K hK => ?_) AllReadyH.nil
  rw [if_pos (by rfl)]
  go_simp
  have hF := nine_far hHeld.1 (g := w.heap.size + 1) (by omega) 0 (.int .i64 (TM.alpha t).k) (.int .i64 (TM.alpha t).n) (.string ⟨(TM.alpha t).s.toArray⟩) (.slice P6 m6 p6) (.int .i64 (TM.alpha t).d.k) (.int .i64 (TM.alpha t).d.n) (.string ⟨(TM.alpha t).d.s.toArray⟩) (.slice I6 l6 q6) (.slice K6 n6 r6)
  have hs9 := hs7
  refine hK.out _ _ ⟨hF, by simp; exact hs9⟩ (fun hHeld2 => ?_)
  clear hK K hHeld hHeld2 hF
  try simp only [Act.put, List.setIfInBounds_toArray, List.set_cons_zero, List.set_cons_succ]
  refine wpAnyH_done (by kernel_rfl) ?_ _
  go_wp2_with fail
  have T9 := nine_turns (Turns.refl (fun g => g = w.heap.size + 1) w7) (g := w.heap.size + 1) (fun _ => rfl) 0 (.int .i64 (TM.alpha t).k) (.int .i64 (TM.alpha t).n) (.string ⟨(TM.alpha t).s.toArray⟩) (.slice P6 m6 p6) (.int .i64 (TM.alpha t).d.k) (.int .i64 (TM.alpha t).d.n) (.string ⟨(TM.alpha t).d.s.toArray⟩) (.slice I6 l6 q6) (.slice K6 n6 r6)
  have hMz := nine_res hR7 (w.heap.size + 1) rfl (.int .i64 (TM.alpha t).k) (.int .i64 (TM.alpha t).n) (.string ⟨(TM.alpha t).s.toArray⟩) (.slice P6 m6 p6) (.int .i64 (TM.alpha t).d.k) (.int .i64 (TM.alpha t).d.n) (.string ⟨(TM.alpha t).d.s.toArray⟩) (.slice I6 l6 q6) (.slice K6 n6 r6)
  have rz0 := hMz.cell 0
  have rz1 := hMz.cell 1
  have rz2 := hMz.cell 2
  have rz3 := hMz.cell 3
  have rz4 := hMz.cell 4
  have rz5 := hMz.cell 5
  have rz6 := hMz.cell 6
  have rz7 := hMz.cell 7
  have rz8 := hMz.cell 8
  unfold nine at rz0 rz1 rz2 rz3 rz4 rz5 rz6 rz7 rz8
  simp only [List.getElem?_cons_succ, List.getElem?_cons_zero, Nat.zero_add] at rz0 rz1 rz2 rz3 rz4 rz5 rz6 rz7 rz8
  refine bodyPost_ret (v := .agg #[.int .i64 (TM.alpha t).k, .int .i64 (TM.alpha t).n, .string ⟨(TM.alpha t).s.toArray⟩, .slice P6 m6 p6, .int .i64 (TM.alpha t).d.k, .int .i64 (TM.alpha t).d.n, .string ⟨(TM.alpha t).d.s.toArray⟩, .slice I6 l6 q6, .slice K6 n6 r6]) (by simp [results, Tryz.results21, go_sem, rz0, rz1, rz2, rz3, rz4, rz5, rz6, rz7, rz8]) rfl ⟨.slice P6 m6 p6, .slice I6 l6 q6, .slice K6 n6 r6, rfl, ?_, ?_⟩
  · exact (hT7'.out.turns T9 (fun g hg hB => by have h9 := hg; omega)).tmin
  · exact ((Turns.of_below c7.out (fun _ => False)).then T9 (fun i hi he => by omega)).below (Nat.le_refl _) (fun _ h => h.elim)
end Go.Proofs.YthbgopmpdkefkaaGreatDoor
