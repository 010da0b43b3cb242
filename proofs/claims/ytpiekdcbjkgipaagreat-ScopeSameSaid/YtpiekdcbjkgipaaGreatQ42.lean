/- The reference of layer 10: right, some kinds of terms (A). -/
import Derived.Test.YtpiekdcbjkgipaaGreatQ41
import Derived.Deep.Cut
import Derived.Deep.CutRange
import Derived.Deep.CutBlock
import Derived.Deep.RegionLaw
namespace Go.Proofs.YtpiekdcbjkgipaaGreat
open Go.ChangeShapes Go.WideShapes Go.ChangeAt Go.RowKit Go.Deep
open TM (Tl Tm)

set_option maxRecDepth 100000 in
set_option maxHeartbeats 8000000 in
theorem rg_stepA (k n : Int) (s : List UInt8) (ps : List Int) (d : RM.Dm) (ks : Tl) (hR : ∀ i x, ks.at_ i = some x → RgOk x) (hkk : Hid (k = 1)) : RgOk ⟨k, n, s, ps, d, ks⟩ := by
  intro w vb bd vp vi vk h hbd hmany
  obtain ⟨dk, dn, dS, dis⟩ := d
  obtain ⟨P3, p3, rfl⟩ := h.p.read
  obtain ⟨I7, q7, rfl⟩ := h.d.read
  obtain ⟨A1, c1, rfl⟩ := h.k.read
  obtain ⟨Bb, cb, rfl⟩ := hbd.read
  have hlen := h.k.len
  have hTk := h.k
  have hTp := h.p
  have hTd := h.d
  simp only at hlen hTk hTp hTd hmany ⊢
  have hQ := Lib.hid (fun (w' : World) (hb : Below w.heap.size w w') => quoted10_any ⟨dk, dn, dS, dis⟩ w' _ (hTd.below hb))
  have hS := Lib.hid (rsym_any ⟨s.toArray⟩)
  have hH := Lib.hid (fun (w' : World) (hb : Below w.heap.size w w') => has_any w' _ bd n (hbd.below hb))
  obtain ⟨N, hN⟩ : ∃ N, ks.len = N := ⟨_, rfl⟩
  obtain ⟨L3, hL3⟩ : ∃ x, ps.length = x := ⟨_, rfl⟩
  obtain ⟨L7, hL7⟩ : ∃ x, dis.len = x := ⟨_, rfl⟩
  obtain ⟨Lb, hLb⟩ : ∃ x, bd.length = x := ⟨_, rfl⟩
  unfold tmv
  simp only
  unfold dtv at hQ
  rw [hN] at hlen hTk ⊢
  rw [hL3] at hTp
  rw [hL7] at hQ
  rw [hLb] at hbd hH
  rw [hL3, hL7, hLb]
  have hN' := Lib.hid hN
  have hR' := Lib.hid hR
  have hL := Lies.made w 28 #[.int .i64 k, .int .i64 n, .string ⟨s.toArray⟩, .slice P3 L3 p3, .int .i64 dk, .int .i64 dn, .string ⟨dS.toArray⟩, .slice I7 L7 q7, .slice A1 N c1]
  have hba : Below w.heap.size w (w.alloc (.cells #[.int .i64 k, .int .i64 n, .string ⟨s.toArray⟩, .slice P3 L3 p3, .int .i64 dk, .int .i64 dn, .string ⟨dS.toArray⟩, .slice I7 L7 q7, .slice A1 N c1] 28)) := (Below.refl _ w).alloc (Nat.le_refl _) _
  obtain ⟨W1, hW1⟩ : ∃ W1, w.alloc (.cells #[.int .i64 k, .int .i64 n, .string ⟨s.toArray⟩, .slice P3 L3 p3, .int .i64 dk, .int .i64 dn, .string ⟨dS.toArray⟩, .slice I7 L7 q7, .slice A1 N c1] 28) = W1 := ⟨_, rfl⟩
  rw [hW1] at hL hba
  have z0 := hL.cell 0
  have z1 := hL.cell 1
  have z2 := hL.cell 2
  have z3 := hL.cell 3
  have z4 := hL.cell 4
  have z5 := hL.cell 5
  have z6 := hL.cell 6
  have z7 := hL.cell 7
  have z8 := hL.cell 8
  simp only [List.getElem?_cons_succ, List.getElem?_cons_zero] at z0 z1 z2 z3 z4 z5 z6 z7 z8
  obtain ⟨b7, hb7⟩ : ∃ b7, TM.nod ⟨dk, dn, dS, dis⟩ = b7 := ⟨_, rfl⟩
  have hb70 := hb7
  unfold TM.nod at hb70
  simp only [hL7] at hb70
  have hb70' := Lib.hid hb70
  have hb7' := Lib.hid hb7
  obtain ⟨F, hF00⟩ : ∃ F, TM.fit bd ⟨k, n, s, ps, ⟨dk, dn, dS, dis⟩, ks⟩ = F := ⟨_, rfl⟩
  have hok1 : TM.ok1 bd ⟨k, n, s, ps, ⟨dk, dn, dS, dis⟩, ks⟩ = (F && TM.rtl (bd ++ ps) ks) := by rw [TM.ok1, hF00]
  rw [hok1]
  obtain ⟨G, hG⟩ : ∃ G, (F && TM.rtl (bd ++ ps) ks) = G := ⟨_, rfl⟩
  rw [hG]
  have hG' := Lib.hid hG
  have hm' := Lib.hid hmany
  clear hG
  have hFp0 : Hid (¬ k = 8 → F = true → bd = bd ++ ps) := Lib.hid (fun h8 hF => by
    rw [← hF00] at hF
    have := TM.fit_params hF h8
    simp only at this
    rw [this, List.append_nil])
  rw [TM.fit_bool bd k n s ps ⟨dk, dn, dS, dis⟩ ks N L3 hN hL3, hb7] at hF00
  generalize TM.quo ⟨dk, dn, dS, dis⟩ = qb at hQ hF00
  have hsym : LM.sym (⟨s.toArray⟩ : ByteArray).data.toList = LM.sym s := rfl
  rw [hsym] at hS
  generalize LM.sym s = sb at hS hF00
  generalize bd.contains n = cb1 at hH hF00
  have hF0 := Lib.hid hF00
  have hbd1 := hbd.below hba
  clear hN hR hL3 hL7 hLb hb70 hb7 h hTd hF00 hok1 hsym hbd
  go_enter Tryz.func27, Tryz.ntmps27
  go_upto_region 3 with fail
  go_cut [7] from 18 to 40 (fun s7 wx => s7 = .bool b7 ∧ W1 = wx)
  case first =>
    by_cases h1 : dk = 0
    · by_cases h2 : dn = 0
      · by_cases h3 : dS = []
        · by_cases h4 : L7 = 0
          · obtain rfl : b7 = true := by rw [← hb70'.out]; simp [h1, h2, h3, h4]
            subst h1 h2 h3 h4
            clear hb70'
            go_wp2_with fail
            go_meet
            case rel => exact ⟨rfl, rfl⟩
          · obtain rfl : b7 = false := by rw [← hb70'.out]; simp [h4]
            subst h1 h2 h3
            have q4 : ((L7 : Int) == 0) = false := by simp; exact h4
            clear hb70'
            go_wp2_with fail
            go_meet
            case rel => exact ⟨rfl, rfl⟩
        · obtain rfl : b7 = false := by rw [← hb70'.out]; simp [h3]
          obtain ⟨e1, e2, e3⟩ := str_ne h3
          subst h1 h2
          have q1 : ((⟨dS.toArray⟩ : ByteArray).toList == (⟨#[]⟩ : ByteArray).toList) = false := e1
          have q2 : dS.isEmpty = false := by cases dS <;> simp_all
          clear hb70' h3
          go_wp2_with fail
          go_meet
          case rel => exact ⟨rfl, rfl⟩
      · obtain rfl : b7 = false := by rw [← hb70'.out]; simp [h2]
        subst h1
        clear hb70'
        go_wp2_with fail
        go_meet
        case rel => exact ⟨rfl, rfl⟩
    · obtain rfl : b7 = false := by rw [← hb70'.out]; simp [h1]
      clear hb70'
      go_wp2_with fail
      go_meet
      case rel => exact ⟨rfl, rfl⟩
  case rest =>
    obtain ⟨rfl, rfl⟩ := hcut
    go_upto_block 0 with fail
    generalize s.isEmpty = b6 at hF0 ⊢
    generalize ((L3 : Int) == 0) = b8 at hF0 ⊢
    generalize (n == 0) = b9 at hF0 ⊢
    go_cut [1, 7, 10] from 50 to 208 (fun s1 s7 s10 wx => ∃ (ok dt : Bool) (bd2 : List Int) (B2 : Option Addr) (n2 c2 : Nat), s10 = .bool ok ∧ s7 = .bool dt ∧ s1 = .slice B2 n2 c2 ∧ PIn wx (.slice B2 n2 c2) bd2 ∧ Below w.heap.size w wx ∧ Lies wx w.heap.size 28 [.int .i64 k, .int .i64 n, .string ⟨s.toArray⟩, .slice P3 L3 p3, .int .i64 dk, .int .i64 dn, .string ⟨dS.toArray⟩, .slice I7 L7 q7, .slice A1 N c1] ∧ Hid ((ok && dt) = F) ∧ Hid (F = true → bd2 = bd ++ ps) ∧ Hid (bd2.length ≤ bd.length + ps.length))
    case first =>
      rcases hkk.out with rfl
      · have hF1 := hF0.out
        rw [if_pos rfl] at hF1
        have hF := Lib.hid hF1
        have hFp := Lib.hid (fun h => hFp0.out (by decide) h)
        clear hF0 hFp0 hF1
        rcases Bool.eq_false_or_eq_true (((N : Int) == 0)) with f0 | f0
        · have hqf0 := f0
          cases b6
          · have hzb6 := hF
            go_wp2_with fail
            go_meet
            case rel => exact ⟨false, true, bd, Bb, Lb, cb, rfl, rfl, rfl, hbd1, hba, hL, Lib.hid (by rw [← hF.out]; simp [f0]), hFp, Lib.hid (Nat.le_add_right _ _)⟩
          · have hzb6 := hF
            cases b8
            · have hzb8 := hF
              go_wp2_with fail
              go_meet
              case rel => exact ⟨false, true, bd, Bb, Lb, cb, rfl, rfl, rfl, hbd1, hba, hL, Lib.hid (by rw [← hF.out]; simp [f0]), hFp, Lib.hid (Nat.le_add_right _ _)⟩
            · have hzb8 := hF
              cases b9
              · have hzb9 := hF
                go_wp2_with fail
                go_meet
                case rel => exact ⟨false, true, bd, Bb, Lb, cb, rfl, rfl, rfl, hbd1, hba, hL, Lib.hid (by rw [← hF.out]; simp [f0]), hFp, Lib.hid (Nat.le_add_right _ _)⟩
              · have hzb9 := hF
                go_wp2_with (
                    go_at_call 47
                    refine (hQ.out _ hba).mono ?_
                    rintro e w5 ⟨rfl, hb5⟩
                    have hL5 := hL.below hb5 hL.lt
                    have hb6 := hba.trans (Below.mono hb5 hba.size)
                    have hbd5 := hbd1.below hb5
                    clear hb5)
                go_meet
                case rel => exact ⟨qb, true, bd, Bb, Lb, cb, rfl, rfl, rfl, hbd5, hb6, hL5, Lib.hid (by rw [← hF.out]; simp [f0]), hFp, Lib.hid (Nat.le_add_right _ _)⟩
        · have hqf0 := f0
          go_wp2_with fail
          go_meet
          case rel => exact ⟨false, true, bd, Bb, Lb, cb, rfl, rfl, rfl, hbd1, hba, hL, Lib.hid (by rw [← hF.out]; simp [f0]), hFp, Lib.hid (Nat.le_add_right _ _)⟩
    case rest =>
      obtain ⟨ok, dt, bd2, B2, n2, c2, rfl, rfl, rfl, hbd2, hbw, hLw, hF2, hp2, hl2⟩ := hcut
      have hstart := Lib.hid ((TM.rg_fin (ks := ks) hF2.out hp2.out).trans hG'.out)
      clear hF2 hp2 hL z0 z1 z2 z3 z4 z5 z6 z7 z8 hba hbd1 hW1 hS hH hQ hF0 hFp0
      go_wp2_with fail
      go_loopw [10, 11] (fun v10 i wr => ∃ (j : Nat) (okj : Bool), j ≤ N ∧ i = .int .i64 j ∧ v10 = .bool okj ∧ Hid ((okj && TM.rtl bd2 (ks.dr j) && dt) = G) ∧ Below w.heap.size w wr ∧ Lies wr w.heap.size 28 [.int .i64 k, .int .i64 n, .string ⟨s.toArray⟩, .slice P3 L3 p3, .int .i64 dk, .int .i64 dn, .string ⟨dS.toArray⟩, .slice I7 L7 q7, .slice A1 N c1] ∧ Below wc.heap.size wc wr) (fun _ i _ => N - (intOf i).toNat)
      case atStart => exact ⟨0, ok, by omega, rfl, rfl, Lib.hid (by rw [Tl.dr_zero]; exact hstart.out), hbw, hLw, Below.refl _ _⟩
      case round =>
        obtain ⟨j, okj, hj, rfl, rfl, hE, hb, hM1, hcw⟩ := hrel
        clear hbw hLw hstart
        have y8 : wr.cell? ⟨w.heap.size, 8, none⟩ = some (.slice A1 N c1) := hM1.cell 8
        cases okj
        · have hE2 := hE.out
          simp only [Bool.false_and] at hE2
          subst hE2
          go_wp2_with fail
          all_goals
            go_ret
            exact ⟨rfl, hb⟩
        · by_cases hlt : j < N
          · obtain ⟨x, hx⟩ := ks.at_some j (by rw [hN'.out]; exact hlt)
            obtain ⟨b, o, P5, p5, I5, q5, K5, r5, rfl, hb0, x0, x1, x2, xp, x4, x55, x6, xi, xk, hT5⟩ := (hTk.below hb).at_ hx
            have hpi := TM.prs_in hx
            have hpd := TM.prs_dr ks j
            have hC := Lib.hid (hR'.out j x hx wr (.slice B2 n2 c2) bd2 _ _ _ hT5 (hbd2.below hcw) (by have h1 := hl2.out; have h2 := hm'.out; simp only [List.length_append] at h1 h2 hpi ⊢; omega))
            have hE2 := hE.out
            rw [TM.rtl_at hx] at hE2
            unfold tmv at hC
            have hok1 : (TM.fit bd2 x && TM.rtl (bd2 ++ x.ps) x.ks) = TM.ok1 bd2 x := rfl
            rw [hok1, Bool.true_and] at hE2
            generalize TM.ok1 bd2 x = okx at hC hE2
            have hE3 := Lib.hid hE2
            clear hx hT5 hpi hpd hE2 hok1 hE
            go_wp2_with (
              go_at_call 27
              refine hC.out.mono ?_
              rintro e w7 ⟨rfl, hb7⟩
              have hM7 := hM1.below hb7 hM1.lt
              have hb8 := hb.trans (Below.mono hb7 hb.size)
              have hcw8 := hcw.trans (Below.mono hb7 hcw.size)
              clear hb7 x0 x1 x2 xp x4 x55 x6 xi xk y8)
            go_roundw
            case rel => exact ⟨j + 1, okx, by omega, by go_num, rfl, hE3, hb8, hM7, hcw8⟩
            case measure => simp [intOf]; omega
          · obtain rfl : j = N := by omega
            have hE2 := hE.out
            rw [Tl.dr_end ks j (by rw [hN'.out]; exact Nat.le_refl _), TM.rtl, Bool.true_and, Bool.true_and] at hE2
            subst hE2
            go_wp2_with fail
            all_goals
              go_ret
              exact ⟨rfl, hb⟩
set_option maxRecDepth 100000 in
set_option maxHeartbeats 8000000 in
theorem rg_stepB (k n : Int) (s : List UInt8) (ps : List Int) (d : RM.Dm) (ks : Tl) (hR : ∀ i x, ks.at_ i = some x → RgOk x) (hkk : Hid (k = 2 ∨ k = 4)) : RgOk ⟨k, n, s, ps, d, ks⟩ := by
  intro w vb bd vp vi vk h hbd hmany
  obtain ⟨dk, dn, dS, dis⟩ := d
  obtain ⟨P3, p3, rfl⟩ := h.p.read
  obtain ⟨I7, q7, rfl⟩ := h.d.read
  obtain ⟨A1, c1, rfl⟩ := h.k.read
  obtain ⟨Bb, cb, rfl⟩ := hbd.read
  have hlen := h.k.len
  have hTk := h.k
  have hTp := h.p
  have hTd := h.d
  simp only at hlen hTk hTp hTd hmany ⊢
  have hQ := Lib.hid (fun (w' : World) (hb : Below w.heap.size w w') => quoted10_any ⟨dk, dn, dS, dis⟩ w' _ (hTd.below hb))
  have hS := Lib.hid (rsym_any ⟨s.toArray⟩)
  have hH := Lib.hid (fun (w' : World) (hb : Below w.heap.size w w') => has_any w' _ bd n (hbd.below hb))
  obtain ⟨N, hN⟩ : ∃ N, ks.len = N := ⟨_, rfl⟩
  obtain ⟨L3, hL3⟩ : ∃ x, ps.length = x := ⟨_, rfl⟩
  obtain ⟨L7, hL7⟩ : ∃ x, dis.len = x := ⟨_, rfl⟩
  obtain ⟨Lb, hLb⟩ : ∃ x, bd.length = x := ⟨_, rfl⟩
  unfold tmv
  simp only
  unfold dtv at hQ
  rw [hN] at hlen hTk ⊢
  rw [hL3] at hTp
  rw [hL7] at hQ
  rw [hLb] at hbd hH
  rw [hL3, hL7, hLb]
  have hN' := Lib.hid hN
  have hR' := Lib.hid hR
  have hL := Lies.made w 28 #[.int .i64 k, .int .i64 n, .string ⟨s.toArray⟩, .slice P3 L3 p3, .int .i64 dk, .int .i64 dn, .string ⟨dS.toArray⟩, .slice I7 L7 q7, .slice A1 N c1]
  have hba : Below w.heap.size w (w.alloc (.cells #[.int .i64 k, .int .i64 n, .string ⟨s.toArray⟩, .slice P3 L3 p3, .int .i64 dk, .int .i64 dn, .string ⟨dS.toArray⟩, .slice I7 L7 q7, .slice A1 N c1] 28)) := (Below.refl _ w).alloc (Nat.le_refl _) _
  obtain ⟨W1, hW1⟩ : ∃ W1, w.alloc (.cells #[.int .i64 k, .int .i64 n, .string ⟨s.toArray⟩, .slice P3 L3 p3, .int .i64 dk, .int .i64 dn, .string ⟨dS.toArray⟩, .slice I7 L7 q7, .slice A1 N c1] 28) = W1 := ⟨_, rfl⟩
  rw [hW1] at hL hba
  have z0 := hL.cell 0
  have z1 := hL.cell 1
  have z2 := hL.cell 2
  have z3 := hL.cell 3
  have z4 := hL.cell 4
  have z5 := hL.cell 5
  have z6 := hL.cell 6
  have z7 := hL.cell 7
  have z8 := hL.cell 8
  simp only [List.getElem?_cons_succ, List.getElem?_cons_zero] at z0 z1 z2 z3 z4 z5 z6 z7 z8
  obtain ⟨b7, hb7⟩ : ∃ b7, TM.nod ⟨dk, dn, dS, dis⟩ = b7 := ⟨_, rfl⟩
  have hb70 := hb7
  unfold TM.nod at hb70
  simp only [hL7] at hb70
  have hb70' := Lib.hid hb70
  have hb7' := Lib.hid hb7
  obtain ⟨F, hF00⟩ : ∃ F, TM.fit bd ⟨k, n, s, ps, ⟨dk, dn, dS, dis⟩, ks⟩ = F := ⟨_, rfl⟩
  have hok1 : TM.ok1 bd ⟨k, n, s, ps, ⟨dk, dn, dS, dis⟩, ks⟩ = (F && TM.rtl (bd ++ ps) ks) := by rw [TM.ok1, hF00]
  rw [hok1]
  obtain ⟨G, hG⟩ : ∃ G, (F && TM.rtl (bd ++ ps) ks) = G := ⟨_, rfl⟩
  rw [hG]
  have hG' := Lib.hid hG
  have hm' := Lib.hid hmany
  clear hG
  have hFp0 : Hid (¬ k = 8 → F = true → bd = bd ++ ps) := Lib.hid (fun h8 hF => by
    rw [← hF00] at hF
    have := TM.fit_params hF h8
    simp only at this
    rw [this, List.append_nil])
  rw [TM.fit_bool bd k n s ps ⟨dk, dn, dS, dis⟩ ks N L3 hN hL3, hb7] at hF00
  generalize TM.quo ⟨dk, dn, dS, dis⟩ = qb at hQ hF00
  have hsym : LM.sym (⟨s.toArray⟩ : ByteArray).data.toList = LM.sym s := rfl
  rw [hsym] at hS
  generalize LM.sym s = sb at hS hF00
  generalize bd.contains n = cb1 at hH hF00
  have hF0 := Lib.hid hF00
  have hbd1 := hbd.below hba
  clear hN hR hL3 hL7 hLb hb70 hb7 h hTd hF00 hok1 hsym hbd
  go_enter Tryz.func27, Tryz.ntmps27
  go_upto_region 3 with fail
  go_cut [7] from 18 to 40 (fun s7 wx => s7 = .bool b7 ∧ W1 = wx)
  case first =>
    by_cases h1 : dk = 0
    · by_cases h2 : dn = 0
      · by_cases h3 : dS = []
        · by_cases h4 : L7 = 0
          · obtain rfl : b7 = true := by rw [← hb70'.out]; simp [h1, h2, h3, h4]
            subst h1 h2 h3 h4
            clear hb70'
            go_wp2_with fail
            go_meet
            case rel => exact ⟨rfl, rfl⟩
          · obtain rfl : b7 = false := by rw [← hb70'.out]; simp [h4]
            subst h1 h2 h3
            have q4 : ((L7 : Int) == 0) = false := by simp; exact h4
            clear hb70'
            go_wp2_with fail
            go_meet
            case rel => exact ⟨rfl, rfl⟩
        · obtain rfl : b7 = false := by rw [← hb70'.out]; simp [h3]
          obtain ⟨e1, e2, e3⟩ := str_ne h3
          subst h1 h2
          have q1 : ((⟨dS.toArray⟩ : ByteArray).toList == (⟨#[]⟩ : ByteArray).toList) = false := e1
          have q2 : dS.isEmpty = false := by cases dS <;> simp_all
          clear hb70' h3
          go_wp2_with fail
          go_meet
          case rel => exact ⟨rfl, rfl⟩
      · obtain rfl : b7 = false := by rw [← hb70'.out]; simp [h2]
        subst h1
        clear hb70'
        go_wp2_with fail
        go_meet
        case rel => exact ⟨rfl, rfl⟩
    · obtain rfl : b7 = false := by rw [← hb70'.out]; simp [h1]
      clear hb70'
      go_wp2_with fail
      go_meet
      case rel => exact ⟨rfl, rfl⟩
  case rest =>
    obtain ⟨rfl, rfl⟩ := hcut
    go_upto_block 0 with fail
    generalize s.isEmpty = b6 at hF0 ⊢
    generalize ((L3 : Int) == 0) = b8 at hF0 ⊢
    generalize (n == 0) = b9 at hF0 ⊢
    go_cut [1, 7, 10] from 50 to 208 (fun s1 s7 s10 wx => ∃ (ok dt : Bool) (bd2 : List Int) (B2 : Option Addr) (n2 c2 : Nat), s10 = .bool ok ∧ s7 = .bool dt ∧ s1 = .slice B2 n2 c2 ∧ PIn wx (.slice B2 n2 c2) bd2 ∧ Below w.heap.size w wx ∧ Lies wx w.heap.size 28 [.int .i64 k, .int .i64 n, .string ⟨s.toArray⟩, .slice P3 L3 p3, .int .i64 dk, .int .i64 dn, .string ⟨dS.toArray⟩, .slice I7 L7 q7, .slice A1 N c1] ∧ Hid ((ok && dt) = F) ∧ Hid (F = true → bd2 = bd ++ ps) ∧ Hid (bd2.length ≤ bd.length + ps.length))
    case first =>
      rcases hkk.out with rfl | rfl
      · have hF1 := hF0.out
        rw [if_neg (by decide), if_pos rfl] at hF1
        have hF := Lib.hid hF1
        have hFp := Lib.hid (fun h => hFp0.out (by decide) h)
        clear hF0 hFp0 hF1
        rcases Bool.eq_false_or_eq_true (((N : Int) == 0)) with f0 | f0
        · have hqf0 := f0
          cases b6
          · have hzb6 := hF
            go_wp2_with fail
            go_meet
            case rel => exact ⟨false, b7, bd, Bb, Lb, cb, rfl, rfl, rfl, hbd1, hba, hL, Lib.hid (by rw [← hF.out]; simp [f0]), hFp, Lib.hid (Nat.le_add_right _ _)⟩
          · have hzb6 := hF
            cases b8
            · have hzb8 := hF
              go_wp2_with fail
              go_meet
              case rel => exact ⟨false, b7, bd, Bb, Lb, cb, rfl, rfl, rfl, hbd1, hba, hL, Lib.hid (by rw [← hF.out]; simp [f0]), hFp, Lib.hid (Nat.le_add_right _ _)⟩
            · have hzb8 := hF
              go_wp2_with (
                  go_at_call 48
                  refine (hH.out _ hba).mono ?_
                  rintro e w5 ⟨rfl, rfl⟩)
              go_meet
              case rel => exact ⟨cb1, b7, bd, Bb, Lb, cb, rfl, rfl, rfl, hbd1, hba, hL, Lib.hid (by rw [← hF.out]; simp [f0]), hFp, Lib.hid (Nat.le_add_right _ _)⟩
        · have hqf0 := f0
          go_wp2_with fail
          go_meet
          case rel => exact ⟨false, b7, bd, Bb, Lb, cb, rfl, rfl, rfl, hbd1, hba, hL, Lib.hid (by rw [← hF.out]; simp [f0]), hFp, Lib.hid (Nat.le_add_right _ _)⟩
      · have hF1 := hF0.out
        rw [if_neg (by decide), if_neg (by decide), if_neg (by decide), if_pos rfl] at hF1
        have hF := Lib.hid hF1
        have hFp := Lib.hid (fun h => hFp0.out (by decide) h)
        clear hF0 hFp0 hF1
        rcases Bool.eq_false_or_eq_true (((N : Int) == 1)) with f0 | f0
        · have hqf0 := f0
          cases b6
          · have hzb6 := hF
            go_wp2_with fail
            go_meet
            case rel => exact ⟨false, b7, bd, Bb, Lb, cb, rfl, rfl, rfl, hbd1, hba, hL, Lib.hid (by rw [← hF.out]; simp [f0]), hFp, Lib.hid (Nat.le_add_right _ _)⟩
          · have hzb6 := hF
            cases b8
            · have hzb8 := hF
              go_wp2_with fail
              go_meet
              case rel => exact ⟨false, b7, bd, Bb, Lb, cb, rfl, rfl, rfl, hbd1, hba, hL, Lib.hid (by rw [← hF.out]; simp [f0]), hFp, Lib.hid (Nat.le_add_right _ _)⟩
            · have hzb8 := hF
              go_wp2_with (
                  go_at_call 48
                  refine (hH.out _ hba).mono ?_
                  rintro e w5 ⟨rfl, rfl⟩)
              go_meet
              case rel => exact ⟨cb1, b7, bd, Bb, Lb, cb, rfl, rfl, rfl, hbd1, hba, hL, Lib.hid (by rw [← hF.out]; simp [f0]), hFp, Lib.hid (Nat.le_add_right _ _)⟩
        · have hqf0 := f0
          go_wp2_with fail
          go_meet
          case rel => exact ⟨false, b7, bd, Bb, Lb, cb, rfl, rfl, rfl, hbd1, hba, hL, Lib.hid (by rw [← hF.out]; simp [f0]), hFp, Lib.hid (Nat.le_add_right _ _)⟩
    case rest =>
      obtain ⟨ok, dt, bd2, B2, n2, c2, rfl, rfl, rfl, hbd2, hbw, hLw, hF2, hp2, hl2⟩ := hcut
      have hstart := Lib.hid ((TM.rg_fin (ks := ks) hF2.out hp2.out).trans hG'.out)
      clear hF2 hp2 hL z0 z1 z2 z3 z4 z5 z6 z7 z8 hba hbd1 hW1 hS hH hQ hF0 hFp0
      go_wp2_with fail
      go_loopw [10, 11] (fun v10 i wr => ∃ (j : Nat) (okj : Bool), j ≤ N ∧ i = .int .i64 j ∧ v10 = .bool okj ∧ Hid ((okj && TM.rtl bd2 (ks.dr j) && dt) = G) ∧ Below w.heap.size w wr ∧ Lies wr w.heap.size 28 [.int .i64 k, .int .i64 n, .string ⟨s.toArray⟩, .slice P3 L3 p3, .int .i64 dk, .int .i64 dn, .string ⟨dS.toArray⟩, .slice I7 L7 q7, .slice A1 N c1] ∧ Below wc.heap.size wc wr) (fun _ i _ => N - (intOf i).toNat)
      case atStart => exact ⟨0, ok, by omega, rfl, rfl, Lib.hid (by rw [Tl.dr_zero]; exact hstart.out), hbw, hLw, Below.refl _ _⟩
      case round =>
        obtain ⟨j, okj, hj, rfl, rfl, hE, hb, hM1, hcw⟩ := hrel
        clear hbw hLw hstart
        have y8 : wr.cell? ⟨w.heap.size, 8, none⟩ = some (.slice A1 N c1) := hM1.cell 8
        cases okj
        · have hE2 := hE.out
          simp only [Bool.false_and] at hE2
          subst hE2
          go_wp2_with fail
          all_goals
            go_ret
            exact ⟨rfl, hb⟩
        · by_cases hlt : j < N
          · obtain ⟨x, hx⟩ := ks.at_some j (by rw [hN'.out]; exact hlt)
            obtain ⟨b, o, P5, p5, I5, q5, K5, r5, rfl, hb0, x0, x1, x2, xp, x4, x55, x6, xi, xk, hT5⟩ := (hTk.below hb).at_ hx
            have hpi := TM.prs_in hx
            have hpd := TM.prs_dr ks j
            have hC := Lib.hid (hR'.out j x hx wr (.slice B2 n2 c2) bd2 _ _ _ hT5 (hbd2.below hcw) (by have h1 := hl2.out; have h2 := hm'.out; simp only [List.length_append] at h1 h2 hpi ⊢; omega))
            have hE2 := hE.out
            rw [TM.rtl_at hx] at hE2
            unfold tmv at hC
            have hok1 : (TM.fit bd2 x && TM.rtl (bd2 ++ x.ps) x.ks) = TM.ok1 bd2 x := rfl
            rw [hok1, Bool.true_and] at hE2
            generalize TM.ok1 bd2 x = okx at hC hE2
            have hE3 := Lib.hid hE2
            clear hx hT5 hpi hpd hE2 hok1 hE
            go_wp2_with (
              go_at_call 27
              refine hC.out.mono ?_
              rintro e w7 ⟨rfl, hb7⟩
              have hM7 := hM1.below hb7 hM1.lt
              have hb8 := hb.trans (Below.mono hb7 hb.size)
              have hcw8 := hcw.trans (Below.mono hb7 hcw.size)
              clear hb7 x0 x1 x2 xp x4 x55 x6 xi xk y8)
            go_roundw
            case rel => exact ⟨j + 1, okx, by omega, by go_num, rfl, hE3, hb8, hM7, hcw8⟩
            case measure => simp [intOf]; omega
          · obtain rfl : j = N := by omega
            have hE2 := hE.out
            rw [Tl.dr_end ks j (by rw [hN'.out]; exact Nat.le_refl _), TM.rtl, Bool.true_and, Bool.true_and] at hE2
            subst hE2
            go_wp2_with fail
            all_goals
              go_ret
              exact ⟨rfl, hb⟩
end Go.Proofs.YtpiekdcbjkgipaaGreat
