/- The law EnvAlias. -/
import Derived.Test.YtbkjmmeipbbaaaaDoorEnvTwo
import Derived.Test.YtbkjmmeipbbaaaaDoorEnvLaws
import Derived.Deep.Cut
import Derived.Deep.CutRange
import Derived.Deep.CutBlock
namespace Go.Proofs.YtbkjmmeipbbaaaaDoor
open Go.ChangeShapes Go.WideShapes Go.ChangeAt Go.RowKit

theorem neq_mean (i j : Int) (w : World) :
    (binOp .neq 24 (.agg #[.int .i64 i, .int .i64 j]) (.agg #[.int .i64 i, .int .i64 j])).run Tryd.prog w = .ok (.bool false) w := by
  have u3 := Tryd.underlying3
  have a3 := Tryd.isAgg3
  have hS : Tryd.prog.underlying 24 = some (.struct (Tryd.prog.fieldsOf 24)) := by kernel_rfl
  have hp : Tryd.prog.stoodInHeld 24 = false := by kernel_rfl
  rw [run_neq_struct, show (10000 : Nat) = 9999 + 1 from rfl, run_equalIn_agg w 9999 24 _ _ hS hp]
  simp only [Program.fieldsOf, Tryd.underlying24]
  go_simp
theorem two_made (W : World) : Two W ((W.alloc (.cells #[.map none, .slice none 0 0, .map none] 63)).alloc (.cells #[.slice none 0 0, .slice none 0 0, .slice none 0 0] 34)) W.heap.size (W.heap.size + 1) tb0 0 0 (fun b => b < W.heap.size) := by
  have hb := (Below.refl _ W).alloc (Nat.le_refl W.heap.size) (.cells #[.map none, .slice none 0 0, .map none] 63)
  have hR := Rw.made (W.alloc (.cells #[.map none, .slice none 0 0, .map none] 63))
  have hz : (W.alloc (.cells #[.map none, .slice none 0 0, .map none] 63)).heap.size = W.heap.size + 1 := by simp
  rw [hz] at hR
  refine ⟨hb.alloc (by simp) _, tb0_ok, Nat.le_refl _, Nat.le_refl _, Nat.le_refl _, _, _, _, _, _, (Tw.made W).below ((Below.refl _ _).alloc (Nat.le_refl _) _), hR, fun g hg => ?_, fun g hg => ?_, fun g hd he => ?_, ⟨by simp, fun i a h => by simp at h⟩, by omega, Nat.le_refl _, fun b hB => ⟨fun hd => ?_, fun he => ?_, by simp; omega⟩⟩
  · subst hg; exact Nat.le_refl _
  · subst hg; omega
  · subst hd; omega
  · subst hd; omega
  · subst he; omega

set_option maxRecDepth 100000 in
set_option maxHeartbeats 8000000 in
theorem envAlias_walk (A : Option Addr) (n c : Nat) (Z : Nat → Opv) (o : Opv) (mk mn : Int) (w : World) (_hn : n ≤ maxLen) (hC : CameOps w A n Z) (_ho : OpBd o) (hM : MTab w) (hT : Tab w) :
    Calls Tryd.prog 3 #[.slice A n c, .agg (opc o).toArray, .agg #[.int .i64 mk, .int .i64 mn]] w fun e w' => e = .returned (.bool true) ∧ Below w.heap.size w w' := by
  have hA := Lib.hid (fun w' (h : Below w.heap.size w w') => awake_any w' (hM.on h) (hT.on h))
  have hMT := Lib.hid (fun w' (h : Below w.heap.size w w') => And.intro (hM.on h) (hT.on h))
  have hN := Lib.hid (fun w => new_any w)
  obtain ⟨ok, oa, ot, op, om, o5, o6, ox⟩ := o
  unfold opc
  simp only
  have hB0 := ((Below.refl _ w).alloc (Nat.le_refl w.heap.size) (.cells #[.int .i64 ok, .int .i64 oa, .int .i64 ot, .int .i64 op, .int .i64 om, .int .i64 o5, .int .i64 o6, .string ox] 26)).alloc (by simp) (.cells #[.int .i64 mk, .int .i64 mn] 24)
  have hL4 := (Lies.made w 26 #[.int .i64 ok, .int .i64 oa, .int .i64 ot, .int .i64 op, .int .i64 om, .int .i64 o5, .int .i64 o6, .string ox]).alloc (.cells #[.int .i64 mk, .int .i64 mn] 24)
  have hL5 := Lies.made (w.alloc (.cells #[.int .i64 ok, .int .i64 oa, .int .i64 ot, .int .i64 op, .int .i64 om, .int .i64 o5, .int .i64 o6, .string ox] 26)) 24 #[.int .i64 mk, .int .i64 mn]
  have hz : (w.alloc (.cells #[.int .i64 ok, .int .i64 oa, .int .i64 ot, .int .i64 op, .int .i64 om, .int .i64 o5, .int .i64 o6, .string ox] 26)).heap.size = w.heap.size + 1 := by simp
  rw [hz] at hL5
  have hB0' := Lib.hid hB0
  have hL4' := Lib.hid hL4
  have hL5' := Lib.hid hL5
  have hC' := Lib.hid hC
  clear hM hT hB0 hL4 hL5 hz hC _hn _ho
  by_cases hn100 : 100 < n
  · have hq : ((100 : Int) < (n : Int)) := by omega
    go_enter Tryd.func3, Tryd.ntmps3
    go_wp2_with (first
      | (go_at_call 6; (with_reducible refine (hA.out _ hB0'.out).mono ?_); rintro e w5 ⟨rfl, h⟩; have bb := Lib.hid (hB0'.out.trans (Below.mono h hB0'.out.size)); clear h)
      | (go_at_call 6; (with_reducible refine (hA.out _ bb.out).mono ?_); rintro e w6 ⟨rfl, h⟩; have bb := Lib.hid (bb.out.trans (Below.mono h bb.out.size)); clear h))
    go_ret
    exact ⟨rfl, bb.out⟩
  · by_cases hx100 : 100 < ox.size
    · have hq : ¬ ((100 : Int) < (n : Int)) := by omega
      have hq2 : ((100 : Int) < (ox.size : Int)) := by omega
      go_enter Tryd.func3, Tryd.ntmps3
      go_wp2_with (first
        | (go_at_call 6; (with_reducible refine (hA.out _ hB0'.out).mono ?_); rintro e w5 ⟨rfl, h⟩
           have bb := Lib.hid (hB0'.out.trans (Below.mono h hB0'.out.size))
           have l7 : w5.cell? ⟨w.heap.size, 7, none⟩ = some (.string ox) := (hL4'.out.below h hL4'.out.lt).cell 7
           clear h)
        | (go_at_call 6; (with_reducible refine (hA.out _ bb.out).mono ?_); rintro e w6 ⟨rfl, h⟩; have bb := Lib.hid (bb.out.trans (Below.mono h bb.out.size)); clear h))
      go_ret
      exact ⟨rfl, bb.out⟩
    · have hq : ¬ ((100 : Int) < (n : Int)) := by omega
      have hq2 : ¬ ((100 : Int) < (ox.size : Int)) := by omega
      have hn1 := Lib.hid (show n ≤ 100 by omega)
      clear hn100 hx100
      go_enter Tryd.func3, Tryd.ntmps3
      go_upto_block 0 with (first
        | (go_at_call 6; (with_reducible refine (hA.out _ hB0'.out).mono ?_); rintro e w2 ⟨rfl, h⟩
           have b2 := Lib.hid (hB0'.out.trans (Below.mono h hB0'.out.size))
           have l4 := Lib.hid (hL4'.out.below h hL4'.out.lt)
           have l5 := Lib.hid (hL5'.out.below h hL5'.out.lt)
           have l7 : w2.cell? ⟨w.heap.size, 7, none⟩ = some (.string ox) := l4.out.cell 7
           clear h)
        | (go_at_call 7; refine (hN.out _).mono ?_; rintro e w3 ⟨rfl, rfl⟩))
      have hMT2 := Lib.hid (hMT.out w2 b2.out)
      have hTwo := two_made w2
      obtain ⟨W3, hW3⟩ : ∃ W3, (w2.alloc (.cells #[.map none, .slice none 0 0, .map none] 63)).alloc (.cells #[.slice none 0 0, .slice none 0 0, .slice none 0 0] 34) = W3 := ⟨_, rfl⟩
      rw [hW3] at hTwo ⊢
      have hTwo' := Lib.hid hTwo
      clear hTwo hW3 l7
      go_cut [9, 10, 11] from 44 to 93 (fun s9 s10 s11 wx => ∃ T, Two w2 wx w2.heap.size (w2.heap.size + 1) T n n (fun b => b < w2.heap.size))
      case first =>
        go_wp2_with fail
        go_loopw [44] (fun i wr => ∃ (j : Nat) (T : EM.Tb), j ≤ n ∧ i = .int .i64 j ∧ Hid (Two w2 wr w2.heap.size (w2.heap.size + 1) T j j (fun b => b < w2.heap.size))) (fun i _ => n - (intOf i).toNat)
        case atStart => exact ⟨0, tb0, Nat.zero_le _, rfl, hTwo'.out⟩
        case round =>
          obtain ⟨j, T, hj, rfl, hTw⟩ := hrel
          by_cases hlt : j < n
          · have hbr := (b2.out.trans (Below.mono hTw.out.1 b2.out.size))
            obtain ⟨g, off, hAg, hg, k⟩ := hC'.out.at_ hbr hlt
            obtain ⟨⟨zk, za, zt, zp, zm, z5, z6, zx⟩, hZ⟩ : ∃ z, Z j = z := ⟨_, rfl⟩
            rw [hZ] at k
            have k0 := k 0 _ rfl
            have k1 := k 1 _ rfl
            have k2 := k 2 _ rfl
            have k3 := k 3 _ rfl
            have k4 := k 4 _ rfl
            have k5 := k 5 _ rfl
            have k6 := k 6 _ rfl
            have k7 := k 7 _ rfl
            subst hAg
            simp only [Nat.add_zero] at k0
            simp only [← Nat.add_assoc] at k1 k2 k3 k4 k5 k6 k7
            have hgr : g < wr.heap.size := Nat.lt_of_lt_of_le hg hbr.size
            have hTb := Lib.hid (hTw.out.box (.cells #[.int .i64 zk, .int .i64 za, .int .i64 zt, .int .i64 zp, .int .i64 zm, .int .i64 z5, .int .i64 z6, .string zx] 26))
            have hLb := Lib.hid (Lies.made wr 26 #[.int .i64 zk, .int .i64 za, .int .i64 zt, .int .i64 zp, .int .i64 zm, .int .i64 z5, .int .i64 z6, .string zx])
            clear hbr hg k hZ
            have hn1' : n ≤ 100 := hn1.out
            have hj5 : j ≤ 100000 := by omega
            by_cases z1 : zk = 1
            · subst z1
              skip
              go_wp2_with (first
                | (go_at_call 8
                   (with_reducible refine (two_pick hTb.out zp).mono ?_)
                   rintro e w6 ⟨x, hx, rfl, h, hs⟩
                   have T6 := Lib.hid h
                   have L6 := Lib.hid (hs wr.heap.size _ _ (.inr rfl) hLb.out)
                   have q0 : w6.cell? ⟨wr.heap.size, 0, none⟩ = some (.int .i64 1) := L6.out.cell 0
                   have q1 : w6.cell? ⟨wr.heap.size, 1, none⟩ = some (.int .i64 za) := L6.out.cell 1
                   have q5 : w6.cell? ⟨wr.heap.size, 5, none⟩ = some (.int .i64 z5) := L6.out.cell 5
                   have q6 : w6.cell? ⟨wr.heap.size, 6, none⟩ = some (.int .i64 z6) := L6.out.cell 6
                   have hx' := Lib.hid hx
                   clear h hs hx)
                | (go_at_call 9
                   (with_reducible refine (two_top T6.out hj5 x hx'.out z5 z6).mono ?_)
                   rintro e w7 ⟨⟨u, rfl⟩, h, hs⟩
                   have T7 := Lib.hid h
                   have L7 := Lib.hid (hs wr.heap.size _ _ (.inr rfl) L6.out)
                   have p1 : w7.cell? ⟨wr.heap.size, 1, none⟩ = some (.int .i64 za) := L7.out.cell 1
                   have p5 : w7.cell? ⟨wr.heap.size, 5, none⟩ = some (.int .i64 z5) := L7.out.cell 5
                   have p6 : w7.cell? ⟨wr.heap.size, 6, none⟩ = some (.int .i64 z6) := L7.out.cell 6
                   clear h hs)
                | (go_at_call 10
                   (with_reducible refine (two_rtop T7.out hj5 x hx'.out z5 z6).mono ?_)
                   rintro e w8 ⟨⟨v, rfl⟩, h, hs⟩
                   have T8 := Lib.hid h
                   clear h hs))
              go_roundw
              case rel => exact ⟨j + 1, _, by omega, by go_num, T8.out.less (fun b hb => .inl hb) (Nat.le_refl _) (Nat.le_refl _)⟩
              case measure => simp [intOf]; omega
            · by_cases z2 : zk = 2
              · subst z2
                skip
                go_wp2_with (first
                  | (go_at_call 8
                     (with_reducible refine (two_pick hTb.out zp).mono ?_)
                     rintro e w6 ⟨x, hx, rfl, h, hs⟩
                     have T6 := Lib.hid h
                     have L6 := Lib.hid (hs wr.heap.size _ _ (.inr rfl) hLb.out)
                     have q0 : w6.cell? ⟨wr.heap.size, 0, none⟩ = some (.int .i64 2) := L6.out.cell 0
                     have q1 : w6.cell? ⟨wr.heap.size, 1, none⟩ = some (.int .i64 za) := L6.out.cell 1
                     have q5 : w6.cell? ⟨wr.heap.size, 5, none⟩ = some (.int .i64 z5) := L6.out.cell 5
                     have q6 : w6.cell? ⟨wr.heap.size, 6, none⟩ = some (.int .i64 z6) := L6.out.cell 6
                     have hx' := Lib.hid hx
                     clear h hs hx)
                  | (go_at_call 11
                     (with_reducible refine (two_ext T6.out za x hx'.out z5 z6).mono ?_)
                     rintro e w7 ⟨⟨u, v, rfl⟩, h, hs⟩
                     have T7 := Lib.hid h
                     have L7 := Lib.hid (hs wr.heap.size _ _ (.inr rfl) L6.out)
                     have p1 : w7.cell? ⟨wr.heap.size, 1, none⟩ = some (.int .i64 za) := L7.out.cell 1
                     have p5 : w7.cell? ⟨wr.heap.size, 5, none⟩ = some (.int .i64 z5) := L7.out.cell 5
                     have p6 : w7.cell? ⟨wr.heap.size, 6, none⟩ = some (.int .i64 z6) := L7.out.cell 6
                     clear h hs)
                  | (go_at_call 12
                     (with_reducible refine (two_rext T7.out za x hx'.out z5 z6).mono ?_)
                     rintro e w8 ⟨⟨u2, v2, rfl⟩, h, hs⟩
                     have T8 := Lib.hid h
                     clear h hs))
                go_roundw
                case rel => exact ⟨j + 1, _, by omega, by go_num, T8.out.less (fun b hb => .inl hb) (Nat.le_refl _) (Nat.le_refl _)⟩
                case measure => simp [intOf]; omega
              · have y1 : (zk == 1) = false := by simpa using z1
                have y2 : (zk == 2) = false := by simpa using z2
                clear z1 z2
                skip
                go_wp2_with (first
                  | (go_at_call 8
                     (with_reducible refine (two_pick hTb.out zp).mono ?_)
                     rintro e w6 ⟨x, hx, rfl, h, hs⟩
                     have T6 := Lib.hid h
                     have L6 := Lib.hid (hs wr.heap.size _ _ (.inr rfl) hLb.out)
                     have q0 : w6.cell? ⟨wr.heap.size, 0, none⟩ = some (.int .i64 zk) := L6.out.cell 0
                     have q1 : w6.cell? ⟨wr.heap.size, 1, none⟩ = some (.int .i64 za) := L6.out.cell 1
                     have q5 : w6.cell? ⟨wr.heap.size, 5, none⟩ = some (.int .i64 z5) := L6.out.cell 5
                     have q6 : w6.cell? ⟨wr.heap.size, 6, none⟩ = some (.int .i64 z6) := L6.out.cell 6
                     have hx' := Lib.hid hx
                     clear h hs hx)
                  | (go_at_call 13
                     (with_reducible refine (two_ali hMT2.out.1 hMT2.out.2 T6.out za x hx'.out).mono ?_)
                     rintro e w7 ⟨⟨u, v, rfl⟩, h, hs⟩
                     have T7 := Lib.hid h
                     have L7 := Lib.hid (hs wr.heap.size _ _ (.inr rfl) L6.out)
                     have p1 : w7.cell? ⟨wr.heap.size, 1, none⟩ = some (.int .i64 za) := L7.out.cell 1
                     have p5 : w7.cell? ⟨wr.heap.size, 5, none⟩ = some (.int .i64 z5) := L7.out.cell 5
                     have p6 : w7.cell? ⟨wr.heap.size, 6, none⟩ = some (.int .i64 z6) := L7.out.cell 6
                     clear h hs)
                  | (go_at_call 14
                     (with_reducible refine (two_rali T7.out za x hx'.out).mono ?_)
                     rintro e w8 ⟨⟨u2, v2, rfl⟩, h, hs⟩
                     have T8 := Lib.hid h
                     clear h hs))
                go_roundw
                case rel => exact ⟨j + 1, _, by omega, by go_num, T8.out.less (fun b hb => .inl hb) (Nat.le_refl _) (Nat.le_refl _)⟩
                case measure => simp [intOf]; omega
          · obtain rfl : j = n := by omega
            go_wp2_with fail
            go_meet
            case rel => exact ⟨T, hTw.out⟩
      case rest =>
      obtain ⟨T, hTw⟩ := hcut
      have hTw' := Lib.hid hTw
      have L4_5 := Lib.hid (l4.out.below hTw.1 l4.out.lt)
      have L5_5 := Lib.hid (l5.out.below hTw.1 l5.out.lt)
      have r3 : wc.cell? ⟨w.heap.size, 3, none⟩ = some (.int .i64 op) := L4_5.out.cell 3
      have hmL4 := Lib.hid l4.out.lt
      have hmL5 := Lib.hid l5.out.lt
      have bW := Lib.hid b2.out
      clear hTw hTwo' hB0' hL4' hL5' hC' hq hq2
      go_upto_region 19 with (
        go_at_call 8
        (with_reducible refine (two_pick hTw'.out op).mono ?_)
        rintro e w6 ⟨x, hx, rfl, h, hs⟩
        have K6 := Lib.hid h.ek
        have hOT := Lib.hid h
        have L4_6 := Lib.hid (hs w.heap.size _ _ hmL4.out L4_5.out)
        have L5_6 := Lib.hid (hs (w.heap.size + 1) _ _ hmL5.out L5_5.out)
        have v6_L4_1 : w6.cell? ⟨w.heap.size, 1, none⟩ = some (.int .i64 oa) := L4_6.out.cell 1
        have hx' := Lib.hid hx
        clear h hs hx)
      have hn1' := hn1.out
      have hOk := Lib.hid hOT.out.2.1
      have hna := Lib.hid (show T.na < 65536 by have := hOT.out.2.2.2.1; omega)
      have hlen := Lib.hid (show T.P.length < 65536 by have := hOT.out.2.2.2.2.1; omega)
      clear hOT hn1' r3 hTw'
      obtain ⟨⟨m1, m2⟩, hmm⟩ : ∃ m, EM.fm T oa x = m := ⟨_, rfl⟩
      by_cases hc : EM.ck T oa x = 0
      · have hAls := Lib.hid (EM.als_of hOk.out hna.out hc)
        obtain ⟨T1, hT1⟩ : ∃ T1, EM.ali T oa x = T1 := ⟨_, rfl⟩
        obtain ⟨s, hse⟩ : ∃ s, EM.nam T x = s := ⟨_, rfl⟩
        rw [hT1, hse] at hAls
        have hO1 := Lib.hid (hAls.out.ok1 hna.out)
        have hs100 := Lib.hid (hO1.out.kd_size (x := s) (by rw [hAls.out.kds]; decide))
        have F1 := Lib.hid (fun w' (h : Ek w2 w' w2.heap.size T (fun b => b < w2.heap.size)) => ek_find h hOk.out oa x hx'.out)
        simp only [hmm, hc, er_n] at F1
        have A1 := Lib.hid (fun w' B (h : Ek w2 w' w2.heap.size T B) => ek_ali hMT2.out.1 hMT2.out.2 h hOk.out oa x hx'.out)
        simp only [EM.ae_of hna.out hc, if_true, er_n, hse, hT1] at A1
        have F2 := Lib.hid (fun w' B (h : Ek w2 w' w2.heap.size T1 B) => ek_find h hO1.out ot s hs100.out)
        have S1 := Lib.hid (fun w' B (h : Ek w2 w' w2.heap.size T1 B) => ek_same h hO1.out oa ot x s hx'.out hs100.out)
        have P1 := Lib.hid (fun w' B (h : Ek w2 w' w2.heap.size T1 B) => ek_strip hMT2.out.1 h s hs100.out)
        have P2 := Lib.hid (fun w' B (h : Ek w2 w' w2.heap.size T1 B) => ek_strip hMT2.out.1 h x hx'.out)
        obtain ⟨sx, hsx⟩ : ∃ sx, EM.st T x = sx := ⟨_, rfl⟩
        simp only [hAls.out.st1, hsx] at P1
        simp only [hAls.out.st2, hsx] at P2
        have E1 := Lib.hid (fun w' B (h : Ek w2 w' w2.heap.size T1 B) => ek_ext h hO1.out oa s hs100.out mk mn)
        obtain ⟨n1, n2, n3⟩ := tl_ne hAls.out.ne
        have hq24 := fun w => neq_mean m1 m2 w
        have hq31 := fun w => eql_mean mk mn mk mn w
        rw [decide_eq_true (show mk = mk ∧ mn = mn from ⟨rfl, rfl⟩)] at hq31
        have hq32 := fun w => eql_mean m1 m2 m1 m2 w
        rw [decide_eq_true (show m1 = m1 ∧ m2 = m2 from ⟨rfl, rfl⟩)] at hq32
        have hmm' := Lib.hid hmm
        have hc' := Lib.hid hc
        clear hT1 hse hsx hc hmm
        simp only [encM] at F1
        by_cases hg : EM.ck T1 ot s = 0
        · have e1 := hAls.out.there hg
          simp only [e1, hmm'.out, hg, er_n, encM] at F2
          simp only [hAls.out.same hg] at S1
          clear e1 hg
          by_cases hk : mk < 1 ∨ 3 < mk
          · skip
            have hx1 : EM.xe T1 oa s mk = 2 := by rw [hAls.out.xe hlen.out, if_pos hk]
            simp only [hx1, show ¬ ((2 : Int) = 0) by decide, if_false, er_y (show (2 : Int) ≠ 0 by decide)] at E1
            have hmk : (decide (mk < 1) || decide (3 < mk)) = true := by rcases hk with h | h <;> simp [h]
            clear hx1
            go_wp2_with (first
              | (go_at_call 15
                 (with_reducible refine (F1.out _ K6.out).mono ?_)
                 rintro e w7 ⟨rfl, h, hs⟩
                 have K7 := Lib.hid (h.box (.cells #[.int .i64 m1, .int .i64 m2] 24))
                 have L4_7 := Lib.hid ((hs w.heap.size _ _ hmL4.out L4_6.out).alloc (.cells #[.int .i64 m1, .int .i64 m2] 24))
                 have L5_7 := Lib.hid ((hs (w.heap.size + 1) _ _ hmL5.out L5_6.out).alloc (.cells #[.int .i64 m1, .int .i64 m2] 24))
                 have L13_7 := Lib.hid (Lies.made w7 24 #[.int .i64 m1, .int .i64 m2])
                 have v7_L4_1 : (w7.alloc (.cells #[.int .i64 m1, .int .i64 m2] 24)).cell? ⟨w.heap.size, 1, none⟩ = some (.int .i64 oa) := L4_7.out.cell 1
                 clear h hs)
              | (go_at_call 13
                 (with_reducible refine (A1.out _ _ K7.out).mono ?_)
                 rintro e w8 ⟨rfl, h, hs⟩
                 have K8 := Lib.hid h
                 have L4_8 := Lib.hid ((hs w.heap.size _ _ (.inl hmL4.out) L4_7.out))
                 have L5_8 := Lib.hid ((hs (w.heap.size + 1) _ _ (.inl hmL5.out) L5_7.out))
                 have L13_8 := Lib.hid ((hs w7.heap.size _ _ (.inr rfl) L13_7.out))
                 have v8_L4_2 : w8.cell? ⟨w.heap.size, 2, none⟩ = some (.int .i64 ot) := L4_8.out.cell 2
                 clear h hs)
              | (go_at_call 15
                 (with_reducible refine (F2.out _ _ K8.out).mono ?_)
                 rintro e w9 ⟨rfl, h, hs⟩
                 have K9 := Lib.hid (h.box (.cells #[.int .i64 m1, .int .i64 m2] 24))
                 have L4_9 := Lib.hid ((hs w.heap.size _ _ (.inl hmL4.out) L4_8.out).alloc (.cells #[.int .i64 m1, .int .i64 m2] 24))
                 have L5_9 := Lib.hid ((hs (w.heap.size + 1) _ _ (.inl hmL5.out) L5_8.out).alloc (.cells #[.int .i64 m1, .int .i64 m2] 24))
                 have L13_9 := Lib.hid ((hs w7.heap.size _ _ (.inr rfl) L13_8.out).alloc (.cells #[.int .i64 m1, .int .i64 m2] 24))
                 have L17_9 := Lib.hid (Lies.made w9 24 #[.int .i64 m1, .int .i64 m2])
                 have v9_L17_0 : (w9.alloc (.cells #[.int .i64 m1, .int .i64 m2] 24)).cell? ⟨w9.heap.size, 0, none⟩ = some (.int .i64 m1) := L17_9.out.cell 0
                 have v9_L17_1 : (w9.alloc (.cells #[.int .i64 m1, .int .i64 m2] 24)).cell? ⟨w9.heap.size, 1, none⟩ = some (.int .i64 m2) := L17_9.out.cell 1
                 have v9_L13_0 : (w9.alloc (.cells #[.int .i64 m1, .int .i64 m2] 24)).cell? ⟨w7.heap.size, 0, none⟩ = some (.int .i64 m1) := L13_9.out.cell 0
                 have v9_L13_1 : (w9.alloc (.cells #[.int .i64 m1, .int .i64 m2] 24)).cell? ⟨w7.heap.size, 1, none⟩ = some (.int .i64 m2) := L13_9.out.cell 1
                 have v9_L4_1 : (w9.alloc (.cells #[.int .i64 m1, .int .i64 m2] 24)).cell? ⟨w.heap.size, 1, none⟩ = some (.int .i64 oa) := L4_9.out.cell 1
                 have v9_L4_2 : (w9.alloc (.cells #[.int .i64 m1, .int .i64 m2] 24)).cell? ⟨w.heap.size, 2, none⟩ = some (.int .i64 ot) := L4_9.out.cell 2
                 clear h hs)
              | (go_at_call 16
                 (with_reducible refine (S1.out _ _ K9.out).mono ?_)
                 rintro e w10 ⟨rfl, h, hs⟩
                 have K10 := Lib.hid h
                 have L4_10 := Lib.hid ((hs w.heap.size _ _ (.inl (.inl hmL4.out)) L4_9.out))
                 have L5_10 := Lib.hid ((hs (w.heap.size + 1) _ _ (.inl (.inl hmL5.out)) L5_9.out))
                 have L13_10 := Lib.hid ((hs w7.heap.size _ _ (.inl (.inr rfl)) L13_9.out))
                 have L17_10 := Lib.hid ((hs w9.heap.size _ _ (.inr rfl) L17_9.out))
                 clear h hs)
              | (go_at_call 17
                 (with_reducible refine (P1.out _ _ K10.out).mono ?_)
                 rintro e w11 ⟨rfl, h, hs⟩
                 have K11 := Lib.hid h
                 have L4_11 := Lib.hid ((hs w.heap.size _ _ (.inl (.inl hmL4.out)) L4_10.out))
                 have L5_11 := Lib.hid ((hs (w.heap.size + 1) _ _ (.inl (.inl hmL5.out)) L5_10.out))
                 have L13_11 := Lib.hid ((hs w7.heap.size _ _ (.inl (.inr rfl)) L13_10.out))
                 have L17_11 := Lib.hid ((hs w9.heap.size _ _ (.inr rfl) L17_10.out))
                 clear h hs)
              | (go_at_call 17
                 (with_reducible refine (P2.out _ _ K11.out).mono ?_)
                 rintro e w12 ⟨rfl, h, hs⟩
                 have K12 := Lib.hid h
                 have L4_12 := Lib.hid ((hs w.heap.size _ _ (.inl (.inl hmL4.out)) L4_11.out))
                 have L5_12 := Lib.hid ((hs (w.heap.size + 1) _ _ (.inl (.inl hmL5.out)) L5_11.out))
                 have L13_12 := Lib.hid ((hs w7.heap.size _ _ (.inl (.inr rfl)) L13_11.out))
                 have L17_12 := Lib.hid ((hs w9.heap.size _ _ (.inr rfl) L17_11.out))
                 have v12_L4_1 : w12.cell? ⟨w.heap.size, 1, none⟩ = some (.int .i64 oa) := L4_12.out.cell 1
                 have v12_L5_0 : w12.cell? ⟨(w.heap.size + 1), 0, none⟩ = some (.int .i64 mk) := L5_12.out.cell 0
                 have v12_L5_1 : w12.cell? ⟨(w.heap.size + 1), 1, none⟩ = some (.int .i64 mn) := L5_12.out.cell 1
                 clear h hs)
              | (go_at_call 11
                 (with_reducible refine (E1.out _ _ K12.out).mono ?_)
                 rintro e w13 ⟨rfl, h, hs⟩
                 have K13 := Lib.hid h
                 have L4_13 := Lib.hid ((hs w.heap.size _ _ (.inl (.inl hmL4.out)) L4_12.out))
                 have L5_13 := Lib.hid ((hs (w.heap.size + 1) _ _ (.inl (.inl hmL5.out)) L5_12.out))
                 have L13_13 := Lib.hid ((hs w7.heap.size _ _ (.inl (.inr rfl)) L13_12.out))
                 have L17_13 := Lib.hid ((hs w9.heap.size _ _ (.inr rfl) L17_12.out))
                 have v13_L5_0 : w13.cell? ⟨(w.heap.size + 1), 0, none⟩ = some (.int .i64 mk) := L5_13.out.cell 0
                 clear h hs))
            all_goals
              go_ret
              exact ⟨rfl, bW.out.trans (Below.mono K13.out.1 bW.out.size)⟩
          · skip
            have hmk := hk
            have hx1 : EM.xe T1 oa s mk = 0 := by rw [hAls.out.xe hlen.out, if_neg hk]
            simp only [hx1, if_true, er_n, hAls.out.ext hlen.out hk, hAls.out.P] at E1
            have hO2 : Hid (EM.Ok (EM.deep T1 oa.toNat s mk mn)) := by have := hO1.out.ext oa s mk mn; rw [hAls.out.ext hlen.out hk] at this; exact this
            have F3 := Lib.hid (fun w' B (h : Ek w2 w' w2.heap.size (EM.deep T1 oa.toNat s mk mn) B) => ek_find h hO2.out ((T.P.length : Int) + 1) s hs100.out)
            have F4 := Lib.hid (fun w' B (h : Ek w2 w' w2.heap.size (EM.deep T1 oa.toNat s mk mn) B) => ek_find h hO2.out ((T.P.length : Int) + 1) x hx'.out)
            have S2 := Lib.hid (fun w' B (h : Ek w2 w' w2.heap.size (EM.deep T1 oa.toNat s mk mn) B) => ek_same h hO2.out ((T.P.length : Int) + 1) ((T.P.length : Int) + 1) s x hs100.out hx'.out)
            simp only [hAls.out.dfs, hAls.out.dc (show EM.kd T1 s ≠ 0 by rw [hAls.out.kds]; decide), er_n, encM] at F3
            simp only [hAls.out.dfx, hmm'.out, hAls.out.dc (show EM.kd T1 x ≠ 0 by rw [hAls.out.kdx]; exact (EM.ck_zero hc'.out).2.2), er_n, encM] at F4
            simp only [hAls.out.dsm] at S2
            obtain ⟨LL, hLL⟩ : ∃ LL : Int, (T.P.length : Int) + 1 = LL := ⟨_, rfl⟩
            simp only [hLL] at E1 F3 F4 S2
            clear hLL hx1 hmk hk
            go_wp2_with (first
              | (go_at_call 15
                 (with_reducible refine (F1.out _ K6.out).mono ?_)
                 rintro e w7 ⟨rfl, h, hs⟩
                 have K7 := Lib.hid (h.box (.cells #[.int .i64 m1, .int .i64 m2] 24))
                 have L4_7 := Lib.hid ((hs w.heap.size _ _ hmL4.out L4_6.out).alloc (.cells #[.int .i64 m1, .int .i64 m2] 24))
                 have L5_7 := Lib.hid ((hs (w.heap.size + 1) _ _ hmL5.out L5_6.out).alloc (.cells #[.int .i64 m1, .int .i64 m2] 24))
                 have L13_7 := Lib.hid (Lies.made w7 24 #[.int .i64 m1, .int .i64 m2])
                 have v7_L4_1 : (w7.alloc (.cells #[.int .i64 m1, .int .i64 m2] 24)).cell? ⟨w.heap.size, 1, none⟩ = some (.int .i64 oa) := L4_7.out.cell 1
                 clear h hs)
              | (go_at_call 13
                 (with_reducible refine (A1.out _ _ K7.out).mono ?_)
                 rintro e w8 ⟨rfl, h, hs⟩
                 have K8 := Lib.hid h
                 have L4_8 := Lib.hid ((hs w.heap.size _ _ (.inl hmL4.out) L4_7.out))
                 have L5_8 := Lib.hid ((hs (w.heap.size + 1) _ _ (.inl hmL5.out) L5_7.out))
                 have L13_8 := Lib.hid ((hs w7.heap.size _ _ (.inr rfl) L13_7.out))
                 have v8_L4_2 : w8.cell? ⟨w.heap.size, 2, none⟩ = some (.int .i64 ot) := L4_8.out.cell 2
                 clear h hs)
              | (go_at_call 15
                 (with_reducible refine (F2.out _ _ K8.out).mono ?_)
                 rintro e w9 ⟨rfl, h, hs⟩
                 have K9 := Lib.hid (h.box (.cells #[.int .i64 m1, .int .i64 m2] 24))
                 have L4_9 := Lib.hid ((hs w.heap.size _ _ (.inl hmL4.out) L4_8.out).alloc (.cells #[.int .i64 m1, .int .i64 m2] 24))
                 have L5_9 := Lib.hid ((hs (w.heap.size + 1) _ _ (.inl hmL5.out) L5_8.out).alloc (.cells #[.int .i64 m1, .int .i64 m2] 24))
                 have L13_9 := Lib.hid ((hs w7.heap.size _ _ (.inr rfl) L13_8.out).alloc (.cells #[.int .i64 m1, .int .i64 m2] 24))
                 have L17_9 := Lib.hid (Lies.made w9 24 #[.int .i64 m1, .int .i64 m2])
                 have v9_L17_0 : (w9.alloc (.cells #[.int .i64 m1, .int .i64 m2] 24)).cell? ⟨w9.heap.size, 0, none⟩ = some (.int .i64 m1) := L17_9.out.cell 0
                 have v9_L17_1 : (w9.alloc (.cells #[.int .i64 m1, .int .i64 m2] 24)).cell? ⟨w9.heap.size, 1, none⟩ = some (.int .i64 m2) := L17_9.out.cell 1
                 have v9_L13_0 : (w9.alloc (.cells #[.int .i64 m1, .int .i64 m2] 24)).cell? ⟨w7.heap.size, 0, none⟩ = some (.int .i64 m1) := L13_9.out.cell 0
                 have v9_L13_1 : (w9.alloc (.cells #[.int .i64 m1, .int .i64 m2] 24)).cell? ⟨w7.heap.size, 1, none⟩ = some (.int .i64 m2) := L13_9.out.cell 1
                 have v9_L4_1 : (w9.alloc (.cells #[.int .i64 m1, .int .i64 m2] 24)).cell? ⟨w.heap.size, 1, none⟩ = some (.int .i64 oa) := L4_9.out.cell 1
                 have v9_L4_2 : (w9.alloc (.cells #[.int .i64 m1, .int .i64 m2] 24)).cell? ⟨w.heap.size, 2, none⟩ = some (.int .i64 ot) := L4_9.out.cell 2
                 clear h hs)
              | (go_at_call 16
                 (with_reducible refine (S1.out _ _ K9.out).mono ?_)
                 rintro e w10 ⟨rfl, h, hs⟩
                 have K10 := Lib.hid h
                 have L4_10 := Lib.hid ((hs w.heap.size _ _ (.inl (.inl hmL4.out)) L4_9.out))
                 have L5_10 := Lib.hid ((hs (w.heap.size + 1) _ _ (.inl (.inl hmL5.out)) L5_9.out))
                 have L13_10 := Lib.hid ((hs w7.heap.size _ _ (.inl (.inr rfl)) L13_9.out))
                 have L17_10 := Lib.hid ((hs w9.heap.size _ _ (.inr rfl) L17_9.out))
                 clear h hs)
              | (go_at_call 17
                 (with_reducible refine (P1.out _ _ K10.out).mono ?_)
                 rintro e w11 ⟨rfl, h, hs⟩
                 have K11 := Lib.hid h
                 have L4_11 := Lib.hid ((hs w.heap.size _ _ (.inl (.inl hmL4.out)) L4_10.out))
                 have L5_11 := Lib.hid ((hs (w.heap.size + 1) _ _ (.inl (.inl hmL5.out)) L5_10.out))
                 have L13_11 := Lib.hid ((hs w7.heap.size _ _ (.inl (.inr rfl)) L13_10.out))
                 have L17_11 := Lib.hid ((hs w9.heap.size _ _ (.inr rfl) L17_10.out))
                 clear h hs)
              | (go_at_call 17
                 (with_reducible refine (P2.out _ _ K11.out).mono ?_)
                 rintro e w12 ⟨rfl, h, hs⟩
                 have K12 := Lib.hid h
                 have L4_12 := Lib.hid ((hs w.heap.size _ _ (.inl (.inl hmL4.out)) L4_11.out))
                 have L5_12 := Lib.hid ((hs (w.heap.size + 1) _ _ (.inl (.inl hmL5.out)) L5_11.out))
                 have L13_12 := Lib.hid ((hs w7.heap.size _ _ (.inl (.inr rfl)) L13_11.out))
                 have L17_12 := Lib.hid ((hs w9.heap.size _ _ (.inr rfl) L17_11.out))
                 have v12_L4_1 : w12.cell? ⟨w.heap.size, 1, none⟩ = some (.int .i64 oa) := L4_12.out.cell 1
                 have v12_L5_0 : w12.cell? ⟨(w.heap.size + 1), 0, none⟩ = some (.int .i64 mk) := L5_12.out.cell 0
                 have v12_L5_1 : w12.cell? ⟨(w.heap.size + 1), 1, none⟩ = some (.int .i64 mn) := L5_12.out.cell 1
                 clear h hs)
              | (go_at_call 11
                 (with_reducible refine (E1.out _ _ K12.out).mono ?_)
                 rintro e w13 ⟨rfl, h, hs⟩
                 have K13 := Lib.hid h
                 have L4_13 := Lib.hid ((hs w.heap.size _ _ (.inl (.inl hmL4.out)) L4_12.out))
                 have L5_13 := Lib.hid ((hs (w.heap.size + 1) _ _ (.inl (.inl hmL5.out)) L5_12.out))
                 have L13_13 := Lib.hid ((hs w7.heap.size _ _ (.inl (.inr rfl)) L13_12.out))
                 have L17_13 := Lib.hid ((hs w9.heap.size _ _ (.inr rfl) L17_12.out))
                 clear h hs)
              | (go_at_call 15
                 (with_reducible refine (F3.out _ _ K13.out).mono ?_)
                 rintro e w14 ⟨rfl, h, hs⟩
                 have K14 := Lib.hid (h.box (.cells #[.int .i64 mk, .int .i64 mn] 24))
                 have L4_14 := Lib.hid ((hs w.heap.size _ _ (.inl (.inl hmL4.out)) L4_13.out).alloc (.cells #[.int .i64 mk, .int .i64 mn] 24))
                 have L5_14 := Lib.hid ((hs (w.heap.size + 1) _ _ (.inl (.inl hmL5.out)) L5_13.out).alloc (.cells #[.int .i64 mk, .int .i64 mn] 24))
                 have L13_14 := Lib.hid ((hs w7.heap.size _ _ (.inl (.inr rfl)) L13_13.out).alloc (.cells #[.int .i64 mk, .int .i64 mn] 24))
                 have L17_14 := Lib.hid ((hs w9.heap.size _ _ (.inr rfl) L17_13.out).alloc (.cells #[.int .i64 mk, .int .i64 mn] 24))
                 have L21_14 := Lib.hid (Lies.made w14 24 #[.int .i64 mk, .int .i64 mn])
                 clear h hs)
              | (go_at_call 15
                 (with_reducible refine (F4.out _ _ K14.out).mono ?_)
                 rintro e w15 ⟨rfl, h, hs⟩
                 have K15 := Lib.hid (h.box (.cells #[.int .i64 m1, .int .i64 m2] 24))
                 have L4_15 := Lib.hid ((hs w.heap.size _ _ (.inl (.inl (.inl hmL4.out))) L4_14.out).alloc (.cells #[.int .i64 m1, .int .i64 m2] 24))
                 have L5_15 := Lib.hid ((hs (w.heap.size + 1) _ _ (.inl (.inl (.inl hmL5.out))) L5_14.out).alloc (.cells #[.int .i64 m1, .int .i64 m2] 24))
                 have L13_15 := Lib.hid ((hs w7.heap.size _ _ (.inl (.inl (.inr rfl))) L13_14.out).alloc (.cells #[.int .i64 m1, .int .i64 m2] 24))
                 have L17_15 := Lib.hid ((hs w9.heap.size _ _ (.inl (.inr rfl)) L17_14.out).alloc (.cells #[.int .i64 m1, .int .i64 m2] 24))
                 have L21_15 := Lib.hid ((hs w14.heap.size _ _ (.inr rfl) L21_14.out).alloc (.cells #[.int .i64 m1, .int .i64 m2] 24))
                 have L23_15 := Lib.hid (Lies.made w15 24 #[.int .i64 m1, .int .i64 m2])
                 have v15_L21_0 : (w15.alloc (.cells #[.int .i64 m1, .int .i64 m2] 24)).cell? ⟨w14.heap.size, 0, none⟩ = some (.int .i64 mk) := L21_15.out.cell 0
                 have v15_L21_1 : (w15.alloc (.cells #[.int .i64 m1, .int .i64 m2] 24)).cell? ⟨w14.heap.size, 1, none⟩ = some (.int .i64 mn) := L21_15.out.cell 1
                 have v15_L5_0 : (w15.alloc (.cells #[.int .i64 m1, .int .i64 m2] 24)).cell? ⟨(w.heap.size + 1), 0, none⟩ = some (.int .i64 mk) := L5_15.out.cell 0
                 have v15_L5_1 : (w15.alloc (.cells #[.int .i64 m1, .int .i64 m2] 24)).cell? ⟨(w.heap.size + 1), 1, none⟩ = some (.int .i64 mn) := L5_15.out.cell 1
                 have v15_L23_0 : (w15.alloc (.cells #[.int .i64 m1, .int .i64 m2] 24)).cell? ⟨w15.heap.size, 0, none⟩ = some (.int .i64 m1) := L23_15.out.cell 0
                 have v15_L23_1 : (w15.alloc (.cells #[.int .i64 m1, .int .i64 m2] 24)).cell? ⟨w15.heap.size, 1, none⟩ = some (.int .i64 m2) := L23_15.out.cell 1
                 have v15_L13_0 : (w15.alloc (.cells #[.int .i64 m1, .int .i64 m2] 24)).cell? ⟨w7.heap.size, 0, none⟩ = some (.int .i64 m1) := L13_15.out.cell 0
                 have v15_L13_1 : (w15.alloc (.cells #[.int .i64 m1, .int .i64 m2] 24)).cell? ⟨w7.heap.size, 1, none⟩ = some (.int .i64 m2) := L13_15.out.cell 1
                 clear h hs)
              | (go_at_call 16
                 (with_reducible refine (S2.out _ _ K15.out).mono ?_)
                 rintro e w16 ⟨rfl, h, hs⟩
                 have K16 := Lib.hid h
                 have L4_16 := Lib.hid ((hs w.heap.size _ _ (.inl (.inl (.inl (.inl hmL4.out)))) L4_15.out))
                 have L5_16 := Lib.hid ((hs (w.heap.size + 1) _ _ (.inl (.inl (.inl (.inl hmL5.out)))) L5_15.out))
                 have L13_16 := Lib.hid ((hs w7.heap.size _ _ (.inl (.inl (.inl (.inr rfl)))) L13_15.out))
                 have L17_16 := Lib.hid ((hs w9.heap.size _ _ (.inl (.inl (.inr rfl))) L17_15.out))
                 have L21_16 := Lib.hid ((hs w14.heap.size _ _ (.inl (.inr rfl)) L21_15.out))
                 have L23_16 := Lib.hid ((hs w15.heap.size _ _ (.inr rfl) L23_15.out))
                 clear h hs))
            all_goals
              go_ret
              exact ⟨rfl, bW.out.trans (Below.mono K16.out.1 bW.out.size)⟩
        · have e1 : EM.fm T1 ot s = (0, 0) := by unfold EM.fm; rw [if_neg hg]
          simp only [e1, er_y hg, encM] at F2
          obtain ⟨jj, hjj⟩ : ∃ jj, EM.ck T1 ot s = jj := ⟨_, rfl⟩
          simp only [hjj] at F2
          clear e1 hg hjj S1
          by_cases hk : mk < 1 ∨ 3 < mk
          · skip
            have hx1 : EM.xe T1 oa s mk = 2 := by rw [hAls.out.xe hlen.out, if_pos hk]
            simp only [hx1, show ¬ ((2 : Int) = 0) by decide, if_false, er_y (show (2 : Int) ≠ 0 by decide)] at E1
            have hmk : (decide (mk < 1) || decide (3 < mk)) = true := by rcases hk with h | h <;> simp [h]
            clear hx1
            go_wp2_with (first
              | (go_at_call 15
                 (with_reducible refine (F1.out _ K6.out).mono ?_)
                 rintro e w7 ⟨rfl, h, hs⟩
                 have K7 := Lib.hid (h.box (.cells #[.int .i64 m1, .int .i64 m2] 24))
                 have L4_7 := Lib.hid ((hs w.heap.size _ _ hmL4.out L4_6.out).alloc (.cells #[.int .i64 m1, .int .i64 m2] 24))
                 have L5_7 := Lib.hid ((hs (w.heap.size + 1) _ _ hmL5.out L5_6.out).alloc (.cells #[.int .i64 m1, .int .i64 m2] 24))
                 have L13_7 := Lib.hid (Lies.made w7 24 #[.int .i64 m1, .int .i64 m2])
                 have v7_L4_1 : (w7.alloc (.cells #[.int .i64 m1, .int .i64 m2] 24)).cell? ⟨w.heap.size, 1, none⟩ = some (.int .i64 oa) := L4_7.out.cell 1
                 clear h hs)
              | (go_at_call 13
                 (with_reducible refine (A1.out _ _ K7.out).mono ?_)
                 rintro e w8 ⟨rfl, h, hs⟩
                 have K8 := Lib.hid h
                 have L4_8 := Lib.hid ((hs w.heap.size _ _ (.inl hmL4.out) L4_7.out))
                 have L5_8 := Lib.hid ((hs (w.heap.size + 1) _ _ (.inl hmL5.out) L5_7.out))
                 have L13_8 := Lib.hid ((hs w7.heap.size _ _ (.inr rfl) L13_7.out))
                 have v8_L4_2 : w8.cell? ⟨w.heap.size, 2, none⟩ = some (.int .i64 ot) := L4_8.out.cell 2
                 clear h hs)
              | (go_at_call 15
                 (with_reducible refine (F2.out _ _ K8.out).mono ?_)
                 rintro e w9 ⟨rfl, h, hs⟩
                 have K9 := Lib.hid (h.box (.cells #[.int .i64 0, .int .i64 0] 24))
                 have L4_9 := Lib.hid ((hs w.heap.size _ _ (.inl hmL4.out) L4_8.out).alloc (.cells #[.int .i64 0, .int .i64 0] 24))
                 have L5_9 := Lib.hid ((hs (w.heap.size + 1) _ _ (.inl hmL5.out) L5_8.out).alloc (.cells #[.int .i64 0, .int .i64 0] 24))
                 have L13_9 := Lib.hid ((hs w7.heap.size _ _ (.inr rfl) L13_8.out).alloc (.cells #[.int .i64 0, .int .i64 0] 24))
                 have L17_9 := Lib.hid (Lies.made w9 24 #[.int .i64 0, .int .i64 0])
                 have v9_L4_1 : (w9.alloc (.cells #[.int .i64 0, .int .i64 0] 24)).cell? ⟨w.heap.size, 1, none⟩ = some (.int .i64 oa) := L4_9.out.cell 1
                 have v9_L4_2 : (w9.alloc (.cells #[.int .i64 0, .int .i64 0] 24)).cell? ⟨w.heap.size, 2, none⟩ = some (.int .i64 ot) := L4_9.out.cell 2
                 clear h hs)
              | (go_at_call 17
                 (with_reducible refine (P1.out _ _ K9.out).mono ?_)
                 rintro e w10 ⟨rfl, h, hs⟩
                 have K10 := Lib.hid h
                 have L4_10 := Lib.hid ((hs w.heap.size _ _ (.inl (.inl hmL4.out)) L4_9.out))
                 have L5_10 := Lib.hid ((hs (w.heap.size + 1) _ _ (.inl (.inl hmL5.out)) L5_9.out))
                 have L13_10 := Lib.hid ((hs w7.heap.size _ _ (.inl (.inr rfl)) L13_9.out))
                 have L17_10 := Lib.hid ((hs w9.heap.size _ _ (.inr rfl) L17_9.out))
                 clear h hs)
              | (go_at_call 17
                 (with_reducible refine (P2.out _ _ K10.out).mono ?_)
                 rintro e w11 ⟨rfl, h, hs⟩
                 have K11 := Lib.hid h
                 have L4_11 := Lib.hid ((hs w.heap.size _ _ (.inl (.inl hmL4.out)) L4_10.out))
                 have L5_11 := Lib.hid ((hs (w.heap.size + 1) _ _ (.inl (.inl hmL5.out)) L5_10.out))
                 have L13_11 := Lib.hid ((hs w7.heap.size _ _ (.inl (.inr rfl)) L13_10.out))
                 have L17_11 := Lib.hid ((hs w9.heap.size _ _ (.inr rfl) L17_10.out))
                 have v11_L4_1 : w11.cell? ⟨w.heap.size, 1, none⟩ = some (.int .i64 oa) := L4_11.out.cell 1
                 have v11_L5_0 : w11.cell? ⟨(w.heap.size + 1), 0, none⟩ = some (.int .i64 mk) := L5_11.out.cell 0
                 have v11_L5_1 : w11.cell? ⟨(w.heap.size + 1), 1, none⟩ = some (.int .i64 mn) := L5_11.out.cell 1
                 clear h hs)
              | (go_at_call 11
                 (with_reducible refine (E1.out _ _ K11.out).mono ?_)
                 rintro e w12 ⟨rfl, h, hs⟩
                 have K12 := Lib.hid h
                 have L4_12 := Lib.hid ((hs w.heap.size _ _ (.inl (.inl hmL4.out)) L4_11.out))
                 have L5_12 := Lib.hid ((hs (w.heap.size + 1) _ _ (.inl (.inl hmL5.out)) L5_11.out))
                 have L13_12 := Lib.hid ((hs w7.heap.size _ _ (.inl (.inr rfl)) L13_11.out))
                 have L17_12 := Lib.hid ((hs w9.heap.size _ _ (.inr rfl) L17_11.out))
                 have v12_L5_0 : w12.cell? ⟨(w.heap.size + 1), 0, none⟩ = some (.int .i64 mk) := L5_12.out.cell 0
                 clear h hs))
            all_goals
              go_ret
              exact ⟨rfl, bW.out.trans (Below.mono K12.out.1 bW.out.size)⟩
          · skip
            have hmk := hk
            have hx1 : EM.xe T1 oa s mk = 0 := by rw [hAls.out.xe hlen.out, if_neg hk]
            simp only [hx1, if_true, er_n, hAls.out.ext hlen.out hk, hAls.out.P] at E1
            have hO2 : Hid (EM.Ok (EM.deep T1 oa.toNat s mk mn)) := by have := hO1.out.ext oa s mk mn; rw [hAls.out.ext hlen.out hk] at this; exact this
            have F3 := Lib.hid (fun w' B (h : Ek w2 w' w2.heap.size (EM.deep T1 oa.toNat s mk mn) B) => ek_find h hO2.out ((T.P.length : Int) + 1) s hs100.out)
            have F4 := Lib.hid (fun w' B (h : Ek w2 w' w2.heap.size (EM.deep T1 oa.toNat s mk mn) B) => ek_find h hO2.out ((T.P.length : Int) + 1) x hx'.out)
            have S2 := Lib.hid (fun w' B (h : Ek w2 w' w2.heap.size (EM.deep T1 oa.toNat s mk mn) B) => ek_same h hO2.out ((T.P.length : Int) + 1) ((T.P.length : Int) + 1) s x hs100.out hx'.out)
            simp only [hAls.out.dfs, hAls.out.dc (show EM.kd T1 s ≠ 0 by rw [hAls.out.kds]; decide), er_n, encM] at F3
            simp only [hAls.out.dfx, hmm'.out, hAls.out.dc (show EM.kd T1 x ≠ 0 by rw [hAls.out.kdx]; exact (EM.ck_zero hc'.out).2.2), er_n, encM] at F4
            simp only [hAls.out.dsm] at S2
            obtain ⟨LL, hLL⟩ : ∃ LL : Int, (T.P.length : Int) + 1 = LL := ⟨_, rfl⟩
            simp only [hLL] at E1 F3 F4 S2
            clear hLL hx1 hmk hk
            go_wp2_with (first
              | (go_at_call 15
                 (with_reducible refine (F1.out _ K6.out).mono ?_)
                 rintro e w7 ⟨rfl, h, hs⟩
                 have K7 := Lib.hid (h.box (.cells #[.int .i64 m1, .int .i64 m2] 24))
                 have L4_7 := Lib.hid ((hs w.heap.size _ _ hmL4.out L4_6.out).alloc (.cells #[.int .i64 m1, .int .i64 m2] 24))
                 have L5_7 := Lib.hid ((hs (w.heap.size + 1) _ _ hmL5.out L5_6.out).alloc (.cells #[.int .i64 m1, .int .i64 m2] 24))
                 have L13_7 := Lib.hid (Lies.made w7 24 #[.int .i64 m1, .int .i64 m2])
                 have v7_L4_1 : (w7.alloc (.cells #[.int .i64 m1, .int .i64 m2] 24)).cell? ⟨w.heap.size, 1, none⟩ = some (.int .i64 oa) := L4_7.out.cell 1
                 clear h hs)
              | (go_at_call 13
                 (with_reducible refine (A1.out _ _ K7.out).mono ?_)
                 rintro e w8 ⟨rfl, h, hs⟩
                 have K8 := Lib.hid h
                 have L4_8 := Lib.hid ((hs w.heap.size _ _ (.inl hmL4.out) L4_7.out))
                 have L5_8 := Lib.hid ((hs (w.heap.size + 1) _ _ (.inl hmL5.out) L5_7.out))
                 have L13_8 := Lib.hid ((hs w7.heap.size _ _ (.inr rfl) L13_7.out))
                 have v8_L4_2 : w8.cell? ⟨w.heap.size, 2, none⟩ = some (.int .i64 ot) := L4_8.out.cell 2
                 clear h hs)
              | (go_at_call 15
                 (with_reducible refine (F2.out _ _ K8.out).mono ?_)
                 rintro e w9 ⟨rfl, h, hs⟩
                 have K9 := Lib.hid (h.box (.cells #[.int .i64 0, .int .i64 0] 24))
                 have L4_9 := Lib.hid ((hs w.heap.size _ _ (.inl hmL4.out) L4_8.out).alloc (.cells #[.int .i64 0, .int .i64 0] 24))
                 have L5_9 := Lib.hid ((hs (w.heap.size + 1) _ _ (.inl hmL5.out) L5_8.out).alloc (.cells #[.int .i64 0, .int .i64 0] 24))
                 have L13_9 := Lib.hid ((hs w7.heap.size _ _ (.inr rfl) L13_8.out).alloc (.cells #[.int .i64 0, .int .i64 0] 24))
                 have L17_9 := Lib.hid (Lies.made w9 24 #[.int .i64 0, .int .i64 0])
                 have v9_L4_1 : (w9.alloc (.cells #[.int .i64 0, .int .i64 0] 24)).cell? ⟨w.heap.size, 1, none⟩ = some (.int .i64 oa) := L4_9.out.cell 1
                 have v9_L4_2 : (w9.alloc (.cells #[.int .i64 0, .int .i64 0] 24)).cell? ⟨w.heap.size, 2, none⟩ = some (.int .i64 ot) := L4_9.out.cell 2
                 clear h hs)
              | (go_at_call 17
                 (with_reducible refine (P1.out _ _ K9.out).mono ?_)
                 rintro e w10 ⟨rfl, h, hs⟩
                 have K10 := Lib.hid h
                 have L4_10 := Lib.hid ((hs w.heap.size _ _ (.inl (.inl hmL4.out)) L4_9.out))
                 have L5_10 := Lib.hid ((hs (w.heap.size + 1) _ _ (.inl (.inl hmL5.out)) L5_9.out))
                 have L13_10 := Lib.hid ((hs w7.heap.size _ _ (.inl (.inr rfl)) L13_9.out))
                 have L17_10 := Lib.hid ((hs w9.heap.size _ _ (.inr rfl) L17_9.out))
                 clear h hs)
              | (go_at_call 17
                 (with_reducible refine (P2.out _ _ K10.out).mono ?_)
                 rintro e w11 ⟨rfl, h, hs⟩
                 have K11 := Lib.hid h
                 have L4_11 := Lib.hid ((hs w.heap.size _ _ (.inl (.inl hmL4.out)) L4_10.out))
                 have L5_11 := Lib.hid ((hs (w.heap.size + 1) _ _ (.inl (.inl hmL5.out)) L5_10.out))
                 have L13_11 := Lib.hid ((hs w7.heap.size _ _ (.inl (.inr rfl)) L13_10.out))
                 have L17_11 := Lib.hid ((hs w9.heap.size _ _ (.inr rfl) L17_10.out))
                 have v11_L4_1 : w11.cell? ⟨w.heap.size, 1, none⟩ = some (.int .i64 oa) := L4_11.out.cell 1
                 have v11_L5_0 : w11.cell? ⟨(w.heap.size + 1), 0, none⟩ = some (.int .i64 mk) := L5_11.out.cell 0
                 have v11_L5_1 : w11.cell? ⟨(w.heap.size + 1), 1, none⟩ = some (.int .i64 mn) := L5_11.out.cell 1
                 clear h hs)
              | (go_at_call 11
                 (with_reducible refine (E1.out _ _ K11.out).mono ?_)
                 rintro e w12 ⟨rfl, h, hs⟩
                 have K12 := Lib.hid h
                 have L4_12 := Lib.hid ((hs w.heap.size _ _ (.inl (.inl hmL4.out)) L4_11.out))
                 have L5_12 := Lib.hid ((hs (w.heap.size + 1) _ _ (.inl (.inl hmL5.out)) L5_11.out))
                 have L13_12 := Lib.hid ((hs w7.heap.size _ _ (.inl (.inr rfl)) L13_11.out))
                 have L17_12 := Lib.hid ((hs w9.heap.size _ _ (.inr rfl) L17_11.out))
                 clear h hs)
              | (go_at_call 15
                 (with_reducible refine (F3.out _ _ K12.out).mono ?_)
                 rintro e w13 ⟨rfl, h, hs⟩
                 have K13 := Lib.hid (h.box (.cells #[.int .i64 mk, .int .i64 mn] 24))
                 have L4_13 := Lib.hid ((hs w.heap.size _ _ (.inl (.inl hmL4.out)) L4_12.out).alloc (.cells #[.int .i64 mk, .int .i64 mn] 24))
                 have L5_13 := Lib.hid ((hs (w.heap.size + 1) _ _ (.inl (.inl hmL5.out)) L5_12.out).alloc (.cells #[.int .i64 mk, .int .i64 mn] 24))
                 have L13_13 := Lib.hid ((hs w7.heap.size _ _ (.inl (.inr rfl)) L13_12.out).alloc (.cells #[.int .i64 mk, .int .i64 mn] 24))
                 have L17_13 := Lib.hid ((hs w9.heap.size _ _ (.inr rfl) L17_12.out).alloc (.cells #[.int .i64 mk, .int .i64 mn] 24))
                 have L21_13 := Lib.hid (Lies.made w13 24 #[.int .i64 mk, .int .i64 mn])
                 clear h hs)
              | (go_at_call 15
                 (with_reducible refine (F4.out _ _ K13.out).mono ?_)
                 rintro e w14 ⟨rfl, h, hs⟩
                 have K14 := Lib.hid (h.box (.cells #[.int .i64 m1, .int .i64 m2] 24))
                 have L4_14 := Lib.hid ((hs w.heap.size _ _ (.inl (.inl (.inl hmL4.out))) L4_13.out).alloc (.cells #[.int .i64 m1, .int .i64 m2] 24))
                 have L5_14 := Lib.hid ((hs (w.heap.size + 1) _ _ (.inl (.inl (.inl hmL5.out))) L5_13.out).alloc (.cells #[.int .i64 m1, .int .i64 m2] 24))
                 have L13_14 := Lib.hid ((hs w7.heap.size _ _ (.inl (.inl (.inr rfl))) L13_13.out).alloc (.cells #[.int .i64 m1, .int .i64 m2] 24))
                 have L17_14 := Lib.hid ((hs w9.heap.size _ _ (.inl (.inr rfl)) L17_13.out).alloc (.cells #[.int .i64 m1, .int .i64 m2] 24))
                 have L21_14 := Lib.hid ((hs w13.heap.size _ _ (.inr rfl) L21_13.out).alloc (.cells #[.int .i64 m1, .int .i64 m2] 24))
                 have L23_14 := Lib.hid (Lies.made w14 24 #[.int .i64 m1, .int .i64 m2])
                 have v14_L21_0 : (w14.alloc (.cells #[.int .i64 m1, .int .i64 m2] 24)).cell? ⟨w13.heap.size, 0, none⟩ = some (.int .i64 mk) := L21_14.out.cell 0
                 have v14_L21_1 : (w14.alloc (.cells #[.int .i64 m1, .int .i64 m2] 24)).cell? ⟨w13.heap.size, 1, none⟩ = some (.int .i64 mn) := L21_14.out.cell 1
                 have v14_L5_0 : (w14.alloc (.cells #[.int .i64 m1, .int .i64 m2] 24)).cell? ⟨(w.heap.size + 1), 0, none⟩ = some (.int .i64 mk) := L5_14.out.cell 0
                 have v14_L5_1 : (w14.alloc (.cells #[.int .i64 m1, .int .i64 m2] 24)).cell? ⟨(w.heap.size + 1), 1, none⟩ = some (.int .i64 mn) := L5_14.out.cell 1
                 have v14_L23_0 : (w14.alloc (.cells #[.int .i64 m1, .int .i64 m2] 24)).cell? ⟨w14.heap.size, 0, none⟩ = some (.int .i64 m1) := L23_14.out.cell 0
                 have v14_L23_1 : (w14.alloc (.cells #[.int .i64 m1, .int .i64 m2] 24)).cell? ⟨w14.heap.size, 1, none⟩ = some (.int .i64 m2) := L23_14.out.cell 1
                 have v14_L13_0 : (w14.alloc (.cells #[.int .i64 m1, .int .i64 m2] 24)).cell? ⟨w7.heap.size, 0, none⟩ = some (.int .i64 m1) := L13_14.out.cell 0
                 have v14_L13_1 : (w14.alloc (.cells #[.int .i64 m1, .int .i64 m2] 24)).cell? ⟨w7.heap.size, 1, none⟩ = some (.int .i64 m2) := L13_14.out.cell 1
                 clear h hs)
              | (go_at_call 16
                 (with_reducible refine (S2.out _ _ K14.out).mono ?_)
                 rintro e w15 ⟨rfl, h, hs⟩
                 have K15 := Lib.hid h
                 have L4_15 := Lib.hid ((hs w.heap.size _ _ (.inl (.inl (.inl (.inl hmL4.out)))) L4_14.out))
                 have L5_15 := Lib.hid ((hs (w.heap.size + 1) _ _ (.inl (.inl (.inl (.inl hmL5.out)))) L5_14.out))
                 have L13_15 := Lib.hid ((hs w7.heap.size _ _ (.inl (.inl (.inl (.inr rfl)))) L13_14.out))
                 have L17_15 := Lib.hid ((hs w9.heap.size _ _ (.inl (.inl (.inr rfl))) L17_14.out))
                 have L21_15 := Lib.hid ((hs w13.heap.size _ _ (.inl (.inr rfl)) L21_14.out))
                 have L23_15 := Lib.hid ((hs w14.heap.size _ _ (.inr rfl) L23_14.out))
                 clear h hs))
            all_goals
              go_ret
              exact ⟨rfl, bW.out.trans (Below.mono K15.out.1 bW.out.size)⟩
      · have e1 : EM.fm T oa x = (0, 0) := by unfold EM.fm; rw [if_neg hc]
        have e2 : EM.ae T oa x = EM.ck T oa x := by unfold EM.ae; rw [if_pos hc]
        have F1 := Lib.hid (fun w' (h : Ek w2 w' w2.heap.size T (fun b => b < w2.heap.size)) => ek_find h hOk.out oa x hx'.out)
        simp only [e1, er_y hc, encM] at F1
        have A1 := Lib.hid (fun w' B (h : Ek w2 w' w2.heap.size T B) => ek_ali hMT2.out.1 hMT2.out.2 h hOk.out oa x hx'.out)
        simp only [e2, if_neg hc, er_y hc] at A1
        obtain ⟨jj, hjj⟩ : ∃ jj, EM.ck T oa x = jj := ⟨_, rfl⟩
        simp only [hjj] at F1 A1
        clear e1 e2 hc hjj hmm
        go_wp2_with (first
          | (go_at_call 15
             (with_reducible refine (F1.out _ K6.out).mono ?_)
             rintro e w7 ⟨rfl, h, hs⟩
             have K7 := Lib.hid (h.box (.cells #[.int .i64 0, .int .i64 0] 24))
             have L4_7 := Lib.hid ((hs w.heap.size _ _ hmL4.out L4_6.out).alloc (.cells #[.int .i64 0, .int .i64 0] 24))
             have L5_7 := Lib.hid ((hs (w.heap.size + 1) _ _ hmL5.out L5_6.out).alloc (.cells #[.int .i64 0, .int .i64 0] 24))
             have L13_7 := Lib.hid (Lies.made w7 24 #[.int .i64 0, .int .i64 0])
             have v7_L4_1 : (w7.alloc (.cells #[.int .i64 0, .int .i64 0] 24)).cell? ⟨w.heap.size, 1, none⟩ = some (.int .i64 oa) := L4_7.out.cell 1
             clear h hs)
          | (go_at_call 13
             (with_reducible refine (A1.out _ _ K7.out).mono ?_)
             rintro e w8 ⟨rfl, h, hs⟩
             have K8 := Lib.hid h
             have L4_8 := Lib.hid ((hs w.heap.size _ _ (.inl hmL4.out) L4_7.out))
             have L5_8 := Lib.hid ((hs (w.heap.size + 1) _ _ (.inl hmL5.out) L5_7.out))
             have L13_8 := Lib.hid ((hs w7.heap.size _ _ (.inr rfl) L13_7.out))
             clear h hs))
        go_quiet (fail)
        go_wp2
        go_ret
        exact ⟨rfl, bW.out.trans (Below.mono (below_drewN K8.out.1 _) bW.out.size)⟩
end Go.Proofs.YtbkjmmeipbbaaaaDoor
