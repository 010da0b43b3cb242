/- The law of layer 4 on rows. -/
import Derived.Test.YtnkfpnhifpblmaaRingBook
import Derived.Test.YtnkfpnhifpblmaaLaw
import Derived.Deep.CutRange
import Derived.Deep.LoopGhost
import Derived.Test.YtnkfpnhifpblmaaRingReg
namespace Go.Proofs.Ytnkfpnhifpblmaa
open Go.ChangeShapes Go.WideShapes Go.ChangeAt Go.RowKit

set_option maxRecDepth 100000 in
set_option maxHeartbeats 1000000 in
theorem ringRows_long (n : Int) (A : Option Addr) (l c : Nat) (hl : 300 < l) (hm : l ≤ maxLen) (w : World) :
    Calls Try.prog 3 #[.int .i64 n, .slice A l c] w fun e w' => e = .returned (.bool true) ∧ Below w.heap.size w w' := by
  unfold maxLen at hm
  obtain ⟨m, hmm, hlt⟩ := small_mod n 20 (by omega) (by omega)
  have HM := Lib.hid hmm
  clear hmm
  go_enter Try.func3, Try.ntmps3
  go_wp2_with fail
  rw [HM.out]
  have e2 : wrap64 ((m : Int) + 3) = m + 3 := by rw [IntWalk.wrap64_in _ ⟨by omega, by omega⟩]
  have e3 : wrap64 (3 * ((m : Int) + 3)) = 3 * (m + 3) := by rw [IntWalk.wrap64_in _ ⟨by omega, by omega⟩]
  rw [e2, e3]
  have hm1 : m ≤ 30 := by omega
  clear e2 e3 HM hlt
  refine (had_newi _ (3 * (m + 3)) (by omega) (by omega) _).mono ?_
  rintro e w1 ⟨p, b, rfl, hs1, hp, hb, hw1⟩
  go_wp2_with (
    go_at_call 7
    refine (awake_any _).mono ?_
    rintro e w2 ⟨rfl, hw2⟩
    replace hw1 := hw1.trans (hw2.mono hw1.size))
  go_ret
  exact ⟨rfl, hw1⟩

set_option maxRecDepth 100000 in
set_option maxHeartbeats 4000000 in
theorem ringRows_short (n : Int) (A : Option Addr) (l c : Nat) (Z : Nat → Nat → Int) (hl : l ≤ 300) (w : World) (hz : CameRows w [.i64, .i64, .i64] A l Z) :
    Calls Try.prog 3 #[.int .i64 n, .slice A l c] w fun e w' => e = .returned (.bool true) ∧ Below w.heap.size w w' := by
  obtain ⟨m, hmm, hlt⟩ := small_mod n 20 (by omega) (by omega)
  have HM := Lib.hid hmm
  clear hmm
  have hmm := @run_makeMap Try.prog
  go_enter Try.func3, Try.ntmps3
  go_wp2_with fail
  rw [HM.out]
  have e2 : wrap64 ((m : Int) + 3) = m + 3 := by rw [IntWalk.wrap64_in _ ⟨by omega, by omega⟩]
  have e3 : wrap64 (3 * ((m : Int) + 3)) = 3 * (m + 3) := by rw [IntWalk.wrap64_in _ ⟨by omega, by omega⟩]
  rw [e2, e3]
  have hm1 : m ≤ 30 := by omega
  clear e2 e3 HM hlt
  obtain ⟨N, hN⟩ : ∃ N : Nat, N = 3 * (m + 3) := ⟨_, rfl⟩
  refine (had_newi _ N (by omega) (by omega) _).mono ?_
  rintro e w1 ⟨p, b, rfl, hs1, hp, hb, hw1⟩
  go_wp2_with (
    go_at_call 7
    refine (awake_any _).mono ?_
    rintro e w2 ⟨rfl, hw2⟩)
  have hs2 := hs1.st (Turns.of_below hw2 (fun _ => False)) (fun h => h) (fun h => h) (Nat.le_refl _)
  have hb2 := hw1.trans (hw2.mono hw1.size)
  go_loopw [56] (fun k wr => ∃ (j : Nat) (xs : List Int), j ≤ m + 3 ∧ k = .int .i64 j ∧ Start N xs j ∧ Had wr p b xs (2 * j) ∧ Below w.heap.size w wr) (fun k _ => m + 3 - (intOf k).toNat)
  case atStart => exact ⟨0, _, by omega, rfl, start_zero N, hs2, hb2⟩
  case round =>
    obtain ⟨j, xs, hj, rfl, hst, hs3, hb3⟩ := hrel
    by_cases hjm : j < m + 3
    · have I := Lib.hid (init_next p b (2 * j) wr hs3 (by omega) (by omega) hst (by omega))
      clear hst hz
      go_wp2_with (
        go_at_call 8
        refine I.out.mono ?_
        rintro e w4 ⟨rfl, hst4, hs4, ht4⟩)
      go_roundw
      case rel => exact ⟨j + 1, _, by omega, by go_num, hst4, hs4, hb3.trans (ht4.below hb3.size (fun i hi => by omega))⟩
      case measure => simp [intOf]; omega
    · obtain rfl : j = m + 3 := by omega
      have H1 := rg_start hst.1 (by omega) (fun j hj => hst.2 j (by omega))
      clear hst
      go_wp2_with fail
      have hbook : Book wr.heap.size 0 (fun _ => []) (fun _ => .slice none 0 0) (fun _ => none) ((wr.alloc (.cells #[.slice none 0 0, .slice none 0 0, .slice none 0 0] 32)).alloc (.map #[] 0)) := by
        refine ⟨(Lies.made wr _ _).alloc _, fun k _ => Own.none_ _ _, ?_⟩
        have := Mp.made (wr.alloc (.cells #[.slice none 0 0, .slice none 0 0, .slice none 0 0] 32))
        simpa using this
      have hs4 : Had ((wr.alloc (.cells #[.slice none 0 0, .slice none 0 0, .slice none 0 0] 32)).alloc (.map #[] 0)) p b xs 1000 :=
        hs3.st (((Turns.refl (fun _ => False) _).alloc _).alloc _) (fun h => h) (fun h => h) (by omega)
      have hb4 : Below w.heap.size w ((wr.alloc (.cells #[.slice none 0 0, .slice none 0 0, .slice none 0 0] 32)).alloc (.map #[] 0)) := (hb3.alloc hb3.size _).alloc (by have := hb3.size; simp; omega) _
      have hpg := hs3.lt
      have hwg := hb3.size
      clear hs3 hs2 hs1 hb2 hb3 hw1 hw2
      generalize (wr.alloc (.cells #[.slice none 0 0, .slice none 0 0, .slice none 0 0] 32)).alloc (.map #[] 0) = w4 at *
      generalize wr.heap.size = g at *
      obtain ⟨hpg, hbg⟩ := hpg
      go_loopw [67] (fun k wr => ∃ (j : Nat) (xs : List Int) (R : Int → List Int) (V : Nat → Value) (S : Int → Option Int), j ≤ l ∧ k = .int .i64 j ∧ Rg N xs R ∧ Tie R S ∧ Had wr p b xs (1000 + 1000 * j) ∧ Book g (100 * j) R V S wr ∧ Below w.heap.size w wr) (fun k _ => l - (intOf k).toNat)
      case atStart => exact ⟨0, xs, _, _, _, by omega, rfl, H1, tie_start, hs4, hbook, hb4⟩
      case round =>
        obtain ⟨j, ys, R, V, S, hj, rfl, hrg, htie, hs5, hbk, hb5⟩ := hrel
        by_cases hjl : j < l
        · obtain ⟨gz, off, rfl, hgz, hcell⟩ := hz.at_ hb5 hjl
          have a0 : wr.cell? ⟨gz, off + j * 3, none⟩ = some (.int .i64 (Z j 0)) := hcell 0 _ rfl
          have a1 : wr.cell? ⟨gz, off + j * 3 + 1, none⟩ = some (.int .i64 (Z j 1)) := hcell 1 _ rfl
          have a2 : wr.cell? ⟨gz, off + j * 3 + 2, none⟩ = some (.int .i64 (Z j 2)) := hcell 2 _ rfl
          clear hcell
          generalize Z j 0 = zK at a0
          generalize Z j 1 = zA at a1
          generalize Z j 2 = zB at a2
          obtain ⟨h, hh, hh3⟩ := small_mod zA 3 (by omega) (by omega)
          obtain ⟨k, hk, hk3⟩ := small_mod zB 3 (by omega) (by omega)
          have tw : Turns (fun _ => False) wr (wr.alloc (.cells #[.int .i64 zK, .int .i64 zA, .int .i64 zB] 35)) := (Turns.refl _ _).alloc _
          have hs6 := hs5.st tw (fun h => h) (fun h => h) (Nat.le_refl _)
          have hbk6 := hbk.turns tw (fun _ h => h.elim)
          have hb6 := hb5.trans (tw.below hb5.size (fun _ h => h.elim))
          clear hs5 hbk tw
          go_upto_if 78 with (fail)
          rw [hh]
          go_cut [67] from 67 to 213 (fun cc wc => cc = .int .i64 j ∧ ∃ (xs : List Int) (R : Int → List Int) (V : Nat → Value) (S : Int → Option Int), Rg N xs R ∧ Tie R S ∧ Had wc p b xs (1000 + 1000 * j + 50) ∧ Book g (100 * j + 60) R V S wc ∧ Below w.heap.size w wc)
          case rest =>
            clear hs6 hbk6 hb6 hrg htie a0 a1 a2 hh hk H1 hs4 hbook hb4 hz hmm
            obtain ⟨rfl, xs, R, V, S, hrg, htie, hs7, hbk7, hb7⟩ := hcut
            go_wp2_with fail
            go_loopw [191] (fun q wr => ∃ kk : Nat, kk ≤ 3 ∧ q = .int .i64 kk ∧ Had wr p b xs (1000 + 1000 * j + 50 + 100 * kk) ∧ Book g (100 * j + 60) R V S wr ∧ Below w.heap.size w wr) (fun q _ => 3 - (intOf q).toNat)
            case atStart => exact ⟨0, by omega, rfl, hs7, hbk7, hb7⟩
            case round =>
              obtain ⟨kk, hkk, rfl, hs8, hbk8, hb8⟩ := hrel
              by_cases hk3' : kk < 3
              · have hlen := rg_few hrg hN (k := kk) (by omega) (by omega)
                have AA := Lib.hid (rgAround (most := m) (k := kk) (a := 3 * kk) hrg hs8 (by omega) (by omega) rfl (by omega) (by omega) hlen (by omega))
                go_wp2_with (first
                  | (go_at_call 13
                     refine AA.out.mono ?_
                     rintro e w9 ⟨v9, rfl, hown9, hs9, ht9⟩
                     have hbk9 := hbk8.turns ht9 (by omega)
                     have c9 := hbk9.at_ hk3')
                  | (go_at_call 14
                     refine (same_any _ _ _ _ (R kk) _ hown9 (hbk9.own kk hk3') (by omega)).mono ?_
                     rintro e w10 ⟨rfl, q, rfl⟩))
                go_roundw
                case rel =>
                  (repeat apply Exists.intro)
                  exact ⟨⟨kk + 1, by omega, by go_num, hs9.st ((Turns.refl (fun _ => False) w9).drewN q) (fun h => h) (fun h => h) (by omega), hbk9.turns ((Turns.refl (fun _ => False) _).drewN _) (fun _ h => h.elim), below_drewN (hb8.trans (ht9.below hb8.size (fun i hi => by omega))) _⟩, rfl⟩
                case measure => simp [intOf]; omega
              · obtain rfl : kk = 3 := by omega
                go_wp2_with fail
                go_roundw
                case rel => exact ⟨j + 1, xs, R, V, S, by omega, by go_num, hrg, htie, hs8.st (Turns.refl (fun _ => False) _) (fun h => h) (fun h => h) (by omega), hbk8.mono (by omega), hb8⟩
                case measure => simp [intOf]; omega
          case first =>
            have hkn := Lib.hid hz
            clear hz hs4 hbook hb4 H1 hmm
            by_cases hK : zK = 6
            · subst hK
              go_upto_region 18 with fail
              rw [hk]
              by_cases hne : (k : Int) = h
              · have f1 : ((k : Int) == (h : Int)) = true := by simpa using hne
                clear hkn hh hk
                go_wp2_with fail
                go_roundw
                case rel => exact ⟨j + 1, ys, R, V, S, by omega, by go_num, hrg, htie, hs6.st (Turns.refl (fun _ => False) _) (fun h => h) (fun h => h) (by omega), hbk6.mono (by omega), hb6⟩
                case measure => simp [intOf]; omega
              · have f1 : ((k : Int) == (h : Int)) = false := by simpa using hne
                have JJ := Lib.hid (rgJoin (a := 3 * (h : Int)) (c := 3 * (k : Int)) (h := h) (k := k) hrg hs6 (by omega) (by omega) rfl rfl (by omega) hh3 (by omega) hk3 (by omega))
                have htie' := Lib.hid (tie_join (h := h) (k := k) htie (by omega) hh3 (by omega) hk3 (by omega))
                have hpl := Lib.hid (hrg.place k (by omega) hk3)
                have hfew := rg_few hrg hN (k := k) (by omega) hk3
                obtain ⟨Ak, ck, hVk, -⟩ := (hbk6.own k (by omega)).read
                have hrg0 := Lib.hid hrg
                have hne' : k ≠ h := by omega
                clear hne hh hk htie hrg
                go_wp2_with (
                  go_at_call 9
                  refine JJ.out.mono ?_
                  rintro e w7 ⟨rfl, ⟨xs7, hrg7, hs7⟩, ht7⟩
                  have hbk7 := hbk6.turns ht7 (by omega)
                  have c7 := hbk7.at_ (k := k) (by omega)
                  rw [hVk] at c7)
                have hb7 := hb6.trans (ht7.below hb6.size (fun i hi => by omega))
                have e0 : Sj S (R k) h 0 = S := Sj_zero
                have HVk := Lib.hid hVk
                clear hVk
                go_loopw [98] (fun q wr => ∃ i : Nat, i ≤ (R k).length ∧ q = .int .i64 i ∧ Had wr p b xs7 (1000 + 1000 * j + 10) ∧ Book g (100 * j + i) R V (Sj S (R k) h i) wr ∧ Below w.heap.size w wr) (fun q _ => (R k).length - (intOf q).toNat)
                case atStart => exact ⟨0, by omega, rfl, hs7, by rw [e0]; exact hbk7, hb7⟩
                case round =>
                  obtain ⟨i, hi, rfl, hs8, hbk8, hb8⟩ := hrel
                  by_cases hik : i < (R k).length
                  · obtain ⟨gk, rfl, -, -, c8⟩ := Own.cell (HVk.out ▸ hbk8.own k (by omega)) hik
                    have hmem : (R k).getD i 0 ∈ R k := by
                      rw [List.getD_eq_getElem?_getD, List.getElem?_eq_getElem hik]
                      exact List.getElem_mem _
                    obtain ⟨⟨x0, x1, -⟩, -⟩ := hpl.out _ hmem
                    have hnx := Lib.hid (Sj_next (S := S) (h := h) hik)
                    generalize (R k).getD i 0 = x at *
                    clear hmem
                    go_wp2_with (
                      at_mapUpdate
                      refine wpList_map_put rfl _ _ _ 33 rfl Try.underlying33 x h rfl rfl rfl hbk8.map (by omega) (wf_small (by omega) (by omega)) (wf_small (by omega) (by omega)) ?_
                      intro w9 hm9 hg9)
                    rw [hnx.out] at hm9
                    have hbk9 := hbk8.mapped hm9 hg9
                    have ht9 : Turns (fun i => i = g + 1) wr w9 := (Turns.refl _ wr).grown hg9 (fun k hk _ => by injection hk with hk; exact hk.symm)
                    go_roundw
                    case rel => exact ⟨i + 1, by omega, by go_num, hs8.st ht9 (by omega) (by omega) (Nat.le_refl _), hbk9, hb8.trans (ht9.below hb8.size (fun i hi => by omega))⟩
                    case measure => simp [intOf]; omega
                  · obtain rfl : i = (R k).length := by omega
                    have hfh := rg_few hrg0.out hN (k := h) (by omega) hh3
                    go_wp2_with fail
                    refine regJoin_walk hbk8 hh3 hk3 hne' (by omega) (by omega) ?_
                    intro _ _ _ _ _ _ _ _ _ _ _ A11 n11 w11 hown12 ht11
                    have hset := (hbk8.turns ht11 (fun _ h => h.elim)).set (k := h) (by omega) hown12
                    have ht12 : Turns (fun i => i = g) wr (w11.setCell ⟨g, h, none⟩ (.slice A11 ((R h).length + (R k).length) n11)) := (ht11.mono (Y := fun i => i = g) (fun _ _ h => h.elim)).setCell (p := ⟨g, h, none⟩) (fun _ => rfl) _
                    clear hown12 ht11
                    generalize w11.setCell ⟨g, h, none⟩ (.slice A11 ((R h).length + (R k).length) n11) = w12 at *
                    have c18 := hset.at_ (k := k) (by omega)
                    have c19 := hset.free k
                    have hset2 := (hset.set (k := k) (by omega) (Own.none_ w12 (g + 2))).congr joinR_upd
                    have ht13 := ht12.setCell (p := ⟨g, k, none⟩) (fun _ => rfl) (.slice none 0 0)
                    go_wp2_with fail
                    go_meet
                    case rel => exact ⟨rfl, xs7, joinR R h k, _, _, hrg7, htie'.out, hs8.st ht13 (by omega) (by omega) (by omega), hset2.mono (by omega), hb8.trans (ht13.below hb8.size (fun i hi => by omega))⟩
            · have f0 : (zK == 6) = false := by simpa using hK
              clear hK hkn hk
              by_cases hm0 : m = 0
              · subst hm0
                go_wp2_with fail
                go_meet
                case rel => exact ⟨rfl, ys, R, V, S, hrg, htie, hs6.st (Turns.refl (fun _ => False) _) (fun h => h) (fun h => h) (by omega), hbk6.mono (by omega), hb6⟩
              · obtain ⟨x, hx, hxm⟩ := small_mod zB m (by omega) (by omega)
                go_upto_region 30 with fail
                obtain ⟨y, hy⟩ : ∃ y, y = 3 * (3 + (x : Int)) := ⟨_, rfl⟩
                rw [← hy]
                have hpy : Pl N y := ⟨by omega, by omega, by omega⟩
                have h9 : 9 ≤ y := by omega
                have hwf := wf_small (a := y) (by omega) (by omega)
                clear hx hh hy
                obtain hS | ⟨kk, hS⟩ : S y = none ∨ ∃ kk, S y = some kk := by cases S y <;> simp
                · have his : (S y).isSome = false := by rw [hS]; rfl
                  have II := Lib.hid (rgInsert (a := 3 * (h : Int)) (h := h) (c := y) hrg hs6 (by omega) (by omega) rfl (by omega) hh3 hpy h9 (tie_no htie hS))
                  have htie' := Lib.hid (tie_ins (h := h) htie (by omega) hh3 hS)
                  have hfh := rg_few hrg hN (k := h) (by omega) hh3
                  have q0 : (0 : Int) ≤ (h : Int) := by omega
                  clear hS htie hrg hpy
                  go_wp2_with (first
                    | (at_lookup
                       refine wpList_map_look rfl _ _ 33 rfl Try.underlying33 y rfl rfl hbk6.map hwf ?_
                       intro c hc
                       clear hc)
                    | (go_at_call 12
                       refine II.out.mono ?_
                       rintro e w7 ⟨rfl, ⟨xs7, hrg7, hs7⟩, ht7⟩
                       have hbk7 := hbk6.turns ht7 (by omega)
                       have tw7 : Turns (fun _ => False) w7 (w7.alloc (.cells #[.int .i64 y] 3)) := (Turns.refl _ _).alloc _
                       have c7 := (hbk7.turns tw7 (fun _ h => h.elim)).at_ (k := h) (by omega))
                    | (at_builtin
                       refine wpList_append_ints (v := .slice (some ⟨w7.heap.size, 0, none⟩) 1 1) (x := V h) rfl _ _ 31 rfl Try.underlying31 rfl rfl (Own.one (B := g + 2) w7 y (by have := hbk7.lt; omega)) ((hbk7.own h (by omega)).turns tw7 (fun _ _ h => h)) (by simp; omega) (by have := hbk7.lt; simp; omega) ?_
                       intro v8 w8 hown8 hg8 hat8
                       clear hat8
                       obtain ⟨A8, n8, rfl, -⟩ := hown8.read
                       have ht8 : Turns (fun _ => False) w7 w8 := tw7.grown hg8 (fun i hi hlt => by simp [Value.ownBlock] at hi; omega)
                       have hbk8 := hbk7.turns ht8 (fun _ h => h.elim)
                       have c8 := hbk8.at_ (k := h) (by omega)
                       have f8 := hbk8.free h
                       have hset8 := (hbk8.set (k := h) (v := .slice A8 ((R h).length + 1) n8) (l := y :: R h) (by omega) hown8).congr insR_upd)
                    | (at_mapUpdate
                       refine wpList_map_put rfl _ _ _ 33 rfl Try.underlying33 y h rfl rfl rfl hset8.map (by omega) hwf (wf_small (by omega) (by omega)) ?_
                       intro w9 hm9 hg9))
                  have hbk9 := hset8.mapped hm9 hg9
                  have hb7 := hb6.trans (ht7.below hb6.size (fun i hi => by omega))
                  have ht9 : Turns (fun i => i = g ∨ i = g + 1) w7 w9 := ((ht8.mono (Y := fun i => i = g ∨ i = g + 1) (fun _ _ h => h.elim)).setCell (p := ⟨g, h, none⟩) (fun _ => .inl rfl) _).grown hg9 (fun k hk _ => by injection hk with hk; exact .inr hk.symm)
                  go_meet
                  case rel => exact ⟨rfl, xs7, insR R h y, _, _, hrg7, htie'.out, hs7.st ht9 (by omega) (by omega) (by omega), hbk9.mono (by omega), hb7.trans (ht9.below hb7.size (fun i hi => by omega))⟩
                · have his : (S y).isSome = true := by rw [hS]; rfl
                  obtain ⟨k0, k1⟩ := htie.2 y kk hS
                  obtain ⟨kn, rfl⟩ := Int.eq_ofNat_of_zero_le k0
                  have II := Lib.hid (rgRemove (h := kn) (c := y) hrg hs6 (by omega) (by omega) k0 k1 ((htie.1 y kn k0 k1).2 hS))
                  have AA := Lib.hid (fun (zs : List Int) (w' : World) (g' : Rg N zs (remR R kn y)) (h' : Had w' p b zs (1000 + 1000 * j + 6)) (hv : gv zs (y + 2) = y) => rgAlone g' h' (by omega) (by omega) hpy hv)
                  have htie' := Lib.hid (tie_rem htie hS)
                  have HS := Lib.hid hS
                  have hfh := rg_few hrg hN (k := kn) k0 k1
                  have hpl := Lib.hid (hrg.place kn k0 k1)
                  obtain ⟨Ak, ck, hVk, -⟩ := (hbk6.own kn (by omega)).read
                  have HVk := Lib.hid hVk
                  clear hS htie hrg hpy hVk
                  go_wp2_with (first
                    | (at_lookup
                       refine wpList_map_look rfl _ _ 33 rfl Try.underlying33 y rfl rfl hbk6.map hwf ?_
                       intro c hc
                       obtain rfl : c = kn := hc _ HS.out
                       clear hc)
                    | (go_at_call 10
                       refine II.out.mono ?_
                       rintro e w7 ⟨rfl, ⟨xs7, hrg7, hal7, hs7⟩, ht7⟩
                       have hbk7 := hbk6.turns ht7 (by omega)
                       have c7 := hbk7.at_ (k := kn) (by omega)
                       rw [HVk.out] at c7
                       have HR7 := Lib.hid hrg7
                       have HA7 := Lib.hid hal7
                       clear hrg7 hal7))
                  have hb7 := hb6.trans (ht7.below hb6.size (fun i hi => by omega))
                  go_loopw [19, 145] (fun o q wr => ∃ i : Nat, i ≤ (R kn).length ∧ q = .int .i64 i ∧ Own wr w7.heap.size o (((R kn).take i).filter (fun z => z != y)) ∧ Turns (fun _ => False) w7 wr) (fun _ q _ => (R kn).length - (intOf q).toNat)
                  case atStart => exact ⟨0, by omega, rfl, by simpa using Own.none_ w7 w7.heap.size, Turns.refl _ _⟩
                  case round =>
                    obtain ⟨i, hi, rfl, hown, ht8⟩ := hrel
                    have hbk8 := hbk7.turns ht8 (fun _ h => h.elim)
                    by_cases hik : i < (R kn).length
                    · obtain ⟨gk, rfl, -, -, c8⟩ := Own.cell (HVk.out ▸ hbk8.own kn (by omega)) hik
                      have htk : (R kn).take (i + 1) = (R kn).take i ++ [(R kn).getD i 0] := by
                        rw [List.take_succ_eq_append_getElem hik, List.getD_eq_getElem?_getD, List.getElem?_eq_getElem hik]
                        rfl
                      have hlen : ((R kn).take i).length ≤ 1000 := by rw [List.length_take]; omega
                      have hlen2 := List.length_filter_le (fun z => z != y) ((R kn).take i)
                      generalize (R kn).getD i 0 = z at *
                      have hsz := ht8.size
                      by_cases hzy : z = y
                      · have f1 : (z != y) = false := by simp [hzy]
                        have hfl : ((R kn).take (i + 1)).filter (fun z => z != y) = ((R kn).take i).filter (fun z => z != y) := by
                          rw [htk, List.filter_append]
                          simp [hzy]
                        have HF := Lib.hid hfl
                        clear hzy htk hfl
                        go_wp2_with fail
                        go_roundw
                        case rel => exact ⟨i + 1, by omega, by go_num, by rw [HF.out]; exact hown, ht8⟩
                        case measure => simp [intOf]; omega
                      · have f1 : (z != y) = true := by simpa using hzy
                        have hfl : ((R kn).take (i + 1)).filter (fun z => z != y) = ((R kn).take i).filter (fun z => z != y) ++ [z] := by
                          rw [htk, List.filter_append]
                          simp [hzy]
                        have HF := Lib.hid hfl
                        clear hzy htk hfl
                        generalize ((R kn).take i).filter (fun z => z != y) = L at *
                        go_wp2_with (
                          at_builtin
                          refine wpList_append_ints (v := u19) (x := .slice (some ⟨wr.heap.size, 0, none⟩) 1 1) rfl _ _ 31 rfl Try.underlying31 rfl rfl (hown.turns ((Turns.refl (fun _ => False) _).alloc _) (fun _ _ h => h)) (Own.one (B := w7.heap.size) wr z hsz) (by simp; omega) (by simp; omega) ?_
                          intro v9 w9 hown9 hg9 hat9
                          clear hat9)
                        have ht9 : Turns (fun _ => False) w7 w9 := (ht8.alloc _).grown hg9 (fun i hi hlt => by have := (hown.lt i hi).1; omega)
                        rw [← HF.out] at hown9
                        go_roundw
                        case rel => exact ⟨i + 1, by omega, by go_num, hown9, ht9⟩
                        case measure => simp [intOf]; omega
                    · obtain rfl : i = (R kn).length := by omega
                      rw [List.take_length] at hown
                      obtain ⟨A9, n9, rfl, -⟩ := hown.read
                      have c9 := hbk8.at_ (k := kn) (by omega)
                      have f9 := hbk8.free kn
                      have hset8 := (hbk8.set (k := kn) (l := (R kn).filter (fun z => z != y)) (by omega) (hown.base (by have := hbk7.lt; omega))).congr remR_upd
                      generalize ((R kn).filter (fun z => z != y)).length = n10 at *
                      have ht10 : Turns (fun i => i = g) w7 (wr.setCell ⟨g, kn, none⟩ (.slice A9 n10 n9)) := (ht8.mono (Y := fun i => i = g) (fun _ _ h => h.elim)).setCell (p := ⟨g, kn, none⟩) (fun _ => rfl) _
                      go_wp2_with (first
                        | (at_delete
                           refine wpList_map_drop rfl _ _ 33 rfl Try.underlying33 y rfl rfl hset8.map hwf ?_
                           intro w11 hm11 hg11
                           have hbk11 := hset8.mapped hm11 hg11
                           have ht11 : Turns (fun i => i = g ∨ i = g + 1) w7 w11 := (ht10.mono (Y := fun i => i = g ∨ i = g + 1) (fun _ _ h => .inl h)).grown hg11 (fun k hk _ => by injection hk with hk; exact .inr hk.symm)
                           have hs11 := hs7.st ht11 (by omega) (by omega) (Nat.le_refl _)
                           have hb11 := hb7.trans (ht11.below hb7.size (fun i hi => by omega)))
                        | (go_at_call 11
                           refine (AA.out _ _ HR7.out hs11 HA7.out).mono ?_
                           rintro e w12 ⟨rfl, hs12, ht12⟩))
                      go_meet
                      case rel => exact ⟨rfl, xs7, remR R kn y, _, _, HR7.out, htie'.out, hs12.st (Turns.refl (fun _ => False) _) (fun h => h) (fun h => h) (by omega), (hbk11.turns ht12 (by omega)).mono (by omega), hb11.trans (ht12.below hb11.size (fun i hi => by omega))⟩
        · obtain rfl : j = l := by omega
          go_wp2_with fail
          go_ret
          exact ⟨rfl, hb5⟩

theorem ringRows_walk (n : Int) (A : Option Addr) (l c : Nat) (Z : Nat → Nat → Int) (hm : l ≤ maxLen) (w : World) (hz : CameRows w [.i64, .i64, .i64] A l Z) :
    Calls Try.prog 3 #[.int .i64 n, .slice A l c] w fun e w' => e = .returned (.bool true) ∧ Below w.heap.size w w' := by
  by_cases hl : 300 < l
  · exact ringRows_long n A l c hl hm w
  · exact ringRows_short n A l c Z (by omega) w hz
end Go.Proofs.Ytnkfpnhifpblmaa
