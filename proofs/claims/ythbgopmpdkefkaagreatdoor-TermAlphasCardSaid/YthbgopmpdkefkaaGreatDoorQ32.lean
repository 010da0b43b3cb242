/- The reference of layer 10: the text of a term's parameters, of its kids. -/
import Derived.Test.YthbgopmpdkefkaaGreatDoorQ31
import Derived.Maps.AppendAt
namespace Go.Proofs.YthbgopmpdkefkaaGreatDoor
open Go.ChangeShapes Go.WideShapes Go.ChangeAt Go.RowKit Go.Deep
open TM (Tl Tm)

theorem TM.prw_drop {n : Int} {l : List Int} {j : Nat} {x : Int} (h : l[j]? = some x) (f : Bool) :
    TM.prw n f (l.drop j) = (if n = 1 ∧ j + 1 = l.length then [32, 46, 32] else if f then [] else [32]) ++ (TM.loc x ++ TM.prw n false (l.drop (j + 1))) := by
  have hj := (List.getElem?_eq_some_iff.1 h).1
  have hx := (List.getElem?_eq_some_iff.1 h).2
  rw [List.drop_eq_getElem_cons hj, hx, TM.prw]
  congr 1
  have e : l.drop (j + 1) = [] ↔ j + 1 = l.length := by
    rw [List.drop_eq_nil_iff]; omega
  simp only [e]
set_option maxRecDepth 100000 in
set_option maxHeartbeats 4000000 in
theorem rparams_any (t : Tm) (w : World) (vp vi vk : Value) (h : TmIn w t vp vi vk) (hb : ∀ q ∈ t.ps, b64 q) (hl : t.ps.length ≤ 24) :
    Calls Tryz.prog 69 #[tmv t vp vi vk] w (StrN (TM.prt t.n t.ps) w) := by
  obtain ⟨P3, p3, rfl⟩ := h.p.read
  have hP := h.p
  have hb' := Lib.hid hb
  obtain ⟨L, hL⟩ : ∃ L, t.ps.length = L := ⟨_, rfl⟩
  have hL' := Lib.hid hL
  have hLo := Lib.hid (fun (w' : World) (n : Int) (h : b64 n) => rlocal_any n h w')
  unfold tmv
  rw [hL] at hP hl ⊢
  obtain ⟨G, hG⟩ : ∃ G, TM.prt t.n t.ps = G := ⟨_, rfl⟩
  have hG' := Lib.hid hG
  rw [hG]
  have hM := Lies.made w 28 #[.int .i64 t.k, .int .i64 t.n, .string ⟨t.s.toArray⟩, .slice P3 L p3, .int .i64 t.d.k, .int .i64 t.d.n, .string ⟨t.d.s.toArray⟩, vi, vk]
  have hba : Below w.heap.size w (w.alloc (.cells #[.int .i64 t.k, .int .i64 t.n, .string ⟨t.s.toArray⟩, .slice P3 L p3, .int .i64 t.d.k, .int .i64 t.d.n, .string ⟨t.d.s.toArray⟩, vi, vk] 28)) := (Below.refl _ w).alloc (Nat.le_refl _) _
  obtain ⟨I, i7, rfl⟩ := h.d.read
  obtain ⟨K, k8, rfl⟩ := h.k.read
  generalize t.d.is.len = LI at *
  generalize t.ks.len = LK at *
  clear h hb hL hG
  by_cases h1 : L = 1 ∧ t.n = 1
  · obtain ⟨rfl, hn⟩ := h1
    obtain ⟨p, hp⟩ : ∃ p, t.ps[0]? = some p := ⟨_, List.getElem?_eq_getElem (by rw [hL'.out]; omega)⟩
    obtain ⟨b, o, rfl, hbl, c0⟩ := (hP.below hba).cell hp
    have hpb := hb'.out p (List.mem_of_getElem? hp)
    have hGv : Hid (G = TM.loc p) := Lib.hid (by
      rw [← hG'.out, TM.prt, if_pos ⟨hn, hL'.out⟩]
      congr 1
      cases hps : t.ps with
      | nil => rw [hps] at hp; simp at hp
      | cons a r => rw [hps] at hp; simpa using hp)
    rw [hn] at hM hba c0 ⊢
    have hC := Lib.hid (fun w' => hLo.out w' p hpb)
    clear hp hP hn
    simp only [Nat.add_zero] at c0
    go_enter Tryz.func69, Tryz.ntmps69
    go_wp2_with (
      go_at_call 67
      refine (hC.out _).mono ?_
      rintro e w5 ⟨⟨T, rfl, hT⟩, hb5⟩)
    go_ret
    exact ⟨⟨_, rfl, by rw [hGv.out]; exact hT⟩, hba.trans (hb5.mono hba.size)⟩
  · have hpr : Hid (G = 40 :: (TM.prw t.n true t.ps ++ [41])) := Lib.hid (by rw [← hG'.out, TM.prt, if_neg (fun h => h1 ⟨by rw [← hL'.out]; exact h.2, h.1⟩)])
    have hlen := Lib.hid (TM.prw_len t.n true t.ps (fun q hq => hb'.out q hq))
    obtain ⟨Gp, hGp⟩ : ∃ Gp, ([40] : List UInt8) ++ TM.prw t.n true t.ps = Gp := ⟨_, rfl⟩
    have hGp' := Lib.hid hGp
    obtain ⟨nn, hnn⟩ : ∃ nn, t.n = nn := ⟨_, rfl⟩
    have hnn' := Lib.hid hnn
    rw [hnn] at hM hba h1 ⊢
    clear hGp hnn
    have h1' : (L = 1 → ¬ nn = 1) := fun a b => h1 ⟨a, b⟩
    by_cases hL1 : L = 1
    · have hn1 := Lib.hid (h1' hL1)
      have g2 : (nn == 1) = false := by simpa using hn1.out
      subst hL1
      clear h1 h1' hlen
      go_enter Tryz.func69, Tryz.ntmps69
      go_wp2_with fail
      go_loopw [4, 5] (fun sv i wr => ∃ (j : Nat) (S : ByteArray), j ≤ 1 ∧ i = .int .i64 j ∧ sv = .string S ∧ Hid (S.data.toList ++ TM.prw nn (decide (j = 0)) (t.ps.drop j) = Gp) ∧ S.size ≤ 1 + 40 * j ∧ Below w.heap.size w wr ∧ Lies wr w.heap.size 28 [.int .i64 t.k, .int .i64 nn, .string ⟨t.s.toArray⟩, .slice P3 1 p3, .int .i64 t.d.k, .int .i64 t.d.n, .string ⟨t.d.s.toArray⟩, .slice I LI i7, .slice K LK k8]) (fun _ i _ => 1 - (intOf i).toNat)
      case atStart => exact ⟨0, ⟨#[40]⟩, by omega, rfl, rfl, Lib.hid (by rw [← hGp'.out, hnn'.out]; rfl), by show 1 ≤ _; omega, hba, hM⟩
      case round =>
        obtain ⟨j, S, hj, rfl, rfl, hSG, hSs, hb, hM1⟩ := hrel
        clear hM hba
        have y1 : wr.cell? ⟨w.heap.size, 1, none⟩ = some (.int .i64 nn) := hM1.cell 1
        have y3 : wr.cell? ⟨w.heap.size, 3, none⟩ = some (.slice P3 1 p3) := hM1.cell 3
        by_cases hlt : j < 1
        · obtain rfl : j = 0 := by omega
          obtain ⟨x, hx⟩ : ∃ x, t.ps[0]? = some x := ⟨_, List.getElem?_eq_getElem (by rw [hL'.out]; exact hlt)⟩
          obtain ⟨b, o, rfl, hbl, c0⟩ := (hP.below hb).cell hx
          have hxb := hb'.out x (List.mem_of_getElem? hx)
          have hC := Lib.hid (hLo.out wr x hxb)
          have hlx := Lib.hid (TM.loc_len hxb)
          have hst := hSG.out
          rw [TM.prw_drop hx, hL'.out, if_neg (fun h => hn1.out h.1)] at hst
          have hn := Lib.hid hst
          simp only [Nat.add_zero] at c0
          clear hx hst hSG
          go_wp2_with (
            go_at_call 67
            refine hC.out.mono ?_
            rintro e w5 ⟨⟨T, rfl, hT⟩, hb5⟩
            have hT' := Lib.hid hT
            have hTs : T.size ≤ 30 := (by rw [← size_len, hT]; exact hlx.out)
            have hM3 := hM1.below hb5 hM1.lt
            have hb6 : Below w.heap.size w w5 := hb.trans (hb5.mono hb.size)
            clear hT hb5 y1 y3 c0)
          go_roundw
          case rel => exact ⟨0 + 1, S ++ T, by omega, by go_num, rfl, Lib.hid (by rw [← hn.out]; simp [hT'.out]), by rw [ByteArray.size_append]; omega, hb6, hM3⟩
          case measure => simp [intOf]
        · obtain rfl : j = 1 := by omega
          go_wp2_with fail
          go_ret
          have hE := hSG.out
          rw [List.drop_eq_nil_of_le (by rw [hL'.out]; exact Nat.le_refl _)] at hE
          refine ⟨⟨_, rfl, ?_⟩, hb⟩
          rw [hpr.out, hnn'.out]
          have h2 := hGp'.out
          rw [hnn'.out] at h2
          simp only [TM.prw, List.append_nil] at hE
          have h3 : 40 :: TM.prw nn true t.ps = Gp := h2
          have h4 : 40 :: (TM.prw nn true t.ps ++ [41]) = (40 :: TM.prw nn true t.ps) ++ [41] := rfl
          rw [h4, h3, ← hE]
          simp
    · have g1 : ((L : Int) == 1) = false := by simp; omega
      go_enter Tryz.func69, Tryz.ntmps69
      go_wp2_with fail
      go_loopw [4, 5] (fun sv i wr => ∃ (j : Nat) (S : ByteArray), j ≤ L ∧ i = .int .i64 j ∧ sv = .string S ∧ Hid (S.data.toList ++ TM.prw nn (decide (j = 0)) (t.ps.drop j) = Gp) ∧ S.size ≤ 1 + 40 * j ∧ Below w.heap.size w wr ∧ Lies wr w.heap.size 28 [.int .i64 t.k, .int .i64 nn, .string ⟨t.s.toArray⟩, .slice P3 L p3, .int .i64 t.d.k, .int .i64 t.d.n, .string ⟨t.d.s.toArray⟩, .slice I LI i7, .slice K LK k8]) (fun _ i _ => L - (intOf i).toNat)
      case atStart => exact ⟨0, ⟨#[40]⟩, by omega, rfl, rfl, Lib.hid (by rw [← hGp'.out, hnn'.out]; rfl), by show 1 ≤ _; omega, hba, hM⟩
      case round =>
        obtain ⟨j, S, hj, rfl, rfl, hSG, hSs, hb, hM1⟩ := hrel
        clear hM hba
        have y1 : wr.cell? ⟨w.heap.size, 1, none⟩ = some (.int .i64 nn) := hM1.cell 1
        have y3 : wr.cell? ⟨w.heap.size, 3, none⟩ = some (.slice P3 L p3) := hM1.cell 3
        by_cases hlt : j < L
        · obtain ⟨x, hx⟩ : ∃ x, t.ps[j]? = some x := ⟨_, List.getElem?_eq_getElem (by rw [hL'.out]; exact hlt)⟩
          obtain ⟨b, o, rfl, hbl, c0⟩ := (hP.below hb).cell hx
          have hxb := hb'.out x (List.mem_of_getElem? hx)
          have hC := Lib.hid (hLo.out wr x hxb)
          have hlx := Lib.hid (TM.loc_len hxb)
          have hst := hSG.out
          rw [TM.prw_drop hx, hL'.out] at hst
          have hst' := Lib.hid hst
          have hw : wrap64 ((L : Int) - 1) = (L : Int) - 1 := by unfold wrap64; omega
          clear hx hst hSG
          by_cases hl : nn = 1 ∧ j + 1 = L
          · obtain ⟨rfl, hjL⟩ := hl
            have hj0 : 0 < j := by
              rcases Nat.eq_zero_or_pos j with h | h
              · exact absurd rfl (h1' (by omega))
              · exact h
            have hjL' := Lib.hid hjL
            have hjb : ((j : Int) == (L : Int) - 1) = true := by simp; omega
            have hg : (0 : Int) < (j : Int) := by omega
            have hn := Lib.hid (show S.data.toList ++ ([32, 46, 32] ++ (TM.loc x ++ TM.prw 1 false (t.ps.drop (j + 1)))) = Gp by
              have := hst'.out
              rwa [if_pos ⟨rfl, hjL'.out⟩] at this)
            clear hst'
            go_wp2_with (
              go_at_call 67
              refine hC.out.mono ?_
              rintro e w5 ⟨⟨T, rfl, hT⟩, hb5⟩
              have hT' := Lib.hid hT
              have hTs : T.size ≤ 30 := (by rw [← size_len, hT]; exact hlx.out)
              have hM3 := hM1.below hb5 hM1.lt
              have hb6 : Below w.heap.size w w5 := hb.trans (hb5.mono hb.size)
              clear hT hb5 y1 y3 c0)
            go_roundw
            case rel => exact ⟨j + 1, ((S ++ ⟨#[32]⟩) ++ ⟨#[46, 32]⟩) ++ T, by omega, by go_num, rfl, Lib.hid (by rw [← hn.out, decide_eq_false (by omega)]; simp [hT'.out]), by rw [ByteArray.size_append, ByteArray.size_append, ByteArray.size_append, show (⟨#[32]⟩ : ByteArray).size = 1 from rfl, show (⟨#[46, 32]⟩ : ByteArray).size = 2 from rfl]; omega, hb6, hM3⟩
            case measure => simp [intOf]; omega
          · have hdt : (((j : Int) == (L : Int) - 1) && (nn == 1)) = false := by
              rw [Bool.and_eq_false_iff]
              by_cases h : nn = 1
              · left; simp; omega
              · right; simpa using h
            have hn := Lib.hid (show S.data.toList ++ ((if decide (j = 0) = true then [] else [32]) ++ (TM.loc x ++ TM.prw nn false (t.ps.drop (j + 1)))) = Gp by
              have := hst'.out
              rwa [if_neg hl] at this)
            clear hst'
            by_cases hjL : j + 1 = L
            · have hjb : ((j : Int) == (L : Int) - 1) = true := by simp; omega
              have hnn1 : (nn == 1) = false := by
                have : ¬ nn = 1 := fun h => hl ⟨h, hjL⟩
                simpa using this
              have hjL' := Lib.hid hjL
              have hj0 : ¬ j = 0 := fun h => by subst h; simp at g1; omega
              clear hdt
              have hg : (0 : Int) < (j : Int) := by omega
              go_wp2_with (
                go_at_call 67
                refine hC.out.mono ?_
                rintro e w5 ⟨⟨T, rfl, hT⟩, hb5⟩
                have hT' := Lib.hid hT
                have hTs : T.size ≤ 30 := (by rw [← size_len, hT]; exact hlx.out)
                have hM3 := hM1.below hb5 hM1.lt
                have hb6 : Below w.heap.size w w5 := hb.trans (hb5.mono hb.size)
                clear hT hb5 y1 y3 c0)
              go_roundw
              case rel => exact ⟨j + 1, (S ++ ⟨#[32]⟩) ++ T, by omega, by go_num, rfl, Lib.hid (by rw [← hn.out]; simp [hT'.out, hj0]), by rw [ByteArray.size_append, ByteArray.size_append, show (⟨#[32]⟩ : ByteArray).size = 1 from rfl]; omega, hb6, hM3⟩
              case measure => simp [intOf]; omega
            · have hjL1 : ((j : Int) == (L : Int) - 1) = false := by simp; omega
              clear hdt
              by_cases hj0 : j = 0
              · subst hj0
                simp only [Nat.add_zero] at c0
                go_wp2_with (
                  go_at_call 67
                  refine hC.out.mono ?_
                  rintro e w5 ⟨⟨T, rfl, hT⟩, hb5⟩
                  have hT' := Lib.hid hT
                  have hTs : T.size ≤ 30 := (by rw [← size_len, hT]; exact hlx.out)
                  have hM3 := hM1.below hb5 hM1.lt
                  have hb6 : Below w.heap.size w w5 := hb.trans (hb5.mono hb.size)
                  clear hT hb5 y1 y3 c0)
                go_roundw
                case rel => exact ⟨0 + 1, S ++ T, by omega, by go_num, rfl, Lib.hid (by rw [← hn.out]; simp [hT'.out]), by rw [ByteArray.size_append]; omega, hb6, hM3⟩
                case measure => simp [intOf]; omega
              · have hg : (0 : Int) < (j : Int) := by omega
                go_wp2_with (
                  go_at_call 67
                  refine hC.out.mono ?_
                  rintro e w5 ⟨⟨T, rfl, hT⟩, hb5⟩
                  have hT' := Lib.hid hT
                  have hTs : T.size ≤ 30 := (by rw [← size_len, hT]; exact hlx.out)
                  have hM3 := hM1.below hb5 hM1.lt
                  have hb6 : Below w.heap.size w w5 := hb.trans (hb5.mono hb.size)
                  clear hT hb5 y1 y3 c0)
                go_roundw
                case rel => exact ⟨j + 1, (S ++ ⟨#[32]⟩) ++ T, by omega, by go_num, rfl, Lib.hid (by rw [← hn.out]; simp [hT'.out, hj0]), by rw [ByteArray.size_append, ByteArray.size_append, show (⟨#[32]⟩ : ByteArray).size = 1 from rfl]; omega, hb6, hM3⟩
                case measure => simp [intOf]; omega
        · obtain rfl : j = L := by omega
          go_wp2_with fail
          go_ret
          have hE := hSG.out
          rw [List.drop_eq_nil_of_le (by rw [hL'.out]; exact Nat.le_refl _)] at hE
          refine ⟨⟨_, rfl, ?_⟩, hb⟩
          rw [hpr.out, hnn'.out]
          have h2 := hGp'.out
          rw [hnn'.out] at h2
          simp only [TM.prw, List.append_nil] at hE
          have h3 : 40 :: TM.prw nn true t.ps = Gp := h2
          have h4 : 40 :: (TM.prw nn true t.ps ++ [41]) = (40 :: TM.prw nn true t.ps) ++ [41] := rfl
          rw [h4, h3, ← hE]
          simp
/-! ### kids -/
def TxOk (t : Tm) : Prop := ∀ (w : World) (vp vi vk : Value), TmIn w t vp vi vk → TM.Rw1 t → TM.Rwf t.ks → TM.sz t.ks ≤ 5000 → Calls Tryz.prog 44 #[tmv t vp vi vk] w (StrN (TM.ttx t) w)
theorem tx_len {x : Tm} (h1 : TM.Rw1 x) (h2 : TM.Rwf x.ks) : (TM.ttx x).length + 1 ≤ 6000000 * (TM.sz x.ks + 1) := ttx_len h1.w h2.tw
set_option maxRecDepth 100000 in
set_option maxHeartbeats 4000000 in
theorem rkids_any (ks : Tl) (hR : ∀ i x, ks.at_ i = some x → TxOk x) (w : World) (v : Value) (hT : TIn w v ks) (hf : TM.Rwf ks) (hsz : TM.sz ks ≤ 5000) :
    Calls Tryz.prog 68 #[v] w (StrN (TM.txs false ks) w) := by
  obtain ⟨A1, c1, rfl⟩ := hT.read
  have hlen := hT.len
  obtain ⟨N, hN⟩ : ∃ N, ks.len = N := ⟨_, rfl⟩
  obtain ⟨Z, hZ⟩ : ∃ Z, TM.sz ks = Z := ⟨_, rfl⟩
  obtain ⟨G, hG⟩ : ∃ G, TM.txs false ks = G := ⟨_, rfl⟩
  rw [hN] at hT hlen ⊢
  rw [hZ] at hsz
  rw [hG]
  have hN' := Lib.hid hN
  have hZ' := Lib.hid hZ
  have hG' := Lib.hid hG
  have hR' := Lib.hid hR
  have hf' := Lib.hid hf
  clear hN hZ hG hR hf
  go_enter Tryz.func68, Tryz.ntmps68
  go_wp2_with fail
  go_loopw [3, 4] (fun sv i wr => ∃ (j R : Nat) (S : ByteArray), j ≤ N ∧ i = .int .i64 j ∧ sv = .string S ∧ Hid (TM.sz (ks.dr j) = R) ∧ Hid (S.data.toList ++ TM.txs false (ks.dr j) = G) ∧ S.size + 7000000 * R ≤ 7000000 * Z ∧ Below w.heap.size w wr) (fun _ i _ => N - (intOf i).toNat)
  case atStart => exact ⟨0, Z, ⟨#[]⟩, by omega, rfl, rfl, Lib.hid (by rw [Tl.dr_zero]; exact hZ'.out), Lib.hid (by rw [Tl.dr_zero]; exact hG'.out), by show 0 + _ ≤ _; omega, Below.refl _ _⟩
  case round =>
    obtain ⟨j, R, S, hj, rfl, rfl, hRe, hSG, hSs, hb⟩ := hrel
    by_cases hlt : j < N
    · obtain ⟨x, hx⟩ := ks.at_some j (by rw [hN'.out]; exact hlt)
      obtain ⟨b, o, P5, p5, I5, q5, K5, r5, rfl, hb0, p0, p1, p2, pp, p4, p55, p6, pi, pk, hT5⟩ := (hT.below hb).at_ hx
      obtain ⟨hw1, hwf⟩ := hf'.out.at_ hx
      have hR0 := hRe.out
      rw [TM.sz_at hx] at hR0
      obtain ⟨R1, hR1⟩ : ∃ R1, TM.sz (ks.dr (j + 1)) = R1 := ⟨_, rfl⟩
      obtain ⟨X, hX⟩ : ∃ X, TM.sz x.ks = X := ⟨_, rfl⟩
      rw [hR1, hX] at hR0
      have hR1' := Lib.hid hR1
      have hC := Lib.hid (hR'.out j x hx wr _ _ _ hT5 hw1 hwf (by omega))
      unfold tmv at hC
      have htl := Lib.hid (tx_len hw1 hwf)
      rw [hX] at htl
      have hst := Lib.hid (show S.data.toList ++ ([32] ++ (TM.ttx x ++ TM.txs false (ks.dr (j + 1)))) = G by
        have := hSG.out
        rwa [TM.txs_at hx] at this)
      clear hx hR1 hX hT5 hw1 hwf hSG
      go_wp2_with (
        go_at_call 44
        refine hC.out.mono ?_
        rintro e w5 ⟨⟨T, rfl, hT5⟩, hb5⟩
        have hT' := Lib.hid hT5
        have hTs : T.size + 1 ≤ 6000000 * (X + 1) := (by rw [← size_len, hT5]; exact htl.out)
        have hb6 : Below w.heap.size w w5 := hb.trans (hb5.mono hb.size)
        clear hT5 hb5 p0 p1 p2 pp p4 p55 p6 pi pk)
      go_roundw
      case rel => exact ⟨j + 1, R1, S ++ (⟨#[32]⟩ ++ T), by omega, by go_num, rfl, hR1', Lib.hid (by rw [← hst.out]; simp [hT'.out]), by rw [ByteArray.size_append, ByteArray.size_append, show (⟨#[32]⟩ : ByteArray).size = 1 from rfl]; omega, hb6⟩
      case measure => simp [intOf]; omega
    · obtain rfl : j = N := by omega
      go_wp2_with fail
      go_ret
      have hE := hSG.out
      rw [Tl.dr_end ks j (by rw [hN'.out]; exact Nat.le_refl _)] at hE
      exact ⟨⟨_, rfl, by rw [← hE]; simp [TM.txs]⟩, hb⟩
end Go.Proofs.YthbgopmpdkefkaaGreatDoor

/- The reference of layer 10: a local's place. -/
namespace Go.Proofs.YthbgopmpdkefkaaGreatDoor
open Go.ChangeShapes Go.WideShapes Go.ChangeAt Go.RowKit Go.Deep
open TM (Tl Tm)

namespace TM
theorem pl_found {l : List Int} {j : Nat} {x : Int} (hx : l[j]? = some x) (hn : (l.take j).contains x = false) : pl l x = (j : Int) + 1 := by
  have hj := (List.getElem?_eq_some_iff.1 hx).1
  have hl : l = l.take j ++ x :: l.drop (j + 1) := by
    have h2 := (List.getElem?_eq_some_iff.1 hx).2
    rw [← h2, ← List.drop_eq_getElem_cons, List.take_append_drop]
  have hm : ¬ x ∈ l.take j := by simpa using hn
  have hc : l.contains x = true := by rw [hl]; simp
  have hi : l.idxOf x = j := by
    rw [hl, List.idxOf_append, if_neg hm]
    simp
    omega
  rw [pl, if_pos hc, hi]
theorem pl_lost {l : List Int} {x : Int} (hn : l.contains x = false) : pl l x = 0 := by rw [pl, hn]; rfl
end TM
set_option maxRecDepth 100000 in
theorem place_any (w : World) (v : Value) (l : List Int) (n : Int) (h : PIn w v l) : Calls Tryz.prog 65 #[v, .int .i64 n] w fun e w' => e = .returned (.int .i64 (TM.pl l n)) ∧ w = w' := by
  obtain ⟨A, c, rfl⟩ := h.read
  have hlen := h.len
  obtain ⟨L, hL⟩ : ∃ L, l.length = L := ⟨_, rfl⟩
  rw [hL] at h hlen ⊢
  obtain ⟨R, hR⟩ : ∃ R, TM.pl l n = R := ⟨_, rfl⟩
  rw [hR]
  have hR' := Lib.hid hR
  have hL' := Lib.hid hL
  clear hL hR
  go_enter Tryz.func65, Tryz.ntmps65
  go_wp2_with fail
  go_loop [5] (fun i => ∃ (j : Nat), j ≤ L ∧ i = .int .i64 j ∧ Hid ((l.take j).contains n = false)) (fun i => L - (intOf i).toNat)
  case atStart => exact ⟨0, Nat.zero_le _, rfl, Lib.hid (by simp)⟩
  case round =>
    obtain ⟨j, hj, rfl, hc⟩ := hrel
    by_cases hlt : j < L
    · have hx : l[j]? = some (l[j]'(by rw [hL'.out]; exact hlt)) := List.getElem?_eq_getElem _
      obtain ⟨x, hxe⟩ : ∃ x, l[j]'(by rw [hL'.out]; exact hlt) = x := ⟨_, rfl⟩
      rw [hxe] at hx
      obtain ⟨b, o, rfl, hb0, p0⟩ := h.cell hx
      by_cases hxn : x = n
      · subst hxn
        have hres := TM.pl_found hx hc.out
        rw [hR'.out] at hres
        subst hres
        clear hx hxe
        go_wp2_with fail
        go_ret
        exact ⟨rfl, rfl⟩
      · have hc3 : (l.take (j + 1)).contains n = false := by
          have h1 := hc.out
          rw [List.take_add_one, hx]
          simp at h1 ⊢
          exact ⟨h1, fun e => hxn e.symm⟩
        have hc3' := Lib.hid hc3
        clear hx hxe hc hc3
        go_wp2_with fail
        go_round
        case rel => exact ⟨j + 1, by omega, by go_num, hc3'⟩
        case measure => simp [intOf]; omega
    · obtain rfl : j = L := by omega
      have hc2 := hc.out
      rw [← hL'.out, List.take_length] at hc2
      have hres := TM.pl_lost hc2
      rw [hR'.out] at hres
      subst hres
      clear hc2
      go_wp2_with fail
      go_ret
      exact ⟨rfl, rfl⟩
end Go.Proofs.YthbgopmpdkefkaaGreatDoor

/- The reference of layer 10: all Params of a program; ints that can be read, put behind one's own. -/
namespace Go.Proofs.YthbgopmpdkefkaaGreatDoor
open Go.ChangeShapes Go.WideShapes Go.ChangeAt Go.RowKit Go.Deep
open TM (Tl Tm)

section
variable {w w' : World} {B g : Nat} {v x : Value} {l lx : List Int} {X : Nat → Prop}
theorem run_append_nothing (base c : Nat) (t ty e : TypeId) (i : TypeInfo) (size : Nat) (ht : Tryz.prog.underlying t = some (.slice e)) (hi : Tryz.prog.info? e = some i)
    (v : Value) (n : Nat) (xs : List Value) (hown : w.ownsRow base e size v n xs) :
    (Builtin.append_ #[t, t] ty #[v, .slice none 0 c]).run Tryz.prog w = .ok v w := by
  rcases hown.2 with ⟨rfl, rfl⟩ | ⟨g, cap, cur, rfl, _, _, hnc, _⟩
  · simp [Builtin.append_, run_underlying ht, sizeOf, typeInfo, hi, Builtin.lenOf, Builtin.firstCells]
  · simp [Builtin.append_, run_underlying ht, sizeOf, typeInfo, hi, Builtin.lenOf, Builtin.firstCells, hnc, storeCells]
theorem run_append_pin (t ty : TypeId) (ht : Tryz.prog.underlying t = some (.slice 3)) (h : Own w B v l) (k : PIn w x lx) (hlen : l.length + lx.length ≤ 1000000) (hB : B ≤ w.heap.size) :
    ∃ v' w', (Builtin.append_ #[t, t] ty #[v, x]).run Tryz.prog w = .ok v' w' ∧ Own w' B v' (l ++ lx) ∧ w.grownBy w' v.ownBlock ∧ (v'.ownBlock = v.ownBlock ∨ v'.ownBlock = some w.heap.size) := by
  obtain ⟨i0, hi, hz0, hz1, hz2⟩ := info_parts Tryz.infoInt
  obtain ⟨A, c, rfl, hl, b, o, h1, h2⟩ := k
  cases A with
  | none =>
    have : lx = [] := List.eq_nil_of_length_eq_zero (by
      rcases Nat.eq_zero_or_pos lx.length with h | h
      · exact h
      · have := (h1 h).1; simp at this)
    subst this
    exact ⟨v, w, run_append_nothing B c t ty 3 i0 1 ht hi v _ _ h, by rw [List.append_nil]; exact h, World.grownBy.refl w _, .inl rfl⟩
  | some a =>
    have hcells : ∀ j u, (lx.map (Value.int .i64))[j]? = some u → w.cell? (a.add j) = some u := by
      intro j u hu
      have hj : j < lx.length := by have := (List.getElem?_eq_some_iff.1 hu).1; simpa using this
      have ha := (h1 (by omega)).1
      simp only [Option.some.injEq] at ha
      subst ha
      rw [List.getElem?_map, List.getElem?_eq_getElem hj] at hu
      simp only [Option.map_some, Option.some.injEq] at hu
      subst hu
      have := h2 j _ (List.getElem?_eq_getElem hj)
      rwa [add_plain]
    obtain ⟨v', w', hr, h2, h3, _, h5⟩ := run_append_own_at (P := Tryz.prog) (ty := ty) w B t 3 i0 _ 1 8 ht hi hz0 hz1 hz2 rfl (by decide) v _ _ h a lx.length c (lx.map (.int .i64)) (by simp) hcells
      (fun u hu => by obtain ⟨_, _, rfl⟩ := List.mem_map.1 hu; rfl) (by unfold maxLen; omega) (by omega) hB
    refine ⟨v', w', hr, ?_, h3, h5⟩
    unfold Own
    rw [List.length_append, List.map_append]
    exact h2
theorem wp_append_pin {o : Oper} {a : Act} {K : Act → World → Prop} {Q : Exit → Act → World → Prop} (s u : Operand) (t : TypeId)
    (ho : o.op = .call { callee := .builtin .append, args := #[s, u], argTypes := #[t, t] }) (ht : Tryz.prog.underlying t = some (.slice 3))
    (hs : a.eval s = v) (hu : a.eval u = x) (h : Own w B v l) (k : PIn w x lx) (hlen : l.length + lx.length ≤ 1000000) (hB : B ≤ w.heap.size)
    (hq : ∀ v' w', Own w' B v' (l ++ lx) → w.grownBy w' v.ownBlock → (v'.ownBlock = v.ownBlock ∨ v'.ownBlock = some w.heap.size) → K (a.put o.dst v') w') : o.wp Tryz.prog a w K Q := by
  obtain ⟨v', w', hr, h2, h3, h4⟩ := run_append_pin t o.type ht h k hlen hB
  unfold Oper.wp execOp
  simp only [ho, resolve, invoke, builtin, Sem.run_bind, Sem.run_pure, Result.andThen_ok, List.map_toArray, List.map_cons, List.map_nil, hs, hu, hr]
  exact hq v' w' h2 h3 h4
theorem wpList_append_pin {ops : Array Oper} {rest : List Oper} {o : Oper} {a : Act} {Q : Exit → Act → World → Prop} (hgd : o.guard = none) (s u : Operand) (t : TypeId)
    (ho : o.op = .call { callee := .builtin .append, args := #[s, u], argTypes := #[t, t] }) (ht : Tryz.prog.underlying t = some (.slice 3))
    (hs : a.eval s = v) (hu : a.eval u = x) (h : Own w B v l) (k : PIn w x lx) (hlen : l.length + lx.length ≤ 1000000) (hB : B ≤ w.heap.size)
    (hq : ∀ v' w', Own w' B v' (l ++ lx) → w.grownBy w' v.ownBlock → (v'.ownBlock = v.ownBlock ∨ v'.ownBlock = some w.heap.size) → wpList Tryz.prog ops Q rest (a.put o.dst v') w') : wpList Tryz.prog ops Q (o :: rest) a w :=
  wpList_plain hgd fun _ hK => wp_append_pin s u t ho ht hs hu h k hlen hB fun v' w' h2 h3 h4 => hK _ _ (hq v' w' h2 h3 h4)
theorem step_append_pin {ops : Array Oper} {o : Oper} {a : Act} {K : Act → World → Prop} {Q : Exit → Act → World → Prop} {E : Prop} (hgd : o.guard = none) (s u : Operand) (t : TypeId)
    (ho : o.op = .call { callee := .builtin .append, args := #[s, u], argTypes := #[t, t] }) (ht : Tryz.prog.underlying t = some (.slice 3))
    (hs : a.eval s = v) (hu : a.eval u = x) (h : Own w B v l) (k : PIn w x lx) (hlen : l.length + lx.length ≤ 1000000) (hB : B ≤ w.heap.size)
    (hq : ∀ v' w', Own w' B v' (l ++ lx) → w.grownBy w' v.ownBlock → (v'.ownBlock = v.ownBlock ∨ v'.ownBlock = some w.heap.size) → K (a.put o.dst v') w') :
    if Region.wanted o (yielded ops a.tmps) = true then Oper.wp Tryz.prog o a w K Q else E := by
  rw [if_pos (by simp [Region.wanted, hgd])]
  exact wp_append_pin s u t ho ht hs hu h k hlen hB hq
end
theorem TM.prs_in {d : Tl} {i : Nat} {x : Tm} (h : d.at_ i = some x) : (x.ps ++ TM.prs x.ks).length + (TM.prs (d.dr (i + 1))).length ≤ (TM.prs (d.dr i)).length := by
  rw [TM.prs_at h]
  simp only [List.length_append]
  omega
theorem TM.prs_dr : ∀ (d : Tl) (i : Nat), (TM.prs (d.dr i)).length ≤ (TM.prs d).length
  | d, 0 => by rw [Tl.dr_zero]; exact Nat.le_refl _
  | .nil, i + 1 => Nat.le_refl _
  | .cons k n s ps d ks r, i + 1 => by
    have := TM.prs_dr r i
    show (TM.prs (r.dr i)).length ≤ (ps ++ (TM.prs ks ++ TM.prs r)).length
    simp only [List.length_append]; omega
def PmOk (t : Tm) : Prop := ∀ (w : World) (vp vi vk : Value), TmIn w t vp vi vk → (t.ps ++ TM.prs t.ks).length ≤ 1000000 →
  Calls Tryz.prog 23 #[tmv t vp vi vk] w fun e w' => ∃ v, e = .returned v ∧ Own w' w.heap.size v (t.ps ++ TM.prs t.ks) ∧ Went w w'
set_option maxRecDepth 100000 in
set_option maxHeartbeats 4000000 in
theorem pm_step (k n : Int) (s : List UInt8) (ps : List Int) (d : RM.Dm) (ks : Tl) (hR : ∀ i x, ks.at_ i = some x → PmOk x) : PmOk ⟨k, n, s, ps, d, ks⟩ := by
  intro w vp vi vk h hmany
  obtain ⟨P3, p3, rfl⟩ := h.p.read
  obtain ⟨I7, q7, rfl⟩ := h.d.read
  obtain ⟨A1, c1, rfl⟩ := h.k.read
  have hlen := h.k.len
  have hTk := h.k
  have hTp := h.p
  simp only at hlen hTk hTp hmany ⊢
  obtain ⟨N, hN⟩ : ∃ N, ks.len = N := ⟨_, rfl⟩
  obtain ⟨L3, hL3⟩ : ∃ x, ps.length = x := ⟨_, rfl⟩
  obtain ⟨L7, hL7⟩ : ∃ x, d.is.len = x := ⟨_, rfl⟩
  unfold tmv
  simp only
  rw [hN] at hlen hTk ⊢
  rw [hL3, hL7]
  rw [hL3] at hTp
  have hN' := Lib.hid hN
  have hL3' := Lib.hid hL3
  have hR' := Lib.hid hR
  have hm' := Lib.hid hmany
  have hL := Lies.made w 28 #[.int .i64 k, .int .i64 n, .string ⟨s.toArray⟩, .slice P3 L3 p3, .int .i64 d.k, .int .i64 d.n, .string ⟨d.s.toArray⟩, .slice I7 L7 q7, .slice A1 N c1]
  have hba : Below w.heap.size w (w.alloc (.cells #[.int .i64 k, .int .i64 n, .string ⟨s.toArray⟩, .slice P3 L3 p3, .int .i64 d.k, .int .i64 d.n, .string ⟨d.s.toArray⟩, .slice I7 L7 q7, .slice A1 N c1] 28)) := (Below.refl _ w).alloc (Nat.le_refl _) _
  have hTp1 := hTp.below hba
  clear hN hR hL3 hL7 h hmany hTp
  go_enter Tryz.func23, Tryz.ntmps23
  go_wp2_with (
    at_builtin
    refine wpList_append_pin (B := w.heap.size) (v := .slice none 0 0) (l := []) (lx := ps) rfl _ _ 22 rfl Tryz.underlying22 rfl rfl (Own.none_ _ _) hTp1 (by have := hm'.out; simp at this ⊢; omega) (by simp) ?_
    intro v9 w9 hown9 hg9 hat9
    rw [List.nil_append] at hown9
    have hb9 : Below w.heap.size w w9 := ((Turns.of_below hba (fun _ => False)).then (Turns.appended hg9) (fun k hk hh => by simp [Value.ownBlock] at hh)).below (Nat.le_refl _) (fun _ h => h.elim)
    have hM9 := hL.turns (Turns.appended hg9) (fun hh => by simp [Value.ownBlock] at hh)
    have ht9 : ∀ g, v9.ownBlock = some g → w.heap.size < g := fun g hh => by
      rcases hat9 with e | e
      · rw [e] at hh; simp [Value.ownBlock] at hh
      · rw [e] at hh; simp at hh; omega
    clear hg9 hat9)
  go_loopw [3, 4] (fun v8 i wr => ∃ (j : Nat) (out : List Int), j ≤ N ∧ i = .int .i64 j ∧ Own wr w.heap.size v8 out ∧ (∀ g, v8.ownBlock = some g → w.heap.size < g) ∧ Hid (out ++ TM.prs (ks.dr j) = ps ++ TM.prs ks) ∧ Lies wr w.heap.size 28 [.int .i64 k, .int .i64 n, .string ⟨s.toArray⟩, .slice P3 L3 p3, .int .i64 d.k, .int .i64 d.n, .string ⟨d.s.toArray⟩, .slice I7 L7 q7, .slice A1 N c1] ∧ Below w.heap.size w wr) (fun _ i _ => N - (intOf i).toNat)
  case atStart => exact ⟨0, ps, by omega, rfl, hown9, ht9, Lib.hid (by rw [Tl.dr_zero]), hM9, hb9⟩
  case round =>
    obtain ⟨j, out, hj, rfl, hO, ht, hE, hM1, hb⟩ := hrel
    clear hL hba hown9 ht9 hM9 hb9 hTp1
    have y8 : wr.cell? ⟨w.heap.size, 8, none⟩ = some (.slice A1 N c1) := hM1.cell 8
    obtain ⟨A8, c8, e8, -⟩ := hO.read
    subst e8
    by_cases hlt : j < N
    · obtain ⟨x, hx⟩ := ks.at_some j (by rw [hN'.out]; exact hlt)
      obtain ⟨b, o, P5, p5, I5, q5, K5, r5, rfl, hb0, p0, p1, p2, pp, p4, p55, p6, pi, pk, hT5⟩ := (hTk.below hb).at_ hx
      have hpi := TM.prs_in hx
      have hpe := TM.prs_at hx
      have hmm : out.length + (TM.prs (ks.dr j)).length ≤ 1000000 := by
        have h1 := congrArg List.length hE.out
        have h2 := hm'.out
        simp only [List.length_append] at h1 h2
        omega
      have hC := Lib.hid (hR'.out j x hx wr _ _ _ hT5 (by omega))
      have hE2 : (out ++ (x.ps ++ TM.prs x.ks)) ++ TM.prs (ks.dr (j + 1)) = ps ++ TM.prs ks := by
        rw [← hE.out, hpe]; simp
      have hE2' := Lib.hid hE2
      have hl2 : out.length + (x.ps ++ TM.prs x.ks).length ≤ 1000000 := by omega
      have hl2' := Lib.hid hl2
      unfold tmv at hC
      generalize x.ps ++ TM.prs x.ks = xs at hC hE2' hl2'
      have hws := Lib.hid hb.size
      generalize hln : out.length = L8 at hO ht ⊢
      have ht' := Lib.hid ht
      have hln' := Lib.hid hln
      clear hx hT5 hpi hpe hmm hE2 hl2 hE ht hln
      go_wp2_with (first
        | (go_at_call 23
           refine hC.out.mono ?_
           rintro e w3 ⟨v3, rfl, hO3, hb3⟩
           obtain ⟨A3, c3, rfl, -⟩ := hO3.read
           have hM3 := hM1.below hb3 hM1.lt
           have hb4 : Below w.heap.size w w3 := hb.trans (hb3.mono hb.size)
           have hO4 := hO.below hb3
           have hs3 := Lib.hid hb3.size
           clear hb3 p0 p1 p2 pp p4 p55 p6 pi pk y8)
        | (at_builtin
           refine wpList_append_ints (B := w.heap.size) (v := .slice A8 L8 c8) (x := .slice A3 xs.length c3) rfl _ _ 22 rfl Tryz.underlying22 rfl rfl hO4 hO3 hl2'.out (Nat.le_trans hws.out hs3.out) ?_
           intro v9 w9 hown9 hg9 hat9
           have T1 := Turns.appended hg9
           have hlo : ∀ g, (Value.slice A8 L8 c8).ownBlock = some g → w.heap.size < g := ht'.out
           have hM5 := hM3.turns T1 (fun hh => by have := hlo _ hh; omega)
           have hb9 : Below w.heap.size w w9 := ((Turns.of_below hb4 (fun _ => False)).then T1 (fun k hk hh => by have := hlo _ hh; omega)).below (Nat.le_refl _) (fun _ h => h.elim)
           have ht9 : ∀ g, v9.ownBlock = some g → w.heap.size < g := fun g hh => by
             rcases hat9 with e | e
             · rw [e] at hh; exact hlo g hh
             · rw [e] at hh
               simp only [Option.some.injEq] at hh
               have := hM3.lt
               omega
           clear hg9 hat9 T1 hlo))
      go_roundw
      case rel => exact ⟨j + 1, _, by omega, by go_num, hown9, ht9, hE2', hM5, hb9⟩
      case measure => simp [intOf]; omega
    · obtain rfl : j = N := by omega
      have hE2 := hE.out
      rw [Tl.dr_end ks j (by rw [hN'.out]; exact Nat.le_refl _), TM.prs, List.append_nil] at hE2
      subst hE2
      have hO' := Lib.hid hO
      generalize hln : (ps ++ TM.prs ks).length = L8
      have hln' := Lib.hid hln
      clear hE hO hln
      go_wp2_with fail
      go_ret
      exact ⟨_, rfl, by rw [← hln'.out]; exact hO'.out, hb⟩
theorem params_any (t : Tm) : PmOk t := Tl.all_one PmOk pm_step t
end Go.Proofs.YthbgopmpdkefkaaGreatDoor
