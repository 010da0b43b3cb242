/- The reference of layer 10: the text of a term's locals and parameters; mathematics of what it writes. -/
import Derived.Test.YtpiekdcbjkgipaaGreatDoorQ31
import Derived.Test.YtpiekdcbjkgipaaGreatDoorQ20
import Derived.Test.YtpiekdcbjkgipaaGreatDoorQ33
namespace Go.Proofs.YtpiekdcbjkgipaaGreatDoor
open Go.ChangeShapes Go.WideShapes Go.ChangeAt Go.RowKit Go.Deep
open TM (Tl Tm)

namespace TM
theorem txs_true : ∀ d : Tl, 0 < d.len → 32 :: txs true d = txs false d
  | .nil, h => by simp [Tl.len] at h
  | .cons k n s ps d ks r, _ => rfl
/-- a term's own fields can be written, and it has kids where its kind has any -/
structure Rw1 (t : Tm) : Prop where
  w : Tw1 t
  lo : 1 ≤ t.k ∧ t.k ≤ 10
  ks : 4 ≤ t.k → 0 < t.ks.len
def Rwf : Tl → Prop
  | .nil => True
  | .cons k n s ps d ks r => Rw1 ⟨k, n, s, ps, d, ks⟩ ∧ Rwf ks ∧ Rwf r
theorem Rwf.at_ : ∀ {d : Tl} {i : Nat} {x : Tm}, Rwf d → d.at_ i = some x → Rw1 x ∧ Rwf x.ks
  | .nil, i, x, _, h => by simp [Tl.at_] at h
  | .cons k n s ps d ks r, 0, x, ⟨h1, h2, h3⟩, h => by
    simp only [Tl.at_, Option.some.injEq] at h
    subst h
    exact ⟨h1, h2⟩
  | .cons k n s ps d ks r, i + 1, x, ⟨h1, h2, h3⟩, h => Rwf.at_ h3 (show r.at_ i = some x from h)
theorem Rwf.tw : ∀ {d : Tl}, Rwf d → Twf d
  | .nil, _ => trivial
  | .cons _ _ _ _ _ _ _, ⟨h1, h2, h3⟩ => ⟨h1.w, Rwf.tw h2, Rwf.tw h3⟩
theorem Rwf.dr : ∀ {d : Tl} (i : Nat), Rwf d → Rwf (d.dr i)
  | d, 0, h => by rw [Tl.dr_zero]; exact h
  | .nil, i + 1, _ => trivial
  | .cons _ _ _ _ _ _ r, i + 1, ⟨_, _, h⟩ => Rwf.dr (d := r) i h
theorem fit_k {bd : List Int} {t : Tm} (h : fit bd t = true) : (1 ≤ t.k ∧ t.k ≤ 10) ∧ (4 ≤ t.k → 0 < t.ks.len) := by
  unfold fit at h
  split at h
  · rename_i e; omega
  split at h
  · rename_i e; omega
  split at h
  · rename_i e; omega
  split at h
  · rename_i e; simp at h; omega
  split at h
  · rename_i e; simp at h; omega
  split at h
  · rename_i e; simp at h; omega
  split at h
  · rename_i e; simp at h; omega
  split at h
  · rename_i e; simp at h; omega
  split at h
  · rename_i e; simp at h; omega
  · cases h
theorem nm1_rw {bd : List Int} {t : Tm} {l : List Int} (h : fit bd t = true) (hn : b64 t.n) (hl : l.length ≤ 1000000) : Rw1 (nm1 l t) := by
  obtain ⟨h1, h2⟩ := fit_k h
  exact ⟨nm1_tw h hn hl, h1, fun hk => by show 0 < (nmt l t.ks).len; rw [nmt_len]; exact h2 hk⟩
theorem nmt_rw {l : List Int} (hl : l.length ≤ 1000000) : ∀ {bd : List Int} {d : Tl}, rtl bd d = true → TBd d → Rwf (nmt l d)
  | _, .nil, _, _ => trivial
  | bd, .cons k n s ps d ks r, h, hB => by
    simp only [rtl, Bool.and_eq_true] at h
    obtain ⟨_, hn, _, _, _, _, hk, hr⟩ := hB
    exact ⟨nm1_rw h.1.1 hn hl, nmt_rw hl h.1.2 hk, nmt_rw hl h.2 hr⟩
end TM
/-- a string of these bytes -/
def StrN (l : List UInt8) (w : World) (e : Ending) (w' : World) : Prop := (∃ T : ByteArray, e = .returned (.string T) ∧ T.data.toList = l) ∧ Went w w'
theorem bytes_has (l : List UInt8) : ∃ T : ByteArray, (⟨l.toArray⟩ : ByteArray) = T ∧ T.data.toList = l ∧ T.size = l.length := ⟨_, rfl, rfl, by rw [← size_len]⟩
set_option maxRecDepth 100000 in
theorem rlocal_any (n : Int) (h : b64 n) (w : World) : Calls Tryz.prog 67 #[.int .i64 n] w (StrN (TM.loc n) w) := by
  obtain ⟨T, hT, hTl, hTs⟩ := bytes_has (Lib.itoa n)
  have hR := rtext_any n h.1 h.2
  rw [hT] at hR
  have hR' := Lib.hid hR
  have hlen := Lib.itoa_length_le n (by unfold b64 at h; omega) (by unfold b64 at h; omega)
  have hsz : T.size ≤ 30 := by omega
  have hTl' := Lib.hid hTl
  clear hR hT hTl hTs hlen h
  go_enter Tryz.func67, Tryz.ntmps67
  go_wp2_with (
    go_at_call 96
    refine (hR'.out _).mono ?_
    rintro e w5 ⟨rfl, hb5⟩)
  go_ret
  exact ⟨⟨_, rfl, by simp [TM.loc, hTl'.out]⟩, hb5⟩
end Go.Proofs.YtpiekdcbjkgipaaGreatDoor

/- The reference of layer 10: the text of a term's parameters, of its kids. -/
namespace Go.Proofs.YtpiekdcbjkgipaaGreatDoor
open Go.ChangeShapes Go.WideShapes Go.ChangeAt Go.RowKit Go.Deep
open TM (Tl Tm)

theorem TM.prw_drop {n : Int} {l : List Int} {j : Nat} {x : Int} (h : l[j]? = some x) (f : Bool) :
    TM.prw n f (l.drop j) = (if n = 1 ∧ j + 1 = l.length then [32, 46, 32] else if f then [] else [32]) ++ (TM.loc x ++ TM.prw n false (l.drop (j + 1))) := by
  have hj := (List.getElem?_eq_some_iff.1 h).1
  have hx := (List.getElem?_eq_some_iff.1 h).2
  rw [List.drop_eq_getElem_cons hj, hx, TM.prw]
  congr 1
  have e : l.drop (j + 1) = [] ↔ j + 1 = l.length := by
    rw [List.drop_eq_nil_iff]; omega
  simp only [e]
set_option maxRecDepth 100000 in
set_option maxHeartbeats 4000000 in
theorem rparams_any (t : Tm) (w : World) (vp vi vk : Value) (h : TmIn w t vp vi vk) (hb : ∀ q ∈ t.ps, b64 q) (hl : t.ps.length ≤ 24) :
    Calls Tryz.prog 69 #[tmv t vp vi vk] w (StrN (TM.prt t.n t.ps) w) := by
  obtain ⟨P3, p3, rfl⟩ := h.p.read
  have hP := h.p
  have hb' := Lib.hid hb
  obtain ⟨L, hL⟩ : ∃ L, t.ps.length = L := ⟨_, rfl⟩
  have hL' := Lib.hid hL
  have hLo := Lib.hid (fun (w' : World) (n : Int) (h : b64 n) => rlocal_any n h w')
  unfold tmv
  rw [hL] at hP hl ⊢
  obtain ⟨G, hG⟩ : ∃ G, TM.prt t.n t.ps = G := ⟨_, rfl⟩
  have hG' := Lib.hid hG
  rw [hG]
  have hM := Lies.made w 28 #[.int .i64 t.k, .int .i64 t.n, .string ⟨t.s.toArray⟩, .slice P3 L p3, .int .i64 t.d.k, .int .i64 t.d.n, .string ⟨t.d.s.toArray⟩, vi, vk]
  have hba : Below w.heap.size w (w.alloc (.cells #[.int .i64 t.k, .int .i64 t.n, .string ⟨t.s.toArray⟩, .slice P3 L p3, .int .i64 t.d.k, .int .i64 t.d.n, .string ⟨t.d.s.toArray⟩, vi, vk] 28)) := (Below.refl _ w).alloc (Nat.le_refl _) _
  obtain ⟨I, i7, rfl⟩ := h.d.read
  obtain ⟨K, k8, rfl⟩ := h.k.read
  generalize t.d.is.len = LI at *
  generalize t.ks.len = LK at *
  clear h hb hL hG
  by_cases h1 : L = 1 ∧ t.n = 1
  · obtain ⟨rfl, hn⟩ := h1
    obtain ⟨p, hp⟩ : ∃ p, t.ps[0]? = some p := ⟨_, List.getElem?_eq_getElem (by rw [hL'.out]; omega)⟩
    obtain ⟨b, o, rfl, hbl, c0⟩ := (hP.below hba).cell hp
    have hpb := hb'.out p (List.mem_of_getElem? hp)
    have hGv : Hid (G = TM.loc p) := Lib.hid (by
      rw [← hG'.out, TM.prt, if_pos ⟨hn, hL'.out⟩]
      congr 1
      cases hps : t.ps with
      | nil => rw [hps] at hp; simp at hp
      | cons a r => rw [hps] at hp; simpa using hp)
    rw [hn] at hM hba c0 ⊢
    have hC := Lib.hid (fun w' => hLo.out w' p hpb)
    clear hp hP hn
    simp only [Nat.add_zero] at c0
    go_enter Tryz.func69, Tryz.ntmps69
    go_wp2_with (
      go_at_call 67
      refine (hC.out _).mono ?_
      rintro e w5 ⟨⟨T, rfl, hT⟩, hb5⟩)
    go_ret
    exact ⟨⟨_, rfl, by rw [hGv.out]; exact hT⟩, hba.trans (hb5.mono hba.size)⟩
  · have hpr : Hid (G = 40 :: (TM.prw t.n true t.ps ++ [41])) := Lib.hid (by rw [← hG'.out, TM.prt, if_neg (fun h => h1 ⟨by rw [← hL'.out]; exact h.2, h.1⟩)])
    have hlen := Lib.hid (TM.prw_len t.n true t.ps (fun q hq => hb'.out q hq))
    obtain ⟨Gp, hGp⟩ : ∃ Gp, ([40] : List UInt8) ++ TM.prw t.n true t.ps = Gp := ⟨_, rfl⟩
    have hGp' := Lib.hid hGp
    obtain ⟨nn, hnn⟩ : ∃ nn, t.n = nn := ⟨_, rfl⟩
    have hnn' := Lib.hid hnn
    rw [hnn] at hM hba h1 ⊢
    clear hGp hnn
    have h1' : (L = 1 → ¬ nn = 1) := fun a b => h1 ⟨a, b⟩
    by_cases hL1 : L = 1
    · have hn1 := Lib.hid (h1' hL1)
      have g2 : (nn == 1) = false := by simpa using hn1.out
      subst hL1
      clear h1 h1' hlen
      go_enter Tryz.func69, Tryz.ntmps69
      go_wp2_with fail
      go_loopw [4, 5] (fun sv i wr => ∃ (j : Nat) (S : ByteArray), j ≤ 1 ∧ i = .int .i64 j ∧ sv = .string S ∧ Hid (S.data.toList ++ TM.prw nn (decide (j = 0)) (t.ps.drop j) = Gp) ∧ S.size ≤ 1 + 40 * j ∧ Below w.heap.size w wr ∧ Lies wr w.heap.size 28 [.int .i64 t.k, .int .i64 nn, .string ⟨t.s.toArray⟩, .slice P3 1 p3, .int .i64 t.d.k, .int .i64 t.d.n, .string ⟨t.d.s.toArray⟩, .slice I LI i7, .slice K LK k8]) (fun _ i _ => 1 - (intOf i).toNat)
      case atStart => exact ⟨0, ⟨#[40]⟩, by omega, rfl, rfl, Lib.hid (by rw [← hGp'.out, hnn'.out]; rfl), by show 1 ≤ _; omega, hba, hM⟩
      case round =>
        obtain ⟨j, S, hj, rfl, rfl, hSG, hSs, hb, hM1⟩ := hrel
        clear hM hba
        have y1 : wr.cell? ⟨w.heap.size, 1, none⟩ = some (.int .i64 nn) := hM1.cell 1
        have y3 : wr.cell? ⟨w.heap.size, 3, none⟩ = some (.slice P3 1 p3) := hM1.cell 3
        by_cases hlt : j < 1
        · obtain rfl : j = 0 := by omega
          obtain ⟨x, hx⟩ : ∃ x, t.ps[0]? = some x := ⟨_, List.getElem?_eq_getElem (by rw [hL'.out]; exact hlt)⟩
          obtain ⟨b, o, rfl, hbl, c0⟩ := (hP.below hb).cell hx
          have hxb := hb'.out x (List.mem_of_getElem? hx)
          have hC := Lib.hid (hLo.out wr x hxb)
          have hlx := Lib.hid (TM.loc_len hxb)
          have hst := hSG.out
          rw [TM.prw_drop hx, hL'.out, if_neg (fun h => hn1.out h.1)] at hst
          have hn := Lib.hid hst
          simp only [Nat.add_zero] at c0
          clear hx hst hSG
          go_wp2_with (
            go_at_call 67
            refine hC.out.mono ?_
            rintro e w5 ⟨⟨T, rfl, hT⟩, hb5⟩
            have hT' := Lib.hid hT
            have hTs : T.size ≤ 30 := (by rw [← size_len, hT]; exact hlx.out)
            have hM3 := hM1.below hb5 hM1.lt
            have hb6 : Below w.heap.size w w5 := hb.trans (hb5.mono hb.size)
            clear hT hb5 y1 y3 c0)
          go_roundw
          case rel => exact ⟨0 + 1, S ++ T, by omega, by go_num, rfl, Lib.hid (by rw [← hn.out]; simp [hT'.out]), by rw [ByteArray.size_append]; omega, hb6, hM3⟩
          case measure => simp [intOf]
        · obtain rfl : j = 1 := by omega
          go_wp2_with fail
          go_ret
          have hE := hSG.out
          rw [List.drop_eq_nil_of_le (by rw [hL'.out]; exact Nat.le_refl _)] at hE
          refine ⟨⟨_, rfl, ?_⟩, hb⟩
          rw [hpr.out, hnn'.out]
          have h2 := hGp'.out
          rw [hnn'.out] at h2
          simp only [TM.prw, List.append_nil] at hE
          have h3 : 40 :: TM.prw nn true t.ps = Gp := h2
          have h4 : 40 :: (TM.prw nn true t.ps ++ [41]) = (40 :: TM.prw nn true t.ps) ++ [41] := rfl
          rw [h4, h3, ← hE]
          simp
    · have g1 : ((L : Int) == 1) = false := by simp; omega
      go_enter Tryz.func69, Tryz.ntmps69
      go_wp2_with fail
      go_loopw [4, 5] (fun sv i wr => ∃ (j : Nat) (S : ByteArray), j ≤ L ∧ i = .int .i64 j ∧ sv = .string S ∧ Hid (S.data.toList ++ TM.prw nn (decide (j = 0)) (t.ps.drop j) = Gp) ∧ S.size ≤ 1 + 40 * j ∧ Below w.heap.size w wr ∧ Lies wr w.heap.size 28 [.int .i64 t.k, .int .i64 nn, .string ⟨t.s.toArray⟩, .slice P3 L p3, .int .i64 t.d.k, .int .i64 t.d.n, .string ⟨t.d.s.toArray⟩, .slice I LI i7, .slice K LK k8]) (fun _ i _ => L - (intOf i).toNat)
      case atStart => exact ⟨0, ⟨#[40]⟩, by omega, rfl, rfl, Lib.hid (by rw [← hGp'.out, hnn'.out]; rfl), by show 1 ≤ _; omega, hba, hM⟩
      case round =>
        obtain ⟨j, S, hj, rfl, rfl, hSG, hSs, hb, hM1⟩ := hrel
        clear hM hba
        have y1 : wr.cell? ⟨w.heap.size, 1, none⟩ = some (.int .i64 nn) := hM1.cell 1
        have y3 : wr.cell? ⟨w.heap.size, 3, none⟩ = some (.slice P3 L p3) := hM1.cell 3
        by_cases hlt : j < L
        · obtain ⟨x, hx⟩ : ∃ x, t.ps[j]? = some x := ⟨_, List.getElem?_eq_getElem (by rw [hL'.out]; exact hlt)⟩
          obtain ⟨b, o, rfl, hbl, c0⟩ := (hP.below hb).cell hx
          have hxb := hb'.out x (List.mem_of_getElem? hx)
          have hC := Lib.hid (hLo.out wr x hxb)
          have hlx := Lib.hid (TM.loc_len hxb)
          have hst := hSG.out
          rw [TM.prw_drop hx, hL'.out] at hst
          have hst' := Lib.hid hst
          have hw : wrap64 ((L : Int) - 1) = (L : Int) - 1 := by unfold wrap64; omega
          clear hx hst hSG
          by_cases hl : nn = 1 ∧ j + 1 = L
          · obtain ⟨rfl, hjL⟩ := hl
            have hj0 : 0 < j := by
              rcases Nat.eq_zero_or_pos j with h | h
              · exact absurd rfl (h1' (by omega))
              · exact h
            have hjL' := Lib.hid hjL
            have hjb : ((j : Int) == (L : Int) - 1) = true := by simp; omega
            have hg : (0 : Int) < (j : Int) := by omega
            have hn := Lib.hid (show S.data.toList ++ ([32, 46, 32] ++ (TM.loc x ++ TM.prw 1 false (t.ps.drop (j + 1)))) = Gp by
              have := hst'.out
              rwa [if_pos ⟨rfl, hjL'.out⟩] at this)
            clear hst'
            go_wp2_with (
              go_at_call 67
              refine hC.out.mono ?_
              rintro e w5 ⟨⟨T, rfl, hT⟩, hb5⟩
              have hT' := Lib.hid hT
              have hTs : T.size ≤ 30 := (by rw [← size_len, hT]; exact hlx.out)
              have hM3 := hM1.below hb5 hM1.lt
              have hb6 : Below w.heap.size w w5 := hb.trans (hb5.mono hb.size)
              clear hT hb5 y1 y3 c0)
            go_roundw
            case rel => exact ⟨j + 1, ((S ++ ⟨#[32]⟩) ++ ⟨#[46, 32]⟩) ++ T, by omega, by go_num, rfl, Lib.hid (by rw [← hn.out, decide_eq_false (by omega)]; simp [hT'.out]), by rw [ByteArray.size_append, ByteArray.size_append, ByteArray.size_append, show (⟨#[32]⟩ : ByteArray).size = 1 from rfl, show (⟨#[46, 32]⟩ : ByteArray).size = 2 from rfl]; omega, hb6, hM3⟩
            case measure => simp [intOf]; omega
          · have hdt : (((j : Int) == (L : Int) - 1) && (nn == 1)) = false := by
              rw [Bool.and_eq_false_iff]
              by_cases h : nn = 1
              · left; simp; omega
              · right; simpa using h
            have hn := Lib.hid (show S.data.toList ++ ((if decide (j = 0) = true then [] else [32]) ++ (TM.loc x ++ TM.prw nn false (t.ps.drop (j + 1)))) = Gp by
              have := hst'.out
              rwa [if_neg hl] at this)
            clear hst'
            by_cases hjL : j + 1 = L
            · have hjb : ((j : Int) == (L : Int) - 1) = true := by simp; omega
              have hnn1 : (nn == 1) = false := by
                have : ¬ nn = 1 := fun h => hl ⟨h, hjL⟩
                simpa using this
              have hjL' := Lib.hid hjL
              have hj0 : ¬ j = 0 := fun h => by subst h; simp at g1; omega
              clear hdt
              have hg : (0 : Int) < (j : Int) := by omega
              go_wp2_with (
                go_at_call 67
                refine hC.out.mono ?_
                rintro e w5 ⟨⟨T, rfl, hT⟩, hb5⟩
                have hT' := Lib.hid hT
                have hTs : T.size ≤ 30 := (by rw [← size_len, hT]; exact hlx.out)
                have hM3 := hM1.below hb5 hM1.lt
                have hb6 : Below w.heap.size w w5 := hb.trans (hb5.mono hb.size)
                clear hT hb5 y1 y3 c0)
              go_roundw
              case rel => exact ⟨j + 1, (S ++ ⟨#[32]⟩) ++ T, by omega, by go_num, rfl, Lib.hid (by rw [← hn.out]; simp [hT'.out, hj0]), by rw [ByteArray.size_append, ByteArray.size_append, show (⟨#[32]⟩ : ByteArray).size = 1 from rfl]; omega, hb6, hM3⟩
              case measure => simp [intOf]; omega
            · have hjL1 : ((j : Int) == (L : Int) - 1) = false := by simp; omega
              clear hdt
              by_cases hj0 : j = 0
              · subst hj0
                simp only [Nat.add_zero] at c0
                go_wp2_with (
                  go_at_call 67
                  refine hC.out.mono ?_
                  rintro e w5 ⟨⟨T, rfl, hT⟩, hb5⟩
                  have hT' := Lib.hid hT
                  have hTs : T.size ≤ 30 := (by rw [← size_len, hT]; exact hlx.out)
                  have hM3 := hM1.below hb5 hM1.lt
                  have hb6 : Below w.heap.size w w5 := hb.trans (hb5.mono hb.size)
                  clear hT hb5 y1 y3 c0)
                go_roundw
                case rel => exact ⟨0 + 1, S ++ T, by omega, by go_num, rfl, Lib.hid (by rw [← hn.out]; simp [hT'.out]), by rw [ByteArray.size_append]; omega, hb6, hM3⟩
                case measure => simp [intOf]; omega
              · have hg : (0 : Int) < (j : Int) := by omega
                go_wp2_with (
                  go_at_call 67
                  refine hC.out.mono ?_
                  rintro e w5 ⟨⟨T, rfl, hT⟩, hb5⟩
                  have hT' := Lib.hid hT
                  have hTs : T.size ≤ 30 := (by rw [← size_len, hT]; exact hlx.out)
                  have hM3 := hM1.below hb5 hM1.lt
                  have hb6 : Below w.heap.size w w5 := hb.trans (hb5.mono hb.size)
                  clear hT hb5 y1 y3 c0)
                go_roundw
                case rel => exact ⟨j + 1, (S ++ ⟨#[32]⟩) ++ T, by omega, by go_num, rfl, Lib.hid (by rw [← hn.out]; simp [hT'.out, hj0]), by rw [ByteArray.size_append, ByteArray.size_append, show (⟨#[32]⟩ : ByteArray).size = 1 from rfl]; omega, hb6, hM3⟩
                case measure => simp [intOf]; omega
        · obtain rfl : j = L := by omega
          go_wp2_with fail
          go_ret
          have hE := hSG.out
          rw [List.drop_eq_nil_of_le (by rw [hL'.out]; exact Nat.le_refl _)] at hE
          refine ⟨⟨_, rfl, ?_⟩, hb⟩
          rw [hpr.out, hnn'.out]
          have h2 := hGp'.out
          rw [hnn'.out] at h2
          simp only [TM.prw, List.append_nil] at hE
          have h3 : 40 :: TM.prw nn true t.ps = Gp := h2
          have h4 : 40 :: (TM.prw nn true t.ps ++ [41]) = (40 :: TM.prw nn true t.ps) ++ [41] := rfl
          rw [h4, h3, ← hE]
          simp
/-! ### kids -/
def TxOk (t : Tm) : Prop := ∀ (w : World) (vp vi vk : Value), TmIn w t vp vi vk → TM.Rw1 t → TM.Rwf t.ks → TM.sz t.ks ≤ 5000 → Calls Tryz.prog 44 #[tmv t vp vi vk] w (StrN (TM.ttx t) w)
theorem tx_len {x : Tm} (h1 : TM.Rw1 x) (h2 : TM.Rwf x.ks) : (TM.ttx x).length + 1 ≤ 6000000 * (TM.sz x.ks + 1) := ttx_len h1.w h2.tw
set_option maxRecDepth 100000 in
set_option maxHeartbeats 4000000 in
theorem rkids_any (ks : Tl) (hR : ∀ i x, ks.at_ i = some x → TxOk x) (w : World) (v : Value) (hT : TIn w v ks) (hf : TM.Rwf ks) (hsz : TM.sz ks ≤ 5000) :
    Calls Tryz.prog 68 #[v] w (StrN (TM.txs false ks) w) := by
  obtain ⟨A1, c1, rfl⟩ := hT.read
  have hlen := hT.len
  obtain ⟨N, hN⟩ : ∃ N, ks.len = N := ⟨_, rfl⟩
  obtain ⟨Z, hZ⟩ : ∃ Z, TM.sz ks = Z := ⟨_, rfl⟩
  obtain ⟨G, hG⟩ : ∃ G, TM.txs false ks = G := ⟨_, rfl⟩
  rw [hN] at hT hlen ⊢
  rw [hZ] at hsz
  rw [hG]
  have hN' := Lib.hid hN
  have hZ' := Lib.hid hZ
  have hG' := Lib.hid hG
  have hR' := Lib.hid hR
  have hf' := Lib.hid hf
  clear hN hZ hG hR hf
  go_enter Tryz.func68, Tryz.ntmps68
  go_wp2_with fail
  go_loopw [3, 4] (fun sv i wr => ∃ (j R : Nat) (S : ByteArray), j ≤ N ∧ i = .int .i64 j ∧ sv = .string S ∧ Hid (TM.sz (ks.dr j) = R) ∧ Hid (S.data.toList ++ TM.txs false (ks.dr j) = G) ∧ S.size + 7000000 * R ≤ 7000000 * Z ∧ Below w.heap.size w wr) (fun _ i _ => N - (intOf i).toNat)
  case atStart => exact ⟨0, Z, ⟨#[]⟩, by omega, rfl, rfl, Lib.hid (by rw [Tl.dr_zero]; exact hZ'.out), Lib.hid (by rw [Tl.dr_zero]; exact hG'.out), by show 0 + _ ≤ _; omega, Below.refl _ _⟩
  case round =>
    obtain ⟨j, R, S, hj, rfl, rfl, hRe, hSG, hSs, hb⟩ := hrel
    by_cases hlt : j < N
    · obtain ⟨x, hx⟩ := ks.at_some j (by rw [hN'.out]; exact hlt)
      obtain ⟨b, o, P5, p5, I5, q5, K5, r5, rfl, hb0, p0, p1, p2, pp, p4, p55, p6, pi, pk, hT5⟩ := (hT.below hb).at_ hx
      obtain ⟨hw1, hwf⟩ := hf'.out.at_ hx
      have hR0 := hRe.out
      rw [TM.sz_at hx] at hR0
      obtain ⟨R1, hR1⟩ : ∃ R1, TM.sz (ks.dr (j + 1)) = R1 := ⟨_, rfl⟩
      obtain ⟨X, hX⟩ : ∃ X, TM.sz x.ks = X := ⟨_, rfl⟩
      rw [hR1, hX] at hR0
      have hR1' := Lib.hid hR1
      have hC := Lib.hid (hR'.out j x hx wr _ _ _ hT5 hw1 hwf (by omega))
      unfold tmv at hC
      have htl := Lib.hid (tx_len hw1 hwf)
      rw [hX] at htl
      have hst := Lib.hid (show S.data.toList ++ ([32] ++ (TM.ttx x ++ TM.txs false (ks.dr (j + 1)))) = G by
        have := hSG.out
        rwa [TM.txs_at hx] at this)
      clear hx hR1 hX hT5 hw1 hwf hSG
      go_wp2_with (
        go_at_call 44
        refine hC.out.mono ?_
        rintro e w5 ⟨⟨T, rfl, hT5⟩, hb5⟩
        have hT' := Lib.hid hT5
        have hTs : T.size + 1 ≤ 6000000 * (X + 1) := (by rw [← size_len, hT5]; exact htl.out)
        have hb6 : Below w.heap.size w w5 := hb.trans (hb5.mono hb.size)
        clear hT5 hb5 p0 p1 p2 pp p4 p55 p6 pi pk)
      go_roundw
      case rel => exact ⟨j + 1, R1, S ++ (⟨#[32]⟩ ++ T), by omega, by go_num, rfl, hR1', Lib.hid (by rw [← hst.out]; simp [hT'.out]), by rw [ByteArray.size_append, ByteArray.size_append, show (⟨#[32]⟩ : ByteArray).size = 1 from rfl]; omega, hb6⟩
      case measure => simp [intOf]; omega
    · obtain rfl : j = N := by omega
      go_wp2_with fail
      go_ret
      have hE := hSG.out
      rw [Tl.dr_end ks j (by rw [hN'.out]; exact Nat.le_refl _)] at hE
      exact ⟨⟨_, rfl, by rw [← hE]; simp [TM.txs]⟩, hb⟩
end Go.Proofs.YtpiekdcbjkgipaaGreatDoor
