/- What package term's writer puts: a procedure's locals. -/
import Derived.Test.YtpiekdcbjkgipaaGreatDoorQ22
namespace Go.Proofs.YtpiekdcbjkgipaaGreatDoor
open Go.ChangeShapes Go.WideShapes Go.ChangeAt Go.RowKit
open TM (Tl Tm)

def WtN (B p : Nat) (l : List UInt8) (w : World) (e : Ending) (w' : World) : Prop := e = .returned (.tuple #[]) ∧ (∃ v', Wt w' B p v' l) ∧ Ch B p w w'
/-- where a term's texts are put: what came in lies below the writer -/
structure Base (W0 w : World) (B p : Nat) (v : Value) (l : List UInt8) : Prop where
  tab : ∀ w1, Agr (fun g => g ≠ p) W0 w1 → Tab w1
  hB : W0.heap.size ≤ B
  below : Agr (fun g => g ≠ p) W0 w
  size : B ≤ w.heap.size
  wt : Wt w B p v l
section
variable {W0 w w' : World} {B p : Nat} {v v' : Value} {l l' : List UInt8}
theorem Base.on (h : Base W0 w B p v l) (hw : Wt w' B p v' l') (hc : Ch B p w w') : Base W0 w' B p v' l' :=
  ⟨h.tab, h.hB, ⟨Nat.le_trans h.below.size hc.size, fun g hg hd => (Turns.block hc g (Nat.lt_of_lt_of_le hg h.below.size) (fun hx => hx.elim hd (fun hx => by have := h.hB; omega))).trans (h.below.block g hg hd)⟩, Nat.le_trans h.size hc.size, hw⟩
theorem Base.grown (h : Base W0 w B p v l) (k : Below w.heap.size w w') : Base W0 w' B p v l := h.on (h.wt.below k) (Ch.of_below k)
theorem Base.tabNow (h : Base W0 w B p v l) : Tab w := h.tab _ h.below
theorem Base.put (h : Base W0 w B p v l) (t : List UInt8) (hl : l.length + t.length ≤ 100000000000000) :
    Calls Tryz.prog 55 #[.pointer (some ⟨p, 0, none⟩), .string ⟨t.toArray⟩] w (WtN B p (l ++ t) w) := tput_any w B p v l t h.wt hl
end
set_option maxRecDepth 100000 in
set_option maxHeartbeats 4000000 in
theorem pars_any (k n : Int) (s : List UInt8) (ps : List Int) (P3 : Option Addr) (p3 : Nat) (dk dn : Int) (dS : ByteArray) (vi vk : Value) (W0 w : World) (B p : Nat) (v : Value) (l : List UInt8) (hp : PD W0 (fun g => g ≠ p) (.slice P3 ps.length p3) ps) (h64 : ∀ q ∈ ps, b64 q) (hb : Base W0 w B p v l) (hl : l.length + 40 * ps.length + 10 ≤ 100000000000000) :
    Calls Tryz.prog 83 #[.pointer (some ⟨p, 0, none⟩), .agg #[.int .i64 k, .int .i64 n, .string ⟨s.toArray⟩, .slice P3 ps.length p3, .int .i64 dk, .int .i64 dn, .string dS, vi, vk]] w (WtN B p (l ++ TM.prt n ps) w) := by
  have hlen := hp.len
  obtain ⟨L, hL⟩ : ∃ L, ps.length = L := ⟨_, rfl⟩
  rw [hL] at hp hlen hl ⊢
  have hL' := Lib.hid hL
  have h64' := Lib.hid h64
  have hba : Below w.heap.size w (w.alloc (.cells #[.int .i64 k, .int .i64 n, .string ⟨s.toArray⟩, .slice P3 L p3, .int .i64 dk, .int .i64 dn, .string dS, vi, vk] 28)) := went_alloc _ _
  have hM := Lies.made w 28 #[.int .i64 k, .int .i64 n, .string ⟨s.toArray⟩, .slice P3 L p3, .int .i64 dk, .int .i64 dn, .string dS, vi, vk]
  have hb1 := Lib.hid (hb.grown hba)
  have hca := Lib.hid (Ch.of_below (B := B) (p := p) hba)
  have hpl := hb.wt.lt.2
  by_cases h1 : n = 1 ∧ L = 1
  · obtain ⟨rfl, rfl⟩ := h1
    obtain ⟨x, hx⟩ : ∃ x, ps = [x] := List.length_eq_one_iff.1 hL
    subst hx
    obtain ⟨b, o, rfl, hb0, p0⟩ := (hp _ hb1.out.below).cell (j := 0) rfl
    have q0 := p0
    rw [Nat.add_zero] at q0
    have e : TM.prt 1 [x] = TM.loc x := by simp [TM.prt]
    rw [e]
    have hlo := TM.loc_len (h64 x (by simp))
    have hln : l.length + (TM.loc x).length ≤ 100000000000000 := by omega
    have hlc := Lib.hid (local_any x (h64 x (by simp)) _ hb1.out.tabNow)
    have hln' := Lib.hid hln
    generalize TM.loc x = t at hlc hln' ⊢
    clear hL h64 hlo hln p0 e hp
    go_enter Tryz.func83, Tryz.ntmps83
    go_wp2_with fail
    go_at_call 57
    refine hlc.out.mono ?_
    rintro e w3 ⟨rfl, hb3⟩
    go_wp2_with fail
    go_at_call 55
    refine ((hb1.out.grown hb3).put t hln'.out).mono ?_
    rintro e w4 ⟨rfl, hw4, hc4⟩
    have hc5 := (hca.out.trans (Ch.of_below hb3)).trans hc4
    clear hb3 hc4
    go_wp2_with fail
    go_end0
    exact ⟨rfl, hw4, hc5⟩
  · have hT : TM.prt n ps = 40 :: (TM.prw n true ps ++ [41]) := by
      unfold TM.prt
      rw [if_neg (by rw [hL]; exact h1)]
    rw [hT]
    have hT' := Lib.hid hT
    have hprl := TM.prw_len n true ps h64
    rw [hL] at hprl
    have hprl' := Lib.hid hprl
    clear hL h64 hT hprl
    by_cases hn : n = 1
    · subst hn
      have hg : ((L : Int) - 1 == 0) = false := by rw [beq_eq_false_iff_ne]; intro h; exact h1 ⟨rfl, by omega⟩
      have hg2 : ¬ (L : Int) - 1 = 0 := fun h => h1 ⟨rfl, by omega⟩
      clear hb hba
      go_enter Tryz.func83, Tryz.ntmps83
      go_wp2_with fail
      go_at_call 55
      refine (hb1.out.put [40] (by simp only [List.length_cons, List.length_nil]; omega)).mono ?_
      rintro e w2 ⟨rfl, ⟨v2, hw2⟩, hc2⟩
      have G2 := hb1.out.on hw2 hc2
      have hM2 := hM.ch (by decide) (by omega) hc2
      have hG2 := Lib.hid G2
      have hc3 := Lib.hid (hca.out.trans hc2)
      have z3 := hM2.cell 3
      simp only [List.getElem?_cons_succ, List.getElem?_cons_zero] at z3
      clear hw2 hc2 G2
      go_wp2_with fail
      go_loopw [30] (fun i wr => ∃ (j : Nat) (cur : List UInt8) (vj : Value), j ≤ L ∧ i = .int .i64 j ∧ Hid (cur ++ TM.prw 1 (decide (j = 0)) (ps.drop j) = l ++ 40 :: TM.prw 1 true ps) ∧ Base W0 wr B p vj cur ∧ Lies wr w.heap.size 28 [.int .i64 k, .int .i64 1, .string ⟨s.toArray⟩, .slice P3 L p3, .int .i64 dk, .int .i64 dn, .string dS, vi, vk] ∧ Ch B p w wr) (fun i _ => L - (intOf i).toNat)
      case atStart => exact ⟨0, _, v2, Nat.zero_le _, rfl, Lib.hid (by simp), hG2.out, hM2, hc3.out⟩
      case round =>
        obtain ⟨j, cur, vj, hj, rfl, hcur, hbj, hMj, hcj⟩ := hrel
        have hbj' := Lib.hid hbj
        have hcj' := Lib.hid hcj
        have hcl := hcur.out
        have y1 : wr.cell? ⟨w.heap.size, 1, none⟩ = some (.int .i64 1) := hMj.cell 1
        clear hbj hcj
        by_cases hlt : j < L
        · have hx : ps[j]? = some (ps[j]'(by rw [hL'.out]; exact hlt)) := List.getElem?_eq_getElem _
          obtain ⟨x, hxe⟩ : ∃ x, ps[j]'(by rw [hL'.out]; exact hlt) = x := ⟨_, rfl⟩
          rw [hxe] at hx
          obtain ⟨b, o, rfl, hb0, p0⟩ := (hp _ hbj'.out.below).cell hx
          have q0 := p0
          have hx64 := h64'.out x (by rw [← hxe]; exact List.getElem_mem _)
          have hd : ps.drop j = x :: ps.drop (j + 1) := by rw [← hxe, ← List.drop_eq_getElem_cons]
          have hdn : (ps.drop (j + 1) = []) ↔ j + 1 = L := by rw [List.drop_eq_nil_iff, hL'.out]; omega
          rw [hd, TM.prw] at hcl
          have hcn := congrArg List.length hcl
          have hpl2 := hprl'.out
          simp only [List.length_append, List.length_cons] at hcn
          have hlo := TM.loc_len hx64
          have hcl' := Lib.hid hcl
          have hdn' := Lib.hid hdn
          have hlc := Lib.hid (fun w' hT => local_any x hx64 w' hT)
          by_cases hlast : j + 1 = L
          · have hw : wrap64 ((L : Int) - 1) = j := by unfold wrap64; omega
            have ej : ((j : Int) == (L : Int) - 1) = true := by rw [beq_iff_eq]; omega
            have ej2 : (j : Int) = (L : Int) - 1 := by omega
            have b1 : cur.length + 2 ≤ 100000000000000 := by omega
            have b2 : cur.length + 3 ≤ 100000000000000 := by omega
            have b3 : cur.length + 3 + (TM.loc x).length ≤ 100000000000000 := by omega
            have ej2' := Lib.hid ej2
            clear ej2 hw
            clear hx hxe hd hdn hcl hcn hpl2 hx64 p0
            go_wp2_with fail
            go_at_call 55
            refine (hbj'.out.put [32, 46] (by simpa using b1)).mono ?_
            rintro e w4 ⟨rfl, ⟨v4, hw4⟩, hc4⟩
            have G4 := hbj'.out.on hw4 hc4
            go_wp2_with fail
            go_at_call 55
            refine (G4.put [32] (by simp only [List.length_append, List.length_cons, List.length_nil]; omega)).mono ?_
            rintro e w5 ⟨rfl, ⟨v5, hw5⟩, hc5⟩
            have G5 := G4.on hw5 hc5
            go_wp2_with fail
            go_at_call 57
            refine (hlc.out _ G5.tabNow).mono ?_
            rintro e w7 ⟨rfl, hb7⟩
            have G7 := G5.grown hb7
            go_wp2_with fail
            go_at_call 55
            refine (G7.put (TM.loc x) (by first | omega | (simp only [List.length_append, List.length_cons, List.length_nil]; omega))).mono ?_
            rintro e w8 ⟨rfl, ⟨v8, hw8⟩, hc8⟩
            have G8 := Lib.hid (G7.on hw8 hc8)
            have hM8 := ((((hMj.ch (by decide) (by omega) hc4).ch (by decide) (by omega) hc5)).below hb7 (((hMj.ch (by decide) (by omega) hc4).ch (by decide) (by omega) hc5)).lt).ch (by decide) (by omega) hc8
            have hc9 := Lib.hid (((hcj'.out.trans (hc4.trans hc5)).trans (Ch.of_below hb7)).trans hc8)
            clear hb7 hc8 hw8 G7 hlo
            go_wp2_with fail
            go_roundw
            case rel => exact ⟨j + 1, _, v8, by omega, by go_num, Lib.hid (by have h := hcl'.out; rw [if_pos ⟨by simp, hdn'.out.2 hlast⟩] at h; rw [← h]; simp [List.append_assoc]), G8.out, hM8, hc9.out⟩
            case measure => simp [intOf]; omega
          · have ej : ((j : Int) == (L : Int) - 1) = false := by rw [beq_eq_false_iff_ne]; omega
            have ej2 : ¬ (j : Int) = (L : Int) - 1 := by omega
            have ej2' := Lib.hid ej2
            by_cases hz : j = 0
            · have hz' := Lib.hid hz
              have hj0 : decide (0 < j) = false := decide_eq_false (by omega)
              have hj1 : ¬ 0 < j := by omega
              have b3 : cur.length + (TM.loc x).length ≤ 100000000000000 := by omega
              clear hx hxe hd hdn hcl hcn hpl2 hx64 p0 hz
              go_wp2_with fail
              go_at_call 57
              refine (hlc.out _ hbj'.out.tabNow).mono ?_
              rintro e w7 ⟨rfl, hb7⟩
              have G7 := hbj'.out.grown hb7
              go_wp2_with fail
              go_at_call 55
              refine (G7.put (TM.loc x) (by first | omega | (simp only [List.length_append, List.length_cons, List.length_nil]; omega))).mono ?_
              rintro e w8 ⟨rfl, ⟨v8, hw8⟩, hc8⟩
              have G8 := Lib.hid (G7.on hw8 hc8)
              have hM8 := ((hMj).below hb7 (hMj).lt).ch (by decide) (by omega) hc8
              have hc9 := Lib.hid ((hcj'.out.trans (Ch.of_below hb7)).trans hc8)
              clear hb7 hc8 hw8 G7 hlo
              go_wp2_with fail
              go_roundw
              case rel => exact ⟨j + 1, _, v8, by omega, by go_num, Lib.hid (by have h := hcl'.out; rw [if_neg (fun h0 => hlast (hdn'.out.1 h0.2))] at h; rw [show decide (j = 0) = true by simp [hz'.out], if_pos rfl, List.nil_append] at h; rw [← h]; simp [List.append_assoc]), G8.out, hM8, hc9.out⟩
              case measure => simp [intOf]; omega
            · have b1 : cur.length + 1 ≤ 100000000000000 := by omega
              have b3 : cur.length + 1 + (TM.loc x).length ≤ 100000000000000 := by omega
              have hj0 : 0 < j := by omega
              clear hx hxe hd hdn hcl hcn hpl2 hx64 p0
              go_wp2_with fail
              go_at_call 55
              refine (hbj'.out.put [32] (by simpa using b1)).mono ?_
              rintro e w4 ⟨rfl, ⟨v4, hw4⟩, hc4⟩
              have G4 := hbj'.out.on hw4 hc4
              go_wp2_with fail
              go_at_call 57
              refine (hlc.out _ G4.tabNow).mono ?_
              rintro e w7 ⟨rfl, hb7⟩
              have G7 := G4.grown hb7
              go_wp2_with fail
              go_at_call 55
              refine (G7.put (TM.loc x) (by first | omega | (simp only [List.length_append, List.length_cons, List.length_nil]; omega))).mono ?_
              rintro e w8 ⟨rfl, ⟨v8, hw8⟩, hc8⟩
              have G8 := Lib.hid (G7.on hw8 hc8)
              have hM8 := (((hMj.ch (by decide) (by omega) hc4)).below hb7 ((hMj.ch (by decide) (by omega) hc4)).lt).ch (by decide) (by omega) hc8
              have hc9 := Lib.hid (((hcj'.out.trans hc4).trans (Ch.of_below hb7)).trans hc8)
              clear hb7 hc8 hw8 G7 hlo
              go_wp2_with fail
              go_roundw
              case rel => exact ⟨j + 1, _, v8, by omega, by go_num, Lib.hid (by have h := hcl'.out; rw [if_neg (fun h0 => hlast (hdn'.out.1 h0.2))] at h; rw [show decide (j = 0) = false by simp; omega, if_neg (by simp)] at h; rw [← h]; simp [List.append_assoc]), G8.out, hM8, hc9.out⟩
              case measure => simp [intOf]; omega
        · obtain rfl : j = L := by omega
          have hdr : ps.drop j = [] := by rw [← hL'.out]; exact List.drop_length
          rw [hdr, TM.prw, List.append_nil] at hcl
          have hcl' := Lib.hid hcl
          have hcn := congrArg List.length hcl
          have hpl2 := hprl'.out
          simp only [List.length_append, List.length_cons] at hcn
          have b1 : cur.length + 1 ≤ 100000000000000 := by omega
          clear hdr hcl hcn hpl2
          go_wp2_with fail
          go_at_call 55
          refine (hbj'.out.put [41] (by simpa using b1)).mono ?_
          rintro e w4 ⟨rfl, ⟨v4, hw4⟩, hc4⟩
          have G4 := hbj'.out.on hw4 hc4
          have hc9 := Lib.hid (hcj'.out.trans hc4)
          have hw9 := Lib.hid hw4
          clear hw4 hc4 G4
          go_wp2_with fail
          go_end0
          refine ⟨rfl, ⟨v4, ?_⟩, hc9.out⟩
          have h := hw9.out
          rw [hcl'.out] at h
          simpa [List.append_assoc] using h
    · have hn' : ¬ n = 1 := hn
      clear hb hba h1
      go_enter Tryz.func83, Tryz.ntmps83
      go_wp2_with fail
      go_at_call 55
      refine (hb1.out.put [40] (by simp only [List.length_cons, List.length_nil]; omega)).mono ?_
      rintro e w2 ⟨rfl, ⟨v2, hw2⟩, hc2⟩
      have G2 := hb1.out.on hw2 hc2
      have hM2 := hM.ch (by decide) (by omega) hc2
      have hG2 := Lib.hid G2
      have hc3 := Lib.hid (hca.out.trans hc2)
      have z3 := hM2.cell 3
      simp only [List.getElem?_cons_succ, List.getElem?_cons_zero] at z3
      clear hw2 hc2 G2
      go_wp2_with fail
      go_loopw [30] (fun i wr => ∃ (j : Nat) (cur : List UInt8) (vj : Value), j ≤ L ∧ i = .int .i64 j ∧ Hid (cur ++ TM.prw n (decide (j = 0)) (ps.drop j) = l ++ 40 :: TM.prw n true ps) ∧ Base W0 wr B p vj cur ∧ Lies wr w.heap.size 28 [.int .i64 k, .int .i64 n, .string ⟨s.toArray⟩, .slice P3 L p3, .int .i64 dk, .int .i64 dn, .string dS, vi, vk] ∧ Ch B p w wr) (fun i _ => L - (intOf i).toNat)
      case atStart => exact ⟨0, _, v2, Nat.zero_le _, rfl, Lib.hid (by simp), hG2.out, hM2, hc3.out⟩
      case round =>
        obtain ⟨j, cur, vj, hj, rfl, hcur, hbj, hMj, hcj⟩ := hrel
        have hbj' := Lib.hid hbj
        have hcj' := Lib.hid hcj
        have hcl := hcur.out
        have y1 : wr.cell? ⟨w.heap.size, 1, none⟩ = some (.int .i64 n) := hMj.cell 1
        clear hbj hcj
        by_cases hlt : j < L
        · have hx : ps[j]? = some (ps[j]'(by rw [hL'.out]; exact hlt)) := List.getElem?_eq_getElem _
          obtain ⟨x, hxe⟩ : ∃ x, ps[j]'(by rw [hL'.out]; exact hlt) = x := ⟨_, rfl⟩
          rw [hxe] at hx
          obtain ⟨b, o, rfl, hb0, p0⟩ := (hp _ hbj'.out.below).cell hx
          have q0 := p0
          have hx64 := h64'.out x (by rw [← hxe]; exact List.getElem_mem _)
          have hd : ps.drop j = x :: ps.drop (j + 1) := by rw [← hxe, ← List.drop_eq_getElem_cons]
          have hdn : (ps.drop (j + 1) = []) ↔ j + 1 = L := by rw [List.drop_eq_nil_iff, hL'.out]; omega
          rw [hd, TM.prw] at hcl
          have hcn := congrArg List.length hcl
          have hpl2 := hprl'.out
          simp only [List.length_append, List.length_cons] at hcn
          have hlo := TM.loc_len hx64
          have hcl' := Lib.hid hcl
          have hdn' := Lib.hid hdn
          have hlc := Lib.hid (fun w' hT => local_any x hx64 w' hT)
          by_cases hz : j = 0
          · have hz' := Lib.hid hz
            have hj0 : decide (0 < j) = false := decide_eq_false (by omega)
            have hj1 : ¬ 0 < j := by omega
            have b3 : cur.length + (TM.loc x).length ≤ 100000000000000 := by omega
            clear hx hxe hd hdn hcl hcn hpl2 hx64 p0 hz
            go_wp2_with fail
            go_at_call 57
            refine (hlc.out _ hbj'.out.tabNow).mono ?_
            rintro e w7 ⟨rfl, hb7⟩
            have G7 := hbj'.out.grown hb7
            go_wp2_with fail
            go_at_call 55
            refine (G7.put (TM.loc x) (by first | omega | (simp only [List.length_append, List.length_cons, List.length_nil]; omega))).mono ?_
            rintro e w8 ⟨rfl, ⟨v8, hw8⟩, hc8⟩
            have G8 := Lib.hid (G7.on hw8 hc8)
            have hM8 := ((hMj).below hb7 (hMj).lt).ch (by decide) (by omega) hc8
            have hc9 := Lib.hid ((hcj'.out.trans (Ch.of_below hb7)).trans hc8)
            clear hb7 hc8 hw8 G7 hlo
            go_wp2_with fail
            go_roundw
            case rel => exact ⟨j + 1, _, v8, by omega, by go_num, Lib.hid (by have h := hcl'.out; rw [if_neg (fun h0 => hn' h0.1)] at h; rw [show decide (j = 0) = true by simp [hz'.out], if_pos rfl, List.nil_append] at h; rw [← h]; simp [List.append_assoc]), G8.out, hM8, hc9.out⟩
            case measure => simp [intOf]; omega
          · have b1 : cur.length + 1 ≤ 100000000000000 := by omega
            have b3 : cur.length + 1 + (TM.loc x).length ≤ 100000000000000 := by omega
            have hj0 : 0 < j := by omega
            clear hx hxe hd hdn hcl hcn hpl2 hx64 p0
            go_wp2_with fail
            go_at_call 55
            refine (hbj'.out.put [32] (by simpa using b1)).mono ?_
            rintro e w4 ⟨rfl, ⟨v4, hw4⟩, hc4⟩
            have G4 := hbj'.out.on hw4 hc4
            go_wp2_with fail
            go_at_call 57
            refine (hlc.out _ G4.tabNow).mono ?_
            rintro e w7 ⟨rfl, hb7⟩
            have G7 := G4.grown hb7
            go_wp2_with fail
            go_at_call 55
            refine (G7.put (TM.loc x) (by first | omega | (simp only [List.length_append, List.length_cons, List.length_nil]; omega))).mono ?_
            rintro e w8 ⟨rfl, ⟨v8, hw8⟩, hc8⟩
            have G8 := Lib.hid (G7.on hw8 hc8)
            have hM8 := (((hMj.ch (by decide) (by omega) hc4)).below hb7 ((hMj.ch (by decide) (by omega) hc4)).lt).ch (by decide) (by omega) hc8
            have hc9 := Lib.hid (((hcj'.out.trans hc4).trans (Ch.of_below hb7)).trans hc8)
            clear hb7 hc8 hw8 G7 hlo
            go_wp2_with fail
            go_roundw
            case rel => exact ⟨j + 1, _, v8, by omega, by go_num, Lib.hid (by have h := hcl'.out; rw [if_neg (fun h0 => hn' h0.1)] at h; rw [show decide (j = 0) = false by simp; omega, if_neg (by simp)] at h; rw [← h]; simp [List.append_assoc]), G8.out, hM8, hc9.out⟩
            case measure => simp [intOf]; omega
        · obtain rfl : j = L := by omega
          have hdr : ps.drop j = [] := by rw [← hL'.out]; exact List.drop_length
          rw [hdr, TM.prw, List.append_nil] at hcl
          have hcl' := Lib.hid hcl
          have hcn := congrArg List.length hcl
          have hpl2 := hprl'.out
          simp only [List.length_append, List.length_cons] at hcn
          have b1 : cur.length + 1 ≤ 100000000000000 := by omega
          clear hdr hcl hcn hpl2
          go_wp2_with fail
          go_at_call 55
          refine (hbj'.out.put [41] (by simpa using b1)).mono ?_
          rintro e w4 ⟨rfl, ⟨v4, hw4⟩, hc4⟩
          have G4 := hbj'.out.on hw4 hc4
          have hc9 := Lib.hid (hcj'.out.trans hc4)
          have hw9 := Lib.hid hw4
          clear hw4 hc4 G4
          go_wp2_with fail
          go_end0
          refine ⟨rfl, ⟨v4, ?_⟩, hc9.out⟩
          have h := hw9.out
          rw [hcl'.out] at h
          simpa [List.append_assoc] using h
end Go.Proofs.YtpiekdcbjkgipaaGreatDoor
