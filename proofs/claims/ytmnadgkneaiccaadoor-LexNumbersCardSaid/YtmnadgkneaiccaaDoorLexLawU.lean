/- The law LexNumbers, walked. -/
import Derived.Test.YtmnadgkneaiccaaDoorLexLawA
import Derived.Test.YtmnadgkneaiccaaDoorFixText
namespace Go.Proofs.YtmnadgkneaiccaaDoor
open Go.ChangeShapes Go.WideShapes Go.ChangeAt Go.RowKit

namespace LM
def nch (c : UInt8) : Prop := (c.toNat : Int) = 45 ∨ 48 ≤ (c.toNat : Int) ∧ (c.toNat : Int) ≤ 57
theorem digs_nch {l : List UInt8} (h : FM.digs l = true) : ∀ c ∈ l, nch c := by
  intro c hc
  simp only [FM.digs, List.all_eq_true] at h
  exact .inr (FM.dig_yes (h c hc))
theorem itoa_nch (n : Int) : ∀ c ∈ Lib.itoa n, nch c := by
  unfold Lib.itoa
  split
  · intro c hc
    rcases List.mem_cons.1 hc with rfl | hc
    · left; rfl
    · exact digs_nch (FM.dec_digs _).1 c hc
  · exact digs_nch (FM.dec_digs _).1
theorem itoa_okd (n : Int) (h0 : -9223372036854775808 ≤ n) (h1 : n ≤ 9223372036854775807) : FM.okd (FM.body (Lib.itoa n)) = true ∧ 1 ≤ (Lib.itoa n).length ∧ (Lib.itoa n).length ≤ 21 ∧ FM.parse (Lib.itoa n) = FM.bd n := by
  by_cases hn : n < 0
  · have d := FM.dec_digs n.natAbs
    have l := FM.dec_len n.natAbs (by omega)
    rw [Lib.itoa, if_pos hn]
    have eb : FM.body (45 :: Lib.decDigits n.natAbs) = Lib.decDigits n.natAbs := by simp [FM.body]
    have en : FM.neg (45 :: Lib.decDigits n.natAbs) = true := rfl
    have ok : FM.okd (Lib.decDigits n.natAbs) = true := by rw [FM.okd, d.1, decide_eq_true (by omega), Bool.true_and]
    refine ⟨by rw [eb]; exact ok, by simp, by simp; omega, ?_⟩
    rw [FM.parse, FM.sv, eb, en, if_pos rfl, d.2, ok, if_pos rfl, show -(n.natAbs : Int) = n by omega]
  · have d := FM.dec_digs n.toNat
    have l := FM.dec_len n.toNat (by omega)
    rw [Lib.itoa, if_neg hn]
    obtain ⟨eb, en⟩ := FM.body_plain d.1
    have ok : FM.okd (Lib.decDigits n.toNat) = true := by rw [FM.okd, d.1, decide_eq_true (by omega), Bool.true_and]
    refine ⟨by rw [eb]; exact ok, by omega, by omega, ?_⟩
    rw [FM.parse, FM.sv, eb, en, ok, if_pos rfl, if_neg (by simp), d.2, show (n.toNat : Int) = n by omega]
theorem wln_nch : ∀ (l : List UInt8), (∀ c ∈ l, nch c) → wln l = l.length
  | [], _ => rfl
  | c :: r, h => by
    have hc := h c (by simp)
    have hd : dlm (c.toNat : Int) = false := by unfold nch at hc; unfold dlm; rw [decide_eq_false_iff_not]; omega
    rw [wln, if_neg (by simpa using hd), wln_nch r (fun x hx => h x (by simp [hx]))]; rfl
theorem scn_nch {l : List UInt8} (hl : 1 ≤ l.length) (h : ∀ c ∈ l, nch c) (hb : FM.okd (FM.body l) = true) :
    skp false l = 0 ∧ scn l = (if (FM.parse l).2 = 0 then tok 9 (FM.parse l).1 [] l.length else bad 11) := by
  have hw := wln_nch l h
  have n1 : l ≠ [46] := by rintro rfl; have := h 46 (by simp); unfold nch at this; revert this; decide
  have n2 : l ≠ [35, 102] := by rintro rfl; have := h 35 (by simp); unfold nch at this; revert this; decide
  have n3 : l ≠ [35, 116] := by rintro rfl; have := h 35 (by simp); unfold nch at this; revert this; decide
  have hW : wrd l = (if (FM.parse l).2 = 0 then tok 9 (FM.parse l).1 [] l.length else bad 11) := by
    unfold wrd; rw [if_neg n1, if_neg n2, if_neg n3, if_pos hb]
  cases l with
  | nil => simp at hl
  | cons c r =>
    have hc := h c (by simp)
    unfold nch at hc
    constructor
    · unfold skp
      have e1 : nxn false (c.toNat : Int) = false := by unfold nxn; rw [Bool.false_or, decide_eq_false (p := (c.toNat : Int) = 59) (by omega), Bool.and_false]
      have e2 : blk (c.toNat : Int) = false := by unfold blk; rw [decide_eq_false_iff_not]; omega
      rw [e1, e2]; rfl
    · rw [← hW]
      rw [scn_eq, if_neg (by omega), if_neg (by omega), if_neg (by omega), if_neg (by omega), if_neg (by omega), if_neg (by omega), if_neg (by omega), if_neg (by omega), hw, List.take_length]
theorem nx_nch {l : List UInt8} (hl : 1 ≤ l.length) (h : ∀ c ∈ l, nch c) (hb : FM.okd (FM.body l) = true) (i j : Int) :
    nx l i j = ⟨scn l, i, j, (scn l).len⟩ := by
  have h1 := (scn_nch hl h hb).1
  unfold nx; rw [h1]; simp [mv]
theorem alls_itoa (n : Int) (h0 : -9223372036854775808 ≤ n) (h1 : n ≤ 9223372036854775807) (f : Nat) (hf : 2 ≤ f) :
    alls f (Lib.itoa n) 0 1 1 = if FM.num n then ([⟨9, n, [], 1, 1, (Lib.itoa n).length⟩], (0, 0, 0)) else ([], (11, 1, 1)) := by
  obtain ⟨g, rfl⟩ : ∃ g, f = g + 1 + 1 := ⟨f - 2, by omega⟩
  obtain ⟨k1, k2, k3, k4⟩ := itoa_okd n h0 h1
  have h := itoa_nch n
  generalize Lib.itoa n = l at *
  have hx := nx_nch k2 h k1 1 1
  have hs := (scn_nch k2 h k1).2
  rw [k4] at hs
  unfold FM.bd at hs
  by_cases hn : FM.num n = true
  · rw [if_pos hn, if_pos rfl] at hs
    rw [if_pos hn]
    unfold alls
    rw [hx, hs]
    unfold alls
    simp [tok, tvo, nx, scn, skp]
  · rw [if_neg hn, if_neg (by decide)] at hs
    rw [if_neg hn]
    unfold alls
    rw [hx, hs, if_pos (by decide)]
    rfl
end LM

set_option maxRecDepth 100000 in
set_option maxHeartbeats 4000000 in
theorem lexNumbers_walk (n : Int) (h0 : -9223372036854775808 ≤ n) (h1 : n ≤ 9223372036854775807) (w : World) (hT : ETab w) :
    Calls Tryd.prog 7 #[.int .i64 n] w fun e w' => e = .returned (.bool true) ∧ Below w.heap.size w w' := by
  have hTx := rtext_any n h0 h1
  obtain ⟨-, k2, k3, -⟩ := LM.itoa_okd n h0 h1
  have hsz : (ByteArray.mk (Lib.itoa n).toArray).size = (Lib.itoa n).length := by show (Lib.itoa n).toArray.size = _; rw [List.size_toArray]
  have hN := All_any ⟨(Lib.itoa n).toArray⟩ (by omega)
  rw [hsz, show (ByteArray.mk (Lib.itoa n).toArray).data.toList = Lib.itoa n from rfl, LM.alls_itoa n h0 h1 _ (by omega)] at hN
  have hM := rnum_any n
  generalize ByteArray.mk (Lib.itoa n).toArray = s at *
  generalize (Lib.itoa n).length = m at *
  by_cases hn : FM.num n = true
  · rw [if_pos hn] at hN
    rw [hn] at hM
    simp only at hN
    rw [show aer (0, 0, 0) = .nilIface from rfl] at hN
    have dN := Lib.hid hN
    have dM := Lib.hid hM
    have dT := Lib.hid hTx
    clear hN hM hTx hn hsz k2 k3
    go_enter Tryd.func7, Tryd.ntmps7
    go_wp2_with (first
      | (go_at_call 17; refine (dT.out _).mono ?_; rintro e w1 ⟨rfl, hb1⟩)
      | (go_at_call 13
         refine (dN.out _).mono ?_
         rintro e w2 ⟨v1, rfl, ho1, hb2⟩
         have hb3 : Went w w2 := hb1.trans hb2
         clear hb2)
      | (go_at_call 9
         refine (awake_any _ (hT.on hb3)).mono ?_
         rintro e w3 ⟨rfl, hb4⟩
         have ho2 := own_below ho1 hb4
         have hb5 : Went w w3 := hb3.trans hb4
         obtain ⟨A1, c1, rfl⟩ := OwnT.read ho2
         obtain ⟨g, rfl, -, hg, p0, p1, -⟩ := OwnT.cell ho2 (i := 0) rfl
         have q0 : w3.cell? ⟨g, 0, none⟩ = some (.int .i64 9) := p0
         have q1 : w3.cell? ⟨g, 1, none⟩ = some (.int .i64 n) := p1
         clear p0 p1 ho1 hb4 hb3)
      | (go_at_call 18; refine (dM.out _).mono ?_; rintro e w' ⟨rfl, rfl⟩))
    go_ret
    exact ⟨rfl, hb5⟩
  · rw [if_neg hn] at hN
    rw [show FM.num n = false by simpa using hn] at hM
    simp only at hN
    rw [aer_no (by decide)] at hN
    have dN := Lib.hid hN
    have dM := Lib.hid hM
    have dT := Lib.hid hTx
    have ef := eql_fault 11 1 1
    have dF := Lib.hid (fun w hT => Fault_at 1 1 11 (by omega) (by omega) w hT)
    clear hN hM hTx hn hsz k2 k3
    go_enter Tryd.func7, Tryd.ntmps7
    go_wp2_with (first
      | (go_at_call 17; refine (dT.out _).mono ?_; rintro e w1 ⟨rfl, hb1⟩)
      | (go_at_call 13
         refine (dN.out _).mono ?_
         rintro e w2 ⟨v1, rfl, ho1, hb2⟩
         have hb3 : Went w w2 := hb1.trans hb2
         clear hb2)
      | (go_at_call 9
         refine (awake_any _ (hT.on hb3)).mono ?_
         rintro e w3 ⟨rfl, hb4⟩
         have hb5 : Went w w3 := hb3.trans hb4
         clear hb4 hb3)
      | (go_at_call 18; refine (dM.out _).mono ?_; rintro e w' ⟨rfl, rfl⟩)
      | (go_at_call 12
         refine (dF.out _ (hT.on hb5)).mono ?_
         rintro e w6 ⟨rfl, hb6⟩))
    exact bodyPost_ret (v := .bool true) (by simp [results, Tryd.results7, go_sem]) rfl ⟨rfl, hb5.trans hb6⟩
end Go.Proofs.YtmnadgkneaiccaaDoor
