/- The law LexNext, walked. -/
import Derived.Test.YtmnadgkneaiccaaDoorLexAwake
import Derived.Test.YtmnadgkneaiccaaDoorLexRefH
namespace Go.Proofs.YtmnadgkneaiccaaDoor
open Go.ChangeShapes Go.WideShapes Go.ChangeAt Go.RowKit

namespace LM
theorem scn_e (l : List UInt8) : (scn l).e = 0 ∨ ((scn l).e = 5 ∨ (scn l).e = 6 ∨ (scn l).e = 11 ∨ (scn l).e = 14) := by
  have hw : ∀ w, (wrd w).e = 0 ∨ ((wrd w).e = 5 ∨ (wrd w).e = 6 ∨ (wrd w).e = 11 ∨ (wrd w).e = 14) := fun w => by
    unfold wrd
    (repeat' split) <;> simp [tok, bad]
  have hc : ∀ q, (chr q).e = 0 ∨ ((chr q).e = 5 ∨ (chr q).e = 6 ∨ (chr q).e = 11 ∨ (chr q).e = 14) := fun q => by
    cases q with
    | nil => simp [chr, bad]
    | cons c q => rw [chr_eq]; split <;> simp [tok, bad]
  have hq1 : ∀ (N : Nat) (l t : List UInt8) (n : Nat), l.length ≤ N → (qt l t n).1 = 0 ∨ (qt l t n).1 = 5 ∨ (qt l t n).1 = 6 := by
    intro N
    induction N with
    | zero => intro l t n h; have : l = [] := List.eq_nil_of_length_eq_zero (by omega); subst this; simp [qt]
    | succ N ih =>
      intro l t n h
      cases l with
      | nil => simp [qt]
      | cons c r =>
        have hl : r.length ≤ N := by simpa using h
        rw [qt.eq_def]
        simp only
        split
        · simp
        · split
          · cases r with
            | nil => simp
            | cons d r' =>
              simp only
              cases esc d with
              | none => simp
              | some x => exact ih r' _ _ (by simp at hl; omega)
          · exact ih r _ _ hl
  have hq : ∀ l, (ofq (qt l [] 1)).e = 0 ∨ ((ofq (qt l [] 1)).e = 5 ∨ (ofq (qt l [] 1)).e = 6 ∨ (ofq (qt l [] 1)).e = 11 ∨ (ofq (qt l [] 1)).e = 14) := fun l => by
    have h := hq1 l.length l [] 1 (Nat.le_refl _)
    unfold ofq
    split
    · simp only [bad]; omega
    · split <;> simp [tok, bad]
  have ht : ∀ k n s len, (tok k n s len).e = 0 := fun _ _ _ _ => rfl
  cases l with
  | nil => simp [scn, tok]
  | cons c r =>
    rw [scn_eq]
    split
    · split <;> exact .inl rfl
    · split
      · exact .inl rfl
      · split
        · exact hc _
        · split
          · exact .inl rfl
          · split
            · exact .inl rfl
            · split
              · exact .inl rfl
              · split
                · exact .inl rfl
                · split
                  · exact hq _
                  · exact hw _
end LM

theorem lexNext_long (s : ByteArray) (a line col : Int) (hs : 4096 < s.size) (w : World) (hT : ETab w) :
    Calls Tryd.prog 3 #[.string s, .int .i64 a, .int .i64 line, .int .i64 col] w fun e w' => e = .returned (.bool true) ∧ Went w w' := by
  have h1 : ∀ w1, Went w w1 → ETab w1 := fun w1 h => hT.on h
  go_enter Tryd.func3, Tryd.ntmps3
  go_wp2_with (first
    | (go_at_call 9; (with_reducible refine (awake_any _ hT).mono ?_); rintro e w1 ⟨rfl, hb1⟩)
    | (go_at_call 9; (with_reducible refine (awake_any _ (h1 _ hb1)).mono ?_); rintro e w2 ⟨rfl, hb2⟩))
  go_ret
  exact ⟨rfl, hb1.trans hb2⟩

set_option maxRecDepth 100000 in
set_option maxHeartbeats 4000000 in
/-- the law, by what the two calls and Fault give -/
theorem lexNext_by (s : ByteArray) (a line col : Int) (hs : s.size ≤ 4096) (w : World) (hT : ETab w) (k n : Int) (t : ByteArray) (l c x : Int) (ev : Value) (f0 f1 f2 : Int)
    (hN : ∀ w, Calls Tryd.prog 10 #[.string s, .int .i64 a, .int .i64 line, .int .i64 col] w fun e w' => e = .returned (.tuple #[.agg #[.int .i64 k, .int .i64 n, .string t, .int .i64 l, .int .i64 c, .int .i64 x], ev]) ∧ Went w w')
    (hR : ∀ w, Calls Tryd.prog 11 #[.string s, .int .i64 a, .int .i64 line, .int .i64 col] w fun e w' => e = .returned (.tuple #[.agg #[.int .i64 k, .int .i64 n, .string t, .int .i64 l, .int .i64 c, .int .i64 x], .agg #[.int .i64 f0, .int .i64 f1, .int .i64 f2]]) ∧ Went w w')
    (hF : ∀ w, ETab w → Calls Tryd.prog 12 #[ev] w fun e w' => e = .returned (.agg #[.int .i64 f0, .int .i64 f1, .int .i64 f2]) ∧ Went w w') :
    Calls Tryd.prog 3 #[.string s, .int .i64 a, .int .i64 line, .int .i64 col] w fun e w' => e = .returned (.bool true) ∧ Went w w' := by
  have dN := Lib.hid hN
  have dR := Lib.hid hR
  have dF := Lib.hid hF
  have et1 := eql_token k n t l c x
  have ef1 := eql_fault f0 f1 f2
  clear hN hR hF
  go_enter Tryd.func3, Tryd.ntmps3
  go_wp2_with (first
    | (go_at_call 9; refine (awake_any _ hT).mono ?_; rintro e w1 ⟨rfl, hb1⟩)
    | (go_at_call 10; refine (dN.out _).mono ?_; rintro e w2 ⟨rfl, hb2⟩)
    | (go_at_call 11
       refine (dR.out _).mono ?_
       rintro e w3 ⟨rfl, hb3⟩
       have hL3 := (Lies.made w2 24 #[.int .i64 k, .int .i64 n, .string t, .int .i64 l, .int .i64 c, .int .i64 x]).below hb3 (by simp)
       have hz := hL3.lt
       have p0 : w3.cell? ⟨w2.heap.size, 0, none⟩ = some (.int .i64 k) := hL3.cell 0
       have p1 : w3.cell? ⟨w2.heap.size, 1, none⟩ = some (.int .i64 n) := hL3.cell 1
       have p2 : w3.cell? ⟨w2.heap.size, 2, none⟩ = some (.string t) := hL3.cell 2
       have p3 : w3.cell? ⟨w2.heap.size, 3, none⟩ = some (.int .i64 l) := hL3.cell 3
       have p4 : w3.cell? ⟨w2.heap.size, 4, none⟩ = some (.int .i64 c) := hL3.cell 4
       have p5 : w3.cell? ⟨w2.heap.size, 5, none⟩ = some (.int .i64 x) := hL3.cell 5
       have hb4 : Went w w3 := (hb1.trans hb2).trans (below_new hb3)
       clear hL3 hb3))
  have hb5 : Went w ((w3.alloc (.cells #[.int .i64 k, .int .i64 n, .string t, .int .i64 l, .int .i64 c, .int .i64 x] 24)).alloc (.cells #[.int .i64 f0, .int .i64 f1, .int .i64 f2] 30)) := (Below.alloc hb4 hb4.size _).alloc (by have := hb4.size; simp; omega) _
  go_region_with
    (go_at_call 12
     refine (dF.out _ (hT.on (by first | exact below_drewN hb5 _ | exact hb5))).mono ?_
     rintro e w6 ⟨rfl, hb6⟩
     have hb7 : Went w w6 := Went.trans hb5 (by first | exact below_of_drew hb6 | exact hb6)
     have hF6 := (lies_mk2 w3 (.cells #[.int .i64 k, .int .i64 n, .string t, .int .i64 l, .int .i64 c, .int .i64 x] 24) 30 #[.int .i64 f0, .int .i64 f1, .int .i64 f2]).drew.below hb6 (by simp)
     have z0 : w6.cell? ⟨w3.heap.size + 1, 0, none⟩ = some (.int .i64 f0) := hF6.cell 0
     have z1 : w6.cell? ⟨w3.heap.size + 1, 1, none⟩ = some (.int .i64 f1) := hF6.cell 1
     have z2 : w6.cell? ⟨w3.heap.size + 1, 2, none⟩ = some (.int .i64 f2) := hF6.cell 2
     clear hF6 hb6)
  all_goals
    go_wp2_with fail
    go_ret
    exact ⟨rfl, hb7⟩

theorem lexNext_walk (s : ByteArray) (a line col : Int) (w : World) (hT : ETab w) :
    Calls Tryd.prog 3 #[.string s, .int .i64 a, .int .i64 line, .int .i64 col] w fun e w' => e = .returned (.bool true) ∧ Below w.heap.size w w' := by
  by_cases hs : 4096 < s.size
  · exact lexNext_long s a line col hs w hT
  by_cases hp : noplace s a line col
  · exact lexNext_by s a line col (by omega) w hT 0 0 ⟨#[]⟩ 0 0 0 (.iface 49 (.int .i64 3)) 3 0 0 (Next_no s a line col hp) (rNext_no s a line col hp) (fun w hT => Fault_kind 3 (by omega) (by omega) w hT)
  · unfold noplace at hp
    obtain ⟨b, rfl⟩ : ∃ b : Nat, a = b := ⟨a.toNat, by omega⟩
    have hl : 1 ≤ line ∧ line ≤ 1073741824 := by omega
    have hc : 1 ≤ col ∧ col ≤ 1073741824 := by omega
    have hN := Next_any s (by omega) b (by omega) line col hl hc
    have hR := rNext_any s (by omega) b (by omega) line col hl hc
    have he := LM.scn_e ((s.data.toList.drop b).drop (LM.skp false (s.data.toList.drop b)))
    rw [show LM.scn ((s.data.toList.drop b).drop (LM.skp false (s.data.toList.drop b))) = (LM.nx (s.data.toList.drop b) line col).t from rfl] at he
    generalize LM.nx (s.data.toList.drop b) line col = X at *
    by_cases h0 : X.t.e = 0
    · have e1 : rnv X b = .tuple #[.agg #[.int .i64 X.t.k, .int .i64 X.t.n, .string ⟨X.t.s.toArray⟩, .int .i64 X.line, .int .i64 X.col, .int .i64 (b + X.len : Nat)], .agg #[.int .i64 0, .int .i64 0, .int .i64 0]] := by unfold rnv; rw [if_pos h0]
      rw [nxv_yes h0] at hN
      rw [e1] at hR
      exact lexNext_by s b line col (by omega) w hT _ _ _ _ _ _ _ 0 0 0 hN hR (fun w _ => Fault_nil w)
    · have e1 : rnv X b = .tuple #[.agg #[.int .i64 0, .int .i64 0, .string ⟨#[]⟩, .int .i64 0, .int .i64 0, .int .i64 0], .agg #[.int .i64 X.t.e, .int .i64 X.line, .int .i64 X.col]] := by unfold rnv; rw [if_neg h0]
      rw [nxv_no h0] at hN
      rw [e1] at hR
      exact lexNext_by s b line col (by omega) w hT _ _ _ _ _ _ _ _ _ _ hN hR (fun w hT => Fault_at X.line X.col X.t.e (by omega) (by omega) w hT)
end Go.Proofs.YtmnadgkneaiccaaDoor
