/- What the document's own answer for layer 7 is on a character that has a name, and on any sharp. -/
import Derived.Test.YtmnadgkneaiccaaDoorLexRefE
namespace Go.Proofs.YtmnadgkneaiccaaDoor
open Go.ChangeShapes Go.WideShapes Go.ChangeAt Go.RowKit

def nmV (k : Nat) : Value := .string ⟨(LM.nm k).toArray⟩
def names4 : List Value := [nmV 0, nmV 1, nmV 2, nmV 3]
def codes4 : List Value := [.int .i64 (LM.cd 0), .int .i64 (LM.cd 1), .int .i64 (LM.cd 2), .int .i64 (LM.cd 3)]
theorem names_at {k : Nat} (hk : k < 4) : names4[k]? = some (nmV k) := by
  match k, hk with
  | 0, _ => rfl
  | 1, _ => rfl
  | 2, _ => rfl
  | 3, _ => rfl
theorem codes_at {k : Nat} (hk : k < 4) : codes4[k]? = some (.int .i64 (LM.cd k)) := by
  match k, hk with
  | 0, _ => rfl
  | 1, _ => rfl
  | 2, _ => rfl
  | 3, _ => rfl
theorem nm_len {k : Nat} : (LM.nm k).length ≤ 7 := by
  match k with
  | 0 => decide
  | 1 => decide
  | 2 => decide
  | _ + 3 => show (LM.sp4).length ≤ 7; decide
/-- the name stands there, or not: by what is asked -/
theorem nmAt_of {s : ByteArray} {b N : Nat} {k : Nat} {V : ByteArray} (hV : V.data.toList = LM.nm k) (hN : V.size = N) :
    LM.nmAt k (s.data.toList.drop b) ↔ (b + N ≤ s.size ∧ (s.extract b (b + N)).toList == V.toList) ∧ LM.en (s.data.toList.drop (b + N)) = true := by
  have hl : (LM.nm k).length = N := by rw [← hV, size_len, hN]
  unfold LM.nmAt
  rw [hl, List.drop_drop, ByteArray.toList_eq, ByteArray.toList_eq, extract_seg, show b + N - b = N by omega, hV]
  simp only [beq_iff_eq]
  constructor
  · rintro ⟨h1, h2⟩
    refine ⟨⟨?_, h1⟩, h2⟩
    have := congrArg List.length h1
    rw [List.length_take, List.length_drop, size_len, hl] at this
    by_cases h0 : N = 0
    · have hk := hl
      match k with
      | 0 => rw [h0] at hk; simp [LM.nm, LM.sp1] at hk
      | 1 => rw [h0] at hk; simp [LM.nm, LM.sp2] at hk
      | 2 => rw [h0] at hk; simp [LM.nm, LM.sp3] at hk
      | _ + 3 => rw [h0] at hk; simp [LM.nm, LM.sp4] at hk
    · omega
  · rintro ⟨⟨_, h1⟩, h2⟩
    exact ⟨h1, h2⟩

theorem quiet_lft {P : Program} {f : FuncId} {args : Array Value} {w : World} {n : Nat} {v : Value}
    (h : Calls P f args (w.drewN n) fun e w' => e = .returned v ∧ w.drewN n = w') : Calls P f args (w.drewN n) fun e w'' => e = .returned v ∧ ∃ m, w'' = w.drewN m :=
  h.mono fun _ _ ⟨he, hm⟩ => ⟨he, n, hm.symm⟩
/-- the third, and the fourth, of new blocks -/
theorem lies_made3 (w : World) (o1 o2 : Obj) (t : TypeId) (cs : Array Value) : Lies (((w.alloc o1).alloc o2).alloc (.cells cs t)) (w.heap.size + 1 + 1) t cs.toList := by
  have := lies_made2 (w.alloc o1) o2 t cs
  rwa [show (w.alloc o1).heap.size = w.heap.size + 1 by simp] at this
theorem lies_made4 (w : World) (o1 o2 o3 : Obj) (t : TypeId) (cs : Array Value) : Lies ((((w.alloc o1).alloc o2).alloc o3).alloc (.cells cs t)) (w.heap.size + 1 + 1 + 1) t cs.toList := by
  have := lies_made3 (w.alloc o1) o2 o3 t cs
  rwa [show (w.alloc o1).heap.size = w.heap.size + 1 by simp] at this

set_option maxRecDepth 100000 in
set_option maxHeartbeats 8000000 in
theorem rsharp_names (s : ByteArray) (hs : s.size ≤ 281474976710000) (a : Nat) (line col : Int) (h1 : a + 1 < s.size) (hd : (s[a + 1].toNat : Int) = 92)
    (hone : (s.size ≤ a + 2) ∨ (∃ h2 : a + 2 < s.size, ((s[a + 2].toNat : Int) ≤ 32) ∨ (((32 : Int) < s[a + 2].toNat) ∧ LM.en (s.data.toList.drop (a + 3)) = false))) (w : World) :
    Calls Tryd.prog 23 #[.string s, .int .i64 (a : Nat), t0 line col a] w fun e w' => e = .returned (rv (LM.chr (s.data.toList.drop (a + 2))) line col a) ∧ Went w w' := by
  have hnone : ∀ c r, s.data.toList.drop (a + 2) = c :: r → (32 : Int) < c.toNat → LM.en r = false := by
    intro c r h hc
    rcases hone with h2 | ⟨h2, h3 | ⟨h3, h4⟩⟩
    · rw [drop_end h2] at h; cases h
    · rw [drop_cons h2] at h; injection h with e1 e2; subst e1; omega
    · rw [drop_cons h2] at h; injection h with e1 e2; subst e2; exact h4
  have hno := Lib.hid (fun h => LM.chr_none hnone h)
  have hyes := Lib.hid (fun k (hk : k < 4) h => @LM.chr_nm k hk (s.data.toList.drop (a + 2)) h)
  have hE := rends_any s (a + 3)
  obtain ⟨T, hT⟩ : ∃ T, LM.chr (s.data.toList.drop (a + 2)) = T := ⟨_, rfl⟩
  rw [hT] at hno hyes ⊢
  clear hnone hT
  unfold t0
  go_enter Tryd.func23, Tryd.ntmps23
  go_upto_region 13 with (fail)
  go_cut [80] from 63 to 80 (fun v wx => v = .bool false ∧ Lies wx w.heap.size 24 [.int .i64 11, .int .i64 0, .string ⟨#[]⟩, .int .i64 line, .int .i64 col, .int .i64 ((a : Nat) + 1 : Int)] ∧ Lies wx (w.heap.size + 1) 24 zero6 ∧ Lies wx (w.heap.size + 1 + 1) 30 [.int .i64 0, .int .i64 0, .int .i64 0] ∧ Lies wx (w.heap.size + 1 + 1 + 1) 30 [.int .i64 6, .int .i64 line, .int .i64 col] ∧ Below w.heap.size w wx)
  case first =>
    have q1 := (((Lies.made w 24 #[.int .i64 11, .int .i64 0, .string ⟨#[]⟩, .int .i64 line, .int .i64 col, .int .i64 ((a : Nat) + 1 : Int)]).alloc (.cells #[.int .i64 0, .int .i64 0, .string ⟨#[]⟩, .int .i64 0, .int .i64 0, .int .i64 0] 24)).alloc (.cells #[.int .i64 0, .int .i64 0, .int .i64 0] 30)).alloc (.cells #[.int .i64 6, .int .i64 line, .int .i64 col] 30)
    have q2 := ((lies_made2 w (.cells #[.int .i64 11, .int .i64 0, .string ⟨#[]⟩, .int .i64 line, .int .i64 col, .int .i64 ((a : Nat) + 1 : Int)] 24) 24 #[.int .i64 0, .int .i64 0, .string ⟨#[]⟩, .int .i64 0, .int .i64 0, .int .i64 0]).alloc (.cells #[.int .i64 0, .int .i64 0, .int .i64 0] 30)).alloc (.cells #[.int .i64 6, .int .i64 line, .int .i64 col] 30)
    have q3 := (lies_made3 w (.cells #[.int .i64 11, .int .i64 0, .string ⟨#[]⟩, .int .i64 line, .int .i64 col, .int .i64 ((a : Nat) + 1 : Int)] 24) (.cells #[.int .i64 0, .int .i64 0, .string ⟨#[]⟩, .int .i64 0, .int .i64 0, .int .i64 0] 24) 30 #[.int .i64 0, .int .i64 0, .int .i64 0]).alloc (.cells #[.int .i64 6, .int .i64 line, .int .i64 col] 30)
    have q4 := lies_made4 w (.cells #[.int .i64 11, .int .i64 0, .string ⟨#[]⟩, .int .i64 line, .int .i64 col, .int .i64 ((a : Nat) + 1 : Int)] 24) (.cells #[.int .i64 0, .int .i64 0, .string ⟨#[]⟩, .int .i64 0, .int .i64 0, .int .i64 0] 24) (.cells #[.int .i64 0, .int .i64 0, .int .i64 0] 30) 30 #[.int .i64 6, .int .i64 line, .int .i64 col]
    have q5 := below4 w (.cells #[.int .i64 11, .int .i64 0, .string ⟨#[]⟩, .int .i64 line, .int .i64 col, .int .i64 ((a : Nat) + 1 : Int)] 24) (.cells #[.int .i64 0, .int .i64 0, .string ⟨#[]⟩, .int .i64 0, .int .i64 0, .int .i64 0] 24) (.cells #[.int .i64 0, .int .i64 0, .int .i64 0] 30) (.cells #[.int .i64 6, .int .i64 line, .int .i64 col] 30)
    have Q := Lib.hid (And.intro q1 (And.intro q2 (And.intro q3 (And.intro q4 q5))))
    clear q1 q2 q3 q4 q5
    rcases hone with h2 | ⟨h2, h3 | ⟨h3, h4⟩⟩
    · clear hE
      go_wp2
      go_meet
      case rel => exact ⟨rfl, Q.out⟩
    · clear hE
      go_wp2
      go_meet
      case rel => exact ⟨rfl, Q.out⟩
    · rw [h4] at hE
      have hE' := Lib.hid hE
      clear hE h4
      go_wp2_with (go_at_call 34; refine (hE'.out _).mono ?_; rintro e w' ⟨rfl, rfl⟩)
      go_meet
      case rel => exact ⟨rfl, Q.out⟩
  case rest =>
    obtain ⟨rfl, hL, hM, hF, hG, hb⟩ := hcut
    clear hone hE
    have hz := hG.lt
    have L0 := (hL.alloc (.cells #[.string ⟨#[115, 112, 97, 99, 101]⟩, .string ⟨#[110, 101, 119, 108, 105, 110, 101]⟩, .string ⟨#[116, 97, 98]⟩, .string ⟨#[110, 117, 108]⟩] 9)).alloc (.cells #[.int .i64 32, .int .i64 10, .int .i64 9, .int .i64 0] 3)
    have M0 := (hM.alloc (.cells #[.string ⟨#[115, 112, 97, 99, 101]⟩, .string ⟨#[110, 101, 119, 108, 105, 110, 101]⟩, .string ⟨#[116, 97, 98]⟩, .string ⟨#[110, 117, 108]⟩] 9)).alloc (.cells #[.int .i64 32, .int .i64 10, .int .i64 9, .int .i64 0] 3)
    have F0 := (hF.alloc (.cells #[.string ⟨#[115, 112, 97, 99, 101]⟩, .string ⟨#[110, 101, 119, 108, 105, 110, 101]⟩, .string ⟨#[116, 97, 98]⟩, .string ⟨#[110, 117, 108]⟩] 9)).alloc (.cells #[.int .i64 32, .int .i64 10, .int .i64 9, .int .i64 0] 3)
    have G0 := (hG.alloc (.cells #[.string ⟨#[115, 112, 97, 99, 101]⟩, .string ⟨#[110, 101, 119, 108, 105, 110, 101]⟩, .string ⟨#[116, 97, 98]⟩, .string ⟨#[110, 117, 108]⟩] 9)).alloc (.cells #[.int .i64 32, .int .i64 10, .int .i64 9, .int .i64 0] 3)
    have N0 : Lies _ wc.heap.size 9 names4 := (Lies.made wc 9 #[.string ⟨#[115, 112, 97, 99, 101]⟩, .string ⟨#[110, 101, 119, 108, 105, 110, 101]⟩, .string ⟨#[116, 97, 98]⟩, .string ⟨#[110, 117, 108]⟩]).alloc (.cells #[.int .i64 32, .int .i64 10, .int .i64 9, .int .i64 0] 3)
    have C0 : Lies _ (wc.heap.size + 1) 3 codes4 := lies_made2 wc (.cells #[.string ⟨#[115, 112, 97, 99, 101]⟩, .string ⟨#[110, 101, 119, 108, 105, 110, 101]⟩, .string ⟨#[116, 97, 98]⟩, .string ⟨#[110, 117, 108]⟩] 9) 3 #[.int .i64 32, .int .i64 10, .int .i64 9, .int .i64 0]
    have B0 := (hb.alloc hb.size (.cells #[.string ⟨#[115, 112, 97, 99, 101]⟩, .string ⟨#[110, 101, 119, 108, 105, 110, 101]⟩, .string ⟨#[116, 97, 98]⟩, .string ⟨#[110, 117, 108]⟩] 9)).alloc (by have := hb.size; simp; omega) (.cells #[.int .i64 32, .int .i64 10, .int .i64 9, .int .i64 0] 3)
    have Q := Lib.hid (And.intro L0 (And.intro M0 (And.intro F0 (And.intro G0 (And.intro N0 (And.intro C0 B0))))))
    clear L0 M0 F0 G0 N0 C0 B0 hL hM hF hG hb
    go_wp2
    go_loopw [11] (fun i wr => ∃ k : Nat, k ≤ 4 ∧ i = .int .i64 k ∧ Hid (∀ j, j < k → ¬ LM.nmAt j (s.data.toList.drop (a + 2))) ∧ Hid (Lies wr w.heap.size 24 [.int .i64 11, .int .i64 0, .string ⟨#[]⟩, .int .i64 line, .int .i64 col, .int .i64 ((a : Nat) + 1 : Int)] ∧ Lies wr (w.heap.size + 1) 24 zero6 ∧ Lies wr (w.heap.size + 1 + 1) 30 [.int .i64 0, .int .i64 0, .int .i64 0] ∧ Lies wr (w.heap.size + 1 + 1 + 1) 30 [.int .i64 6, .int .i64 line, .int .i64 col] ∧ Lies wr wc.heap.size 9 names4 ∧ Lies wr (wc.heap.size + 1) 3 codes4 ∧ Below w.heap.size w wr)) (fun i _ => 4 - (intOf i).toNat)
    case atStart => exact ⟨0, by omega, rfl, fun j hj => absurd hj (by omega), Q.out⟩
    case round =>
      obtain ⟨k, hk, rfl, hnot, Q⟩ := hrel
      obtain ⟨hL, hM, hF, hG, hN, hC, hb⟩ := Q.out
      by_cases hk4 : k < 4
      · have cN : wr.cell? ⟨wc.heap.size, k, none⟩ = some (nmV k) := (hN.cell k).trans (names_at hk4)
        have cC : wr.cell? ⟨wc.heap.size + 1, k, none⟩ = some (.int .i64 (LM.cd k)) := (hC.cell k).trans (codes_at hk4)
        unfold nmV at cN
        have hNl := @nm_len k
        obtain ⟨V, hV⟩ : ∃ V : ByteArray, (⟨(LM.nm k).toArray⟩ : ByteArray) = V := ⟨_, rfl⟩
        have hVd : V.data.toList = LM.nm k := by rw [← hV]
        rw [hV] at cN
        obtain ⟨N, hVN⟩ : ∃ N, V.size = N := ⟨_, rfl⟩
        have hN7 : N ≤ 7 := by rw [← hVN, ← size_len, hVd]; exact hNl
        have hNk : (LM.nm k).length = N := by rw [← hVN, ← size_len, hVd]
        have key := @nmAt_of s (a + 2) N k V hVd hVN
        have hE := rends_any s (a + 2 + N)
        rw [show ((a + 2 + N : Nat) : Int) = (a : Int) + 2 + N by omega] at hE
        clear hV hVd hNl
        by_cases hA : a + 2 + N ≤ s.size
        · have hA' : decide ((a : Int) + 2 + N ≤ s.size) = true := by simp only [decide_eq_true_eq]; omega
          obtain ⟨E, hEx⟩ : ∃ E, s.extract (a + 2) (a + 2 + N) = E := ⟨_, rfl⟩
          rw [hEx] at key
          cases hB : (E.toList == V.toList)
          · have hnot' : Hid (∀ j, j < k + 1 → ¬ LM.nmAt j (s.data.toList.drop (a + 2))) := fun j hj => by
              by_cases hjk : j < k
              · exact hnot.out j hjk
              · obtain rfl : j = k := by omega
                intro hx
                have := (key.1 hx).1.2; rw [hB] at this; cases this
            clear key hE hnot hL hM hF hG hN hC hb
            go_wp2
            go_quiet (fail)
            go_wp2
            go_roundw
            case rel => exact ⟨k + 1, by omega, by go_num, hnot', ⟨Q.out.1, Q.out.2.1, Q.out.2.2.1, Q.out.2.2.2.1, Q.out.2.2.2.2.1, Q.out.2.2.2.2.2.1, below_drewN Q.out.2.2.2.2.2.2 _⟩⟩
            case measure => simp [intOf]; omega
          · cases hCe : LM.en (s.data.toList.drop (a + 2 + N))
            · have hnot' : Hid (∀ j, j < k + 1 → ¬ LM.nmAt j (s.data.toList.drop (a + 2))) := fun j hj => by
                by_cases hjk : j < k
                · exact hnot.out j hjk
                · obtain rfl : j = k := by omega
                  intro hx
                  have := (key.1 hx).2; rw [hCe] at this; cases this
              rw [hCe] at hE
              have hE' := Lib.hid hE
              clear key hE hnot hL hM hF hG hN hC hb hCe
              go_wp2
              go_quiet ((go_at_call 34; exact quiet_lft (hE'.out _)))
              go_wp2
              go_roundw
              case rel => exact ⟨k + 1, by omega, by go_num, hnot', ⟨Q.out.1, Q.out.2.1, Q.out.2.2.1, Q.out.2.2.2.1, Q.out.2.2.2.2.1, Q.out.2.2.2.2.2.1, below_drewN Q.out.2.2.2.2.2.2 _⟩⟩
              case measure => simp [intOf]; omega
            · have hT := Lib.hid (hyes.out k hk4 (key.2 ⟨⟨hA, hB⟩, hCe⟩))
              rw [hCe] at hE
              have hE' := Lib.hid hE
              have hp : rv T line col a = .tuple #[.agg #[.int .i64 11, .int .i64 (LM.cd k), .string ⟨#[]⟩, .int .i64 line, .int .i64 col, .int .i64 ((a : Int) + 2 + N)], .agg #[.int .i64 0, .int .i64 0, .int .i64 0]] := by
                rw [hT.out, rv_tok, hNk]
                rw [show ((a + (2 + N) : Nat) : Int) = (a : Int) + 2 + N by omega]
              have hp' := Lib.hid hp
              clear key hE hnot hCe hp hT
              have x0 : wr.cell? ⟨w.heap.size, 0, none⟩ = some (.int .i64 11) := hL.cell 0
              have x1 : wr.cell? ⟨w.heap.size, 1, none⟩ = some (.int .i64 0) := hL.cell 1
              have x2 : wr.cell? ⟨w.heap.size, 2, none⟩ = some (.string ⟨#[]⟩) := hL.cell 2
              have x3 : wr.cell? ⟨w.heap.size, 3, none⟩ = some (.int .i64 line) := hL.cell 3
              have x4 : wr.cell? ⟨w.heap.size, 4, none⟩ = some (.int .i64 col) := hL.cell 4
              have x5 : wr.cell? ⟨w.heap.size, 5, none⟩ = some (.int .i64 ((a : Nat) + 1 : Int)) := hL.cell 5
              have y0 : wr.cell? ⟨w.heap.size + 1, 0, none⟩ = some (.int .i64 0) := hM.cell 0
              have y1 : wr.cell? ⟨w.heap.size + 1, 1, none⟩ = some (.int .i64 0) := hM.cell 1
              have y2 : wr.cell? ⟨w.heap.size + 1, 2, none⟩ = some (.string ⟨#[]⟩) := hM.cell 2
              have y3 : wr.cell? ⟨w.heap.size + 1, 3, none⟩ = some (.int .i64 0) := hM.cell 3
              have y4 : wr.cell? ⟨w.heap.size + 1, 4, none⟩ = some (.int .i64 0) := hM.cell 4
              have y5 : wr.cell? ⟨w.heap.size + 1, 5, none⟩ = some (.int .i64 0) := hM.cell 5
              have z0 : wr.cell? ⟨w.heap.size + 1 + 1, 0, none⟩ = some (.int .i64 0) := hF.cell 0
              have z1 : wr.cell? ⟨w.heap.size + 1 + 1, 1, none⟩ = some (.int .i64 0) := hF.cell 1
              have z2 : wr.cell? ⟨w.heap.size + 1 + 1, 2, none⟩ = some (.int .i64 0) := hF.cell 2
              have g0 := hL.free
              have g1 := hM.free
              have g2 := hF.free
              have hz2 := hG.lt
              have hz3 := hC.lt
              have e1 : ¬ wc.heap.size + 1 = w.heap.size := by omega
              clear hL hM hF hG hN hC Q
              go_wp2
              go_quiet ((go_at_call 34; exact quiet_lft (hE'.out _)))
              go_wp2
              exact bodyPost_ret (v := .tuple #[.agg #[.int .i64 11, .int .i64 (LM.cd k), .string ⟨#[]⟩, .int .i64 line, .int .i64 col, .int .i64 ((a : Int) + 2 + N)], .agg #[.int .i64 0, .int .i64 0, .int .i64 0]]) (by simp [results, Tryd.results23, go_sem, y0, y1, y2, y3, y4, y5, z0, z1, z2]) rfl ⟨by rw [hp'.out], nine_below (((below_drewN hb nq).setCell (Nat.le_refl _) _).setCell (Nat.le_refl _) _) (p := w.heap.size + 1) (q := w.heap.size + 1 + 1) (by omega) (by omega) _ _ _ _ _ _ _ _ _⟩
        · have hnot' : Hid (∀ j, j < k + 1 → ¬ LM.nmAt j (s.data.toList.drop (a + 2))) := fun j hj => by
            by_cases hjk : j < k
            · exact hnot.out j hjk
            · obtain rfl : j = k := by omega
              intro hx
              exact hA ((key.1 hx).1.1)
          have hA' : decide ((a : Int) + 2 + N ≤ s.size) = false := by simp only [decide_eq_false_iff_not]; omega
          clear key hE hnot hL hM hF hG hN hC hb
          go_wp2
          go_quiet (fail)
          go_wp2
          go_roundw
          case rel => exact ⟨k + 1, by omega, by go_num, hnot', ⟨Q.out.1, Q.out.2.1, Q.out.2.2.1, Q.out.2.2.2.1, Q.out.2.2.2.2.1, Q.out.2.2.2.2.2.1, below_drewN Q.out.2.2.2.2.2.2 _⟩⟩
          case measure => simp [intOf]; omega
      · have hT := Lib.hid (hno.out (fun j hj => hnot.out j (by omega)))
        obtain rfl : k = 4 := by omega
        have hp : rv T line col a = .tuple #[.agg #[.int .i64 0, .int .i64 0, .string ⟨#[]⟩, .int .i64 0, .int .i64 0, .int .i64 0], .agg #[.int .i64 6, .int .i64 line, .int .i64 col]] := by rw [hT.out, rv_bad _ _ _ _ (by omega)]
        have hp' := Lib.hid hp
        clear hp hT hno hyes hnot
        have kx : (nine wr (w.heap.size + 1) (w.heap.size + 1 + 1) (.int .i64 0) (.int .i64 0) (.string ⟨#[]⟩) (.int .i64 0) (.int .i64 0) (.int .i64 0) (.int .i64 6) (.int .i64 line) (.int .i64 col)).drew.cell? ⟨w.heap.size + 1 + 1 + 1, 0, none⟩ = some (.int .i64 6) ∧ (nine wr (w.heap.size + 1) (w.heap.size + 1 + 1) (.int .i64 0) (.int .i64 0) (.string ⟨#[]⟩) (.int .i64 0) (.int .i64 0) (.int .i64 0) (.int .i64 6) (.int .i64 line) (.int .i64 col)).drew.cell? ⟨w.heap.size + 1 + 1 + 1, 1, none⟩ = some (.int .i64 line) ∧ (nine wr (w.heap.size + 1) (w.heap.size + 1 + 1) (.int .i64 0) (.int .i64 0) (.string ⟨#[]⟩) (.int .i64 0) (.int .i64 0) (.int .i64 0) (.int .i64 6) (.int .i64 line) (.int .i64 col)).drew.cell? ⟨w.heap.size + 1 + 1 + 1, 2, none⟩ = some (.int .i64 col) :=
          ⟨((nine_far hG (by omega) (by omega) _ _ _ _ _ _ _ _ _).drew).cell 0, ((nine_far hG (by omega) (by omega) _ _ _ _ _ _ _ _ _).drew).cell 1, ((nine_far hG (by omega) (by omega) _ _ _ _ _ _ _ _ _).drew).cell 2⟩
        unfold nine at kx
        go_wp2
        have x0 : wr.cell? ⟨w.heap.size + 1 + 1 + 1, 0, none⟩ = some (.int .i64 6) := hG.cell 0
        have x1 : wr.cell? ⟨w.heap.size + 1 + 1 + 1, 1, none⟩ = some (.int .i64 line) := hG.cell 1
        have x2 : wr.cell? ⟨w.heap.size + 1 + 1 + 1, 2, none⟩ = some (.int .i64 col) := hG.cell 2
        have y0 : wr.cell? ⟨w.heap.size + 1, 0, none⟩ = some (.int .i64 0) := hM.cell 0
        have y1 : wr.cell? ⟨w.heap.size + 1, 1, none⟩ = some (.int .i64 0) := hM.cell 1
        have y2 : wr.cell? ⟨w.heap.size + 1, 2, none⟩ = some (.string ⟨#[]⟩) := hM.cell 2
        have y3 : wr.cell? ⟨w.heap.size + 1, 3, none⟩ = some (.int .i64 0) := hM.cell 3
        have y4 : wr.cell? ⟨w.heap.size + 1, 4, none⟩ = some (.int .i64 0) := hM.cell 4
        have y5 : wr.cell? ⟨w.heap.size + 1, 5, none⟩ = some (.int .i64 0) := hM.cell 5
        have z0 : wr.cell? ⟨w.heap.size + 1 + 1, 0, none⟩ = some (.int .i64 0) := hF.cell 0
        have z1 : wr.cell? ⟨w.heap.size + 1 + 1, 1, none⟩ = some (.int .i64 0) := hF.cell 1
        have z2 : wr.cell? ⟨w.heap.size + 1 + 1, 2, none⟩ = some (.int .i64 0) := hF.cell 2
        have g1 := hM.free
        have g2 := hF.free
        go_region_held3 (fun w' => w'.cell? ⟨w.heap.size + 1 + 1 + 1, 0, none⟩ = some (.int .i64 6) ∧ w'.cell? ⟨w.heap.size + 1 + 1 + 1, 1, none⟩ = some (.int .i64 line) ∧ w'.cell? ⟨w.heap.size + 1 + 1 + 1, 2, none⟩ = some (.int .i64 col)) (first | go_keep | exact kx) (fail)
        have hM5 := (nine_fst hM (q := w.heap.size + 1 + 1) (by omega) (.int .i64 0) (.int .i64 0) (.string ⟨#[]⟩) (.int .i64 0) (.int .i64 0) (.int .i64 0) (.int .i64 6) (.int .i64 line) (.int .i64 col)).drew
        have hF5 := (nine_snd hF (p := w.heap.size + 1) (by omega) (.int .i64 0) (.int .i64 0) (.string ⟨#[]⟩) (.int .i64 0) (.int .i64 0) (.int .i64 0) (.int .i64 6) (.int .i64 line) (.int .i64 col)).drew
        have hb5 := below_drewN (nine_below hb (p := w.heap.size + 1) (q := w.heap.size + 1 + 1) (by omega) (by omega) (.int .i64 0) (.int .i64 0) (.string ⟨#[]⟩) (.int .i64 0) (.int .i64 0) (.int .i64 0) (.int .i64 6) (.int .i64 line) (.int .i64 col)) 1
        unfold nine at hM5 hF5 hb5
        generalize hW5 : World.drew _ = W5
        rw [hW5] at hM5 hF5
        have hb6 : Below w.heap.size w W5 := hW5 ▸ hb5
        clear hW5 hb5 kx x0 x1 x2 y0 y1 y2 y3 y4 y5 z0 z1 z2 g1 g2 hM hF hL hb hG hN hC Q
        have y0 : W5.cell? ⟨w.heap.size + 1, 0, none⟩ = some (.int .i64 0) := hM5.cell 0
        have y1 : W5.cell? ⟨w.heap.size + 1, 1, none⟩ = some (.int .i64 0) := hM5.cell 1
        have y2 : W5.cell? ⟨w.heap.size + 1, 2, none⟩ = some (.string ⟨#[]⟩) := hM5.cell 2
        have y3 : W5.cell? ⟨w.heap.size + 1, 3, none⟩ = some (.int .i64 0) := hM5.cell 3
        have y4 : W5.cell? ⟨w.heap.size + 1, 4, none⟩ = some (.int .i64 0) := hM5.cell 4
        have y5 : W5.cell? ⟨w.heap.size + 1, 5, none⟩ = some (.int .i64 0) := hM5.cell 5
        have z0 : W5.cell? ⟨w.heap.size + 1 + 1, 0, none⟩ = some (.int .i64 6) := hF5.cell 0
        have z1 : W5.cell? ⟨w.heap.size + 1 + 1, 1, none⟩ = some (.int .i64 line) := hF5.cell 1
        have z2 : W5.cell? ⟨w.heap.size + 1 + 1, 2, none⟩ = some (.int .i64 col) := hF5.cell 2
        clear hM5 hF5
        go_wp2_with fail
        exact bodyPost_ret (v := .tuple #[.agg #[.int .i64 0, .int .i64 0, .string ⟨#[]⟩, .int .i64 0, .int .i64 0, .int .i64 0], .agg #[.int .i64 6, .int .i64 line, .int .i64 col]]) (by simp [results, Tryd.results23, go_sem, y0, y1, y2, y3, y4, y5, z0, z1, z2]) rfl ⟨by rw [hp'.out], hb6⟩
end Go.Proofs.YtmnadgkneaiccaaDoor
