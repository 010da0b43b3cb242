/- The law LexBlanks, walked. -/
import Derived.Test.YtfabafolbelhdaaDoorLexAwake
import Derived.Test.YtfabafolbelhdaaDoorLexBlank
import Derived.Test.YtfabafolbelhdaaDoorLaw
import Derived.BigQuiet
import Derived.Deep.QuietTactic
namespace Go.Proofs.YtfabafolbelhdaaDoor
open Go.ChangeShapes Go.WideShapes Go.ChangeAt Go.RowKit

theorem lexBlanks_long (s : ByteArray) (A : Option Addr) (n c : Nat) (hn : n ≤ 9223372036854775807) (hs : 1024 < s.size ∨ n = 0 ∨ 50 < n) (w : World) (hT : ETab w) :
    Calls Tryd.prog 5 #[.string s, .slice A n c] w fun e w' => e = .returned (.bool true) ∧ Went w w' := by
  have h1 : ∀ w1, Went w w1 → ETab w1 := fun w1 h => hT.on h
  by_cases h2 : 1024 < s.size
  · clear hs
    go_enter Tryd.func5, Tryd.ntmps5
    go_wp2_with (first
      | (go_at_call 13; (with_reducible refine (awake_any _ hT).mono ?_); rintro e w1 ⟨rfl, hb1⟩)
      | (go_at_call 13; (with_reducible refine (awake_any _ (h1 _ hb1)).mono ?_); rintro e w2 ⟨rfl, hb2⟩))
    go_ret
    exact ⟨rfl, hb1.trans hb2⟩
  by_cases h3 : n = 0
  · subst h3
    clear hs
    go_enter Tryd.func5, Tryd.ntmps5
    go_wp2_with (first
      | (go_at_call 13; (with_reducible refine (awake_any _ hT).mono ?_); rintro e w1 ⟨rfl, hb1⟩)
      | (go_at_call 13; (with_reducible refine (awake_any _ (h1 _ hb1)).mono ?_); rintro e w2 ⟨rfl, hb2⟩))
    go_ret
    exact ⟨rfl, hb1.trans hb2⟩
  · have h4 : 50 < n := by omega
    clear hs h3
    go_enter Tryd.func5, Tryd.ntmps5
    go_wp2_with (first
      | (go_at_call 13; (with_reducible refine (awake_any _ hT).mono ?_); rintro e w1 ⟨rfl, hb1⟩)
      | (go_at_call 13; (with_reducible refine (awake_any _ (h1 _ hb1)).mono ?_); rintro e w2 ⟨rfl, hb2⟩))
    go_ret
    exact ⟨rfl, hb1.trans hb2⟩
theorem lexBlanks_bad (s : ByteArray) (hs : s.size ≤ 1024) (A : Option Addr) (n c : Nat) (hn1 : 1 ≤ n) (hn2 : n ≤ 50) (w : World) (hT : ETab w) (v : Value)
    (hN : ∀ w, Calls Tryd.prog 14 #[.string s] w fun e w' => ∃ v', e = .returned (.tuple #[v', .iface 58 v]) ∧ OwnT w' w.heap.size v' [] ∧ Went w w') :
    Calls Tryd.prog 5 #[.string s, .slice A n c] w fun e w' => e = .returned (.bool true) ∧ Went w w' := by
  have dN := Lib.hid hN
  have hnil : ∀ (w : World), (binOp .neq 25 (.iface 58 v) .nilIface).run Tryd.prog w = .ok (.bool true) w := fun w => by kernel_rfl
  have hz : ((n : Int) == 0) = false := by simp; omega
  clear hN
  go_enter Tryd.func5, Tryd.ntmps5
  go_wp2_with (first
    | (go_at_call 13; refine (awake_any _ hT).mono ?_; rintro e w1 ⟨rfl, hb1⟩)
    | (go_at_call 14; refine (dN.out _).mono ?_; rintro e w2 ⟨v1, rfl, ho1, hb2⟩; obtain ⟨A1, c1, rfl⟩ := OwnT.read ho1))
  go_ret
  exact ⟨rfl, hb1.trans hb2⟩

theorem alls_zero : ∀ (f : Nat) (l : List UInt8) (a : Nat) (i j : Int), (LM.alls f l a i j).2.1 = 0 → (LM.alls f l a i j).2.2.1 = 0 ∧ (LM.alls f l a i j).2.2.2 = 0
  | 0, _, _, _, _, _ => ⟨rfl, rfl⟩
  | f + 1, l, a, i, j, h => by
    unfold LM.alls at h ⊢
    split at h
    · rename_i he; exact absurd h he
    · rename_i he
      rw [if_neg he]
      split at h
      · rename_i hk; rw [if_pos hk]; exact ⟨rfl, rfl⟩
      · rename_i hk
        rw [if_neg hk]
        simp only at h ⊢
        split at h
        · rename_i hr; exact absurd h hr
        · rename_i hr
          rw [if_neg hr]
          exact alls_zero f _ _ _ _ h
theorem seg_list (s : ByteArray) (a m : Nat) : (s.extract a m).data.toList = (s.data.toList.drop a).take (m - a) := by
  simp [ByteArray.data_extract, Array.toList_extract, List.extract_eq_take_drop]
theorem app_list (a b : ByteArray) : (a ++ b).data.toList = a.data.toList ++ b.data.toList := by simp [ByteArray.data_append]
theorem blanks_step {s : ByteArray} {b : Nat → List UInt8} {toks : List LM.Tv} {k a f : Nat} {i j : Int} {OUT : List UInt8} {O : ByteArray} {t : LM.Tv} (ht : toks[k]? = some t)
    (H1 : LM.alls f (s.data.toList.drop a) a i j = (toks.drop k, (0, 0, 0))) (H2 : O.data.toList ++ LM.bl b k (toks.drop k) (s.data.toList.drop a) a = OUT) (ha : a ≤ s.size) :
    a + 1 ≤ t.next ∧ t.next ≤ s.size ∧ (∃ (g : Nat) (i' j' : Int), LM.alls g (s.data.toList.drop t.next) t.next i' j' = (toks.drop (k + 1), (0, 0, 0))) ∧
      (O ++ (⟨(b k).toArray⟩ ++ s.extract a t.next)).data.toList ++ LM.bl b (k + 1) (toks.drop (k + 1)) (s.data.toList.drop t.next) t.next = OUT := by
  have hk : k < toks.length := (List.getElem?_eq_some_iff.1 ht).1
  have hd : toks.drop k = t :: toks.drop (k + 1) := by
    rw [List.drop_eq_getElem_cons hk]
    rw [List.getElem?_eq_getElem hk] at ht
    rw [Option.some.inj ht]
  rw [hd] at H1 H2
  obtain ⟨g, -, he, hk14, htv, hR⟩ := LM.alls_cons H1
  have hne := LM.nx_end (s.data.toList.drop a) i j he
  rw [List.length_drop, size_len] at hne
  obtain ⟨h1, h2, h3⟩ : 1 ≤ (LM.nx (s.data.toList.drop a) i j).t.len ∧ LM.skp false (s.data.toList.drop a) + 1 ≤ (LM.nx (s.data.toList.drop a) i j).len ∧ (LM.nx (s.data.toList.drop a) i j).len ≤ s.size - a := by
    rcases hne with h | h
    · exact absurd h.1 hk14
    · exact h.2
  have hnext : t.next = a + (LM.nx (s.data.toList.drop a) i j).len := by rw [htv]; rfl
  rw [List.drop_drop, ← hnext] at hR
  refine ⟨by omega, by omega, ⟨g, _, _, hR⟩, ?_⟩
  unfold LM.bl at H2
  rw [List.drop_drop, show a + (t.next - a) = t.next by omega] at H2
  rw [app_list, app_list, seg_list, ← H2]
  simp
theorem blanks_done {s : ByteArray} {b : Nat → List UInt8} {toks : List LM.Tv} {k a : Nat} {OUT : List UInt8} {O : ByteArray} (hk : toks.length ≤ k)
    (H2 : O.data.toList ++ LM.bl b k (toks.drop k) (s.data.toList.drop a) a = OUT) : (O ++ (⟨(b 0).toArray⟩ ++ s.extract a s.size)).data.toList = OUT := by
  rw [List.drop_of_length_le hk] at H2
  unfold LM.bl at H2
  rw [app_list, app_list, seg_list, ← H2, List.take_of_length_le (by rw [List.length_drop, size_len]; omega)]
theorem list_le {O : ByteArray} {r OUT : List UInt8} (h : O.data.toList ++ r = OUT) : O.size ≤ OUT.length := by
  have := congrArg List.length h
  rw [List.length_append, size_len] at this
  omega
def arr4 : List Value := [.string ⟨#[32]⟩, .string ⟨#[10]⟩, .string ⟨#[9, 32, 13]⟩, .string ⟨#[59, 32, 97, 32, 114, 101, 109, 97, 114, 107, 32, 40, 10]⟩]
theorem arr_cell {w : World} {g : Nat} {t : TypeId} (h : Lies w g t arr4) (j : Nat) (hj : j < 4) : w.cell? ⟨g, j, none⟩ = some (.string ⟨(LM.bks (j : Int)).toArray⟩) := by
  rw [h.cell j]
  match j, hj with
  | 0, _ => rfl
  | 1, _ => rfl
  | 2, _ => rfl
  | 3, _ => rfl

set_option maxRecDepth 100000 in
set_option maxHeartbeats 16000000 in
theorem lexBlanks_ok (s : ByteArray) (hs : s.size ≤ 1024) (gp off n c : Nat) (hn1 : 1 ≤ n) (hn2 : n ≤ 50) (w : World) (hT : ETab w) (zs : List Int) (hgp : gp < w.heap.size) (hzs : ∀ i, i < n → w.cell? ⟨gp, off + i, none⟩ = some (.int .u8 (zs.getD i 0))) (hby : ∀ i, 0 ≤ zs.getD i 0 ∧ zs.getD i 0 < 256)
    (toks us : List LM.Tv) (OUT : List UInt8) (hOUT : LM.bl (fun i => LM.bks (zs.getD (i % n) 0 % 4)) 0 toks s.data.toList 0 = OUT) (hlen : OUT.length ≤ 16000) (ht : toks.length ≤ 1024) (f0 : Nat) (hal : LM.alls f0 s.data.toList 0 1 1 = (toks, (0, 0, 0)))
    (hN : ∀ w, Calls Tryd.prog 14 #[.string s] w fun e w' => ∃ v', e = .returned (.tuple #[v', .nilIface]) ∧ OwnT w' w.heap.size v' toks ∧ Went w w')
    (hM : ∀ w (O : ByteArray), O.data.toList = OUT → Calls Tryd.prog 14 #[.string O] w fun e w' => ∃ v', e = .returned (.tuple #[v', .nilIface]) ∧ OwnT w' w.heap.size v' us ∧ Went w w')
    (hul : us.length = toks.length) (hus : ∀ (m : Nat) (t u : LM.Tv), toks[m]? = some t → us[m]? = some u → t.k = u.k ∧ t.n = u.n ∧ t.s = u.s) :
    Calls Tryd.prog 5 #[.string s, .slice (some ⟨gp, off, none⟩) n c] w fun e w' => e = .returned (.bool true) ∧ Went w w' := by
  have dN := Lib.hid hN
  have dM := Lib.hid hM
  have dU := Lib.hid hus
  have dZ := Lib.hid hzs
  have dB := Lib.hid hby
  have hz : ((n : Int) == 0) = false := by simp; omega
  obtain ⟨b, hbdef⟩ : ∃ b : Nat → List UInt8, (fun i => LM.bks (zs.getD (i % n) 0 % 4)) = b := ⟨_, rfl⟩
  have hbv : ∀ i, b i = LM.bks (zs.getD (i % n) 0 % 4) := fun i => by rw [← hbdef]
  rw [hbdef] at hOUT
  have hbv' := Lib.hid hbv
  obtain ⟨N, hNN⟩ : ∃ N, toks.length = N := ⟨_, rfl⟩
  rw [hNN] at hul ht
  have hN' := Lib.hid hNN
  have hU' := Lib.hid hul
  have h0 : Hid (([] : List UInt8) ++ LM.bl b 0 (toks.drop 0) (s.data.toList.drop 0) 0 = OUT) := by show _ = _; rw [List.nil_append, List.drop_zero, List.drop_zero]; exact hOUT
  have h1 : Hid (LM.alls f0 (s.data.toList.drop 0) 0 1 1 = (toks.drop 0, (0, 0, 0))) := by show _ = _; rw [List.drop_zero, List.drop_zero]; exact hal
  clear hN hM hus hzs hby hbdef hbv hNN hul hOUT hal
  go_enter Tryd.func5, Tryd.ntmps5
  go_wp2_with (first
    | (go_at_call 13; refine (awake_any _ hT).mono ?_; rintro e w1 ⟨rfl, hb1⟩)
    | (go_at_call 14
       refine (dN.out _).mono ?_
       rintro e w2 ⟨v1, rfl, ho1, hb2⟩
       obtain ⟨A1, c1, rfl⟩ := OwnT.read ho1
       rw [hN'.out] at ho1 ⊢
       have hb3 : Went w w2 := hb1.trans hb2))
  have hArr := Lies.made w2 42 arr4.toArray
  have hbA : Went w (w2.alloc (.cells arr4.toArray 42)) := Below.alloc hb3 hb3.size _
  have hzA : (w2.alloc (.cells arr4.toArray 42)).heap.size = w2.heap.size + 1 := by simp
  have hoA := own_below ho1 ((Below.refl _ w2).alloc (Nat.le_refl _) (.cells arr4.toArray 42))
  have hw2 := hb3.size
  unfold arr4 at hbA hzA hoA
  rw [show arr4.toArray = #[.string ⟨#[32]⟩, .string ⟨#[10]⟩, .string ⟨#[9, 32, 13]⟩, .string ⟨#[59, 32, 97, 32, 114, 101, 109, 97, 114, 107, 32, 40, 10]⟩] from rfl] at hArr
  generalize hWA : w2.alloc (.cells #[.string ⟨#[32]⟩, .string ⟨#[10]⟩, .string ⟨#[9, 32, 13]⟩, .string ⟨#[59, 32, 97, 32, 114, 101, 109, 97, 114, 107, 32, 40, 10]⟩] 42) = WA at *
  clear hWA ho1 hb2 hb3
  go_loopw [8, 9, 45] (fun v8 v9 i wr => ∃ (k a f : Nat) (li co : Int) (O : ByteArray), k ≤ N ∧ a ≤ s.size ∧ i = .int .i64 k ∧ v9 = .int .i64 a ∧ v8 = .string O ∧ Below WA.heap.size WA wr ∧ Hid (LM.alls f (s.data.toList.drop a) a li co = (toks.drop k, (0, 0, 0))) ∧ Hid (O.data.toList ++ LM.bl b k (toks.drop k) (s.data.toList.drop a) a = OUT)) (fun _ _ i _ => N - (intOf i).toNat)
  case atStart => exact ⟨0, 0, f0, 1, 1, ⟨#[]⟩, by omega, by omega, rfl, rfl, rfl, Below.refl _ _, h1, h0⟩
  case round =>
    obtain ⟨k, a, f, li, co, O, hk, ha, rfl, rfl, rfl, hb, H1, H2⟩ := hrel
    have hOs := list_le H2.out
    have hOs' : O.size ≤ 16000 := by omega
    have hArr' : Lies wr w2.heap.size 42 arr4 := Lies.below hArr hb (by omega)
    have hwr := hb.size
    have hoR := own_below hoA hb
    have hwA := hbA.size
    have hpk : ∀ q, q < n → wr.cell? ⟨gp, off + q, none⟩ = some (.int .u8 (zs.getD q 0)) := fun q hq => ((Went.trans hbA hb).cell (p := ⟨gp, off + q, none⟩) hgp).trans (dZ.out q hq)
    have hpk' := Lib.hid hpk
    clear hOs h0 h1 hpk
    by_cases hlt : k < N
    · obtain ⟨t, htk⟩ : ∃ t, toks[k]? = some t := ⟨toks[k]'(by rw [hN'.out]; exact hlt), List.getElem?_eq_getElem _⟩
      obtain ⟨s1, s2, ⟨g', i', j', s3⟩, s4⟩ := blanks_step htk H1.out H2.out ha
      have H3 := Lib.hid s3
      have H4 := Lib.hid s4
      obtain ⟨gt, rfl, -, hgt, p0, p1, p2, p3, p4, p5⟩ := OwnT.cell hoR htk
      obtain ⟨q, hq⟩ : ∃ q, k % n = q := ⟨_, rfl⟩
      have hqn : q < n := by rw [← hq]; exact Nat.mod_lt _ (by omega)
      have pc := hpk'.out q hqn
      have hx := dB.out q
      have hbk : b k = LM.bks (zs.getD q 0 % 4) := by rw [hbv'.out, hq]
      generalize zs.getD q 0 = x at *
      obtain ⟨hx0, hx1⟩ := hx
      obtain ⟨jj, hjj⟩ : ∃ jj : Nat, x % 4 = (jj : Int) := ⟨(x % 4).toNat, by omega⟩
      have hj4 : jj < 4 := by omega
      have ac := arr_cell hArr' jj hj4
      rw [hjj] at hbk
      rw [← hbk] at ac
      have hbl : (ByteArray.mk (b k).toArray).size ≤ 13 := by
        have := (LM.bks_len (jj : Int)).2
        rw [← hbk] at this
        show (b k).toArray.size ≤ 13
        simpa using this
      have e1 : Int.tmod (k : Int) (n : Int) = (q : Int) := by rw [Int.tmod_eq_emod_of_nonneg (by omega), ← hq]; simp
      have e2 : Int.tmod x 4 = (jj : Int) := by rw [Int.tmod_eq_emod_of_nonneg (by omega), hjj]
      have H5 : Hid ((O ++ (⟨(b k).toArray⟩ ++ s.extract a t.next)).data.toList ++ LM.bl b (k + 1) (toks.drop (k + 1)) (s.data.toList.drop t.next) t.next = OUT) := H4
      generalize ByteArray.mk (b k).toArray = BK at *
      have hb10 := hb.alloc hb.size (.cells #[.int .i64 t.k, .int .i64 t.n, .string ⟨t.s.toArray⟩, .int .i64 t.line, .int .i64 t.col, .int .i64 (t.next : Nat)] 44)
      have hne1 : ((n : Int) == 0) = false := hz
      have hgp' : gp < wr.heap.size := by omega
      have hga' : w2.heap.size < wr.heap.size := hArr'.lt
      have hne2 : ¬ (n : Int) = 0 := by omega
      clear hq hjj hbk s3 s4 htk
      go_wp2_with fail
      go_quiet (fail)
      go_wp2_with fail
      go_roundw
      case rel => exact ⟨k + 1, t.next, g', i', j', O ++ (BK ++ s.extract a t.next), by omega, s2, by go_num, rfl, rfl, below_drewN hb10 _, H3, H5⟩
      case measure => simp [intOf]; omega
    · obtain rfl : k = N := by omega
      have hdone := blanks_done (by rw [hN'.out]; omega) H2.out
      have pc := hpk'.out 0 (by omega)
      have hx := dB.out 0
      have hbk : b 0 = LM.bks (zs.getD 0 0 % 4) := by rw [hbv'.out, Nat.zero_mod]
      generalize zs.getD 0 0 = x at *
      obtain ⟨hx0, hx1⟩ := hx
      obtain ⟨jj, hjj⟩ : ∃ jj : Nat, x % 4 = (jj : Int) := ⟨(x % 4).toNat, by omega⟩
      have hj4 : jj < 4 := by omega
      have ac := arr_cell hArr' jj hj4
      rw [hjj] at hbk
      rw [← hbk] at ac
      have hbl : (ByteArray.mk (b 0).toArray).size ≤ 13 := by
        have := (LM.bks_len (jj : Int)).2
        rw [← hbk] at this
        show (b 0).toArray.size ≤ 13
        simpa using this
      have e2 : Int.tmod x 4 = (jj : Int) := by rw [Int.tmod_eq_emod_of_nonneg (by omega), hjj]
      have pc' : wr.cell? ⟨gp, off, none⟩ = some (.int .u8 x) := pc
      have hgp' : gp < wr.heap.size := by omega
      have hga' : w2.heap.size < wr.heap.size := hArr'.lt
      have hdone' := Lib.hid hdone
      have hbr : Went w wr := Went.trans hbA hb
      clear hjj hbk H1 H2 hpk' pc hdone
      generalize ByteArray.mk (b 0).toArray = BK at *
      go_wp2_with fail
      go_quiet (fail)
      go_wp2_with (
        go_at_call 14
        refine (dM.out _ _ hdone'.out).mono ?_
        rintro e w5 ⟨v5, rfl, ho5, hb5⟩
        obtain ⟨A5, c5, rfl⟩ := OwnT.read ho5
        rw [hU'.out] at ho5 ⊢
        have hb5' : Below wr.heap.size wr w5 := below_of_drewN hb5
        have hoR5 := own_below hoR hb5'
        have hb6 : Went w w5 := Went.trans hbr hb5'
        clear hb5)
      clear pc' ac hArr'
      go_loopw [99] (fun i wx => ∃ m : Nat, m ≤ k ∧ i = .int .i64 m ∧ Below w5.heap.size w5 wx) (fun i _ => k - (intOf i).toNat)
      case atStart => exact ⟨0, by omega, rfl, Below.refl _ _⟩
      case round =>
        obtain ⟨m, hm, rfl, hbx⟩ := hrel
        have ho1x := own_below hoR5 hbx
        have ho2x := own_below ho5 hbx
        by_cases hlt2 : m < k
        · obtain ⟨t, htk⟩ : ∃ t, toks[m]? = some t := ⟨toks[m]'(by rw [hN'.out]; exact hlt2), List.getElem?_eq_getElem _⟩
          obtain ⟨u, huk⟩ : ∃ u, us[m]? = some u := ⟨us[m]'(by rw [hU'.out]; exact hlt2), List.getElem?_eq_getElem _⟩
          obtain ⟨ek, en, es⟩ := dU.out m t u htk huk
          obtain ⟨gt, rfl, -, hgt, p0, p1, p2, p3, p4, p5⟩ := OwnT.cell ho1x htk
          obtain ⟨gu, rfl, -, hgu, q0, q1, q2, q3, q4, q5⟩ := OwnT.cell ho2x huk
          rw [← ek] at q0
          rw [← en] at q1
          rw [← es] at q2
          clear ek en es htk huk hlt
          go_wp2_with fail
          go_region_held3 (fun w' => w'.cell? ⟨gt, m * 6, none⟩ = some (.int .i64 t.k) ∧ w'.cell? ⟨gt, m * 6 + 1, none⟩ = some (.int .i64 t.n) ∧ w'.cell? ⟨gt, m * 6 + 2, none⟩ = some (.string ⟨t.s.toArray⟩) ∧ w'.cell? ⟨gt, m * 6 + 3, none⟩ = some (.int .i64 t.line) ∧ w'.cell? ⟨gt, m * 6 + 4, none⟩ = some (.int .i64 t.col) ∧ w'.cell? ⟨gt, m * 6 + 5, none⟩ = some (.int .i64 (t.next : Nat))
              ∧ w'.cell? ⟨gu, m * 6, none⟩ = some (.int .i64 t.k) ∧ w'.cell? ⟨gu, m * 6 + 1, none⟩ = some (.int .i64 t.n) ∧ w'.cell? ⟨gu, m * 6 + 2, none⟩ = some (.string ⟨t.s.toArray⟩) ∧ w'.cell? ⟨gu, m * 6 + 3, none⟩ = some (.int .i64 u.line) ∧ w'.cell? ⟨gu, m * 6 + 4, none⟩ = some (.int .i64 u.col) ∧ w'.cell? ⟨gu, m * 6 + 5, none⟩ = some (.int .i64 (u.next : Nat))) (first | go_keep | ((repeat' apply And.intro) <;> go_keep)) (fail)
          all_goals
            go_wp2_with fail
            go_roundw
            case rel => exact ⟨m + 1, by omega, by go_num, below_drewN ((hbx.alloc hbx.size _).alloc (by have := hbx.size; simp; omega) _) 1⟩
            case measure => simp [intOf]; omega
        · obtain rfl : m = k := by omega
          go_wp2_with fail
          go_ret
          exact ⟨rfl, Went.trans hb6 hbx⟩

theorem lexBlanks_walk (s : ByteArray) (A : Option Addr) (n c : Nat) (hn : n ≤ maxLen) (zs : List Int) (w : World) (hz : Came w .u8 A n zs) (hby : ∀ i, 0 ≤ zs.getD i 0 ∧ zs.getD i 0 < 256) (hT : ETab w) :
    Calls Tryd.prog 5 #[.string s, .slice A n c] w fun e w' => e = .returned (.bool true) ∧ Below w.heap.size w w' := by
  unfold maxLen at hn
  by_cases hs : 1024 < s.size ∨ n = 0 ∨ 50 < n
  · exact lexBlanks_long s A n c (by omega) hs w hT
  have hs' : s.size ≤ 1024 := by omega
  have hN := All_any s (by omega)
  have hno := LM.alls_none (s.size + 1) s.data.toList 0 1 1
  obtain ⟨R, hR⟩ : ∃ R, LM.alls (s.size + 1) s.data.toList 0 1 1 = R := ⟨_, rfl⟩
  rw [hR] at hN hno
  obtain ⟨toks, e, i, j⟩ := R
  by_cases he : e = 0
  · subst he
    have hij := alls_zero (s.size + 1) s.data.toList 0 1 1
    rw [hR] at hij
    obtain ⟨rfl, rfl⟩ := hij rfl
    simp only at hN
    rw [show aer (0, 0, 0) = .nilIface from rfl] at hN
    obtain ⟨gp, off, rfl, hgp, hzs⟩ := hz.2 (by omega)
    have hw : ∀ i, LM.whole ((fun i => LM.bks (zs.getD (i % n) 0 % 4)) i) := fun i => LM.bks_whole _
    have hbr : ∀ i z, LM.brk ((fun i => LM.bks (zs.getD (i % n) 0 % 4)) i ++ z) := fun i z => LM.bks_brk _ z
    have hfew := LM.alls_few toks _ _ _ _ _ hR
    have hbl := LM.bl_len (b := fun i => LM.bks (zs.getD (i % n) 0 % 4)) (fun i => (LM.bks_len _).2) toks 0 s.data.toList 0
    rw [size_len] at hfew hbl
    obtain ⟨OUT, hO⟩ : ∃ OUT, LM.bl (fun i => LM.bks (zs.getD (i % n) 0 % 4)) 0 toks s.data.toList 0 = OUT := ⟨_, rfl⟩
    obtain ⟨us, h1, h2, h3⟩ := LM.bl_ok hw hbr toks (s.size + 1) s.data.toList 0 1 1 (by rw [size_len]; omega) hR 0 (OUT.length + 1) 0 1 1 (by rw [hO]; omega)
    rw [hO] at h1 hbl
    refine lexBlanks_ok s hs' gp off n c (by omega) (by omega) w hT zs hgp hzs hby toks us OUT hO (by omega) (by omega) _ hR hN ?_ h2 h3
    intro w' O hOl
    have hsz : O.size = OUT.length := by rw [← hOl, size_len]
    have h := All_any O (by omega) w'
    rw [hOl, hsz, h1] at h
    simp only at h
    rwa [show aer (0, 0, 0) = .nilIface from rfl] at h
  · have hl : toks = [] := hno he
    subst hl
    simp only at hN
    rw [aer_no he] at hN
    exact lexBlanks_bad s hs' A n c (by omega) (by omega) w hT _ hN
end Go.Proofs.YtfabafolbelhdaaDoor
