/- What package lex gives of places, and the next token with its place. -/
import Derived.Test.YtbomodendobnkaaGreatQ24
import Derived.Test.YtbomodendobnkaaGreatQ2
import Derived.Deep.RegionHeld3
import Derived.Deep.RegionWith
import Derived.Deep.CutRange
namespace Go.Proofs.YtbomodendobnkaaGreat
open Go.ChangeShapes Go.WideShapes Go.ChangeAt Go.RowKit

/-- the bytes from a place on, so many -/
def seg (s : ByteArray) (a n : Nat) : List UInt8 := (s.data.toList.drop a).take n
theorem seg_cons {s : ByteArray} {a n j : Nat} (h : j < n) (hk : a + n ≤ s.size) : (seg s a n).drop j = (s[a + j]'(by omega)) :: (seg s a n).drop (j + 1) := by
  have hl : j < (seg s a n).length := by unfold seg; rw [List.length_take, List.length_drop, size_len]; omega
  rw [List.drop_eq_getElem_cons hl]
  congr 1
  have e : (seg s a n)[j]? = some (s[a + j]'(by omega)) := by
    unfold seg
    rw [List.getElem?_take, if_pos h, List.getElem?_drop, List.getElem?_eq_getElem (by rw [size_len]; omega)]; rfl
  rw [List.getElem?_eq_getElem hl] at e
  exact Option.some.inj e
theorem seg_len {s : ByteArray} {a n : Nat} (hk : a + n ≤ s.size) : (seg s a n).length = n := by unfold seg; rw [List.length_take, List.length_drop, size_len]; omega
theorem mv_nl {s : ByteArray} {a n m : Nat} {l c : Int} {R : Int × Int} (h0 : a ≤ m) (h : m < a + n) (hm : m < s.size) (hk : a + n ≤ s.size) (H : LM.mv ((seg s a n).drop (m - a)) l c = R) (hx : (s[m].toNat : Int) = 10) : LM.mv ((seg s a n).drop (m + 1 - a)) (l + 1) 1 = R := by
  obtain ⟨j, rfl⟩ : ∃ j, m = a + j := ⟨m - a, by omega⟩
  rw [show a + j - a = j by omega, seg_cons (by omega) hk, LM.mv, if_pos hx] at H
  rw [show a + j + 1 - a = j + 1 by omega]; exact H
theorem mv_pl {s : ByteArray} {a n m : Nat} {l c : Int} {R : Int × Int} (h0 : a ≤ m) (h : m < a + n) (hm : m < s.size) (hk : a + n ≤ s.size) (H : LM.mv ((seg s a n).drop (m - a)) l c = R) (hx : ¬ (s[m].toNat : Int) = 10) : LM.mv ((seg s a n).drop (m + 1 - a)) l (c + 1) = R := by
  obtain ⟨j, rfl⟩ : ∃ j, m = a + j := ⟨m - a, by omega⟩
  rw [show a + j - a = j by omega, seg_cons (by omega) hk, LM.mv, if_neg hx] at H
  rw [show a + j + 1 - a = j + 1 by omega]; exact H
theorem mv_stop {s : ByteArray} {a n m : Nat} {l c : Int} {R : Int × Int} (h : a + n ≤ m) (hk : a + n ≤ s.size) (H : LM.mv ((seg s a n).drop (m - a)) l c = R) : R = (l, c) := by
  rw [List.drop_of_length_le (by rw [seg_len hk]; omega), LM.mv] at H; exact H.symm

set_option maxHeartbeats 1000000 in
theorem moved_any (s : ByteArray) (a n : Nat) (hk : a + n ≤ s.size) (hs : s.size ≤ 281474976710656) (line col : Int) (l0 : 0 ≤ line) (l1 : line ≤ 281474976710656) (c0 : 0 ≤ col) (c1 : col ≤ 281474976710656) (w : World) :
    Calls Tryz.prog 86 #[.agg #[.int .i64 (a : Nat), .int .i64 line, .int .i64 col], .string s, .int .i64 (a + n : Nat)] w fun e w' => e = .returned (.agg #[.int .i64 (a + n : Nat), .int .i64 (LM.mv (seg s a n) line col).1, .int .i64 (LM.mv (seg s a n) line col).2]) ∧ Went w w' := by
  obtain ⟨R, hR⟩ : ∃ R, LM.mv (seg s a n) line col = R := ⟨_, rfl⟩
  rw [hR]
  have h0 : Hid (LM.mv ((seg s a n).drop (a - a)) line col = R) := by show _ = _; rw [Nat.sub_self]; exact hR
  clear hR
  obtain ⟨R1, R2⟩ := R
  obtain ⟨e, he⟩ : ∃ e, a + n = e := ⟨_, rfl⟩
  have hgo1 := Lib.hid (fun m l c h0 h hm => @mv_nl s a n m l c (R1, R2) h0 h hm hk)
  have hgo2 := Lib.hid (fun m l c h0 h hm => @mv_pl s a n m l c (R1, R2) h0 h hm hk)
  have hgo3 := Lib.hid (fun m l c h => @mv_stop s a n m l c (R1, R2) h hk)
  rw [he] at hk hgo1 hgo2 hgo3 ⊢
  have hae : a ≤ e := by omega
  clear he
  go_enter Tryz.func86, Tryz.ntmps86
  go_wp2
  go_loopw [] (fun wr => ∃ (m : Nat) (l c : Int), a ≤ m ∧ m ≤ e ∧ 0 ≤ l ∧ l ≤ line + m ∧ 0 ≤ c ∧ c ≤ col + m + 1 ∧ Lies wr w.heap.size 155 [.int .i64 (m : Nat), .int .i64 l, .int .i64 c] ∧ Lies wr (w.heap.size + 1) 155 [.int .i64 0, .int .i64 0, .int .i64 0] ∧ Below w.heap.size w wr ∧ Hid (LM.mv ((seg s a n).drop (m - a)) l c = (R1, R2))) (fun wr => match wr.cell? ⟨w.heap.size, 0, none⟩ with | some (.int .i64 k) => e - k.toNat | _ => 0)
  case atStart =>
    refine ⟨a, line, col, by omega, by omega, by omega, by omega, by omega, by omega, ?_, ?_, ?_, h0⟩
    · exact (Lies.made w 155 #[.int .i64 (a : Nat), .int .i64 line, .int .i64 col]).alloc _
    · have := Lies.made (w.alloc (.cells #[.int .i64 (a : Nat), .int .i64 line, .int .i64 col] 155)) 155 #[.int .i64 0, .int .i64 0, .int .i64 0]
      rw [show (w.alloc (.cells #[.int .i64 (a : Nat), .int .i64 line, .int .i64 col] 155)).heap.size = w.heap.size + 1 by simp] at this
      exact this
    · exact ((Below.refl _ _).alloc (Nat.le_refl _) _).alloc (by simp) _
  case round =>
    obtain ⟨m, l, c, hm0, hm1, hl0, hl1, hc0, hc1, hL, hM, hb, H⟩ := hrel
    have k0 : wr.cell? ⟨w.heap.size, 0, none⟩ = some (.int .i64 (m : Nat)) := hL.cell 0
    have k1 : wr.cell? ⟨w.heap.size, 1, none⟩ = some (.int .i64 l) := hL.cell 1
    have k2 : wr.cell? ⟨w.heap.size, 2, none⟩ = some (.int .i64 c) := hL.cell 2
    have f0 := hL.free
    have m0 : wr.cell? ⟨w.heap.size + 1, 0, none⟩ = some (.int .i64 0) := hM.cell 0
    have m1 : wr.cell? ⟨w.heap.size + 1, 1, none⟩ = some (.int .i64 0) := hM.cell 1
    have m2 : wr.cell? ⟨w.heap.size + 1, 2, none⟩ = some (.int .i64 0) := hM.cell 2
    have f1 := hM.free
    by_cases hlt : m < e
    · have hms : m < s.size := by omega
      by_cases hx : (s[m].toNat : Int) = 10
      · have hn := Lib.hid (hgo1.out m l c hm0 hlt hms H.out hx)
        have e10 : ((s[m].toNat : Int) == 10) = true := by simp [hx]
        clear hx
        go_wp2
        go_roundw
        case rel =>
          refine ⟨m + 1, l + 1, 1, by omega, by omega, by omega, by omega, by omega, by omega, ?_, ?_, ?_, hn⟩
          · exact (((hL.stored 2 (.int .i64 (c + 1))).stored 1 (.int .i64 (l + 1))).stored 2 (.int .i64 1)).stored 0 (.int .i64 ((m : Int) + 1))
          · exact (((hM.far (p := ⟨w.heap.size, 2, none⟩) (by simp) _).far (p := ⟨w.heap.size, 1, none⟩) (by simp) _).far (p := ⟨w.heap.size, 2, none⟩) (by simp) _).far (p := ⟨w.heap.size, 0, none⟩) (by simp) _
          · exact (((hb.setCell (Nat.le_refl _) _).setCell (Nat.le_refl _) _).setCell (Nat.le_refl _) _).setCell (Nat.le_refl _) _
        case measure =>
          have q := ((((hL.stored 2 (.int .i64 (c + 1))).stored 1 (.int .i64 (l + 1))).stored 2 (.int .i64 1)).stored 0 (.int .i64 ((m : Int) + 1))).cell 0
          rw [q, k0]
          simp; omega
      · have hn := Lib.hid (hgo2.out m l c hm0 hlt hms H.out hx)
        have e10 : ((s[m].toNat : Int) == 10) = false := by simp [hx]
        clear hx
        go_wp2
        go_roundw
        case rel =>
          refine ⟨m + 1, l, c + 1, by omega, by omega, by omega, by omega, by omega, by omega, ?_, ?_, ?_, hn⟩
          · exact (hL.stored 2 (.int .i64 (c + 1))).stored 0 (.int .i64 ((m : Int) + 1))
          · exact (hM.far (p := ⟨w.heap.size, 2, none⟩) (by simp) _).far (p := ⟨w.heap.size, 0, none⟩) (by simp) _
          · exact (hb.setCell (Nat.le_refl _) _).setCell (Nat.le_refl _) _
        case measure =>
          have q := ((hL.stored 2 (.int .i64 (c + 1))).stored 0 (.int .i64 ((m : Int) + 1))).cell 0
          rw [q, k0]
          simp; omega
    · have hn := hgo3.out m l c (by omega) H.out
      obtain rfl : m = e := by omega
      cases hn
      go_wp2
      exact bodyPost_ret (v := .agg #[.int .i64 (m : Nat), .int .i64 R1, .int .i64 R2]) (by simp [results, Tryz.results86, go_sem, m0, m1, m2]) rfl ⟨rfl, ((hb.setCell (by simp) _).setCell (by simp) _).setCell (by simp) _⟩

def zero6 : List Value := [.int .i64 0, .int .i64 0, .string ⟨#[]⟩, .int .i64 0, .int .i64 0, .int .i64 0]
/-- the second of two new blocks -/
theorem lies_made2 (w : World) (o : Obj) (t : TypeId) (cs : Array Value) : Lies ((w.alloc o).alloc (.cells cs t)) (w.heap.size + 1) t cs.toList := by
  have := Lies.made (w.alloc o) t cs
  rwa [show (w.alloc o).heap.size = w.heap.size + 1 by simp] at this
theorem below_new2 {w w1 : World} {o o' : Obj} (h : Below ((w.alloc o).alloc o').drew.heap.size ((w.alloc o).alloc o').drew w1) : Below w.heap.size w w1 :=
  (((Below.refl _ w).alloc (Nat.le_refl _) o).alloc (by simp) o').trans (below_of_drew (h.mono (by simp; omega)))
/-- a token with its place, or an error with its own -/
def nxv (X : LM.Nx) (a : Nat) : Value := if X.t.e = 0 then .tuple #[.agg #[.int .i64 X.t.k, .int .i64 X.t.n, .string ⟨X.t.s.toArray⟩, .int .i64 X.line, .int .i64 X.col, .int .i64 (a + X.len : Nat)], .nilIface]
  else .tuple #[.agg #[.int .i64 0, .int .i64 0, .string ⟨#[]⟩, .int .i64 0, .int .i64 0, .int .i64 0], .iface 157 (.agg #[.int .i64 X.line, .int .i64 X.col, .iface 47 (.int .i64 X.t.e)])]

set_option maxRecDepth 100000 in
set_option maxHeartbeats 8000000 in
theorem next_any (s : ByteArray) (hs : s.size ≤ 281474976710000) (a : Nat) (ha : a ≤ s.size) (line col : Int) (l0 : 1 ≤ line) (l1 : line ≤ 1099511627776) (c0 : 1 ≤ col) (c1 : col ≤ 1099511627776) (w : World) :
    Calls Tryz.prog 75 #[.string s, .agg #[.int .i64 (a : Nat), .int .i64 line, .int .i64 col]] w fun e w' => e = .returned (nxv (LM.nx (s.data.toList.drop a) line col) a) ∧ Went w w' := by
  have hbl := blanksEnd_any s (by omega) a
  have hk := LM.skp_le false (s.data.toList.drop a)
  rw [List.length_drop, size_len] at hk
  obtain ⟨k, hkk⟩ : ∃ k, LM.skp false (s.data.toList.drop a) = k := ⟨_, rfl⟩
  have hmv := moved_any s a k (by omega) (by omega) line col (by omega) (by omega) (by omega) (by omega)
  have hsc := scan_any (s.extract (a + k) s.size) (by simp; omega)
  have hbd := LM.mv_bd (seg s a k) line col c0
  rw [seg_len (by omega)] at hbd
  rw [extract_drop] at hsc
  have hX : LM.nx (s.data.toList.drop a) line col = ⟨LM.scn (s.data.toList.drop (a + k)), (LM.mv (seg s a k) line col).1, (LM.mv (seg s a k) line col).2, k + (LM.scn (s.data.toList.drop (a + k))).len⟩ := by
    unfold LM.nx seg; rw [hkk, List.drop_drop]
  rw [hX]
  rw [hkk] at hbl hk
  have hTl := LM.scn_len (s.data.toList.drop (a + k))
  rw [List.length_drop, size_len] at hTl
  generalize LM.scn (s.data.toList.drop (a + k)) = T at *
  obtain ⟨l', hl'⟩ : ∃ l', (LM.mv (seg s a k) line col).1 = l' := ⟨_, rfl⟩
  obtain ⟨c', hc'⟩ : ∃ c', (LM.mv (seg s a k) line col).2 = c' := ⟨_, rfl⟩
  rw [hl', hc'] at hmv hbd ⊢
  clear hl' hc' hX hkk
  obtain ⟨m, hm⟩ : ∃ m, a + k = m := ⟨_, rfl⟩
  have hnx : nxv ⟨T, l', c', k + T.len⟩ a = if T.e = 0 then .tuple #[.agg #[.int .i64 T.k, .int .i64 T.n, .string ⟨T.s.toArray⟩, .int .i64 l', .int .i64 c', .int .i64 ((T.len : Int) + (m : Nat))], .nilIface]
      else .tuple #[.agg #[.int .i64 0, .int .i64 0, .string ⟨#[]⟩, .int .i64 0, .int .i64 0, .int .i64 0], .iface 157 (.agg #[.int .i64 l', .int .i64 c', .iface 47 (.int .i64 T.e)])] := by
    unfold nxv
    simp only
    rw [show ((a + (k + T.len) : Nat) : Int) = (T.len : Int) + (m : Nat) by omega]
  rw [hnx]
  rw [hm] at hbl hmv hsc
  have hms : m ≤ s.size := by omega
  clear hnx hm
  have hbl' := Lib.hid hbl
  have hmv' := Lib.hid hmv
  have hsc' := Lib.hid hsc
  clear hbl hmv hsc
  go_enter Tryz.func75, Tryz.ntmps75
  go_upto_region 1 with (fail)
  go_cut [] from 8 to 14 (fun wc => Lies wc w.heap.size 155 [.int .i64 (m : Nat), .int .i64 l', .int .i64 c'] ∧ Lies wc (w.heap.size + 1) 103 zero6 ∧ Below w.heap.size w wc)
  case first =>
    go_region_with
      (first
        | (go_at_call 87; refine (hbl'.out _).mono ?_; rintro e w' ⟨rfl, rfl⟩)
        | (go_at_call 86; refine (hmv'.out _).mono ?_; rintro e w1 ⟨rfl, hb1⟩
           have hL1 : Lies w1 w.heap.size 155 [.int .i64 (a : Nat), .int .i64 line, .int .i64 col] := (((Lies.made w 155 #[.int .i64 (a : Nat), .int .i64 line, .int .i64 col]).alloc _).drew).below hb1 (by simp; omega)
           have hM1 : Lies w1 (w.heap.size + 1) 103 zero6 := ((lies_made2 w _ 103 _).drew).below hb1 (by simp)
           have hb2 : Below w.heap.size w w1 := below_new2 hb1
           clear hb1
           have q0 := hL1.cell 0
           have q1 := hL1.cell 1
           have q2 := hL1.cell 2
           have f0 := hL1.free))
    all_goals
      go_wp2_with fail
      go_meet
      case rel => exact ⟨((hL1.stored 0 (.int .i64 (m : Nat))).stored 1 (.int .i64 l')).stored 2 (.int .i64 c'), ((hM1.far (p := ⟨w.heap.size, 0, none⟩) (by simp) _).far (p := ⟨w.heap.size, 1, none⟩) (by simp) _).far (p := ⟨w.heap.size, 2, none⟩) (by simp) _, ((hb2.setCell (Nat.le_refl _) _).setCell (Nat.le_refl _) _).setCell (Nat.le_refl _) _⟩
  case rest =>
    obtain ⟨hL, hM, hb⟩ := hcut
    have k0 : wc.cell? ⟨w.heap.size, 0, none⟩ = some (.int .i64 (m : Nat)) := hL.cell 0
    have k1 : wc.cell? ⟨w.heap.size, 1, none⟩ = some (.int .i64 l') := hL.cell 1
    have k2 : wc.cell? ⟨w.heap.size, 2, none⟩ = some (.int .i64 c') := hL.cell 2
    have f0 := hL.free
    by_cases he : T.e = 0
    · have her : er T.e = .nilIface := by unfold er; rw [if_pos he]
      have her' := Lib.hid her
      have he' := Lib.hid he
      clear her he
      go_upto_region 5 with (
        go_at_call 88
        refine (hsc'.out _).mono ?_
        rintro e w2 ⟨rfl, hb2⟩
        unfold tka
        rw [her'.out]
        have hL2 := hL.below hb2 hL.lt
        have hM2 := hM.below hb2 hM.lt
        have hb3 := hb.trans (hb2.mono hb.size)
        have z2 := hM2.lt
        have z3 := hL2.lt
        have j0 : w2.cell? ⟨w.heap.size, 0, none⟩ = some (.int .i64 (m : Nat)) := hL2.cell 0
        have j1 : w2.cell? ⟨w.heap.size, 1, none⟩ = some (.int .i64 l') := hL2.cell 1
        have j2 : w2.cell? ⟨w.heap.size, 2, none⟩ = some (.int .i64 c') := hL2.cell 2
        have g0 := hL2.free
        clear k0 k1 k2 f0)
      go_cut [] from 33 to 38 (fun wx => Lies wx w2.heap.size 103 [.int .i64 T.k, .int .i64 T.n, .string ⟨T.s.toArray⟩, .int .i64 l', .int .i64 c', .int .i64 (T.len : Nat)] ∧ Lies wx w.heap.size 155 [.int .i64 (m : Nat), .int .i64 l', .int .i64 c'] ∧ Lies wx (w.heap.size + 1) 103 zero6 ∧ Below w.heap.size w wx)
      case first =>
        go_region_held3 (fun w' => w'.cell? ⟨w.heap.size, 1, none⟩ = some (.int .i64 l') ∧ w'.cell? ⟨w.heap.size, 2, none⟩ = some (.int .i64 c')) (go_keep) (fail)
        have hT5 := (Lies.made w2 103 #[.int .i64 T.k, .int .i64 T.n, .string ⟨T.s.toArray⟩, .int .i64 l', .int .i64 c', .int .i64 (T.len : Nat)]).drew
        have hL5 := (hL2.alloc (.cells #[.int .i64 T.k, .int .i64 T.n, .string ⟨T.s.toArray⟩, .int .i64 l', .int .i64 c', .int .i64 (T.len : Nat)] 103)).drew
        have hM5 := (hM2.alloc (.cells #[.int .i64 T.k, .int .i64 T.n, .string ⟨T.s.toArray⟩, .int .i64 l', .int .i64 c', .int .i64 (T.len : Nat)] 103)).drew
        have hb5 : Below w.heap.size w (w2.alloc (.cells #[.int .i64 T.k, .int .i64 T.n, .string ⟨T.s.toArray⟩, .int .i64 l', .int .i64 c', .int .i64 (T.len : Nat)] 103)).drew := below_drewN (hb3.alloc (by omega) _) 1
        generalize (w2.alloc (.cells #[.int .i64 T.k, .int .i64 T.n, .string ⟨T.s.toArray⟩, .int .i64 l', .int .i64 c', .int .i64 (T.len : Nat)] 103)).drew = W5 at hT5 hL5 hM5 hb5 ⊢
        clear hL2 hM2 hb3 z2 z3 hb2 hL hM hb j0 j1 j2 g0
        go_wp2_with fail
        go_meet
        case rel => exact ⟨hT5, hL5, hM5, hb5⟩
      case rest =>
        obtain ⟨hT4, hL4, hM4, hb4⟩ := hcut
        have y0 : wc.cell? ⟨w2.heap.size, 0, none⟩ = some (.int .i64 T.k) := hT4.cell 0
        have y1 : wc.cell? ⟨w2.heap.size, 1, none⟩ = some (.int .i64 T.n) := hT4.cell 1
        have y2 : wc.cell? ⟨w2.heap.size, 2, none⟩ = some (.string ⟨T.s.toArray⟩) := hT4.cell 2
        have y3 : wc.cell? ⟨w2.heap.size, 3, none⟩ = some (.int .i64 l') := hT4.cell 3
        have y4 : wc.cell? ⟨w2.heap.size, 4, none⟩ = some (.int .i64 c') := hT4.cell 4
        have y5 : wc.cell? ⟨w2.heap.size, 5, none⟩ = some (.int .i64 (T.len : Nat)) := hT4.cell 5
        have x0 : wc.cell? ⟨w.heap.size, 0, none⟩ = some (.int .i64 (m : Nat)) := hL4.cell 0
        have p0 : wc.cell? ⟨w.heap.size + 1, 0, none⟩ = some (.int .i64 0) := hM4.cell 0
        have p1 : wc.cell? ⟨w.heap.size + 1, 1, none⟩ = some (.int .i64 0) := hM4.cell 1
        have p2 : wc.cell? ⟨w.heap.size + 1, 2, none⟩ = some (.string ⟨#[]⟩) := hM4.cell 2
        have p3 : wc.cell? ⟨w.heap.size + 1, 3, none⟩ = some (.int .i64 0) := hM4.cell 3
        have p4 : wc.cell? ⟨w.heap.size + 1, 4, none⟩ = some (.int .i64 0) := hM4.cell 4
        have p5 : wc.cell? ⟨w.heap.size + 1, 5, none⟩ = some (.int .i64 0) := hM4.cell 5
        have g4 := hT4.free
        have g5 := hM4.free
        have e1 : ¬ w2.heap.size = w.heap.size + 1 := by omega
        have e2 : ¬ w.heap.size + 1 = w2.heap.size := by omega
        have e3 : ¬ w2.heap.size = w.heap.size := by omega
        clear hL2 hM2 hb3 z2 hb2 hL hM hb j0 j1 j2 g0 hT4 hL4 hM4
        go_wp2_with fail
        exact bodyPost_ret (v := .tuple #[.agg #[.int .i64 T.k, .int .i64 T.n, .string ⟨T.s.toArray⟩, .int .i64 l', .int .i64 c', .int .i64 ((T.len : Int) + (m : Nat))], .nilIface]) (by simp [results, Tryz.results75, go_sem, p0, p1, p2, p3, p4, p5]) rfl ⟨rfl, below_six (hb4.setCell (by simp; omega) _) (by omega) _ _ _ _ _ _⟩
    have her : er T.e = .iface 47 (.int .i64 T.e) := by unfold er; rw [if_neg he]
    have her' := Lib.hid her
    have he' := Lib.hid he
    clear her he
    go_upto_region 4 with (
      go_at_call 88
      refine (hsc'.out _).mono ?_
      rintro e w2 ⟨rfl, hb2⟩
      unfold tka
      rw [her'.out]
      have hL2 := hL.below hb2 hL.lt
      have hM2 := hM.below hb2 hM.lt
      have hb3 := hb.trans (hb2.mono hb.size)
      have z2 := hM2.lt
      have z3 := hL2.lt
      have j0 : w2.cell? ⟨w.heap.size, 0, none⟩ = some (.int .i64 (m : Nat)) := hL2.cell 0
      have j1 : w2.cell? ⟨w.heap.size, 1, none⟩ = some (.int .i64 l') := hL2.cell 1
      have j2 : w2.cell? ⟨w.heap.size, 2, none⟩ = some (.int .i64 c') := hL2.cell 2
      have g0 := hL2.free
      have n0 : w2.cell? ⟨w.heap.size + 1, 0, none⟩ = some (.int .i64 0) := hM2.cell 0
      have n1 : w2.cell? ⟨w.heap.size + 1, 1, none⟩ = some (.int .i64 0) := hM2.cell 1
      have n2 : w2.cell? ⟨w.heap.size + 1, 2, none⟩ = some (.string ⟨#[]⟩) := hM2.cell 2
      have n3 : w2.cell? ⟨w.heap.size + 1, 3, none⟩ = some (.int .i64 0) := hM2.cell 3
      have n4 : w2.cell? ⟨w.heap.size + 1, 4, none⟩ = some (.int .i64 0) := hM2.cell 4
      have n5 : w2.cell? ⟨w.heap.size + 1, 5, none⟩ = some (.int .i64 0) := hM2.cell 5
      have g1 := hM2.free
      clear k0 k1 k2 f0)
    go_cut [5] from 25 to 32 (fun ev wx => ev = .iface 157 (.agg #[.int .i64 l', .int .i64 c', .iface 47 (.int .i64 T.e)]) ∧ Lies wx (w.heap.size + 1) 103 zero6 ∧ Below w.heap.size w wx)
    case first =>
      go_region_held3 (fun w' => w'.cell? ⟨w.heap.size, 1, none⟩ = some (.int .i64 l') ∧ w'.cell? ⟨w.heap.size, 2, none⟩ = some (.int .i64 c')) (go_keep) (fail)
      clear n0 n1 n2 n3 n4 n5 j0 j1 j2 g0 g1
      have hM5 := ((((((((hM2.stored 0 (.int .i64 0)).stored 1 (.int .i64 0)).stored 2 (.string ⟨#[]⟩)).stored 3 (.int .i64 0)).stored 4 (.int .i64 0)).stored 5 (.int .i64 0)).alloc (.cells #[.int .i64 T.k, .int .i64 T.n, .string ⟨T.s.toArray⟩, .int .i64 0, .int .i64 0, .int .i64 (T.len : Nat)] 103)).drew)
      have hb5 : Below w.heap.size w (((((((w2.setCell ⟨w.heap.size + 1, 0, none⟩ (.int .i64 0)).setCell ⟨w.heap.size + 1, 1, none⟩ (.int .i64 0)).setCell ⟨w.heap.size + 1, 2, none⟩ (.string ⟨#[]⟩)).setCell ⟨w.heap.size + 1, 3, none⟩ (.int .i64 0)).setCell ⟨w.heap.size + 1, 4, none⟩ (.int .i64 0)).setCell ⟨w.heap.size + 1, 5, none⟩ (.int .i64 0)).alloc (.cells #[.int .i64 T.k, .int .i64 T.n, .string ⟨T.s.toArray⟩, .int .i64 0, .int .i64 0, .int .i64 (T.len : Nat)] 103)).drew :=
        below_drewN ((below_six hb3 (g := w.heap.size + 1) (by omega) _ _ _ _ _ _).alloc (by simp; omega) _) 1
      generalize (((((((w2.setCell ⟨w.heap.size + 1, 0, none⟩ (.int .i64 0)).setCell ⟨w.heap.size + 1, 1, none⟩ (.int .i64 0)).setCell ⟨w.heap.size + 1, 2, none⟩ (.string ⟨#[]⟩)).setCell ⟨w.heap.size + 1, 3, none⟩ (.int .i64 0)).setCell ⟨w.heap.size + 1, 4, none⟩ (.int .i64 0)).setCell ⟨w.heap.size + 1, 5, none⟩ (.int .i64 0)).alloc (.cells #[.int .i64 T.k, .int .i64 T.n, .string ⟨T.s.toArray⟩, .int .i64 0, .int .i64 0, .int .i64 (T.len : Nat)] 103)).drew = W5 at hM5 hb5 ⊢
      clear hL2 hM2 hb3 z2 z3 hb2 hL hM hb
      go_wp2_with fail
      go_meet
      case rel => exact ⟨rfl, hM5, hb5⟩
    case rest =>
      obtain ⟨rfl, hM4, hb4⟩ := hcut
      have p0 : wc.cell? ⟨w.heap.size + 1, 0, none⟩ = some (.int .i64 0) := hM4.cell 0
      have p1 : wc.cell? ⟨w.heap.size + 1, 1, none⟩ = some (.int .i64 0) := hM4.cell 1
      have p2 : wc.cell? ⟨w.heap.size + 1, 2, none⟩ = some (.string ⟨#[]⟩) := hM4.cell 2
      have p3 : wc.cell? ⟨w.heap.size + 1, 3, none⟩ = some (.int .i64 0) := hM4.cell 3
      have p4 : wc.cell? ⟨w.heap.size + 1, 4, none⟩ = some (.int .i64 0) := hM4.cell 4
      have p5 : wc.cell? ⟨w.heap.size + 1, 5, none⟩ = some (.int .i64 0) := hM4.cell 5
      go_wp2_with fail
      exact bodyPost_ret (v := .tuple #[.agg #[.int .i64 0, .int .i64 0, .string ⟨#[]⟩, .int .i64 0, .int .i64 0, .int .i64 0], .iface 157 (.agg #[.int .i64 l', .int .i64 c', .iface 47 (.int .i64 T.e)])]) (by simp [results, Tryz.results75, go_sem, p0, p1, p2, p3, p4, p5]) rfl ⟨rfl, hb4⟩
end Go.Proofs.YtbomodendobnkaaGreat
