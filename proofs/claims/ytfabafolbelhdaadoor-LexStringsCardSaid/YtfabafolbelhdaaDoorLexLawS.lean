/- The law LexStrings, walked. -/
import Derived.Test.YtfabafolbelhdaaDoorLexAwake
import Derived.Lib.ConvBytes
namespace Go.Proofs.YtfabafolbelhdaaDoor
open Go.ChangeShapes Go.WideShapes Go.ChangeAt Go.RowKit

namespace LM
def quo : List UInt8 → List UInt8
  | [] => []
  | c :: r => if c = 34 ∨ c = 92 then 92 :: c :: quo r else c :: quo r
theorem quo_len : ∀ l : List UInt8, (quo l).length ≤ 2 * l.length
  | [] => by simp [quo]
  | c :: r => by have := quo_len r; unfold quo; split <;> simp <;> omega
theorem quo_snoc : ∀ (l : List UInt8) (c : UInt8), quo (l ++ [c]) = quo l ++ (if c = 34 ∨ c = 92 then [92, c] else [c])
  | [], c => by show (if c = 34 ∨ c = 92 then 92 :: c :: quo [] else c :: quo []) = _; rfl
  | d :: r, c => by
    rw [List.cons_append]
    conv => lhs; unfold quo
    conv => rhs; unfold quo
    rw [quo_snoc r c]
    by_cases h : d = 34 ∨ d = 92
    · rw [if_pos h, if_pos h]; rfl
    · rw [if_neg h, if_neg h]; rfl
theorem qt_quo : ∀ (l t : List UInt8) (n : Nat), qt (quo l ++ [34]) t n = (0, t ++ l, n + (quo l).length + 1)
  | [], t, n => by unfold quo; rw [List.nil_append, qt.eq_def]; simp
  | c :: r, t, n => by
    unfold quo
    by_cases h : c = 34 ∨ c = 92
    · rw [if_pos h, List.cons_append, List.cons_append, qt.eq_def]
      simp only
      rw [if_neg (by decide)]
      have he : esc c = some c := by
        rcases h with h | h <;> subst h <;> decide
      simp only [↓reduceIte, he]
      rw [qt_quo r]
      simp only [List.append_assoc, List.singleton_append, List.length_cons, Prod.mk.injEq, true_and]
      omega
    · rw [if_neg h, List.cons_append, qt.eq_def]
      simp only
      rw [if_neg (fun hh => h (.inl hh)), if_neg (fun hh => h (.inr hh)), qt_quo r]
      simp only [List.append_assoc, List.singleton_append, List.length_cons, Prod.mk.injEq, true_and]
      omega
theorem nx_quo (l : List UInt8) (i j : Int) : nx (34 :: (quo l ++ [34])) i j = if 500 < l.length then ⟨bad 14, i, j, 0⟩ else ⟨tok 12 0 l ((quo l).length + 2), i, j, (quo l).length + 2⟩ := by
  have hs : skp false (34 :: (quo l ++ [34])) = 0 := rfl
  have hc : scn (34 :: (quo l ++ [34])) = ofq (0, l, (quo l).length + 2) := by
    rw [scn_eq, if_neg (by decide), if_neg (fun h => absurd h.1 (by decide)), if_neg (fun h => absurd h.1 (by decide)), if_neg (by decide), if_neg (by decide), if_neg (by decide), if_neg (by decide), if_pos (by decide), qt_quo]
    rw [List.nil_append, show 1 + (quo l).length + 1 = (quo l).length + 2 by omega]
  unfold nx
  rw [hs, List.drop_zero, hc]
  unfold ofq
  rw [if_neg (c := (0 : Int) ≠ 0) (by simp)]
  by_cases h : 500 < l.length
  · rw [if_pos h, if_pos h]; simp [bad, mv]
  · rw [if_neg h, if_neg h]; simp [tok, mv]
theorem alls_quo (l : List UInt8) (f : Nat) (hf : 2 ≤ f) :
    alls f (34 :: (quo l ++ [34])) 0 1 1 = if 500 < l.length then ([], (14, 1, 1)) else ([⟨12, 0, l, 1, 1, (quo l).length + 2⟩], (0, 0, 0)) := by
  obtain ⟨g, rfl⟩ : ∃ g, f = g + 1 + 1 := ⟨f - 2, by omega⟩
  by_cases h : 500 < l.length
  · unfold alls
    rw [nx_quo, if_pos h, if_pos (by decide), if_pos h]; rfl
  · unfold alls
    rw [nx_quo, if_neg h, if_neg (c := (tok 12 0 l ((quo l).length + 2)).e ≠ 0) (by simp [tok]), if_neg (by simp [tok])]
    simp only
    rw [List.drop_of_length_le (by simp)]
    rw [if_neg h]
    unfold alls
    simp [tok, tvo, nx, scn, skp]
end LM

theorem lexStrings_long (s : ByteArray) (hs : 600 < s.size) (w : World) (hT : ETab w) :
    Calls Tryd.prog 6 #[.string s] w fun e w' => e = .returned (.bool true) ∧ Went w w' := by
  have h1 : ∀ w1, Went w w1 → ETab w1 := fun w1 h => hT.on h
  go_enter Tryd.func6, Tryd.ntmps6
  go_wp2_with (first
    | (go_at_call 13; (with_reducible refine (awake_any _ hT).mono ?_); rintro e w1 ⟨rfl, hb1⟩)
    | (go_at_call 13; (with_reducible refine (awake_any _ (h1 _ hb1)).mono ?_); rintro e w2 ⟨rfl, hb2⟩))
  go_ret
  exact ⟨rfl, hb1.trans hb2⟩

theorem field_kind7 (a b c : Int) (w : World) : (Instr.field 35 (.agg #[.int .i64 a, .int .i64 b, .int .i64 c]) 0).run Tryd.prog w = .ok (.int .i64 a) w := by kernel_rfl
/-- a block is as it was -/
def Bk (w : World) (b : Nat) (o : Option Obj) : Prop := w.heap[b]? = o
theorem Bk.turns {w w' : World} {b : Nat} {o : Option Obj} {X : Nat → Prop} (h : Bk w b o) (hb : b < w.heap.size) (k : Turns X w w') (hx : ¬ X b) : Bk w' b o := (k.block b hb hx).trans h
theorem Bk.byte {w w2 : World} {e : TypeId} {s : ByteArray} (h : Bk w w2.heap.size (Lib.bytesWorld w2 e s).heap[w2.heap.size]?) {k : Nat} (hk : k < s.size) : w.cell? ⟨w2.heap.size, k, none⟩ = some (.int .u8 (s[k].toNat : Int)) := by
  have h1 := Lib.bytesWorld_cell w2 e s k hk
  unfold Bk at h
  have e1 : s.data.toList.getD k 0 = s[k] := by
    have hk' : k < s.data.toList.length := by rw [size_len]; exact hk
    rw [List.getD_eq_getElem?_getD, List.getElem?_eq_getElem hk']; rfl
  rw [e1] at h1
  rw [← h1]
  simp only [World.cell?, h]
theorem quo_take (s : ByteArray) (k : Nat) (hk : k < s.size) : LM.quo (s.data.toList.take (k + 1)) = LM.quo (s.data.toList.take k) ++ (if s[k] = 34 ∨ s[k] = 92 then [92, s[k]] else [s[k]]) := by
  have hk' : k < s.data.toList.length := by rw [size_len]; exact hk
  rw [List.take_succ_eq_append_getElem hk', LM.quo_snoc]; rfl
/-- behind one byte put on -/
theorem OwnB.pushed {w' : World} {B : Nat} {v' : Value} {l : List UInt8} {c : UInt8} (h : w'.ownsRow B 5 1 v' (l.length + 1) (Lib.byteCells l ++ [Value.int .u8 (c.toNat : Int)])) : OwnB w' B v' (l ++ [c]) := by
  unfold OwnB
  rw [List.length_append, ← byte_push]; exact h
/-- the world behind []byte(s) -/
theorem str_back (s : ByteArray) : (some (.string ⟨s.data.toList.toArray⟩) : Option Value) = some (.string s) := by cases s; simp
theorem bytes_turns (w : World) (e : TypeId) (s : ByteArray) : Turns (fun _ => False) w (Lib.bytesWorld w e s) :=
  ⟨rfl, rfl, rfl, by rw [Lib.bytesWorld_size]; omega, fun k hk _ => Lib.bytesWorld_at_old w e s k hk⟩
theorem start_own {B : Nat} (w1 : World) (s : ByteArray) (hB : B ≤ w1.heap.size) : OwnB (Lib.bytesWorld (w1.alloc (.cells #[.int .u8 34] 5)) 5 s) B (.slice (some ⟨w1.heap.size, 0, none⟩) 1 1) (34 :: LM.quo (s.data.toList.take 0)) :=
  own_turns (own_one (e := 5) (sz := 1) w1 #[.int .u8 34] rfl hB) (bytes_turns _ _ _) (fun _ _ h => h)
theorem byte_at (w1 : World) (s : ByteArray) : ∀ (wr : World) (k : Nat) (hk : k < s.size), Bk wr (w1.heap.size + 1) (Lib.bytesWorld (w1.alloc (.cells #[.int .u8 34] 5)) 5 s).heap[w1.heap.size + 1]? → wr.cell? ⟨w1.heap.size + 1, k, none⟩ = some (.int .u8 (s[k].toNat : Int)) := by
  intro wr k hk h
  have e : (w1.alloc (.cells #[.int .u8 34] 5)).heap.size = w1.heap.size + 1 := by simp
  have h2 := @Bk.byte wr (w1.alloc (.cells #[.int .u8 34] 5)) 5 s
  rw [e] at h2
  exact h2 h hk
theorem pushed {w' : World} {B : Nat} {v' : Value} {l : List UInt8} {n : Nat} {c : UInt8} (hn : l.length = n) (h : w'.ownsRow B 5 1 v' (n + 1) (Lib.byteCells l ++ [Value.int .u8 (c.toNat : Int)])) : OwnB w' B v' (l ++ [c]) := by
  subst hn
  exact OwnB.pushed h

set_option maxRecDepth 100000 in
set_option maxHeartbeats 8000000 in
theorem lexStrings_longer (s : ByteArray) (hs : s.size ≤ 600) (w : World) (hT : ETab w) (h5 : 500 < s.size) (hN : ∀ w, Calls Tryd.prog 14 #[.string ⟨(34 :: (LM.quo s.data.toList ++ [34])).toArray⟩] w fun e w' => ∃ v', e = .returned (.tuple #[v', atv 1 1 14]) ∧ OwnT w' w.heap.size v' [] ∧ Went w w') :
    Calls Tryd.prog 6 #[.string s] w fun e w' => e = .returned (.bool true) ∧ Went w w' := by
  have dN := Lib.hid hN
  have dF := Lib.hid (fun w hT => Fault_at 1 1 14 (by omega) (by omega) w hT)
  have hfk := field_kind7 14 1 1
  have hcv := fun (w' : World) => Lib.run_convert_string_bytes (P := Tryd.prog) w' 9 38 5 s (u := .string) Tryd.underlying9 Tryd.underlying38 Tryd.underlying5
  have hall : Hid (s.data.toList.take s.size = s.data.toList) := by show _ = _; rw [List.take_of_length_le (by rw [size_len]; omega)]
  clear hN
  go_enter Tryd.func6, Tryd.ntmps6
  go_wp2_with (go_at_call 13; refine (awake_any _ hT).mono ?_; rintro e w1 ⟨rfl, hb1⟩)
  clear hcv
  have hW2 : (w1.alloc (.cells #[.int .u8 34] 5)).heap.size = w1.heap.size + 1 := by simp
  have hby := Lib.hid (byte_at w1 s)
  have hst := start_own w1 s hb1.size
  have hbs0 := Lib.bytesWorld_size (w1.alloc (.cells #[.int .u8 34] 5)) 5 s
  have hT2 := bytes_turns (w1.alloc (.cells #[.int .u8 34] 5)) 5 s
  rw [hW2] at hbs0
  have hb2 : Below w.heap.size w (Lib.bytesWorld (w1.alloc (.cells #[.int .u8 34] 5)) 5 s) := (Below.alloc hb1 hb1.size _).trans (hT2.below (by have := hb1.size; simp; omega) (fun _ h => h.elim))
  have hbk0 : Bk (Lib.bytesWorld (w1.alloc (.cells #[.int .u8 34] 5)) 5 s) (w1.heap.size + 1) (Lib.bytesWorld (w1.alloc (.cells #[.int .u8 34] 5)) 5 s).heap[w1.heap.size + 1]? := rfl
  generalize (Lib.bytesWorld (w1.alloc (.cells #[.int .u8 34] 5)) 5 s).heap[w1.heap.size + 1]? = O at *
  have hst' := Lib.hid hst
  have hbs1 := Lib.hid hbs0
  have hbk1 := Lib.hid hbk0
  have hb2' := Lib.hid hb2
  clear hst hbs0 hbk0 hT2 hW2 hb2
  go_loopw [3, 20] (fun v3 i wr => ∃ k : Nat, k ≤ s.size ∧ i = .int .i64 k ∧ OwnB wr w.heap.size v3 (34 :: LM.quo (s.data.toList.take k)) ∧ v3.ownBlock ≠ some (w1.heap.size + 1) ∧ Bk wr (w1.heap.size + 1) O ∧ w1.heap.size + 1 < wr.heap.size ∧ Below w.heap.size w wr) (fun _ i _ => s.size - (intOf i).toNat)
  case atStart => exact ⟨0, Nat.zero_le _, rfl, hst'.out, (by intro h; injection h with h; simp at h), hbk1.out, by rw [hbs1.out]; omega, hb2'.out⟩
  case round =>
    obtain ⟨k, hk, rfl, hO, hne, hbk, hbs, hb⟩ := hrel
    have hlq : (34 :: LM.quo (s.data.toList.take k)).length ≤ 1201 := by
      have h1 := LM.quo_len (s.data.toList.take k)
      have h2 : (s.data.toList.take k).length ≤ k := List.length_take_le _ _
      simp only [List.length_cons]; omega
    obtain ⟨n3, hn⟩ : ∃ n, (34 :: LM.quo (s.data.toList.take k)).length = n := ⟨_, rfl⟩
    have hn3 := Lib.hid hn
    obtain ⟨A3, c3, rfl⟩ := hO.read
    have hws := hb.size
    have hown := hO
    unfold OwnB at hown
    rw [hn] at hown hlq hne ⊢
    clear hn hst' hbk1 hb2' hbs1
    by_cases hlt : k < s.size
    · have hcell := hby.out wr k hlt hbk
      have hq0 := quo_take s k hlt
      by_cases h34 : s[k] = 34
      · have e1 : ((s[k].toNat : Int) == 34) = true := byte_eq (n := 34) (by omega) h34
        rw [if_pos (.inl h34)] at hq0
        have hq := Lib.hid hq0
        clear hq0 h34
        go_wp2_with (first
          | (at_builtin
             refine wpList_append_own (v := .slice A3 n3 c3) (x := .slice (some ⟨wr.heap.size, 0, none⟩) 1 1) (.int .u8 0) 1 Tryd.infoByte rfl (by decide) rfl _ _ 38 rfl Tryd.underlying38 rfl rfl (own_turns hown ((Turns.refl (fun _ => False) _).alloc _) (fun _ _ h => h)) (own_one (B := 0) wr #[.int .u8 92] rfl (Nat.zero_le _)) (by simp [Value.oneCell']) (by omega) (by omega) (by simp; omega) ?_
             intro v5 w5 hown5 hg5 hat5
             have hO5 := pushed (c := 92) hn3.out hown5
             have hne5 : v5.ownBlock ≠ some (w1.heap.size + 1) := by
               rcases hat5 with e | e
               · rw [e]; exact hne
               · rw [e]; intro hh; injection hh with hh; simp at hh; omega
             have T5 := Turns.appendedS hg5
             have hk5 := (Bk.turns (X := fun _ => False) hbk hbs ((Turns.refl _ wr).alloc (.cells #[.int .u8 92] 5)) (fun h => h)).turns (by simp; omega) T5 (fun h => hne h)
             have hs5 : w1.heap.size + 1 < w5.heap.size := by have := hg5.size; simp at this; omega
             have hb5 : Below w.heap.size w w5 := (hb.alloc hb.size _).trans (T5.below (by have := hb.size; simp; omega) (fun g hg => (World.ownsRow.lt hown g hg).1))
             clear hat5 hown5 hg5 T5)
          | (at_builtin
             obtain ⟨A5, c5, rfl⟩ := hO5.read
             obtain ⟨n5, hn5⟩ : ∃ n, ((34 :: LM.quo (s.data.toList.take k)) ++ [92]).length = n := ⟨_, rfl⟩
             have hn5' : n5 = n3 + 1 := by rw [← hn5, List.length_append, hn3.out]; rfl
             rw [hn5] at hne5 ⊢
             have hown5 : w5.ownsRow w.heap.size 5 1 (.slice A5 n5 c5) n5 (Lib.byteCells ((34 :: LM.quo (s.data.toList.take k)) ++ [92])) := by
               have h := hO5
               unfold OwnB at h
               rw [hn5] at h; exact h
             refine wpList_append_own (v := .slice A5 n5 c5) (x := .slice (some ⟨w5.heap.size, 0, none⟩) 1 1) (.int .u8 0) 1 Tryd.infoByte rfl (by decide) rfl _ _ 38 rfl Tryd.underlying38 rfl rfl (own_turns hown5 ((Turns.refl (fun _ => False) _).alloc _) (fun _ _ h => h)) (own_one (B := 0) w5 #[.int .u8 s[k].toNat] rfl (Nat.zero_le _)) (by simp [Value.oneCell']) (by omega) (by omega) (by have := hb5.size; simp; omega) ?_
             intro v7 w7 hown7 hg7 hat7
             have hO7 := pushed (c := s[k]) hn5 hown7
             have hne7 : v7.ownBlock ≠ some (w1.heap.size + 1) := by
               rcases hat7 with e | e
               · rw [e]; exact hne5
               · rw [e]; intro hh; injection hh with hh; simp at hh; omega
             have T7 := Turns.appendedS hg7
             have hk7 := (Bk.turns (X := fun _ => False) hk5 hs5 ((Turns.refl _ w5).alloc (.cells #[.int .u8 s[k].toNat] 5)) (fun h => h)).turns (by simp; omega) T7 (fun h => hne5 h)
             have hs7 : w1.heap.size + 1 < w7.heap.size := by have := hg7.size; simp at this; omega
             have hb7 : Below w.heap.size w w7 := (hb5.alloc hb5.size _).trans (T7.below (by have := hb5.size; simp; omega) (fun g hg => (World.ownsRow.lt hown5 g hg).1))
             clear hat7 hown7 hg7 T7))
        go_roundw
        case rel => exact ⟨k + 1, by omega, by go_num, by rw [hq.out]; simpa using hO7, hne7, hk7, hs7, hb7⟩
        case measure => simp [intOf]; omega
      · have e1 : ((s[k].toNat : Int) == 34) = false := byte_ne (n := 34) (by omega) h34
        by_cases h92 : s[k] = 92
        · have e2 : ((s[k].toNat : Int) == 92) = true := byte_eq (n := 92) (by omega) h92
          rw [if_pos (.inr h92)] at hq0
          have hq := Lib.hid hq0
          clear hq0 h34 h92
          go_wp2_with (first
            | (at_builtin
               refine wpList_append_own (v := .slice A3 n3 c3) (x := .slice (some ⟨wr.heap.size, 0, none⟩) 1 1) (.int .u8 0) 1 Tryd.infoByte rfl (by decide) rfl _ _ 38 rfl Tryd.underlying38 rfl rfl (own_turns hown ((Turns.refl (fun _ => False) _).alloc _) (fun _ _ h => h)) (own_one (B := 0) wr #[.int .u8 92] rfl (Nat.zero_le _)) (by simp [Value.oneCell']) (by omega) (by omega) (by simp; omega) ?_
               intro v5 w5 hown5 hg5 hat5
               have hO5 := pushed (c := 92) hn3.out hown5
               have hne5 : v5.ownBlock ≠ some (w1.heap.size + 1) := by
                 rcases hat5 with e | e
                 · rw [e]; exact hne
                 · rw [e]; intro hh; injection hh with hh; simp at hh; omega
               have T5 := Turns.appendedS hg5
               have hk5 := (Bk.turns (X := fun _ => False) hbk hbs ((Turns.refl _ wr).alloc (.cells #[.int .u8 92] 5)) (fun h => h)).turns (by simp; omega) T5 (fun h => hne h)
               have hs5 : w1.heap.size + 1 < w5.heap.size := by have := hg5.size; simp at this; omega
               have hb5 : Below w.heap.size w w5 := (hb.alloc hb.size _).trans (T5.below (by have := hb.size; simp; omega) (fun g hg => (World.ownsRow.lt hown g hg).1))
               clear hat5 hown5 hg5 T5)
            | (at_builtin
               obtain ⟨A5, c5, rfl⟩ := hO5.read
               obtain ⟨n5, hn5⟩ : ∃ n, ((34 :: LM.quo (s.data.toList.take k)) ++ [92]).length = n := ⟨_, rfl⟩
               have hn5' : n5 = n3 + 1 := by rw [← hn5, List.length_append, hn3.out]; rfl
               rw [hn5] at hne5 ⊢
               have hown5 : w5.ownsRow w.heap.size 5 1 (.slice A5 n5 c5) n5 (Lib.byteCells ((34 :: LM.quo (s.data.toList.take k)) ++ [92])) := by
                 have h := hO5
                 unfold OwnB at h
                 rw [hn5] at h; exact h
               refine wpList_append_own (v := .slice A5 n5 c5) (x := .slice (some ⟨w5.heap.size, 0, none⟩) 1 1) (.int .u8 0) 1 Tryd.infoByte rfl (by decide) rfl _ _ 38 rfl Tryd.underlying38 rfl rfl (own_turns hown5 ((Turns.refl (fun _ => False) _).alloc _) (fun _ _ h => h)) (own_one (B := 0) w5 #[.int .u8 s[k].toNat] rfl (Nat.zero_le _)) (by simp [Value.oneCell']) (by omega) (by omega) (by have := hb5.size; simp; omega) ?_
               intro v7 w7 hown7 hg7 hat7
               have hO7 := pushed (c := s[k]) hn5 hown7
               have hne7 : v7.ownBlock ≠ some (w1.heap.size + 1) := by
                 rcases hat7 with e | e
                 · rw [e]; exact hne5
                 · rw [e]; intro hh; injection hh with hh; simp at hh; omega
               have T7 := Turns.appendedS hg7
               have hk7 := (Bk.turns (X := fun _ => False) hk5 hs5 ((Turns.refl _ w5).alloc (.cells #[.int .u8 s[k].toNat] 5)) (fun h => h)).turns (by simp; omega) T7 (fun h => hne5 h)
               have hs7 : w1.heap.size + 1 < w7.heap.size := by have := hg7.size; simp at this; omega
               have hb7 : Below w.heap.size w w7 := (hb5.alloc hb5.size _).trans (T7.below (by have := hb5.size; simp; omega) (fun g hg => (World.ownsRow.lt hown5 g hg).1))
               clear hat7 hown7 hg7 T7))
          go_roundw
          case rel => exact ⟨k + 1, by omega, by go_num, by rw [hq.out]; simpa using hO7, hne7, hk7, hs7, hb7⟩
          case measure => simp [intOf]; omega
        · have e2 : ((s[k].toNat : Int) == 92) = false := byte_ne (n := 92) (by omega) h92
          rw [if_neg (by rintro (h | h); exact h34 h; exact h92 h)] at hq0
          have hq := Lib.hid hq0
          clear hq0 h34 h92
          go_wp2_with (first
            | (at_builtin
               refine wpList_append_own (v := .slice A3 n3 c3) (x := .slice (some ⟨wr.heap.size, 0, none⟩) 1 1) (.int .u8 0) 1 Tryd.infoByte rfl (by decide) rfl _ _ 38 rfl Tryd.underlying38 rfl rfl (own_turns hown ((Turns.refl (fun _ => False) _).alloc _) (fun _ _ h => h)) (own_one (B := 0) wr #[.int .u8 s[k].toNat] rfl (Nat.zero_le _)) (by simp [Value.oneCell']) (by omega) (by omega) (by simp; omega) ?_
               intro v5 w5 hown5 hg5 hat5
               have hO5 := pushed (c := s[k]) hn3.out hown5
               have hne5 : v5.ownBlock ≠ some (w1.heap.size + 1) := by
                 rcases hat5 with e | e
                 · rw [e]; exact hne
                 · rw [e]; intro hh; injection hh with hh; simp at hh; omega
               have T5 := Turns.appendedS hg5
               have hk5 := (Bk.turns (X := fun _ => False) hbk hbs ((Turns.refl _ wr).alloc (.cells #[.int .u8 s[k].toNat] 5)) (fun h => h)).turns (by simp; omega) T5 (fun h => hne h)
               have hs5 : w1.heap.size + 1 < w5.heap.size := by have := hg5.size; simp at this; omega
               have hb5 : Below w.heap.size w w5 := (hb.alloc hb.size _).trans (T5.below (by have := hb.size; simp; omega) (fun g hg => (World.ownsRow.lt hown g hg).1))
               clear hat5 hown5 hg5 T5))
          go_roundw
          case rel => exact ⟨k + 1, by omega, by go_num, by rw [hq.out]; simpa using hO5, hne5, hk5, hs5, hb5⟩
          case measure => simp [intOf]; omega
    · obtain rfl : k = s.size := by omega
      go_wp2_with (first
        | (at_builtin
           refine wpList_append_own (v := .slice A3 n3 c3) (x := .slice (some ⟨wr.heap.size, 0, none⟩) 1 1) (.int .u8 0) 1 Tryd.infoByte rfl (by decide) rfl _ _ 38 rfl Tryd.underlying38 rfl rfl (own_turns hown ((Turns.refl (fun _ => False) _).alloc _) (fun _ _ h => h)) (own_one (B := 0) wr #[.int .u8 34] rfl (Nat.zero_le _)) (by simp [Value.oneCell']) (by omega) (by omega) (by simp; omega) ?_
           intro v5 w5 hown5 hg5 hat5
           have hO5x := pushed (c := 34) hn3.out hown5
           have hne5 : v5.ownBlock ≠ some (w1.heap.size + 1) := by
             rcases hat5 with e | e
             · rw [e]; exact hne
             · rw [e]; intro hh; injection hh with hh; simp at hh; omega
           have T5 := Turns.appendedS hg5
           have hk5 := (Bk.turns (X := fun _ => False) hbk hbs ((Turns.refl _ wr).alloc (.cells #[.int .u8 34] 5)) (fun h => h)).turns (by simp; omega) T5 (fun h => hne h)
           have hs5 : w1.heap.size + 1 < w5.heap.size := by have := hg5.size; simp at this; omega
           have hb5 : Below w.heap.size w w5 := (hb.alloc hb.size _).trans (T5.below (by have := hb.size; simp; omega) (fun g hg => (World.ownsRow.lt hown g hg).1))
           have hcv2 := OwnB.conv hO5x
           clear hat5 hown5 hg5 T5)
        | (go_at_call 14
           rw [hall.out]
           refine (dN.out _).mono ?_
           rintro e w7 ⟨v7, rfl, ho7, hb7⟩
           have hb8 : Went w w7 := Went.trans hb5 hb7
           have hT8 : ETab w7 := hT.on hb8)
        | (go_at_call 12
           refine (dF.out _ hT8).mono ?_
           rintro e w9 ⟨rfl, hb9⟩))
      go_ret
      exact ⟨rfl, hb8.trans hb9⟩


set_option maxRecDepth 100000 in
set_option maxHeartbeats 8000000 in
theorem lexStrings_shorter (s : ByteArray) (hs : s.size ≤ 600) (w : World) (hT : ETab w) (h5 : ¬ 500 < s.size) (n : Nat) (hN : ∀ w, Calls Tryd.prog 14 #[.string ⟨(34 :: (LM.quo s.data.toList ++ [34])).toArray⟩] w fun e w' => ∃ v', e = .returned (.tuple #[v', .nilIface]) ∧ OwnT w' w.heap.size v' [⟨12, 0, s.data.toList, 1, 1, n⟩] ∧ Went w w') :
    Calls Tryd.prog 6 #[.string s] w fun e w' => e = .returned (.bool true) ∧ Went w w' := by
  have dN := Lib.hid hN
  have hcv := fun (w' : World) => Lib.run_convert_string_bytes (P := Tryd.prog) w' 9 38 5 s (u := .string) Tryd.underlying9 Tryd.underlying38 Tryd.underlying5
  have hall : Hid (s.data.toList.take s.size = s.data.toList) := by show _ = _; rw [List.take_of_length_le (by rw [size_len]; omega)]
  clear hN
  go_enter Tryd.func6, Tryd.ntmps6
  go_wp2_with (go_at_call 13; refine (awake_any _ hT).mono ?_; rintro e w1 ⟨rfl, hb1⟩)
  clear hcv
  have hW2 : (w1.alloc (.cells #[.int .u8 34] 5)).heap.size = w1.heap.size + 1 := by simp
  have hby := Lib.hid (byte_at w1 s)
  have hst := start_own w1 s hb1.size
  have hbs0 := Lib.bytesWorld_size (w1.alloc (.cells #[.int .u8 34] 5)) 5 s
  have hT2 := bytes_turns (w1.alloc (.cells #[.int .u8 34] 5)) 5 s
  rw [hW2] at hbs0
  have hb2 : Below w.heap.size w (Lib.bytesWorld (w1.alloc (.cells #[.int .u8 34] 5)) 5 s) := (Below.alloc hb1 hb1.size _).trans (hT2.below (by have := hb1.size; simp; omega) (fun _ h => h.elim))
  have hbk0 : Bk (Lib.bytesWorld (w1.alloc (.cells #[.int .u8 34] 5)) 5 s) (w1.heap.size + 1) (Lib.bytesWorld (w1.alloc (.cells #[.int .u8 34] 5)) 5 s).heap[w1.heap.size + 1]? := rfl
  generalize (Lib.bytesWorld (w1.alloc (.cells #[.int .u8 34] 5)) 5 s).heap[w1.heap.size + 1]? = O at *
  have hst' := Lib.hid hst
  have hbs1 := Lib.hid hbs0
  have hbk1 := Lib.hid hbk0
  have hb2' := Lib.hid hb2
  clear hst hbs0 hbk0 hT2 hW2 hb2
  go_loopw [3, 20] (fun v3 i wr => ∃ k : Nat, k ≤ s.size ∧ i = .int .i64 k ∧ OwnB wr w.heap.size v3 (34 :: LM.quo (s.data.toList.take k)) ∧ v3.ownBlock ≠ some (w1.heap.size + 1) ∧ Bk wr (w1.heap.size + 1) O ∧ w1.heap.size + 1 < wr.heap.size ∧ Below w.heap.size w wr) (fun _ i _ => s.size - (intOf i).toNat)
  case atStart => exact ⟨0, Nat.zero_le _, rfl, hst'.out, (by intro h; injection h with h; simp at h), hbk1.out, by rw [hbs1.out]; omega, hb2'.out⟩
  case round =>
    obtain ⟨k, hk, rfl, hO, hne, hbk, hbs, hb⟩ := hrel
    have hlq : (34 :: LM.quo (s.data.toList.take k)).length ≤ 1201 := by
      have h1 := LM.quo_len (s.data.toList.take k)
      have h2 : (s.data.toList.take k).length ≤ k := List.length_take_le _ _
      simp only [List.length_cons]; omega
    obtain ⟨n3, hn⟩ : ∃ n, (34 :: LM.quo (s.data.toList.take k)).length = n := ⟨_, rfl⟩
    have hn3 := Lib.hid hn
    obtain ⟨A3, c3, rfl⟩ := hO.read
    have hws := hb.size
    have hown := hO
    unfold OwnB at hown
    rw [hn] at hown hlq hne ⊢
    clear hn hst' hbk1 hb2' hbs1
    by_cases hlt : k < s.size
    · have hcell := hby.out wr k hlt hbk
      have hq0 := quo_take s k hlt
      by_cases h34 : s[k] = 34
      · have e1 : ((s[k].toNat : Int) == 34) = true := byte_eq (n := 34) (by omega) h34
        rw [if_pos (.inl h34)] at hq0
        have hq := Lib.hid hq0
        clear hq0 h34
        go_wp2_with (first
          | (at_builtin
             refine wpList_append_own (v := .slice A3 n3 c3) (x := .slice (some ⟨wr.heap.size, 0, none⟩) 1 1) (.int .u8 0) 1 Tryd.infoByte rfl (by decide) rfl _ _ 38 rfl Tryd.underlying38 rfl rfl (own_turns hown ((Turns.refl (fun _ => False) _).alloc _) (fun _ _ h => h)) (own_one (B := 0) wr #[.int .u8 92] rfl (Nat.zero_le _)) (by simp [Value.oneCell']) (by omega) (by omega) (by simp; omega) ?_
             intro v5 w5 hown5 hg5 hat5
             have hO5 := pushed (c := 92) hn3.out hown5
             have hne5 : v5.ownBlock ≠ some (w1.heap.size + 1) := by
               rcases hat5 with e | e
               · rw [e]; exact hne
               · rw [e]; intro hh; injection hh with hh; simp at hh; omega
             have T5 := Turns.appendedS hg5
             have hk5 := (Bk.turns (X := fun _ => False) hbk hbs ((Turns.refl _ wr).alloc (.cells #[.int .u8 92] 5)) (fun h => h)).turns (by simp; omega) T5 (fun h => hne h)
             have hs5 : w1.heap.size + 1 < w5.heap.size := by have := hg5.size; simp at this; omega
             have hb5 : Below w.heap.size w w5 := (hb.alloc hb.size _).trans (T5.below (by have := hb.size; simp; omega) (fun g hg => (World.ownsRow.lt hown g hg).1))
             clear hat5 hown5 hg5 T5)
          | (at_builtin
             obtain ⟨A5, c5, rfl⟩ := hO5.read
             obtain ⟨n5, hn5⟩ : ∃ n, ((34 :: LM.quo (s.data.toList.take k)) ++ [92]).length = n := ⟨_, rfl⟩
             have hn5' : n5 = n3 + 1 := by rw [← hn5, List.length_append, hn3.out]; rfl
             rw [hn5] at hne5 ⊢
             have hown5 : w5.ownsRow w.heap.size 5 1 (.slice A5 n5 c5) n5 (Lib.byteCells ((34 :: LM.quo (s.data.toList.take k)) ++ [92])) := by
               have h := hO5
               unfold OwnB at h
               rw [hn5] at h; exact h
             refine wpList_append_own (v := .slice A5 n5 c5) (x := .slice (some ⟨w5.heap.size, 0, none⟩) 1 1) (.int .u8 0) 1 Tryd.infoByte rfl (by decide) rfl _ _ 38 rfl Tryd.underlying38 rfl rfl (own_turns hown5 ((Turns.refl (fun _ => False) _).alloc _) (fun _ _ h => h)) (own_one (B := 0) w5 #[.int .u8 s[k].toNat] rfl (Nat.zero_le _)) (by simp [Value.oneCell']) (by omega) (by omega) (by have := hb5.size; simp; omega) ?_
             intro v7 w7 hown7 hg7 hat7
             have hO7 := pushed (c := s[k]) hn5 hown7
             have hne7 : v7.ownBlock ≠ some (w1.heap.size + 1) := by
               rcases hat7 with e | e
               · rw [e]; exact hne5
               · rw [e]; intro hh; injection hh with hh; simp at hh; omega
             have T7 := Turns.appendedS hg7
             have hk7 := (Bk.turns (X := fun _ => False) hk5 hs5 ((Turns.refl _ w5).alloc (.cells #[.int .u8 s[k].toNat] 5)) (fun h => h)).turns (by simp; omega) T7 (fun h => hne5 h)
             have hs7 : w1.heap.size + 1 < w7.heap.size := by have := hg7.size; simp at this; omega
             have hb7 : Below w.heap.size w w7 := (hb5.alloc hb5.size _).trans (T7.below (by have := hb5.size; simp; omega) (fun g hg => (World.ownsRow.lt hown5 g hg).1))
             clear hat7 hown7 hg7 T7))
        go_roundw
        case rel => exact ⟨k + 1, by omega, by go_num, by rw [hq.out]; simpa using hO7, hne7, hk7, hs7, hb7⟩
        case measure => simp [intOf]; omega
      · have e1 : ((s[k].toNat : Int) == 34) = false := byte_ne (n := 34) (by omega) h34
        by_cases h92 : s[k] = 92
        · have e2 : ((s[k].toNat : Int) == 92) = true := byte_eq (n := 92) (by omega) h92
          rw [if_pos (.inr h92)] at hq0
          have hq := Lib.hid hq0
          clear hq0 h34 h92
          go_wp2_with (first
            | (at_builtin
               refine wpList_append_own (v := .slice A3 n3 c3) (x := .slice (some ⟨wr.heap.size, 0, none⟩) 1 1) (.int .u8 0) 1 Tryd.infoByte rfl (by decide) rfl _ _ 38 rfl Tryd.underlying38 rfl rfl (own_turns hown ((Turns.refl (fun _ => False) _).alloc _) (fun _ _ h => h)) (own_one (B := 0) wr #[.int .u8 92] rfl (Nat.zero_le _)) (by simp [Value.oneCell']) (by omega) (by omega) (by simp; omega) ?_
               intro v5 w5 hown5 hg5 hat5
               have hO5 := pushed (c := 92) hn3.out hown5
               have hne5 : v5.ownBlock ≠ some (w1.heap.size + 1) := by
                 rcases hat5 with e | e
                 · rw [e]; exact hne
                 · rw [e]; intro hh; injection hh with hh; simp at hh; omega
               have T5 := Turns.appendedS hg5
               have hk5 := (Bk.turns (X := fun _ => False) hbk hbs ((Turns.refl _ wr).alloc (.cells #[.int .u8 92] 5)) (fun h => h)).turns (by simp; omega) T5 (fun h => hne h)
               have hs5 : w1.heap.size + 1 < w5.heap.size := by have := hg5.size; simp at this; omega
               have hb5 : Below w.heap.size w w5 := (hb.alloc hb.size _).trans (T5.below (by have := hb.size; simp; omega) (fun g hg => (World.ownsRow.lt hown g hg).1))
               clear hat5 hown5 hg5 T5)
            | (at_builtin
               obtain ⟨A5, c5, rfl⟩ := hO5.read
               obtain ⟨n5, hn5⟩ : ∃ n, ((34 :: LM.quo (s.data.toList.take k)) ++ [92]).length = n := ⟨_, rfl⟩
               have hn5' : n5 = n3 + 1 := by rw [← hn5, List.length_append, hn3.out]; rfl
               rw [hn5] at hne5 ⊢
               have hown5 : w5.ownsRow w.heap.size 5 1 (.slice A5 n5 c5) n5 (Lib.byteCells ((34 :: LM.quo (s.data.toList.take k)) ++ [92])) := by
                 have h := hO5
                 unfold OwnB at h
                 rw [hn5] at h; exact h
               refine wpList_append_own (v := .slice A5 n5 c5) (x := .slice (some ⟨w5.heap.size, 0, none⟩) 1 1) (.int .u8 0) 1 Tryd.infoByte rfl (by decide) rfl _ _ 38 rfl Tryd.underlying38 rfl rfl (own_turns hown5 ((Turns.refl (fun _ => False) _).alloc _) (fun _ _ h => h)) (own_one (B := 0) w5 #[.int .u8 s[k].toNat] rfl (Nat.zero_le _)) (by simp [Value.oneCell']) (by omega) (by omega) (by have := hb5.size; simp; omega) ?_
               intro v7 w7 hown7 hg7 hat7
               have hO7 := pushed (c := s[k]) hn5 hown7
               have hne7 : v7.ownBlock ≠ some (w1.heap.size + 1) := by
                 rcases hat7 with e | e
                 · rw [e]; exact hne5
                 · rw [e]; intro hh; injection hh with hh; simp at hh; omega
               have T7 := Turns.appendedS hg7
               have hk7 := (Bk.turns (X := fun _ => False) hk5 hs5 ((Turns.refl _ w5).alloc (.cells #[.int .u8 s[k].toNat] 5)) (fun h => h)).turns (by simp; omega) T7 (fun h => hne5 h)
               have hs7 : w1.heap.size + 1 < w7.heap.size := by have := hg7.size; simp at this; omega
               have hb7 : Below w.heap.size w w7 := (hb5.alloc hb5.size _).trans (T7.below (by have := hb5.size; simp; omega) (fun g hg => (World.ownsRow.lt hown5 g hg).1))
               clear hat7 hown7 hg7 T7))
          go_roundw
          case rel => exact ⟨k + 1, by omega, by go_num, by rw [hq.out]; simpa using hO7, hne7, hk7, hs7, hb7⟩
          case measure => simp [intOf]; omega
        · have e2 : ((s[k].toNat : Int) == 92) = false := byte_ne (n := 92) (by omega) h92
          rw [if_neg (by rintro (h | h); exact h34 h; exact h92 h)] at hq0
          have hq := Lib.hid hq0
          clear hq0 h34 h92
          go_wp2_with (first
            | (at_builtin
               refine wpList_append_own (v := .slice A3 n3 c3) (x := .slice (some ⟨wr.heap.size, 0, none⟩) 1 1) (.int .u8 0) 1 Tryd.infoByte rfl (by decide) rfl _ _ 38 rfl Tryd.underlying38 rfl rfl (own_turns hown ((Turns.refl (fun _ => False) _).alloc _) (fun _ _ h => h)) (own_one (B := 0) wr #[.int .u8 s[k].toNat] rfl (Nat.zero_le _)) (by simp [Value.oneCell']) (by omega) (by omega) (by simp; omega) ?_
               intro v5 w5 hown5 hg5 hat5
               have hO5 := pushed (c := s[k]) hn3.out hown5
               have hne5 : v5.ownBlock ≠ some (w1.heap.size + 1) := by
                 rcases hat5 with e | e
                 · rw [e]; exact hne
                 · rw [e]; intro hh; injection hh with hh; simp at hh; omega
               have T5 := Turns.appendedS hg5
               have hk5 := (Bk.turns (X := fun _ => False) hbk hbs ((Turns.refl _ wr).alloc (.cells #[.int .u8 s[k].toNat] 5)) (fun h => h)).turns (by simp; omega) T5 (fun h => hne h)
               have hs5 : w1.heap.size + 1 < w5.heap.size := by have := hg5.size; simp at this; omega
               have hb5 : Below w.heap.size w w5 := (hb.alloc hb.size _).trans (T5.below (by have := hb.size; simp; omega) (fun g hg => (World.ownsRow.lt hown g hg).1))
               clear hat5 hown5 hg5 T5))
          go_roundw
          case rel => exact ⟨k + 1, by omega, by go_num, by rw [hq.out]; simpa using hO5, hne5, hk5, hs5, hb5⟩
          case measure => simp [intOf]; omega
    · obtain rfl : k = s.size := by omega
      go_wp2_with (first
        | (at_builtin
           refine wpList_append_own (v := .slice A3 n3 c3) (x := .slice (some ⟨wr.heap.size, 0, none⟩) 1 1) (.int .u8 0) 1 Tryd.infoByte rfl (by decide) rfl _ _ 38 rfl Tryd.underlying38 rfl rfl (own_turns hown ((Turns.refl (fun _ => False) _).alloc _) (fun _ _ h => h)) (own_one (B := 0) wr #[.int .u8 34] rfl (Nat.zero_le _)) (by simp [Value.oneCell']) (by omega) (by omega) (by simp; omega) ?_
           intro v5 w5 hown5 hg5 hat5
           have hO5x := pushed (c := 34) hn3.out hown5
           have hne5 : v5.ownBlock ≠ some (w1.heap.size + 1) := by
             rcases hat5 with e | e
             · rw [e]; exact hne
             · rw [e]; intro hh; injection hh with hh; simp at hh; omega
           have T5 := Turns.appendedS hg5
           have hk5 := (Bk.turns (X := fun _ => False) hbk hbs ((Turns.refl _ wr).alloc (.cells #[.int .u8 34] 5)) (fun h => h)).turns (by simp; omega) T5 (fun h => hne h)
           have hs5 : w1.heap.size + 1 < w5.heap.size := by have := hg5.size; simp at this; omega
           have hb5 : Below w.heap.size w w5 := (hb.alloc hb.size _).trans (T5.below (by have := hb.size; simp; omega) (fun g hg => (World.ownsRow.lt hown g hg).1))
           have hcv2 := OwnB.conv hO5x
           clear hat5 hown5 hg5 T5)
        | (go_at_call 14
           rw [hall.out]
           refine (dN.out _).mono ?_
           rintro e w7 ⟨v7, rfl, ho7, hb7⟩
           have hb8 : Went w w7 := Went.trans hb5 hb7
           obtain ⟨A7, c7, rfl⟩ := OwnT.read ho7
           obtain ⟨g7, rfl, -, hg7, p0, -, p2, -⟩ := OwnT.cell ho7 (i := 0) rfl
           have q0 : w7.cell? ⟨g7, 0, none⟩ = some (.int .i64 12) := p0
           have q2 : w7.cell? ⟨g7, 2, none⟩ = some (.string s) := p2.trans (str_back s)
           clear p0 p2))
      go_ret
      exact ⟨rfl, hb8⟩


theorem lexStrings_walk (s : ByteArray) (w : World) (hT : ETab w) :
    Calls Tryd.prog 6 #[.string s] w fun e w' => e = .returned (.bool true) ∧ Below w.heap.size w w' := by
  by_cases hs : 600 < s.size
  · exact lexStrings_long s hs w hT
  have hq := LM.quo_len s.data.toList
  rw [size_len] at hq
  have hsz : (⟨(34 :: (LM.quo s.data.toList ++ [34])).toArray⟩ : ByteArray).size = (LM.quo s.data.toList).length + 2 := by
    show (34 :: (LM.quo s.data.toList ++ [34])).toArray.size = _
    simp
  have hN := All_any ⟨(34 :: (LM.quo s.data.toList ++ [34])).toArray⟩ (by omega)
  rw [hsz, show (⟨(34 :: (LM.quo s.data.toList ++ [34])).toArray⟩ : ByteArray).data.toList = 34 :: (LM.quo s.data.toList ++ [34]) from rfl, LM.alls_quo _ _ (by omega), size_len] at hN
  by_cases h5 : 500 < s.size
  · rw [if_pos h5] at hN
    simp only at hN
    rw [aer_no (by decide)] at hN
    exact lexStrings_longer s (by omega) w hT h5 hN
  · rw [if_neg h5] at hN
    simp only at hN
    rw [show aer (0, 0, 0) = .nilIface from rfl] at hN
    exact lexStrings_shorter s (by omega) w hT h5 _ hN
end Go.Proofs.YtfabafolbelhdaaDoor
