/- What package show's writer puts: a text, a byte, a string within its marks; a character's text. -/
import Derived.Test.YtpiekdcbjkgipaaGreatDoorQ4
import Derived.Test.YtpiekdcbjkgipaaGreatDoorQ2
import Derived.Test.YtpiekdcbjkgipaaGreatDoorQ5
import Derived.Lib.AppendStr
import Derived.Deep.RegionHeld3
import Derived.Deep.RegionWith
import Derived.Test.YtpiekdcbjkgipaaGreatDoorQ7
import Derived.Deep.RegionLaw
namespace Go.Proofs.YtpiekdcbjkgipaaGreatDoor
open Go.ChangeShapes Go.WideShapes Go.ChangeAt Go.RowKit

theorem went_alloc (w : World) (o : Obj) : Went w (w.alloc o) := (Below.refl _ w).alloc (Nat.le_refl _) _
/-- block k holds bytes -/
def Byt (w : World) (k : Nat) : Prop := ∃ c f, w.heap[k]? = some (.cells c 5 f)
/-- what a writer at p may turn: itself, and blocks of bytes from B on -/
def Ch (B p : Nat) (w w' : World) : Prop := Turns (fun k => k = p ∨ (B ≤ k ∧ Byt w k)) w w'
/-- the writer at p has written l -/
def Wr (w : World) (B p : Nat) (v : Value) (l : List UInt8) (b : Bool) : Prop := B ≤ p ∧ Lies w p 137 [v, .bool b] ∧ OwnB w B v l
section
variable {B p q : Nat} {w w' w2 : World} {v : Value} {l : List UInt8} {b : Bool} {t : TypeId} {cs : List Value}
theorem Byt.not_lies (hL : Lies w q t cs) (ht : t ≠ 5) (h : Byt w q) : False := by
  obtain ⟨c, f, h⟩ := h
  have := hL.symm.trans h
  simp at this
  exact ht this.2.1
theorem Ch.refl (B p : Nat) (w : World) : Ch B p w w := Turns.refl _ w
theorem Ch.trans (h : Ch B p w w') (k : Ch B p w' w2) : Ch B p w w2 := by
  refine Turns.then h k fun i hi hx => ?_
  rcases hx with hx | ⟨hx, c, f, hc⟩
  · exact .inl hx
  · by_cases hn : i = p ∨ (B ≤ i ∧ Byt w i)
    · exact hn
    · exact .inr ⟨hx, c, f, (Turns.block h i hi hn).symm.trans hc⟩
theorem Ch.of_below (h : Below w.heap.size w w') : Ch B p w w' := Turns.of_below h _
theorem Ch.below (h : Ch B p w w') (hp : B ≤ p) (hB : B ≤ w.heap.size) : Below B w w' := Turns.below h hB (fun i hi => by rcases hi with rfl | hi; exact hp; exact hi.1)
theorem Ch.size (h : Ch B p w w') : w.heap.size ≤ w'.heap.size := Turns.size h
theorem Ch.alloc (h : Ch B p w w') (o : Obj) : Ch B p w (w'.alloc o) := Turns.alloc h o
theorem Ch.of_alloc {o : Obj} (h : Ch B p (w.alloc o) w') : Ch B p w w' := Ch.trans ((Ch.refl B p w).alloc o) h
theorem Lies.ch (hL : Lies w q t cs) (ht : t ≠ 5) (hq : q ≠ p) (h : Ch B p w w') : Lies w' q t cs :=
  hL.turns h (fun hx => by rcases hx with hx | ⟨_, hx⟩; exact hq hx; exact hx.not_lies hL ht)
theorem OwnB.byt (h : OwnB w B v l) : ∀ g, v.ownBlock = some g → B ≤ g ∧ Byt w g := by
  intro g hg
  rcases h.2 with ⟨rfl, _⟩ | ⟨g', cap, cur, rfl, hb, hh, _⟩
  · cases hg
  · simp only [Value.ownBlock, Option.some.injEq] at hg
    subst hg
    exact ⟨hb, _, _, hh⟩
theorem Wr.lt (h : Wr w B p v l b) : B ≤ p ∧ p < w.heap.size := ⟨h.1, h.2.1.lt⟩
theorem Wr.read (h : Wr w B p v l b) : ∃ A c, v = .slice A l.length c := h.2.2.read
theorem Wr.alloc (h : Wr w B p v l b) (o : Obj) : Wr (w.alloc o) B p v l b := ⟨h.1, h.2.1.alloc o, own_turns h.2.2 ((Turns.refl (fun _ => False) w).alloc o) (fun _ _ h => h)⟩
theorem Wr.below (h : Wr w B p v l b) (k : Below w.heap.size w w') : Wr w' B p v l b := ⟨h.1, h.2.1.below k h.2.1.lt, own_below h.2.2 k⟩
/-- behind an append onto what is written, stored in the writer -/
theorem Wr.put {v' : Value} {l' : List UInt8} (h : Wr w B p v l b) (hO : OwnB w' B v' l') (hg : w.grownBy w' v.ownBlock) : Wr (w'.setCell ⟨p, 0, none⟩ v') B p v' l' b ∧ Ch B p w (w'.setCell ⟨p, 0, none⟩ v') := by
  obtain ⟨hB, hL, hO0⟩ := h
  have T := Turns.appendedS hg
  have hL1 := hL.turns T (fun hh => ((hO0.byt _ hh).2).not_lies hL (by decide))
  have hne : ∀ g, v'.ownBlock = some g → g ≠ p := fun g hh e => by subst e; exact ((hO.byt _ hh).2).not_lies hL1 (by decide)
  refine ⟨⟨hB, hL1.stored 0 v', own_turns hO ((Turns.refl (fun k => k = p) w').setCell (p := ⟨p, 0, none⟩) (fun _ => rfl) v') (fun g hh => hne g hh)⟩, ?_⟩
  exact Turns.setCell (T.mono (fun i _ hi => .inr (hO0.byt i hi))) (fun _ => .inl rfl) v'
end

set_option maxRecDepth 100000 in
theorem put_any (w : World) (B p : Nat) (v : Value) (l t : List UInt8) (b : Bool) (h : Wr w B p v l b) (hl : l.length + t.length ≤ 1000000000) :
    Calls Tryz.prog 126 #[.pointer (some ⟨p, 0, none⟩), .string ⟨t.toArray⟩] w fun e w' => e = .returned (.tuple #[]) ∧ (∃ v', Wr w' B p v' (l ++ t) b) ∧ Ch B p w w' := by
  obtain ⟨A, c, rfl⟩ := h.read
  obtain ⟨hB, hp⟩ := h.lt
  have hL := h.2.1
  have y0 : w.cell? ⟨p, 0, none⟩ = some (.slice A l.length c) := hL.cell 0
  have f1 := hL.free
  obtain ⟨S, hS⟩ : ∃ S : ByteArray, ⟨t.toArray⟩ = S := ⟨_, rfl⟩
  have hSs : S.size = t.length := by rw [← hS]; rfl
  have hSd : Lib.strCells S = Lib.byteCells t := by rw [← hS]; rfl
  rw [hS]
  obtain ⟨i0, hi, hz0, hz1, hz2⟩ := info_parts Tryz.infoByte
  obtain ⟨n, hn⟩ : ∃ n, l.length = n := ⟨_, rfl⟩
  have hO : w.ownsRow B 5 1 (.slice A n c) n (Lib.byteCells l) := by have := h.2.2; unfold OwnB at this; rwa [hn] at this
  rw [hn] at y0 hl h
  have hn' := Lib.hid hn
  clear hn hL
  go_enter Tryz.func126, Tryz.ntmps126
  go_wp2_with (
    at_builtin
    refine Lib.wpList_append_own_string (P := Tryz.prog) w rfl _ _ 61 9 rfl B 5 i0 Tryz.underlying61 Tryz.underlying9 hi hz0 hz1 hz2 (.slice A n c) n (Lib.byteCells l) rfl hO S rfl (by rw [hSs]; unfold maxLen; omega) (by rw [hSs]; omega) (by omega) ?_
    intro v9 w9 hown9 hg9 _
    have hO9 : OwnB w9 B v9 (l ++ t) := by
      unfold OwnB
      rw [List.length_append, hn'.out, ← hSs, Lib.byteCells, List.map_append, ← Lib.byteCells, ← Lib.byteCells, ← hSd]
      exact hown9
    obtain ⟨m9, hm9⟩ : ∃ m, (l ++ t).length = m := ⟨_, rfl⟩
    obtain ⟨A9, c9, e9⟩ := hO9.read
    rw [hm9] at e9
    subst e9
    have hW := Wr.put h hO9 hg9
    have y9 : w9.cell? ⟨p, 0, none⟩ = some (.slice A n c) := by
      have T := Turns.appendedS hg9
      exact ((h.2.1).turns T (fun hh => ((h.2.2.byt _ hh).2).not_lies h.2.1 (by decide))).cell 0
    have f9 := ((h.2.1).turns (Turns.appendedS hg9) (fun hh => ((h.2.2.byt _ hh).2).not_lies h.2.1 (by decide))).free
    clear hown9 hg9 hO9 hm9)
  go_end0
  exact ⟨rfl, ⟨_, hW.1⟩, hW.2⟩
end Go.Proofs.YtpiekdcbjkgipaaGreatDoor

/- A character's text, as package show and the document's own answer give it. -/
namespace Go.Proofs.YtpiekdcbjkgipaaGreatDoor
open Go.ChangeShapes Go.WideShapes Go.ChangeAt Go.RowKit

theorem ba_ext {a b : ByteArray} (h : a.data.toList = b.data.toList) : a = b := by
  cases a; cases b; congr; exact Array.toList_inj.1 h
def SM.cnm (c : Int) : List UInt8 :=
  if c = 32 then [115, 112, 97, 99, 101] else if c = 10 then [110, 101, 119, 108, 105, 110, 101] else if c = 9 then [116, 97, 98] else if c = 0 then [110, 117, 108] else [UInt8.ofNat c.toNat]
theorem SM.chr_of {c : Int} (h0 : 0 ≤ c) (h1 : c ≤ 255) : SM.chr c = 35 :: 92 :: SM.cnm c := by
  unfold SM.chr SM.cnm
  rw [if_neg (by omega)]
  repeat' split
  all_goals rfl
set_option maxRecDepth 100000 in
theorem charName_any (c : Int) (w : World) : Calls Tryz.prog 146 #[.int .u8 c] w fun e w' => e = .returned (.string ⟨(SM.cnm c).toArray⟩) ∧ Went w w' := by
  by_cases h1 : c = 32
  · subst h1
    go_enter Tryz.func146, Tryz.ntmps146
    go_wp2_with fail
    go_ret
    exact ⟨rfl, Went.refl w⟩
  · by_cases h2 : c = 10
    · subst h2
      go_enter Tryz.func146, Tryz.ntmps146
      go_wp2_with fail
      go_ret
      exact ⟨rfl, Went.refl w⟩
    · by_cases h3 : c = 9
      · subst h3
        go_enter Tryz.func146, Tryz.ntmps146
        go_wp2_with fail
        go_ret
        exact ⟨rfl, Went.refl w⟩
      · by_cases h4 : c = 0
        · subst h4
          go_enter Tryz.func146, Tryz.ntmps146
          go_wp2_with fail
          go_ret
          exact ⟨rfl, Went.refl w⟩
        · have hx : SM.cnm c = [UInt8.ofNat c.toNat] := by unfold SM.cnm; rw [if_neg h1, if_neg h2, if_neg h3, if_neg h4]
          rw [hx]
          have hc := conv_one w c
          clear hx
          go_enter Tryz.func146, Tryz.ntmps146
          go_wp2_with fail
          go_ret
          exact ⟨ret_s (ba_ext (by simp [ByteArray.push])), went_alloc _ _⟩
theorem u8_in {c : Int} (h0 : 0 ≤ c) (h1 : c ≤ 255) : IntKind.u8.wrap c = c := by
  unfold IntKind.wrap
  simp [IntKind.bits, IntKind.signed]
  omega
theorem Char_any (c : Int) (w : World) : Calls Tryz.prog 141 #[.int .i64 c] w fun e w' => e = .returned (.string ⟨(SM.chr c).toArray⟩) ∧ Went w w' := by
  by_cases h : c < 0 ∨ 255 < c
  · have hx : SM.chr c = [] := by unfold SM.chr; rw [if_pos h]
    rw [hx]
    clear hx
    rcases h with h | h
    all_goals
      go_enter Tryz.func141, Tryz.ntmps141
      go_wp2_with fail
      go_ret
      exact ⟨rfl, Went.refl w⟩
  · have h0 : 0 ≤ c := by omega
    have h1 : c ≤ 255 := by omega
    clear h
    rw [SM.chr_of h0 h1]
    have hu := u8_in h0 h1
    have hn := Lib.hid (charName_any c)
    obtain ⟨S, hS⟩ : ∃ S : ByteArray, ⟨(SM.cnm c).toArray⟩ = S := ⟨_, rfl⟩
    have hSz : S.size ≤ 7 := by
      rw [← hS]
      show (SM.cnm c).toArray.size ≤ 7
      unfold SM.cnm
      repeat' split
      all_goals simp
    rw [hS] at hn
    have hS' := Lib.hid hS
    clear hS
    go_enter Tryz.func141, Tryz.ntmps141
    go_wp2_with (go_at_call 146; refine (hn.out _).mono ?_; rintro e w' ⟨rfl, hb⟩)
    go_ret
    exact ⟨ret_s (by rw [← hS'.out]; exact ba_ext (by simp)), hb⟩
set_option maxRecDepth 100000 in
theorem rChar_any (c : Int) (w : World) : Calls Tryz.prog 97 #[.int .i64 c] w fun e w' => e = .returned (.string ⟨(SM.chr c).toArray⟩) ∧ Went w w' := by
  by_cases h : c < 0 ∨ 255 < c
  · have hx : SM.chr c = [] := by unfold SM.chr; rw [if_pos h]
    rw [hx]
    clear hx
    rcases h with h | h
    all_goals
      go_enter Tryz.func97, Tryz.ntmps97
      go_wp2_with fail
      go_ret
      exact ⟨rfl, Went.refl w⟩
  · have h0 : 0 ≤ c := by omega
    have h1 : c ≤ 255 := by omega
    clear h
    have hu := u8_in h0 h1
    by_cases h1 : c = 32
    · subst h1
      go_enter Tryz.func97, Tryz.ntmps97
      go_wp2_with fail
      go_ret
      exact ⟨rfl, Went.refl w⟩
    · by_cases h2 : c = 10
      · subst h2
        go_enter Tryz.func97, Tryz.ntmps97
        go_wp2_with fail
        go_ret
        exact ⟨rfl, Went.refl w⟩
      · by_cases h3 : c = 9
        · subst h3
          go_enter Tryz.func97, Tryz.ntmps97
          go_wp2_with fail
          go_ret
          exact ⟨rfl, Went.refl w⟩
        · by_cases h4 : c = 0
          · subst h4
            go_enter Tryz.func97, Tryz.ntmps97
            go_wp2_with fail
            go_ret
            exact ⟨rfl, Went.refl w⟩
          · have hx : SM.chr c = [35, 92, UInt8.ofNat c.toNat] := by unfold SM.chr; rw [if_neg (by omega), if_neg h1, if_neg h2, if_neg h3, if_neg h4]
            rw [hx]
            have hc := conv_one w c
            clear hx
            go_enter Tryz.func97, Tryz.ntmps97
            go_wp2_with fail
            go_ret
            exact ⟨ret_s (ba_ext (by simp [ByteArray.push])), went_alloc _ _⟩
theorem truth_any (n : Int) (w : World) : Calls Tryz.prog 128 #[.int .i64 n] w fun e w' => e = .returned (.string ⟨(if n = 0 then [35, 102] else [35, 116] : List UInt8).toArray⟩) ∧ Went w w' := by
  by_cases h : n = 0
  · subst h
    go_enter Tryz.func128, Tryz.ntmps128
    go_wp2_with fail
    go_ret
    exact ⟨rfl, Went.refl w⟩
  · rw [if_neg h]
    go_enter Tryz.func128, Tryz.ntmps128
    go_wp2_with fail
    go_ret
    exact ⟨rfl, Went.refl w⟩

/-! ### the writer's own -/
set_option maxRecDepth 100000 in
theorem char_any (w : World) (B p : Nat) (v : Value) (l : List UInt8) (b : Bool) (c : Int) (h : Wr w B p v l b) (hl : l.length ≤ 900000000) (h0 : 0 ≤ c) (h1 : c ≤ 255) :
    Calls Tryz.prog 129 #[.pointer (some ⟨p, 0, none⟩), .int .i64 c] w fun e w' => e = .returned (.tuple #[]) ∧ (∃ v', Wr w' B p v' (l ++ (if b then [UInt8.ofNat c.toNat] else SM.chr c)) b) ∧ Ch B p w w' := by
  have hL := h.2.1
  obtain ⟨hB, hp⟩ := h.lt
  have y1 : w.cell? ⟨p, 1, none⟩ = some (.bool b) := hL.cell 1
  cases b
  · have hC := Lib.hid (Char_any c)
    have hP := Lib.hid (fun w' (hb : Below w.heap.size w w') => put_any w' B p v l (SM.chr c) false (h.below hb) (by have := SM.chr_len c; omega))
    clear hL
    go_enter Tryz.func129, Tryz.ntmps129
    go_wp2_with (first
      | (go_at_call 141; refine (hC.out _).mono ?_; rintro e w1 ⟨rfl, hb⟩)
      | (go_at_call 126; refine (hP.out _ hb).mono ?_; rintro e w2 ⟨rfl, hW, hc⟩))
    go_end0
    exact ⟨rfl, hW, (Ch.of_below hb).trans hc⟩
  · obtain ⟨A, c9, rfl⟩ := h.read
    have y0 : w.cell? ⟨p, 0, none⟩ = some (.slice A l.length c9) := hL.cell 0
    have f1 := hL.free
    have hu := u8_in h0 h1
    obtain ⟨n, hn⟩ : ∃ n, l.length = n := ⟨_, rfl⟩
    have hO : w.ownsRow B 5 1 (.slice A n c9) n (Lib.byteCells l) := by have := h.2.2; unfold OwnB at this; rwa [hn] at this
    rw [hn] at y0 hl h
    have hn' := Lib.hid hn
    clear hn hL
    go_enter Tryz.func129, Tryz.ntmps129
    go_wp2_with (
      at_builtin
      refine wpList_append_own (v := .slice A n c9) (x := .slice (some ⟨w.heap.size, 0, none⟩) 1 1) (.int .u8 0) 1 Tryz.infoByte rfl (by decide) rfl _ _ 61 rfl Tryz.underlying61 rfl rfl (own_turns hO ((Turns.refl (fun _ => False) _).alloc _) (fun _ _ h => h)) (own_one (B := 0) w #[.int .u8 c] rfl (Nat.zero_le _)) (by simp [Value.oneCell']) (by omega) (by omega) (by simp; omega) ?_
      intro v9 w9 hown9 hg9 _
      have hO9 : OwnB w9 B v9 (l ++ [UInt8.ofNat c.toNat]) := by
        unfold OwnB
        rw [List.length_append, hn'.out, ← byte_push, show ((UInt8.ofNat c.toNat).toNat : Int) = c by simp; omega]
        exact hown9
      obtain ⟨m9, hm9⟩ : ∃ m, (l ++ [UInt8.ofNat c.toNat]).length = m := ⟨_, rfl⟩
      obtain ⟨A9, c10, e9⟩ := hO9.read
      rw [hm9] at e9
      subst e9
      have h' := h.alloc (.cells #[.int .u8 c] 5)
      have hW := Wr.put h' hO9 hg9
      have T := Turns.appendedS hg9
      have hL9 := (h'.2.1).turns T (fun hh => ((h'.2.2.byt _ hh).2).not_lies h'.2.1 (by decide))
      have y9 : w9.cell? ⟨p, 0, none⟩ = some (.slice A n c9) := hL9.cell 0
      have f9 := hL9.free
      clear hown9 hg9 hO9 hm9 hL9 T)
    exact bodyPost_ret (v := .tuple #[]) (by simp [results, Tryz.results129, go_sem]) rfl ⟨rfl, ⟨_, hW.1⟩, Ch.of_alloc hW.2⟩
end Go.Proofs.YtpiekdcbjkgipaaGreatDoor

/- A string within its marks: the writer's, and the document's own answer. -/
namespace Go.Proofs.YtpiekdcbjkgipaaGreatDoor
open Go.ChangeShapes Go.WideShapes Go.ChangeAt Go.RowKit

namespace SM
theorem esl_step {S : ByteArray} {k : Nat} (h : k < S.size) {r : List UInt8} (hr : es S[k] = r) : esl (S.data.toList.take (k + 1)) = esl (S.data.toList.take k) ++ r := by
  have hk : k < S.data.toList.length := by rw [size_len]; exact h
  have : S.data.toList.take (k + 1) = S.data.toList.take k ++ [S[k]] := by
    rw [List.take_succ_eq_append_getElem hk]; rfl
  rw [this, esl_snoc, hr]
theorem byte_num {c : UInt8} {n : Nat} (hn : n < 256) (h : (c.toNat : Int) = n) : c = UInt8.ofNat n := by
  apply UInt8.toNat.inj
  rw [UInt8.toNat_ofNat']
  omega
theorem byte_not {c : UInt8} {n : Nat} (hn : n < 256) (h : ¬ (c.toNat : Int) = n) : ¬ c = UInt8.ofNat n := by
  rintro rfl
  rw [UInt8.toNat_ofNat'] at h
  omega
end SM
theorem below_of_drew' (w : World) : Below w.heap.size w w.drew := ⟨rfl, rfl, rfl, Nat.le_refl _, fun _ _ => rfl⟩
set_option maxRecDepth 100000 in
set_option maxHeartbeats 4000000 in
theorem quoted_any (w : World) (B p : Nat) (v : Value) (l : List UInt8) (b : Bool) (S : ByteArray) (h : Wr w B p v l b) (hl : l.length ≤ 900000000) (hS : S.size ≤ 500) :
    Calls Tryz.prog 130 #[.pointer (some ⟨p, 0, none⟩), .string S] w fun e w' => e = .returned (.tuple #[]) ∧ (∃ v', Wr w' B p v' (l ++ SM.quo S.data.toList) b) ∧ Ch B p w w' := by
  have hP := Lib.hid (fun w' v' l' t => put_any w' B p v' l' t b)
  obtain ⟨hB, hp⟩ := h.lt
  go_enter Tryz.func130, Tryz.ntmps130
  go_wp2_with (
    go_at_call 126
    refine (hP.out w v l [34] h (by simp; omega)).mono ?_
    rintro e w1 ⟨rfl, ⟨v1, hW1⟩, hc1⟩)
  go_loopw [9] (fun i wr => ∃ (k : Nat) (vr : Value) (L : List UInt8), k ≤ S.size ∧ i = .int .i64 k ∧ Wr wr B p vr L b ∧ Hid (L = l ++ 34 :: SM.esl (S.data.toList.take k)) ∧ L.length ≤ l.length + 1 + 2 * k ∧ Ch B p w wr) (fun i _ => S.size - (intOf i).toNat)
  case atStart => exact ⟨0, v1, l ++ [34], by omega, rfl, hW1, Lib.hid (by simp [SM.esl]), by simp, hc1⟩
  case round =>
    obtain ⟨k, vr, L, hk, rfl, hW, hLq, hLl, hc⟩ := hrel
    clear hW1 hc1 h
    by_cases hlt : k < S.size
    · have hst := fun r hr => SM.esl_step (r := r) hlt hr
      have hst' := Lib.hid hst
      clear hst
      by_cases h10 : (S[k].toNat : Int) = 10
      · have e1 : ((S[k].toNat : Int) == 10) = true := by simp [h10]
        have hes : Hid (SM.es S[k] = [92, 110]) := Lib.hid (by rw [SM.byte_num (n := 10) (by omega) h10]; rfl)
        clear h10
        go_wp2_with (
          go_at_call 126
          refine (hP.out wr vr L [92, 110] hW (by simp; omega)).mono ?_
          rintro e w5 ⟨rfl, ⟨v5, hW5⟩, hc5⟩)
        go_roundw
        case rel => exact ⟨k + 1, v5, _, by omega, by go_num, hW5, Lib.hid (by rw [hLq.out, hst'.out _ hes.out]; simp), by simp; omega, hc.trans hc5⟩
        case measure => simp [intOf]; omega
      · have e1 : ((S[k].toNat : Int) == 10) = false := by simp; exact h10
        by_cases h9 : (S[k].toNat : Int) = 9
        · have e2 : ((S[k].toNat : Int) == 9) = true := by simp [h9]
          have hes : Hid (SM.es S[k] = [92, 116]) := Lib.hid (by rw [SM.byte_num (n := 9) (by omega) h9]; rfl)
          clear h10 h9
          go_wp2_with (
            go_at_call 126
            refine (hP.out wr vr L [92, 116] hW (by simp; omega)).mono ?_
            rintro e w5 ⟨rfl, ⟨v5, hW5⟩, hc5⟩)
          go_roundw
          case rel => exact ⟨k + 1, v5, _, by omega, by go_num, hW5, Lib.hid (by rw [hLq.out, hst'.out _ hes.out]; simp), by simp; omega, hc.trans hc5⟩
          case measure => simp [intOf]; omega
        · have e2 : ((S[k].toNat : Int) == 9) = false := by simp; exact h9
          by_cases hq : (S[k].toNat : Int) = 92 ∨ (S[k].toNat : Int) = 34
          · have hes : Hid (SM.es S[k] = [92, S[k]]) := Lib.hid (by
              rcases hq with hq | hq
              · have := SM.byte_num (n := 92) (by omega) hq
                rw [this]; rfl
              · have := SM.byte_num (n := 34) (by omega) hq
                rw [this]; rfl)
            clear h10 h9
            rcases hq with hq | hq
            all_goals
              first
                | (have e3 : ((S[k].toNat : Int) == 92) = true := by simp [hq]
                   have hz := Lib.hid hq
                   clear hq)
                | (have e3 : ((S[k].toNat : Int) == 92) = false := by simp; omega
                   have e4 : ((S[k].toNat : Int) == 34) = true := by simp [hq]
                   have hz := Lib.hid hq
                   clear hq)
              go_wp2_with (
                go_at_call 126
                refine (hP.out wr vr L [92] hW (by simp; omega)).mono ?_
                rintro e w5 ⟨rfl, ⟨v5, hW5⟩, hc5⟩
                obtain ⟨A5, c5, e5⟩ := hW5.read
                obtain ⟨n5, hn5'⟩ : ∃ n, (L ++ [92]).length = n := ⟨_, rfl⟩
                rw [hn5'] at e5
                subst e5
                have hO5 : w5.ownsRow B 5 1 (.slice A5 n5 c5) n5 (Lib.byteCells (L ++ [92])) := by have := hW5.2.2; unfold OwnB at this; rwa [hn5'] at this
                have hLl5 : n5 ≤ l.length + 2 + 2 * k := by rw [← hn5']; simp; omega
                have y0 : w5.cell? ⟨p, 0, none⟩ = some (.slice A5 n5 c5) := hW5.2.1.cell 0
                have f0 := hW5.2.1.free
                have hn5 := Lib.hid hn5'
                have hpl := hW5.lt.2
                clear hn5')
              go_region_law
                ((first
              | (refine step_append_own (v := .slice A5 n5 c5) (.int .u8 0) 1 Tryz.infoByte rfl (by decide) (by rfl) _ _ 61 (by rfl) Tryz.underlying61 (by rfl) (by rfl) (own_turns hO5 (((Turns.refl (fun _ => False) w5).alloc (.cells #[.int .u8 S[k].toNat] 5)).drew) (fun _ _ h => h)) (own_turns (own_one (B := 0) w5 #[.int .u8 S[k].toNat] rfl (Nat.zero_le _)) ((Turns.refl (fun _ => False) _).drew) (fun _ _ h => h)) (by simp [Value.oneCell']) (by omega) (by omega) (by simp; omega) ?_
                 intro v9 w9 hown9 hg9 _
                 have hO9 : OwnB w9 B v9 ((L ++ [92]) ++ [S[k]]) := by
                   unfold OwnB
                   rw [List.length_append, hn5.out, ← byte_push]
                   exact hown9
                 obtain ⟨m9, hm9⟩ : ∃ m, ((L ++ [92]) ++ [S[k]]).length = m := ⟨_, rfl⟩
                 obtain ⟨A9, c9, e9⟩ := hO9.read
                 rw [hm9] at e9
                 subst e9
                 have h' := (hW5.alloc (.cells #[.int .u8 S[k].toNat] 5)).below (below_of_drew' _)
                 have hW9 := Wr.put h' hO9 hg9
                 have T := Turns.appendedS hg9
                 have hL9 := (h'.2.1).turns T (fun hh => ((h'.2.2.byt _ hh).2).not_lies h'.2.1 (by decide))
                 have y9 : w9.cell? ⟨p, 0, none⟩ = some (.slice A5 n5 c5) := hL9.cell 0
                 have f9 := hL9.free
                 clear hown9 hg9 hO9 hm9 hL9 T h')))
              all_goals
                go_wp2_with fail
                go_roundw
                case rel => exact ⟨k + 1, _, _, by omega, by go_num, hW9.1, Lib.hid (by rw [hLq.out, hst'.out _ hes.out]; simp), by rw [List.length_append, hn5.out]; simp; omega, (hc.trans hc5).trans (Ch.of_alloc (Ch.trans (Ch.of_below (below_of_drew' _)) hW9.2))⟩
                case measure => simp [intOf]; omega
          · have e3 : ((S[k].toNat : Int) == 92) = false := by simp; omega
            have e4 : ((S[k].toNat : Int) == 34) = false := by simp; omega
            have hes : Hid (SM.es S[k] = [S[k]]) := Lib.hid (by
              unfold SM.es
              rw [if_neg (show ¬ S[k] = 10 from SM.byte_not (n := 10) (by omega) h10), if_neg (show ¬ S[k] = 9 from SM.byte_not (n := 9) (by omega) h9), if_neg]
              rintro (h | h)
              · rw [h] at hq; exact hq (.inl rfl)
              · rw [h] at hq; exact hq (.inr rfl))
            clear h10 h9 hq
            obtain ⟨A5, c5, rfl⟩ := hW.read
            obtain ⟨n5, hn5'⟩ : ∃ n, L.length = n := ⟨_, rfl⟩
            have hO5 : wr.ownsRow B 5 1 (.slice A5 n5 c5) n5 (Lib.byteCells L) := by have := hW.2.2; unfold OwnB at this; rwa [hn5'] at this
            rw [hn5'] at hW hLl
            have y0 : wr.cell? ⟨p, 0, none⟩ = some (.slice A5 n5 c5) := hW.2.1.cell 0
            have f0 := hW.2.1.free
            have hn5 := Lib.hid hn5'
            have hpl := hW.lt.2
            clear hn5'
            go_wp2_with fail
            go_region_law
              ((first
            | (refine step_append_own (v := .slice A5 n5 c5) (.int .u8 0) 1 Tryz.infoByte rfl (by decide) (by rfl) _ _ 61 (by rfl) Tryz.underlying61 (by rfl) (by rfl) (own_turns hO5 (((Turns.refl (fun _ => False) wr).alloc (.cells #[.int .u8 S[k].toNat] 5)).drew) (fun _ _ h => h)) (own_turns (own_one (B := 0) wr #[.int .u8 S[k].toNat] rfl (Nat.zero_le _)) ((Turns.refl (fun _ => False) _).drew) (fun _ _ h => h)) (by simp [Value.oneCell']) (by omega) (by omega) (by simp; omega) ?_
               intro v9 w9 hown9 hg9 _
               have hO9 : OwnB w9 B v9 (L ++ [S[k]]) := by
                 unfold OwnB
                 rw [List.length_append, hn5.out, ← byte_push]
                 exact hown9
               obtain ⟨m9, hm9⟩ : ∃ m, (L ++ [S[k]]).length = m := ⟨_, rfl⟩
               obtain ⟨A9, c9, e9⟩ := hO9.read
               rw [hm9] at e9
               subst e9
               have h' := (hW.alloc (.cells #[.int .u8 S[k].toNat] 5)).below (below_of_drew' _)
               have hW9 := Wr.put h' hO9 hg9
               have T := Turns.appendedS hg9
               have hL9 := (h'.2.1).turns T (fun hh => ((h'.2.2.byt _ hh).2).not_lies h'.2.1 (by decide))
               have y9 : w9.cell? ⟨p, 0, none⟩ = some (.slice A5 n5 c5) := hL9.cell 0
               have f9 := hL9.free
               clear hown9 hg9 hO9 hm9 hL9 T h')))
            all_goals
              go_wp2_with fail
              go_roundw
              case rel => exact ⟨k + 1, _, _, by omega, by go_num, hW9.1, Lib.hid (by rw [hLq.out, hst'.out _ hes.out]; simp), by rw [List.length_append, hn5.out]; simp; omega, hc.trans (Ch.of_alloc (Ch.trans (Ch.of_below (below_of_drew' _)) hW9.2))⟩
              case measure => simp [intOf]; omega
    · obtain rfl : k = S.size := by omega
      go_wp2_with (
        go_at_call 126
        refine (hP.out wr vr L [34] hW (by simp; omega)).mono ?_
        rintro e w5 ⟨rfl, ⟨v5, hW5⟩, hc5⟩)
      go_end0
      refine ⟨rfl, ⟨v5, ?_⟩, hc.trans hc5⟩
      have hL := hLq.out
      rw [List.take_of_length_le (by rw [size_len]; exact Nat.le_refl _)] at hL
      rw [hL] at hW5
      unfold SM.quo
      simpa using hW5
end Go.Proofs.YtpiekdcbjkgipaaGreatDoor

/- The document's own answer: a string within its marks. -/
namespace Go.Proofs.YtpiekdcbjkgipaaGreatDoor
open Go.ChangeShapes Go.WideShapes Go.ChangeAt Go.RowKit

theorem own_pair (w : World) (a b : Value) : (w.alloc (.cells #[a, b] 5)).ownsRow 0 5 1 (.slice (some ⟨w.heap.size, 0, none⟩) 2 2) 2 [a, b] :=
  ⟨rfl, .inr ⟨w.heap.size, 2, #[a, b], rfl, Nat.zero_le _, heap_alloc_new w _, Nat.le_refl _, by unfold maxLen; omega, rfl, rfl⟩⟩
theorem byte_cells2 (l : List UInt8) (a b : UInt8) : Lib.byteCells l ++ [Value.int .u8 (a.toNat : Int), Value.int .u8 (b.toNat : Int)] = Lib.byteCells (l ++ [a, b]) := by simp [Lib.byteCells]
set_option maxRecDepth 100000 in
set_option maxHeartbeats 4000000 in
theorem rstr_any (w : World) (S : ByteArray) (hS : S.size ≤ 500) :
    Calls Tryz.prog 98 #[.string S] w fun e w' => e = .returned (.string ⟨(SM.quo S.data.toList).toArray⟩) ∧ Went w w' := by
  go_enter Tryz.func98, Tryz.ntmps98
  go_wp2_with fail
  go_loopw [3, 4] (fun v3 i wr => ∃ (k n : Nat) (A : Option Addr) (c : Nat) (L : List UInt8), k ≤ S.size ∧ i = .int .i64 k ∧ v3 = .slice A n c ∧ wr.ownsRow w.heap.size 5 1 (.slice A n c) n (Lib.byteCells L) ∧ Hid (L.length = n) ∧ Hid (L = 34 :: SM.esl (S.data.toList.take k)) ∧ n ≤ 1 + 2 * k ∧ Below w.heap.size w wr) (fun _ i _ => S.size - (intOf i).toNat)
  case atStart => exact ⟨0, 1, _, _, [34], by omega, rfl, rfl, own_one w #[.int .u8 34] rfl (Nat.le_refl _), Lib.hid rfl, Lib.hid (by simp [SM.esl]), by omega, went_alloc _ _⟩
  case round =>
    obtain ⟨k, n, A, c, L, hk, rfl, rfl, hO, hn, hLq, hnk, hb⟩ := hrel
    have hsz := hb.size
    by_cases hlt : k < S.size
    · have hst := fun r hr => SM.esl_step (r := r) hlt hr
      have hst' := Lib.hid hst
      clear hst
      by_cases h10 : (S[k].toNat : Int) = 10
      · have e1 : ((S[k].toNat : Int) == 10) = true := by simp [h10]
        have hes : Hid (SM.es S[k] = [92, 110]) := Lib.hid (by rw [SM.byte_num (n := 10) (by omega) h10]; rfl)
        clear h10
        go_wp2_with (
          at_builtin
          refine wpList_append_row (v := .slice A n c) (x := .slice (some ⟨wr.heap.size, 0, none⟩) 2 2) (.int .u8 0) 1 Tryz.infoByte rfl (by decide) rfl _ _ 61 rfl Tryz.underlying61 rfl rfl (own_turns hO ((Turns.refl (fun _ => False) _).alloc _) (fun _ _ h => h)) (own_pair wr (.int .u8 92) (.int .u8 110)) (by simp [Value.oneCell']) (by omega) (by omega) (by simp; omega) ?_
          intro v9 w9 hown9 hg9 _
          have hb9 : Below w.heap.size w w9 := (hb.alloc hb.size _).trans (Turns.below (Turns.appendedS hg9) (by simp; omega) (fun g hg => (World.ownsRow.lt hO g hg).1))
          obtain ⟨A9, c9, e9, -⟩ := own_read hown9
          subst e9
          clear hg9)
        go_roundw
        case rel => exact ⟨k + 1, n + 2, A9, c9, L ++ [92, 110], by omega, by go_num, rfl, by rw [← byte_cells2]; exact hown9, Lib.hid (by rw [List.length_append, hn.out]; rfl), Lib.hid (by rw [hLq.out, hst'.out _ hes.out]; simp), by omega, hb9⟩
        case measure => simp [intOf]; omega
      · have e1 : ((S[k].toNat : Int) == 10) = false := by simp; exact h10
        by_cases h9 : (S[k].toNat : Int) = 9
        · have e2 : ((S[k].toNat : Int) == 9) = true := by simp [h9]
          have hes : Hid (SM.es S[k] = [92, 116]) := Lib.hid (by rw [SM.byte_num (n := 9) (by omega) h9]; rfl)
          clear h10 h9
          go_wp2_with (
            at_builtin
            refine wpList_append_row (v := .slice A n c) (x := .slice (some ⟨wr.heap.size, 0, none⟩) 2 2) (.int .u8 0) 1 Tryz.infoByte rfl (by decide) rfl _ _ 61 rfl Tryz.underlying61 rfl rfl (own_turns hO ((Turns.refl (fun _ => False) _).alloc _) (fun _ _ h => h)) (own_pair wr (.int .u8 92) (.int .u8 116)) (by simp [Value.oneCell']) (by omega) (by omega) (by simp; omega) ?_
            intro v9 w9 hown9 hg9 _
            have hb9 : Below w.heap.size w w9 := (hb.alloc hb.size _).trans (Turns.below (Turns.appendedS hg9) (by simp; omega) (fun g hg => (World.ownsRow.lt hO g hg).1))
            obtain ⟨A9, c9, e9, -⟩ := own_read hown9
            subst e9
            clear hg9)
          go_roundw
          case rel => exact ⟨k + 1, n + 2, A9, c9, L ++ [92, 116], by omega, by go_num, rfl, by rw [← byte_cells2]; exact hown9, Lib.hid (by rw [List.length_append, hn.out]; rfl), Lib.hid (by rw [hLq.out, hst'.out _ hes.out]; simp), by omega, hb9⟩
          case measure => simp [intOf]; omega
        · have e2 : ((S[k].toNat : Int) == 9) = false := by simp; exact h9
          by_cases hq : (S[k].toNat : Int) = 92 ∨ (S[k].toNat : Int) = 34
          · have hes : Hid (SM.es S[k] = [92, S[k]]) := Lib.hid (by
              rcases hq with hq | hq
              · have := SM.byte_num (n := 92) (by omega) hq
                rw [this]; rfl
              · have := SM.byte_num (n := 34) (by omega) hq
                rw [this]; rfl)
            clear h10 h9
            rcases hq with hq | hq
            all_goals
              first
                | (have e3 : ((S[k].toNat : Int) == 92) = true := by simp [hq]
                   have hz := Lib.hid hq
                   clear hq)
                | (have e3 : ((S[k].toNat : Int) == 92) = false := by simp; omega
                   have e4 : ((S[k].toNat : Int) == 34) = true := by simp [hq]
                   have hz := Lib.hid hq
                   clear hq)
              go_wp2_with (
                at_builtin
                refine wpList_append_row (v := .slice A n c) (x := .slice (some ⟨wr.heap.size, 0, none⟩) 2 2) (.int .u8 0) 1 Tryz.infoByte rfl (by decide) rfl _ _ 61 rfl Tryz.underlying61 rfl rfl (own_turns hO ((Turns.refl (fun _ => False) _).alloc _) (fun _ _ h => h)) (own_pair wr (.int .u8 92) (.int .u8 S[k].toNat)) (by simp [Value.oneCell']) (by omega) (by omega) (by simp; omega) ?_
                intro v9 w9 hown9 hg9 _
                have hb9 : Below w.heap.size w w9 := (hb.alloc hb.size _).trans (Turns.below (Turns.appendedS hg9) (by simp; omega) (fun g hg => (World.ownsRow.lt hO g hg).1))
                obtain ⟨A9, c9, e9, -⟩ := own_read hown9
                subst e9
                clear hg9)
              go_roundw
              case rel => exact ⟨k + 1, n + 2, A9, c9, L ++ [92, S[k]], by omega, by go_num, rfl, by rw [← byte_cells2]; exact hown9, Lib.hid (by rw [List.length_append, hn.out]; rfl), Lib.hid (by rw [hLq.out, hst'.out _ hes.out]; simp), by omega, hb9⟩
              case measure => simp [intOf]; omega
          · have e3 : ((S[k].toNat : Int) == 92) = false := by simp; omega
            have e4 : ((S[k].toNat : Int) == 34) = false := by simp; omega
            have hes : Hid (SM.es S[k] = [S[k]]) := Lib.hid (by
              unfold SM.es
              rw [if_neg (show ¬ S[k] = 10 from SM.byte_not (n := 10) (by omega) h10), if_neg (show ¬ S[k] = 9 from SM.byte_not (n := 9) (by omega) h9), if_neg]
              rintro (h | h)
              · rw [h] at hq; exact hq (.inl rfl)
              · rw [h] at hq; exact hq (.inr rfl))
            clear h10 h9 hq
            go_wp2_with (
              at_builtin
              refine wpList_append_own (v := .slice A n c) (x := .slice (some ⟨wr.heap.size, 0, none⟩) 1 1) (.int .u8 0) 1 Tryz.infoByte rfl (by decide) rfl _ _ 61 rfl Tryz.underlying61 rfl rfl (own_turns hO ((Turns.refl (fun _ => False) _).alloc _) (fun _ _ h => h)) (own_one (B := 0) wr #[.int .u8 S[k].toNat] rfl (Nat.zero_le _)) (by simp [Value.oneCell']) (by omega) (by omega) (by simp; omega) ?_
              intro v9 w9 hown9 hg9 _
              have hb9 : Below w.heap.size w w9 := (hb.alloc hb.size _).trans (Turns.below (Turns.appendedS hg9) (by simp; omega) (fun g hg => (World.ownsRow.lt hO g hg).1))
              obtain ⟨A9, c9, e9, -⟩ := own_read hown9
              subst e9
              clear hg9)
            go_roundw
            case rel => exact ⟨k + 1, n + 1, A9, c9, L ++ [S[k]], by omega, by go_num, rfl, by rw [← byte_push]; exact hown9, Lib.hid (by rw [List.length_append, hn.out]; rfl), Lib.hid (by rw [hLq.out, hst'.out _ hes.out]; simp), by omega, hb9⟩
            case measure => simp [intOf]; omega
    · obtain rfl : k = S.size := by omega
      go_wp2_with (
        at_builtin
        refine wpList_append_own (v := .slice A n c) (x := .slice (some ⟨wr.heap.size, 0, none⟩) 1 1) (.int .u8 0) 1 Tryz.infoByte rfl (by decide) rfl _ _ 61 rfl Tryz.underlying61 rfl rfl (own_turns hO ((Turns.refl (fun _ => False) _).alloc _) (fun _ _ h => h)) (own_one (B := 0) wr #[.int .u8 34] rfl (Nat.zero_le _)) (by simp [Value.oneCell']) (by omega) (by omega) (by simp; omega) ?_
        intro v9 w9 hown9 hg9 _
        have hb9 : Below w.heap.size w w9 := (hb.alloc hb.size _).trans (Turns.below (Turns.appendedS hg9) (by simp; omega) (fun g hg => (World.ownsRow.lt hO g hg).1))
        have hO9 : OwnB w9 w.heap.size v9 (L ++ [34]) := by
          unfold OwnB
          rw [List.length_append, hn.out, ← byte_push]
          exact hown9
        obtain ⟨A9, c9, e9, -⟩ := own_read hown9
        subst e9
        have hcv := hO9.conv
        clear hg9 hown9)
      go_ret
      have hL := hLq.out
      rw [List.take_of_length_le (by rw [size_len]; exact Nat.le_refl _)] at hL
      exact ⟨ret_s (by rw [hL]; rfl), hb9⟩
end Go.Proofs.YtpiekdcbjkgipaaGreatDoor
