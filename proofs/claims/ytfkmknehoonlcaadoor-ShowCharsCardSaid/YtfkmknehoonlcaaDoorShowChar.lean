/- A character's text, as package show and the document's own answer give it. -/
import Derived.Test.YtfkmknehoonlcaaDoorShowPut
namespace Go.Proofs.YtfkmknehoonlcaaDoor
open Go.ChangeShapes Go.WideShapes Go.ChangeAt Go.RowKit

theorem ba_ext {a b : ByteArray} (h : a.data.toList = b.data.toList) : a = b := by
  cases a; cases b; congr; exact Array.toList_inj.1 h
def SM.cnm (c : Int) : List UInt8 :=
  if c = 32 then [115, 112, 97, 99, 101] else if c = 10 then [110, 101, 119, 108, 105, 110, 101] else if c = 9 then [116, 97, 98] else if c = 0 then [110, 117, 108] else [UInt8.ofNat c.toNat]
theorem SM.chr_of {c : Int} (h0 : 0 ≤ c) (h1 : c ≤ 255) : SM.chr c = 35 :: 92 :: SM.cnm c := by
  unfold SM.chr SM.cnm
  rw [if_neg (by omega)]
  repeat' split
  all_goals rfl
set_option maxRecDepth 100000 in
theorem charName_any (c : Int) (w : World) : Calls Tryd.prog 24 #[.int .u8 c] w fun e w' => e = .returned (.string ⟨(SM.cnm c).toArray⟩) ∧ Went w w' := by
  by_cases h1 : c = 32
  · subst h1
    go_enter Tryd.func24, Tryd.ntmps24
    go_wp2_with fail
    go_ret
    exact ⟨rfl, Went.refl w⟩
  · by_cases h2 : c = 10
    · subst h2
      go_enter Tryd.func24, Tryd.ntmps24
      go_wp2_with fail
      go_ret
      exact ⟨rfl, Went.refl w⟩
    · by_cases h3 : c = 9
      · subst h3
        go_enter Tryd.func24, Tryd.ntmps24
        go_wp2_with fail
        go_ret
        exact ⟨rfl, Went.refl w⟩
      · by_cases h4 : c = 0
        · subst h4
          go_enter Tryd.func24, Tryd.ntmps24
          go_wp2_with fail
          go_ret
          exact ⟨rfl, Went.refl w⟩
        · have hx : SM.cnm c = [UInt8.ofNat c.toNat] := by unfold SM.cnm; rw [if_neg h1, if_neg h2, if_neg h3, if_neg h4]
          rw [hx]
          have hc := conv_one w c
          clear hx
          go_enter Tryd.func24, Tryd.ntmps24
          go_wp2_with fail
          go_ret
          exact ⟨ret_s (ba_ext (by simp [ByteArray.push])), went_alloc _ _⟩
theorem u8_in {c : Int} (h0 : 0 ≤ c) (h1 : c ≤ 255) : IntKind.u8.wrap c = c := by
  unfold IntKind.wrap
  simp [IntKind.bits, IntKind.signed]
  omega
theorem Char_any (c : Int) (w : World) : Calls Tryd.prog 14 #[.int .i64 c] w fun e w' => e = .returned (.string ⟨(SM.chr c).toArray⟩) ∧ Went w w' := by
  by_cases h : c < 0 ∨ 255 < c
  · have hx : SM.chr c = [] := by unfold SM.chr; rw [if_pos h]
    rw [hx]
    clear hx
    rcases h with h | h
    all_goals
      go_enter Tryd.func14, Tryd.ntmps14
      go_wp2_with fail
      go_ret
      exact ⟨rfl, Went.refl w⟩
  · have h0 : 0 ≤ c := by omega
    have h1 : c ≤ 255 := by omega
    clear h
    rw [SM.chr_of h0 h1]
    have hu := u8_in h0 h1
    have hn := Lib.hid (charName_any c)
    obtain ⟨S, hS⟩ : ∃ S : ByteArray, ⟨(SM.cnm c).toArray⟩ = S := ⟨_, rfl⟩
    have hSz : S.size ≤ 7 := by
      rw [← hS]
      show (SM.cnm c).toArray.size ≤ 7
      unfold SM.cnm
      repeat' split
      all_goals simp
    rw [hS] at hn
    have hS' := Lib.hid hS
    clear hS
    go_enter Tryd.func14, Tryd.ntmps14
    go_wp2_with (go_at_call 24; refine (hn.out _).mono ?_; rintro e w' ⟨rfl, hb⟩)
    go_ret
    exact ⟨ret_s (by rw [← hS'.out]; exact ba_ext (by simp)), hb⟩
set_option maxRecDepth 100000 in
theorem rChar_any (c : Int) (w : World) : Calls Tryd.prog 15 #[.int .i64 c] w fun e w' => e = .returned (.string ⟨(SM.chr c).toArray⟩) ∧ Went w w' := by
  by_cases h : c < 0 ∨ 255 < c
  · have hx : SM.chr c = [] := by unfold SM.chr; rw [if_pos h]
    rw [hx]
    clear hx
    rcases h with h | h
    all_goals
      go_enter Tryd.func15, Tryd.ntmps15
      go_wp2_with fail
      go_ret
      exact ⟨rfl, Went.refl w⟩
  · have h0 : 0 ≤ c := by omega
    have h1 : c ≤ 255 := by omega
    clear h
    have hu := u8_in h0 h1
    by_cases h1 : c = 32
    · subst h1
      go_enter Tryd.func15, Tryd.ntmps15
      go_wp2_with fail
      go_ret
      exact ⟨rfl, Went.refl w⟩
    · by_cases h2 : c = 10
      · subst h2
        go_enter Tryd.func15, Tryd.ntmps15
        go_wp2_with fail
        go_ret
        exact ⟨rfl, Went.refl w⟩
      · by_cases h3 : c = 9
        · subst h3
          go_enter Tryd.func15, Tryd.ntmps15
          go_wp2_with fail
          go_ret
          exact ⟨rfl, Went.refl w⟩
        · by_cases h4 : c = 0
          · subst h4
            go_enter Tryd.func15, Tryd.ntmps15
            go_wp2_with fail
            go_ret
            exact ⟨rfl, Went.refl w⟩
          · have hx : SM.chr c = [35, 92, UInt8.ofNat c.toNat] := by unfold SM.chr; rw [if_neg (by omega), if_neg h1, if_neg h2, if_neg h3, if_neg h4]
            rw [hx]
            have hc := conv_one w c
            clear hx
            go_enter Tryd.func15, Tryd.ntmps15
            go_wp2_with fail
            go_ret
            exact ⟨ret_s (ba_ext (by simp [ByteArray.push])), went_alloc _ _⟩
theorem truth_any (n : Int) (w : World) : Calls Tryd.prog 33 #[.int .i64 n] w fun e w' => e = .returned (.string ⟨(if n = 0 then [35, 102] else [35, 116] : List UInt8).toArray⟩) ∧ Went w w' := by
  by_cases h : n = 0
  · subst h
    go_enter Tryd.func33, Tryd.ntmps33
    go_wp2_with fail
    go_ret
    exact ⟨rfl, Went.refl w⟩
  · rw [if_neg h]
    go_enter Tryd.func33, Tryd.ntmps33
    go_wp2_with fail
    go_ret
    exact ⟨rfl, Went.refl w⟩

/-! ### the writer's own -/
set_option maxRecDepth 100000 in
theorem char_any (w : World) (B p : Nat) (v : Value) (l : List UInt8) (b : Bool) (c : Int) (h : Wr w B p v l b) (hl : l.length ≤ 900000000) (h0 : 0 ≤ c) (h1 : c ≤ 255) :
    Calls Tryd.prog 34 #[.pointer (some ⟨p, 0, none⟩), .int .i64 c] w fun e w' => e = .returned (.tuple #[]) ∧ (∃ v', Wr w' B p v' (l ++ (if b then [UInt8.ofNat c.toNat] else SM.chr c)) b) ∧ Ch B p w w' := by
  have hL := h.2.1
  obtain ⟨hB, hp⟩ := h.lt
  have y1 : w.cell? ⟨p, 1, none⟩ = some (.bool b) := hL.cell 1
  cases b
  · have hC := Lib.hid (Char_any c)
    have hP := Lib.hid (fun w' (hb : Below w.heap.size w w') => put_any w' B p v l (SM.chr c) false (h.below hb) (by have := SM.chr_len c; omega))
    clear hL
    go_enter Tryd.func34, Tryd.ntmps34
    go_wp2_with (first
      | (go_at_call 14; refine (hC.out _).mono ?_; rintro e w1 ⟨rfl, hb⟩)
      | (go_at_call 31; refine (hP.out _ hb).mono ?_; rintro e w2 ⟨rfl, hW, hc⟩))
    go_end0
    exact ⟨rfl, hW, (Ch.of_below hb).trans hc⟩
  · obtain ⟨A, c9, rfl⟩ := h.read
    have y0 : w.cell? ⟨p, 0, none⟩ = some (.slice A l.length c9) := hL.cell 0
    have f1 := hL.free
    have hu := u8_in h0 h1
    obtain ⟨n, hn⟩ : ∃ n, l.length = n := ⟨_, rfl⟩
    have hO : w.ownsRow B 5 1 (.slice A n c9) n (Lib.byteCells l) := by have := h.2.2; unfold OwnB at this; rwa [hn] at this
    rw [hn] at y0 hl h
    have hn' := Lib.hid hn
    clear hn hL
    go_enter Tryd.func34, Tryd.ntmps34
    go_wp2_with (
      at_builtin
      refine wpList_append_own (v := .slice A n c9) (x := .slice (some ⟨w.heap.size, 0, none⟩) 1 1) (.int .u8 0) 1 Tryd.infoByte rfl (by decide) rfl _ _ 46 rfl Tryd.underlying46 rfl rfl (own_turns hO ((Turns.refl (fun _ => False) _).alloc _) (fun _ _ h => h)) (own_one (B := 0) w #[.int .u8 c] rfl (Nat.zero_le _)) (by simp [Value.oneCell']) (by omega) (by omega) (by simp; omega) ?_
      intro v9 w9 hown9 hg9 _
      have hO9 : OwnB w9 B v9 (l ++ [UInt8.ofNat c.toNat]) := by
        unfold OwnB
        rw [List.length_append, hn'.out, ← byte_push, show ((UInt8.ofNat c.toNat).toNat : Int) = c by simp; omega]
        exact hown9
      obtain ⟨m9, hm9⟩ : ∃ m, (l ++ [UInt8.ofNat c.toNat]).length = m := ⟨_, rfl⟩
      obtain ⟨A9, c10, e9⟩ := hO9.read
      rw [hm9] at e9
      subst e9
      have h' := h.alloc (.cells #[.int .u8 c] 5)
      have hW := Wr.put h' hO9 hg9
      have T := Turns.appendedS hg9
      have hL9 := (h'.2.1).turns T (fun hh => ((h'.2.2.byt _ hh).2).not_lies h'.2.1 (by decide))
      have y9 : w9.cell? ⟨p, 0, none⟩ = some (.slice A n c9) := hL9.cell 0
      have f9 := hL9.free
      clear hown9 hg9 hO9 hm9 hL9 T)
    exact bodyPost_ret (v := .tuple #[]) (by simp [results, Tryd.results34, go_sem]) rfl ⟨rfl, ⟨_, hW.1⟩, Ch.of_alloc hW.2⟩
end Go.Proofs.YtfkmknehoonlcaaDoor
