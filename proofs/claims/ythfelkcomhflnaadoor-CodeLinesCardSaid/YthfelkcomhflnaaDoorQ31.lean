/- What package show's writer puts: a text, a byte, a string within its marks; a character's text. -/
import Derived.Test.YthfelkcomhflnaaDoorQ9
import Derived.Test.YthfelkcomhflnaaDoorQ2
import Derived.Test.YthfelkcomhflnaaDoorQ8
import Derived.Lib.AppendStr
import Derived.Deep.RegionHeld3
import Derived.Deep.RegionWith
namespace Go.Proofs.YthfelkcomhflnaaDoor
open Go.ChangeShapes Go.WideShapes Go.ChangeAt Go.RowKit

theorem went_alloc (w : World) (o : Obj) : Went w (w.alloc o) := (Below.refl _ w).alloc (Nat.le_refl _) _
/-- block k holds bytes -/
def Byt (w : World) (k : Nat) : Prop := ∃ c f, w.heap[k]? = some (.cells c 5 f)
/-- what a writer at p may turn: itself, and blocks of bytes from B on -/
def Ch (B p : Nat) (w w' : World) : Prop := Turns (fun k => k = p ∨ (B ≤ k ∧ Byt w k)) w w'
/-- the writer at p has written l -/
def Wr (w : World) (B p : Nat) (v : Value) (l : List UInt8) (b : Bool) : Prop := B ≤ p ∧ Lies w p 106 [v, .bool b] ∧ OwnB w B v l
section
variable {B p q : Nat} {w w' w2 : World} {v : Value} {l : List UInt8} {b : Bool} {t : TypeId} {cs : List Value}
theorem Byt.not_lies (hL : Lies w q t cs) (ht : t ≠ 5) (h : Byt w q) : False := by
  obtain ⟨c, f, h⟩ := h
  have := hL.symm.trans h
  simp at this
  exact ht this.2.1
theorem Ch.refl (B p : Nat) (w : World) : Ch B p w w := Turns.refl _ w
theorem Ch.trans (h : Ch B p w w') (k : Ch B p w' w2) : Ch B p w w2 := by
  refine Turns.then h k fun i hi hx => ?_
  rcases hx with hx | ⟨hx, c, f, hc⟩
  · exact .inl hx
  · by_cases hn : i = p ∨ (B ≤ i ∧ Byt w i)
    · exact hn
    · exact .inr ⟨hx, c, f, (Turns.block h i hi hn).symm.trans hc⟩
theorem Ch.of_below (h : Below w.heap.size w w') : Ch B p w w' := Turns.of_below h _
theorem Ch.below (h : Ch B p w w') (hp : B ≤ p) (hB : B ≤ w.heap.size) : Below B w w' := Turns.below h hB (fun i hi => by rcases hi with rfl | hi; exact hp; exact hi.1)
theorem Ch.size (h : Ch B p w w') : w.heap.size ≤ w'.heap.size := Turns.size h
theorem Ch.alloc (h : Ch B p w w') (o : Obj) : Ch B p w (w'.alloc o) := Turns.alloc h o
theorem Ch.of_alloc {o : Obj} (h : Ch B p (w.alloc o) w') : Ch B p w w' := Ch.trans ((Ch.refl B p w).alloc o) h
theorem Lies.ch (hL : Lies w q t cs) (ht : t ≠ 5) (hq : q ≠ p) (h : Ch B p w w') : Lies w' q t cs :=
  hL.turns h (fun hx => by rcases hx with hx | ⟨_, hx⟩; exact hq hx; exact hx.not_lies hL ht)
theorem OwnB.byt (h : OwnB w B v l) : ∀ g, v.ownBlock = some g → B ≤ g ∧ Byt w g := by
  intro g hg
  rcases h.2 with ⟨rfl, _⟩ | ⟨g', cap, cur, rfl, hb, hh, _⟩
  · cases hg
  · simp only [Value.ownBlock, Option.some.injEq] at hg
    subst hg
    exact ⟨hb, _, _, hh⟩
theorem Wr.lt (h : Wr w B p v l b) : B ≤ p ∧ p < w.heap.size := ⟨h.1, h.2.1.lt⟩
theorem Wr.read (h : Wr w B p v l b) : ∃ A c, v = .slice A l.length c := h.2.2.read
theorem Wr.alloc (h : Wr w B p v l b) (o : Obj) : Wr (w.alloc o) B p v l b := ⟨h.1, h.2.1.alloc o, own_turns h.2.2 ((Turns.refl (fun _ => False) w).alloc o) (fun _ _ h => h)⟩
theorem Wr.below (h : Wr w B p v l b) (k : Below w.heap.size w w') : Wr w' B p v l b := ⟨h.1, h.2.1.below k h.2.1.lt, own_below h.2.2 k⟩
/-- behind an append onto what is written, stored in the writer -/
theorem Wr.put {v' : Value} {l' : List UInt8} (h : Wr w B p v l b) (hO : OwnB w' B v' l') (hg : w.grownBy w' v.ownBlock) : Wr (w'.setCell ⟨p, 0, none⟩ v') B p v' l' b ∧ Ch B p w (w'.setCell ⟨p, 0, none⟩ v') := by
  obtain ⟨hB, hL, hO0⟩ := h
  have T := Turns.appendedS hg
  have hL1 := hL.turns T (fun hh => ((hO0.byt _ hh).2).not_lies hL (by decide))
  have hne : ∀ g, v'.ownBlock = some g → g ≠ p := fun g hh e => by subst e; exact ((hO.byt _ hh).2).not_lies hL1 (by decide)
  refine ⟨⟨hB, hL1.stored 0 v', own_turns hO ((Turns.refl (fun k => k = p) w').setCell (p := ⟨p, 0, none⟩) (fun _ => rfl) v') (fun g hh => hne g hh)⟩, ?_⟩
  exact Turns.setCell (T.mono (fun i _ hi => .inr (hO0.byt i hi))) (fun _ => .inl rfl) v'
end

set_option maxRecDepth 100000 in
theorem put_any (w : World) (B p : Nat) (v : Value) (l t : List UInt8) (b : Bool) (h : Wr w B p v l b) (hl : l.length + t.length ≤ 1000000000) :
    Calls Tryd.prog 82 #[.pointer (some ⟨p, 0, none⟩), .string ⟨t.toArray⟩] w fun e w' => e = .returned (.tuple #[]) ∧ (∃ v', Wr w' B p v' (l ++ t) b) ∧ Ch B p w w' := by
  obtain ⟨A, c, rfl⟩ := h.read
  obtain ⟨hB, hp⟩ := h.lt
  have hL := h.2.1
  have y0 : w.cell? ⟨p, 0, none⟩ = some (.slice A l.length c) := hL.cell 0
  have f1 := hL.free
  obtain ⟨S, hS⟩ : ∃ S : ByteArray, ⟨t.toArray⟩ = S := ⟨_, rfl⟩
  have hSs : S.size = t.length := by rw [← hS]; rfl
  have hSd : Lib.strCells S = Lib.byteCells t := by rw [← hS]; rfl
  rw [hS]
  obtain ⟨i0, hi, hz0, hz1, hz2⟩ := info_parts Tryd.infoByte
  obtain ⟨n, hn⟩ : ∃ n, l.length = n := ⟨_, rfl⟩
  have hO : w.ownsRow B 5 1 (.slice A n c) n (Lib.byteCells l) := by have := h.2.2; unfold OwnB at this; rwa [hn] at this
  rw [hn] at y0 hl h
  have hn' := Lib.hid hn
  clear hn hL
  go_enter Tryd.func82, Tryd.ntmps82
  go_wp2_with (
    at_builtin
    refine Lib.wpList_append_own_string (P := Tryd.prog) w rfl _ _ 60 9 rfl B 5 i0 Tryd.underlying60 Tryd.underlying9 hi hz0 hz1 hz2 (.slice A n c) n (Lib.byteCells l) rfl hO S rfl (by rw [hSs]; unfold maxLen; omega) (by rw [hSs]; omega) (by omega) ?_
    intro v9 w9 hown9 hg9 _
    have hO9 : OwnB w9 B v9 (l ++ t) := by
      unfold OwnB
      rw [List.length_append, hn'.out, ← hSs, Lib.byteCells, List.map_append, ← Lib.byteCells, ← Lib.byteCells, ← hSd]
      exact hown9
    obtain ⟨m9, hm9⟩ : ∃ m, (l ++ t).length = m := ⟨_, rfl⟩
    obtain ⟨A9, c9, e9⟩ := hO9.read
    rw [hm9] at e9
    subst e9
    have hW := Wr.put h hO9 hg9
    have y9 : w9.cell? ⟨p, 0, none⟩ = some (.slice A n c) := by
      have T := Turns.appendedS hg9
      exact ((h.2.1).turns T (fun hh => ((h.2.2.byt _ hh).2).not_lies h.2.1 (by decide))).cell 0
    have f9 := ((h.2.1).turns (Turns.appendedS hg9) (fun hh => ((h.2.2.byt _ hh).2).not_lies h.2.1 (by decide))).free
    clear hown9 hg9 hO9 hm9)
  go_end0
  exact ⟨rfl, ⟨_, hW.1⟩, hW.2⟩
end Go.Proofs.YthfelkcomhflnaaDoor

/- A character's text, as package show and the document's own answer give it. -/
namespace Go.Proofs.YthfelkcomhflnaaDoor
open Go.ChangeShapes Go.WideShapes Go.ChangeAt Go.RowKit

theorem ba_ext {a b : ByteArray} (h : a.data.toList = b.data.toList) : a = b := by
  cases a; cases b; congr; exact Array.toList_inj.1 h
def SM.cnm (c : Int) : List UInt8 :=
  if c = 32 then [115, 112, 97, 99, 101] else if c = 10 then [110, 101, 119, 108, 105, 110, 101] else if c = 9 then [116, 97, 98] else if c = 0 then [110, 117, 108] else [UInt8.ofNat c.toNat]
theorem SM.chr_of {c : Int} (h0 : 0 ≤ c) (h1 : c ≤ 255) : SM.chr c = 35 :: 92 :: SM.cnm c := by
  unfold SM.chr SM.cnm
  rw [if_neg (by omega)]
  repeat' split
  all_goals rfl
set_option maxRecDepth 100000 in
theorem charName_any (c : Int) (w : World) : Calls Tryd.prog 90 #[.int .u8 c] w fun e w' => e = .returned (.string ⟨(SM.cnm c).toArray⟩) ∧ Went w w' := by
  by_cases h1 : c = 32
  · subst h1
    go_enter Tryd.func90, Tryd.ntmps90
    go_wp2_with fail
    go_ret
    exact ⟨rfl, Went.refl w⟩
  · by_cases h2 : c = 10
    · subst h2
      go_enter Tryd.func90, Tryd.ntmps90
      go_wp2_with fail
      go_ret
      exact ⟨rfl, Went.refl w⟩
    · by_cases h3 : c = 9
      · subst h3
        go_enter Tryd.func90, Tryd.ntmps90
        go_wp2_with fail
        go_ret
        exact ⟨rfl, Went.refl w⟩
      · by_cases h4 : c = 0
        · subst h4
          go_enter Tryd.func90, Tryd.ntmps90
          go_wp2_with fail
          go_ret
          exact ⟨rfl, Went.refl w⟩
        · have hx : SM.cnm c = [UInt8.ofNat c.toNat] := by unfold SM.cnm; rw [if_neg h1, if_neg h2, if_neg h3, if_neg h4]
          rw [hx]
          have hc := conv_one w c
          clear hx
          go_enter Tryd.func90, Tryd.ntmps90
          go_wp2_with fail
          go_ret
          exact ⟨ret_s (ba_ext (by simp [ByteArray.push])), went_alloc _ _⟩
theorem u8_in {c : Int} (h0 : 0 ≤ c) (h1 : c ≤ 255) : IntKind.u8.wrap c = c := by
  unfold IntKind.wrap
  simp [IntKind.bits, IntKind.signed]
  omega
theorem Char_any (c : Int) (w : World) : Calls Tryd.prog 89 #[.int .i64 c] w fun e w' => e = .returned (.string ⟨(SM.chr c).toArray⟩) ∧ Went w w' := by
  by_cases h : c < 0 ∨ 255 < c
  · have hx : SM.chr c = [] := by unfold SM.chr; rw [if_pos h]
    rw [hx]
    clear hx
    rcases h with h | h
    all_goals
      go_enter Tryd.func89, Tryd.ntmps89
      go_wp2_with fail
      go_ret
      exact ⟨rfl, Went.refl w⟩
  · have h0 : 0 ≤ c := by omega
    have h1 : c ≤ 255 := by omega
    clear h
    rw [SM.chr_of h0 h1]
    have hu := u8_in h0 h1
    have hn := Lib.hid (charName_any c)
    obtain ⟨S, hS⟩ : ∃ S : ByteArray, ⟨(SM.cnm c).toArray⟩ = S := ⟨_, rfl⟩
    have hSz : S.size ≤ 7 := by
      rw [← hS]
      show (SM.cnm c).toArray.size ≤ 7
      unfold SM.cnm
      repeat' split
      all_goals simp
    rw [hS] at hn
    have hS' := Lib.hid hS
    clear hS
    go_enter Tryd.func89, Tryd.ntmps89
    go_wp2_with (go_at_call 90; refine (hn.out _).mono ?_; rintro e w' ⟨rfl, hb⟩)
    go_ret
    exact ⟨ret_s (by rw [← hS'.out]; exact ba_ext (by simp)), hb⟩
theorem truth_any (n : Int) (w : World) : Calls Tryd.prog 83 #[.int .i64 n] w fun e w' => e = .returned (.string ⟨(if n = 0 then [35, 102] else [35, 116] : List UInt8).toArray⟩) ∧ Went w w' := by
  by_cases h : n = 0
  · subst h
    go_enter Tryd.func83, Tryd.ntmps83
    go_wp2_with fail
    go_ret
    exact ⟨rfl, Went.refl w⟩
  · rw [if_neg h]
    go_enter Tryd.func83, Tryd.ntmps83
    go_wp2_with fail
    go_ret
    exact ⟨rfl, Went.refl w⟩

/-! ### the writer's own -/
set_option maxRecDepth 100000 in
theorem char_any (w : World) (B p : Nat) (v : Value) (l : List UInt8) (b : Bool) (c : Int) (h : Wr w B p v l b) (hl : l.length ≤ 900000000) (h0 : 0 ≤ c) (h1 : c ≤ 255) :
    Calls Tryd.prog 84 #[.pointer (some ⟨p, 0, none⟩), .int .i64 c] w fun e w' => e = .returned (.tuple #[]) ∧ (∃ v', Wr w' B p v' (l ++ (if b then [UInt8.ofNat c.toNat] else SM.chr c)) b) ∧ Ch B p w w' := by
  have hL := h.2.1
  obtain ⟨hB, hp⟩ := h.lt
  have y1 : w.cell? ⟨p, 1, none⟩ = some (.bool b) := hL.cell 1
  cases b
  · have hC := Lib.hid (Char_any c)
    have hP := Lib.hid (fun w' (hb : Below w.heap.size w w') => put_any w' B p v l (SM.chr c) false (h.below hb) (by have := SM.chr_len c; omega))
    clear hL
    go_enter Tryd.func84, Tryd.ntmps84
    go_wp2_with (first
      | (go_at_call 89; refine (hC.out _).mono ?_; rintro e w1 ⟨rfl, hb⟩)
      | (go_at_call 82; refine (hP.out _ hb).mono ?_; rintro e w2 ⟨rfl, hW, hc⟩))
    go_end0
    exact ⟨rfl, hW, (Ch.of_below hb).trans hc⟩
  · obtain ⟨A, c9, rfl⟩ := h.read
    have y0 : w.cell? ⟨p, 0, none⟩ = some (.slice A l.length c9) := hL.cell 0
    have f1 := hL.free
    have hu := u8_in h0 h1
    obtain ⟨n, hn⟩ : ∃ n, l.length = n := ⟨_, rfl⟩
    have hO : w.ownsRow B 5 1 (.slice A n c9) n (Lib.byteCells l) := by have := h.2.2; unfold OwnB at this; rwa [hn] at this
    rw [hn] at y0 hl h
    have hn' := Lib.hid hn
    clear hn hL
    go_enter Tryd.func84, Tryd.ntmps84
    go_wp2_with (
      at_builtin
      refine wpList_append_own (v := .slice A n c9) (x := .slice (some ⟨w.heap.size, 0, none⟩) 1 1) (.int .u8 0) 1 Tryd.infoByte rfl (by decide) rfl _ _ 60 rfl Tryd.underlying60 rfl rfl (own_turns hO ((Turns.refl (fun _ => False) _).alloc _) (fun _ _ h => h)) (own_one (B := 0) w #[.int .u8 c] rfl (Nat.zero_le _)) (by simp [Value.oneCell']) (by omega) (by omega) (by simp; omega) ?_
      intro v9 w9 hown9 hg9 _
      have hO9 : OwnB w9 B v9 (l ++ [UInt8.ofNat c.toNat]) := by
        unfold OwnB
        rw [List.length_append, hn'.out, ← byte_push, show ((UInt8.ofNat c.toNat).toNat : Int) = c by simp; omega]
        exact hown9
      obtain ⟨m9, hm9⟩ : ∃ m, (l ++ [UInt8.ofNat c.toNat]).length = m := ⟨_, rfl⟩
      obtain ⟨A9, c10, e9⟩ := hO9.read
      rw [hm9] at e9
      subst e9
      have h' := h.alloc (.cells #[.int .u8 c] 5)
      have hW := Wr.put h' hO9 hg9
      have T := Turns.appendedS hg9
      have hL9 := (h'.2.1).turns T (fun hh => ((h'.2.2.byt _ hh).2).not_lies h'.2.1 (by decide))
      have y9 : w9.cell? ⟨p, 0, none⟩ = some (.slice A n c9) := hL9.cell 0
      have f9 := hL9.free
      clear hown9 hg9 hO9 hm9 hL9 T)
    exact bodyPost_ret (v := .tuple #[]) (by simp [results, Tryd.results84, go_sem]) rfl ⟨rfl, ⟨_, hW.1⟩, Ch.of_alloc hW.2⟩
end Go.Proofs.YthfelkcomhflnaaDoor
