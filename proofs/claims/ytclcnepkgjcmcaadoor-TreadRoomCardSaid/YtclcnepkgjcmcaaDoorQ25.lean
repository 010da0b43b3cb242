/- The laws' own things: how they lie in memory; value.word. -/
import Derived.Test.YtclcnepkgjcmcaaDoorQ18
import Derived.Test.YtclcnepkgjcmcaaDoorQ24
namespace Go.Proofs.YtclcnepkgjcmcaaDoor
open Go.RowKit

/-- a value of the law: blk i is the block of the thing i -/
def vg (blk : Nat → Nat) : V → Value
  | .w x => .agg #[.int .u64 x, .pointer none]
  | .t i => .agg #[.int .u64 0, .pointer (some ⟨blk i, 0, none⟩)]
/-- what is read of a thing for its word -/
def Wcell (w : World) (blk : Nat → Nat) (cell : Nat → Int) (v : V) : Prop := ∀ i, v = .t i → ∃ f l, Lies w (blk i) 64 [f, l, .int .u64 (8 * cell i + 1)]

set_option maxRecDepth 100000 in
theorem word_any (blk : Nat → Nat) (cell : Nat → Int) (v : V) (w : World) (h : Wcell w blk cell v) :
    Calls Tryd.prog 24 #[vg blk v] w fun e w' => e = .returned (.int .u64 (v.wd cell)) ∧ Turns (fun _ => False) w w' := by
  cases v with
  | w x =>
    show Calls _ _ #[.agg #[.int .u64 x, .pointer none]] _ _
    go_enter Tryd.func24, Tryd.ntmps24
    go_wp2
    go_ret
    exact ⟨rfl, (Turns.refl _ _).alloc _⟩
  | t i =>
    obtain ⟨f, l, hli⟩ := h i rfl
    have c2 := hli.cell 2
    have hlt := hli.lt
    simp at c2
    clear hli h
    show Calls _ _ #[.agg #[.int .u64 0, .pointer (some ⟨blk i, 0, none⟩)]] _ _
    generalize blk i = g at *
    have hne : g ≠ w.heap.size := by omega
    go_enter Tryd.func24, Tryd.ntmps24
    go_wp2
    go_ret
    exact ⟨rfl, (Turns.refl _ _).alloc _⟩

/-- a value's two cells -/
def vw : V → Value
  | .w x => .int .u64 x
  | .t _ => .int .u64 0
def vp (blk : Nat → Nat) : V → Value
  | .w _ => .pointer none
  | .t i => .pointer (some ⟨blk i, 0, none⟩)
theorem vg_eq (blk : Nat → Nat) (v : V) : vg blk v = .agg #[vw v, vp blk v] := by cases v <;> rfl
/-- the registers' cells, from r on -/
def rcells (blk : Nat → Nat) (reg : Nat → V) : List Value := [vw (reg 0), vp blk (reg 0), vw (reg 1), vp blk (reg 1), vw (reg 2), vp blk (reg 2), vw (reg 3), vp blk (reg 3), vw (reg 4), vp blk (reg 4), vw (reg 5), vp blk (reg 5), vw (reg 6), vp blk (reg 6), vw (reg 7), vp blk (reg 7)]
/-- the world of the law -/
def wcells (q : Nat) (blk : Nat → Nat) (reg : Nat → V) (al : Value) (bad full : Bool) : List Value := .pointer (some ⟨q, 0, none⟩) :: (rcells blk reg ++ [al, .bool bad, .bool full])
theorem wcells_set (q : Nat) (blk : Nat → Nat) (reg : Nat → V) (al : Value) (bad full : Bool) (r : Nat) (hr : r < 8) (v : V) :
    ((wcells q blk reg al bad full).set (1 + 2 * r) (vw v)).set (1 + 2 * r + 1) (vp blk v) = wcells q blk (fun k => if k = r then v else reg k) al bad full := by
  rcases (show r = 0 ∨ r = 1 ∨ r = 2 ∨ r = 3 ∨ r = 4 ∨ r = 5 ∨ r = 6 ∨ r = 7 by omega) with rfl | rfl | rfl | rfl | rfl | rfl | rfl | rfl <;> rfl
end Go.Proofs.YtclcnepkgjcmcaaDoor

/- The laws' own world: set. -/
namespace Go.Proofs.YtclcnepkgjcmcaaDoor
open Go.RowKit

theorem Wcell.drew {w : World} {blk : Nat → Nat} {cell : Nat → Int} {v : V} (h : Wcell w blk cell v) : Wcell w.drew blk cell v := fun i e => h i e
theorem Tr.of_drew {w w' : World} {q p b : Nat} {G : Geo} {H : Hp} (h : Tr w q p b G H) (k : Turns (fun _ => False) w.drew w') : Tr w' q p b G H :=
  (show Tr w.drew q p b G H from h.drew).turns k (fun h => h) (fun h => h) (fun h => h) (fun h => h)
set_option maxHeartbeats 1000000 in
set_option maxRecDepth 100000 in
theorem set_any {B : Int} {G : Geo} {H : Hp} {R : Nat → List Int} {q p b x : Nat} (i : Inv B G H R) (blk : Nat → Nat) (cell : Nat → Int) (reg : Nat → V) (al : Value) (bad full : Bool) (r : Nat) (hr : r < 8) (v : V) (w : World)
    (hx : Lies w x 43 (wcells q blk reg al bad full)) (hs : Tr w q p b G H) (hxo : ¬ Own3 q p b x) (hxg : x ≠ 0) (h : Wcell w blk cell v) (hb : ∀ k, v = .t k → blk k ≠ x ∧ ¬ Own3 q p b (blk k))
    (v0 : 0 ≤ v.wd cell) (v1 : v.wd cell < 18446744073709551616) (hm : G.may (v.wd cell) = true) :
    Calls Tryd.prog 22 #[.pointer (some ⟨x, 0, none⟩), .int .i64 (r : Int), vg blk v] w fun e w' => e = .returned (.tuple #[]) ∧ Lies w' x 43 (wcells q blk (fun k => if k = r then v else reg k) al bad full) ∧
      Tr w' q p b G (H.setRoot G r (v.wd cell)) ∧ Turns (fun k => k = x ∨ Own3 q p b k) w w' := by
  have hlt := hx.lt
  have hl : (wcells q blk reg al bad full).length = 20 := rfl
  have hne : x ≠ w.heap.size := by omega
  obtain ⟨u1, e1⟩ : ∃ u, (wcells q blk reg al bad full)[1 + r * 2]? = some u := ⟨_, List.getElem?_eq_getElem (by rw [hl]; omega)⟩
  obtain ⟨u2, e2⟩ : ∃ u, (wcells q blk reg al bad full)[1 + r * 2 + 1]? = some u := ⟨_, List.getElem?_eq_getElem (by rw [hl]; omega)⟩
  have c1 := (hx.cell (1 + r * 2)).trans e1
  have c2 := (hx.cell (1 + r * 2 + 1)).trans e2
  have f1 := hx.free (1 + r * 2)
  have f2 := hx.free (1 + r * 2 + 1)
  have i1 : (1 + r * 2 + 1 = 1 + r * 2) = False := by simp
  have r0 : (0 : Int) ≤ (r : Int) := by omega
  have r8 : (r : Int) < 8 := by omega
  obtain ⟨y, hy⟩ : ∃ y, vw v = .int .u64 y := by cases v <;> exact ⟨_, rfl⟩
  obtain ⟨P, hP⟩ : ∃ P, vp blk v = .pointer P := by cases v <;> exact ⟨_, rfl⟩
  have WS := Lib.hid (wcells_set q blk reg al bad full r hr v)
  have WW := Lib.hid (vg_eq blk v ▸ fun w1 (h1 : Wcell w1 blk cell v) => word_any blk cell v w1 h1)
  rw [hy, hP] at WS WW
  rw [vg_eq, hy, hP]
  clear hy hP
  go_enter Tryd.func22, Tryd.ntmps22
  go_wp2_with fail
  go_region_with (fail)
  have hx1 := (((hx.stored (1 + r * 2) (.int .u64 y)).stored (1 + r * 2 + 1) (.pointer P)).alloc (.cells #[.int .u64 y, .pointer P] 39)).drew
  rw [show 1 + r * 2 = 1 + 2 * r by omega, WS.out] at hx1
  have ht1 : Turns (fun k => k = x) w (((w.setCell ⟨x, 1 + 2 * r, none⟩ (.int .u64 y)).setCell ⟨x, 1 + 2 * r + 1, none⟩ (.pointer P)).alloc (.cells #[.int .u64 y, .pointer P] 39)).drew :=
    ((((Turns.refl (fun k => k = x) w).setCell (p := ⟨x, 1 + 2 * r, none⟩) (fun _ => rfl) _).setCell (p := ⟨x, 1 + 2 * r + 1, none⟩) (fun _ => rfl) _).alloc _).drew
  have hn : ((w.setCell ⟨x, 1 + 2 * r, none⟩ (.int .u64 y)).setCell ⟨x, 1 + 2 * r + 1, none⟩ (.pointer P)).heap.size = w.heap.size := by simp
  have hbx : Lies (((w.setCell ⟨x, 1 + 2 * r, none⟩ (.int .u64 y)).setCell ⟨x, 1 + 2 * r + 1, none⟩ (.pointer P)).alloc (.cells #[.int .u64 y, .pointer P] 39)).drew w.heap.size 39 [.int .u64 y, .pointer P] := by
    have := (Lies.made ((w.setCell ⟨x, 1 + 2 * r, none⟩ (.int .u64 y)).setCell ⟨x, 1 + 2 * r + 1, none⟩ (.pointer P)) 39 #[.int .u64 y, .pointer P]).drew
    rw [hn] at this
    exact this
  rw [show 1 + r * 2 = 1 + 2 * r by omega]
  have hs1 := hs.turns ht1 (fun e => hxo (e ▸ .inl rfl)) (fun e => hxo (e ▸ .inr (.inl rfl))) (fun e => hxo (e ▸ .inr (.inr rfl))) (fun e => hxg e.symm)
  have h1 : Wcell (((w.setCell ⟨x, 1 + 2 * r, none⟩ (.int .u64 y)).setCell ⟨x, 1 + 2 * r + 1, none⟩ (.pointer P)).alloc (.cells #[.int .u64 y, .pointer P] 39)).drew blk cell v := fun k e => by
    obtain ⟨f, l, a⟩ := h k e
    exact ⟨f, l, a.turns ht1 (hb k e).1⟩
  generalize (((w.setCell ⟨x, 1 + 2 * r, none⟩ (.int .u64 y)).setCell ⟨x, 1 + 2 * r + 1, none⟩ (.pointer P)).alloc (.cells #[.int .u64 y, .pointer P] 39)).drew = W1 at *
  have n1 : x ≠ w.heap.size := hne
  have p0 : W1.cell? ⟨x, 0, none⟩ = some (.pointer (some ⟨q, 0, none⟩)) := hx1.cell 0
  have b0 : W1.cell? ⟨w.heap.size, 0, none⟩ = some (.int .u64 y) := hbx.cell 0
  have b1 : W1.cell? ⟨w.heap.size, 1, none⟩ = some (.pointer P) := hbx.cell 1
  have hq := hs.lt
  have hbo : ¬ Own3 q p b w.heap.size := fun h => by unfold Own3 at h; omega
  clear c1 c2 f1 f2 e1 e2 u1 u2 i1 hl WS hx hs h hb hq
  go_wp2_with fail
  go_region_held3 (fun w' => w'.cell? ⟨x, 0, none⟩ = some (.pointer (some ⟨q, 0, none⟩)) ∧ w'.cell? ⟨w.heap.size, 0, none⟩ = some (.int .u64 y) ∧ w'.cell? ⟨w.heap.size, 1, none⟩ = some (.pointer P)) (first | go_keep | exact k2 | exact k3)
    (first
      | (go_at_call 24
         refine (WW.out _ h1.drew).mono ?_
         rintro e w2 ⟨rfl, ht2⟩
         have hx2 := hx1.drew.turns ht2 (fun h => h)
         have hb2 := hbx.drew.turns ht2 (fun h => h)
         have hs2 := hs1.of_drew ht2
         have k2 : w2.cell? ⟨x, 0, none⟩ = some (.pointer (some ⟨q, 0, none⟩)) ∧ w2.cell? ⟨w.heap.size, 0, none⟩ = some (.int .u64 y) ∧ w2.cell? ⟨w.heap.size, 1, none⟩ = some (.pointer P) := ⟨hx2.cell 0, hb2.cell 0, hb2.cell 1⟩)
      | (go_at_call 13
         refine (SetRoot_yes i (r : Int) (v.wd cell) (by omega) (by omega) v0 v1 hm _ hs2).mono ?_
         rintro e w3 ⟨rfl, hs3, ht3⟩
         have hx3 := hx2.turns ht3 hxo
         have hb3 := hb2.turns ht3 hbo
         have k3 : w3.cell? ⟨x, 0, none⟩ = some (.pointer (some ⟨q, 0, none⟩)) ∧ w3.cell? ⟨w.heap.size, 0, none⟩ = some (.int .u64 y) ∧ w3.cell? ⟨w.heap.size, 1, none⟩ = some (.pointer P) := ⟨hx3.cell 0, hb3.cell 0, hb3.cell 1⟩))
  go_wp2_with fail
  go_end0
  exact ⟨rfl, hx3, hs3, ((ht1.mono fun _ _ e => .inl e).trans (Turns.of_drew (ht2.mono fun _ _ e => e.elim))).trans (ht3.mono fun _ _ e => .inr e)⟩
end Go.Proofs.YtclcnepkgjcmcaaDoor

/- A field is set. -/
namespace Go.Proofs.YtclcnepkgjcmcaaDoor
open Go.ChangeShapes Go.WideShapes Go.ChangeAt Go.RowKit

section
variable {B : Int} {G : Geo} {H : Hp} {R : Nat → List Int} {q p b : Nat}

theorem maySet_any (i : Inv B G H R) (m j old v : Int) (m0 : 0 ≤ m) (m1 : m < 18446744073709551616) (h0 : 0 ≤ v) (h1 : v < 18446744073709551616)
    (hok : mform m = 2 ∨ (mform m = 1 ∧ G.may v = true) ∨ (mform m = 3 ∧ G.may v = true ∧ (j = 0 → old = 12))) (w : World) (h : Tr w q p b G H) :
    Calls Tryd.prog 53 #[.pointer (some ⟨q, 0, none⟩), .int .u64 m, .int .i64 j, .int .u64 old, .int .u64 v] w fun e w' => e = .returned (.bool true) ∧ ∃ k, w' = w.drewN k := by
  have FM := Lib.hid (fun w => form_any m m0 m1 w)
  have VV := Lib.hid (Value_any i v h0 h1 w h)
  have VD := Lib.hid (fun w => void_any w)
  clear h i m0 m1
  rcases hok with hf | ⟨hf, hm⟩ | ⟨hf, hm, ho⟩
  · rw [hf] at FM
    clear hf
    go_enter Tryd.func53, Tryd.ntmps53
    go_wp2_with (go_at_call 46; refine (FM.out _).mono ?_; rintro e w' ⟨rfl, rfl⟩)
    go_ret
    exact ⟨rfl, 0, rfl⟩
  · rw [hf] at FM
    rw [hm] at VV
    clear hf hm
    go_enter Tryd.func53, Tryd.ntmps53
    go_wp2_with (first
      | (go_at_call 46; refine (FM.out _).mono ?_; rintro e w' ⟨rfl, rfl⟩)
      | (go_at_call 40; refine VV.out.mono ?_; rintro e w' ⟨rfl, k, rfl⟩))
    go_ret
    exact ⟨rfl, _, rfl⟩
  · rw [hf] at FM
    rw [hm] at VV
    clear hf hm
    by_cases hj : j = 0
    · obtain rfl := ho hj
      subst hj
      clear ho
      go_enter Tryd.func53, Tryd.ntmps53
      go_wp2_with (first
        | (go_at_call 46; refine (FM.out _).mono ?_; rintro e w' ⟨rfl, rfl⟩)
        | (go_at_call 14; refine (VD.out _).mono ?_; rintro e w' ⟨rfl, rfl⟩)
        | (go_at_call 40; refine VV.out.mono ?_; rintro e w' ⟨rfl, k, rfl⟩))
      go_ret
      exact ⟨rfl, _, rfl⟩
    · have hjb : (j == 0) = false := by simpa using hj
      clear hj ho
      go_enter Tryd.func53, Tryd.ntmps53
      go_wp2_with (first
        | (go_at_call 46; refine (FM.out _).mono ?_; rintro e w' ⟨rfl, rfl⟩)
        | (go_at_call 14; refine (VD.out _).mono ?_; rintro e w' ⟨rfl, rfl⟩)
        | (go_at_call 40; refine VV.out.mono ?_; rintro e w' ⟨rfl, k, rfl⟩))
      go_ret
      exact ⟨rfl, _, rfl⟩

theorem isBlack_of (H : Hp) {H' : Hp} (hc : H'.cyc = H.cyc) (hm : H'.mrk = H.mrk) (m : Int) : H'.isBlack m = H.isBlack m := by
  unfold Hp.isBlack Hp.next
  rw [hc, hm]

theorem guard_any (i : Inv B G H R) (m old v : Int) (m0 : 0 ≤ m) (m1 : m < 18446744073709551616) (o0 : 0 ≤ old) (o1 : old < 18446744073709551616) (h0 : 0 ≤ v) (h1 : v < 18446744073709551616)
    (hf : 1 ≤ mform m ∧ mform m ≤ 3) (w : World) (h : Tr w q p b G H) :
    Calls Tryd.prog 54 #[.pointer (some ⟨q, 0, none⟩), .int .u64 m, .int .u64 old, .int .u64 v] w fun e w' => e = .returned (.tuple #[]) ∧ Tr w' q p b G (H.guard G m old v) ∧ Turns (Own3 q p b) w w' := by
  have FM := Lib.hid (fun w => form_any m m0 m1 w)
  obtain ⟨i1, d1, -⟩ := inv_shade i o0 o1
  obtain ⟨-, -, -, -, e1, e2, -⟩ := shade_facts i o0 o1
  have S1 := Lib.hid (shade_any i old o0 o1 w h)
  have S2 := Lib.hid (fun w1 (h1' : Tr w1 q p b G (H.shade G old)) => shade_any i1 v h0 h1 w1 h1')
  have B2 := Lib.hid (fun w1 (h1' : Tr w1 q p b G (H.shade G old)) => isBlack_of H e2 e1 m ▸ isBlack_any m m0 m1 w1 h1' i1.inTime)
  have S3 := Lib.hid (shade_any i v h0 h1 w h)
  have B3 := Lib.hid (isBlack_any m m0 m1 w h i.inTime)
  have hf' : mform m = 1 ∨ mform m = 2 ∨ mform m = 3 := by omega
  have E : Hid (H.guard G m old v = if mform m = 1 then (if H.isBlack m then (H.shade G old).shade G v else H.shade G old)
    else if mform m = 3 then (if H.isBlack m then H.shade G v else H) else H) := rfl
  have hs0 := Lib.hid h
  clear h i i1 d1 e1 e2 m0 m1 o0 o1 hf
  generalize H.guard G m old v = r at *
  generalize (H.shade G old).shade G v = H2 at *
  generalize H.shade G old = H1 at *
  generalize H.shade G v = H3 at *
  rcases hf' with hf | hf | hf
  · rw [hf] at FM E
    clear hf
    cases hb : H.isBlack m
    · rw [hb] at B2 E
      clear hb
      obtain rfl : r = H1 := E.out
      clear E
      go_enter Tryd.func54, Tryd.ntmps54
      go_wp2_with (first
        | (go_at_call 46; refine (FM.out _).mono ?_; rintro e w' ⟨rfl, rfl⟩)
        | (go_at_call 41; refine S1.out.mono ?_; rintro e w2 ⟨rfl, hs2, ht2⟩)
        | (go_at_call 76; refine (B2.out _ hs2).mono ?_; rintro e w' ⟨rfl, rfl⟩))
      go_end0
      exact ⟨rfl, hs2, ht2⟩
    · rw [hb] at B2 E
      clear hb
      obtain rfl : r = H2 := E.out
      clear E
      go_enter Tryd.func54, Tryd.ntmps54
      go_wp2_with (first
        | (go_at_call 46; refine (FM.out _).mono ?_; rintro e w' ⟨rfl, rfl⟩)
        | (go_at_call 41; (with_reducible refine S1.out.mono ?_); rintro e w2 ⟨rfl, hs2, ht2⟩)
        | (go_at_call 76; refine (B2.out _ hs2).mono ?_; rintro e w' ⟨rfl, rfl⟩)
        | (go_at_call 41; (with_reducible refine (S2.out _ hs2).mono ?_); rintro e w3 ⟨rfl, hs3, ht3⟩))
      go_end0
      exact ⟨rfl, hs3, ht2.trans ht3⟩
  · rw [hf] at FM E
    clear hf
    obtain rfl : r = H := E.out
    clear E
    go_enter Tryd.func54, Tryd.ntmps54
    go_wp2_with (first
      | (go_at_call 46; refine (FM.out _).mono ?_; rintro e w' ⟨rfl, rfl⟩))
    go_end0
    exact ⟨rfl, hs0.out, Turns.refl _ _⟩
  · rw [hf] at FM E
    clear hf
    cases hb : H.isBlack m
    · rw [hb] at B3 E
      clear hb
      obtain rfl : r = H := E.out
      clear E
      go_enter Tryd.func54, Tryd.ntmps54
      go_wp2_with (first
        | (go_at_call 46; refine (FM.out _).mono ?_; rintro e w' ⟨rfl, rfl⟩)
        | (go_at_call 76; refine B3.out.mono ?_; rintro e w' ⟨rfl, rfl⟩))
      go_end0
      exact ⟨rfl, hs0.out, Turns.refl _ _⟩
    · rw [hb] at B3 E
      clear hb
      obtain rfl : r = H3 := E.out
      clear E
      go_enter Tryd.func54, Tryd.ntmps54
      go_wp2_with (first
        | (go_at_call 46; refine (FM.out _).mono ?_; rintro e w' ⟨rfl, rfl⟩)
        | (go_at_call 76; refine B3.out.mono ?_; rintro e w' ⟨rfl, rfl⟩)
        | (go_at_call 41; refine S3.out.mono ?_; rintro e w2 ⟨rfl, hs2, ht2⟩))
      go_end0
      exact ⟨rfl, hs2, ht2⟩

theorem Set_nil (v j u : Int) (w : World) :
    Calls Tryd.prog 25 #[.pointer none, .int .u64 v, .int .i64 j, .int .u64 u] w fun e w' => e = .returned (.iface 58 (.int .i64 1)) ∧ w = w' := by
  go_enter Tryd.func25, Tryd.ntmps25
  go_wp2_with (go_at_call 51; refine (field_nil _ _ _).mono ?_; rintro e w' ⟨rfl, rfl⟩)
  go_ret
  exact ⟨rfl, rfl⟩

theorem Set_yes (i : Inv B G H R) (x : Int) {k : Nat} (h4 : 4 ≤ k) (hk : k < 13) (hx : x ∈ R k) (j v : Int) (j0 : 0 ≤ j) (j1 : j < msize (gv H.ws x)) (h0 : 0 ≤ v) (h1 : v < 18446744073709551616)
    (hok : mform (gv H.ws x) = 2 ∨ (mform (gv H.ws x) = 1 ∧ G.may v = true) ∨ (mform (gv H.ws x) = 3 ∧ G.may v = true ∧ (j = 0 → gv H.ws (x + 3 + j) = 12))) (w : World) (h : Tr w q p b G H) :
    Calls Tryd.prog 25 #[.pointer (some ⟨q, 0, none⟩), .int .u64 (8 * x + 1), .int .i64 j, .int .u64 v] w fun e w' => e = .returned .nilIface ∧ Tr w' q p b G (H.setF G x j v) ∧ Turns (Own3 q p b) w w' := by
  have hC := i.rg.place k hk x hx
  have hr := i.wrd x
  have ho := i.wrd (x + 3 + j)
  have hsh := i.shp k x h4 hk hx
  have FF := Lib.hid (field_yes i x hC j j0 j1 w h)
  have GG := Lib.hid (fun w1 (h1 : Tr w1 q p b G H) => hget_any (x + 3 + j) w1 h1 (i.fields h4 hk hx j0 j1).1)
  have MS := Lib.hid (fun w1 (h1' : Tr w1 q p b G H) => maySet_any i (gv H.ws x) j (gv H.ws (x + 3 + j)) v hr.1 hr.2 h0 h1 hok w1 h1')
  have GD := Lib.hid (fun w1 (h1' : Tr w1 q p b G H) => guard_any i (gv H.ws x) (gv H.ws (x + 3 + j)) v hr.1 hr.2 ho.1 ho.2 h0 h1 ⟨hsh.1, hsh.2.1⟩ w1 h1')
  obtain ⟨i1, d1⟩ := inv_guard i (gv H.ws x) ho.1 ho.2 h0 h1
  have hin : inside (H.guard G (gv H.ws x) (gv H.ws (x + 3 + j)) v).ws.length (x + 3 + j) = true := by
    rw [d1.len]
    exact (i.fields h4 hk hx j0 j1).1
  have ST := Lib.hid (fun w1 (h1' : Tr w1 q p b G (H.guard G (gv H.ws x) (gv H.ws (x + 3 + j)) v)) => hset_any (x + 3 + j) v w1 h1' hin)
  have E : Hid (({ H.guard G (gv H.ws x) (gv H.ws (x + 3 + j)) v with ws := sv (H.guard G (gv H.ws x) (gv H.ws (x + 3 + j)) v).ws (x + 3 + j) v } : Hp) = H.setF G x j v) := rfl
  clear h i hr ho hsh hC hx j0 j1 i1 d1 hin hok
  generalize H.setF G x j v = H2 at *
  generalize H.guard G (gv H.ws x) (gv H.ws (x + 3 + j)) v = H1 at *
  generalize gv H.ws (x + 3 + j) = f at *
  generalize x + 3 + j = at_ at *
  generalize gv H.ws x = m at *
  generalize 8 * x + 1 = c at *
  go_enter Tryd.func25, Tryd.ntmps25
  go_wp2_with (first
    | (go_at_call 51; refine FF.out.mono ?_; rintro e w2 ⟨rfl, hs2, ht2⟩)
    | (go_at_call 52; refine (GG.out _ hs2).mono ?_; rintro e w3 ⟨rfl, hs3, ht3⟩)
    | (go_at_call 53; refine (MS.out _ hs3).mono ?_; rintro e w' ⟨rfl, k4, rfl⟩)
    | (go_at_call 54; refine (GD.out _ (hs3.drewN k4)).mono ?_; rintro e w5 ⟨rfl, hs5, ht5⟩)
    | (go_at_call 55; refine (ST.out _ hs5).mono ?_; rintro e w6 ⟨rfl, hs6, ht6⟩))
  go_ret
  exact ⟨rfl, by rw [← E.out]; exact hs6, (ht2.trans (own_of_p ht3)).trans ((own_drewN _ _).trans (ht5.trans (own_of_pb ht6)))⟩
end
end Go.Proofs.YtclcnepkgjcmcaaDoor
