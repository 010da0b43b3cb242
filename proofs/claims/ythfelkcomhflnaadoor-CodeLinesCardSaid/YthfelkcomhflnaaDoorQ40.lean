/- The reference's Own: instructions in new memory. -/
import Derived.Test.YthfelkcomhflnaaDoorQ12
import Derived.Test.YthfelkcomhflnaaDoorQ15
import Derived.Deep.CutRange
import Derived.WalkSpells
namespace Go.Proofs.YthfelkcomhflnaaDoor
open Go.ChangeShapes Go.WideShapes Go.ChangeAt Go.RowKit Go.Deep
open CD (Ins)

theorem Tryd.infoInstr : (Tryd.prog.info? 44).map (fun i => (i.zero, i.size, i.bytes)) = some (some (.agg #[.int .i64 0, .int .i64 0, .int .i64 0, .string ⟨#[]⟩, .int .i64 0, .int .i64 0, .string ⟨#[]⟩, .slice none 0 0]), 8, 96) := by kernel_rfl
/-- w8 is a row of one's own of these instructions, their data in blocks of S beside it -/
def IOut (w : World) (S : Nat → Prop) (v : Value) (l : List Ins) : Prop := (∀ g, v.ownBlock = some g → S g ∧ g < w.heap.size) ∧ ∃ cs, w.ownsRow 0 44 8 v l.length cs ∧ IAt w (fun g => S g ∧ v.ownBlock ≠ some g) l cs
/-- small enough to be copied -/
def ISm (l : List Ins) : Prop := l.length ≤ 100000 ∧ ∀ (j : Nat) (x : Ins), l[j]? = some x → SM.sz x.d.is ≤ 5000
theorem IOut.below {w w' : World} {S : Nat → Prop} {v : Value} {l : List Ins} (h : IOut w S v l) (k : Below w.heap.size w w') : IOut w' S v l := by
  obtain ⟨h1, cs, h2, h3⟩ := h
  exact ⟨fun g hg => ⟨(h1 g hg).1, Nat.lt_of_lt_of_le (h1 g hg).2 k.size⟩, cs, own_below h2 k, IAt.turns (Turns.of_below k (fun _ => False)) (fun _ _ _ h => h) h3⟩
theorem IAt.mono {w : World} {S S' : Nat → Prop} (hS : ∀ g, g < w.heap.size → S g → S' g) : ∀ {l : List Ins} {cs : List Value}, IAt w S l cs → IAt w S' l cs
  | [], _, h => h
  | _ :: _, _, ⟨v, c2, e, hd, h⟩ => ⟨v, c2, e, hd.mono hS, IAt.mono hS h⟩
theorem IAt.grew {w w' : World} {S : Nat → Prop} {v x : Value} {l m : List Ins} {cs es : List Value} (h0 : ∀ g, v.ownBlock = some g → S g ∧ g < w.heap.size) (h' : IAt w (fun g => S g ∧ v.ownBlock ≠ some g) l cs)
    (k' : IAt w (fun g => S g ∧ v.ownBlock ≠ some g) m es) (hr : w'.ownsRow 0 44 8 x (l ++ m).length (cs ++ es)) (hg : w.grownBy w' v.ownBlock) (hat : x.ownBlock = v.ownBlock ∨ x.ownBlock = some w.heap.size) (hlt : ∀ g, x.ownBlock = some g → g < w'.heap.size) (hS : S w.heap.size) : IOut w' S x (l ++ m) := by
  have T : Turns (fun g => v.ownBlock = some g) w w' := (Turns.refl _ w).grown hg (fun _ hk _ => hk)
  refine ⟨fun g hgx => ⟨?_, hlt g hgx⟩, cs ++ es, hr, IAt.mono ?_ (IAt.turns (S := fun g => (S g ∧ v.ownBlock ≠ some g) ∧ g < w.heap.size) T (fun g _ hs => hs.1.2) (IAt.mono (fun g hg hs => ⟨hs, hg⟩) (h'.app k')))⟩
  · rcases hat with e1 | e1
    · rw [e1] at hgx; exact (h0 g hgx).1
    · rw [e1] at hgx; injection hgx with hgx; subst hgx; exact hS
  · intro g _ hs
    refine ⟨hs.1.1, ?_⟩
    rcases hat with e1 | e1
    · rw [e1]; exact hs.1.2
    · rw [e1]; intro e; injection e with e; have := hs.2; omega
theorem IAt.cells {x : Ins} {A : Option Addr} {n c : Nat} : ∀ u ∈ icells x (.slice A n c), u.oneCell' = true := by
  intro u hu
  unfold icells at hu
  simp only [List.mem_cons, List.not_mem_nil, or_false] at hu
  rcases hu with rfl | rfl | rfl | rfl | rfl | rfl | rfl | rfl <;> rfl
theorem IOut.read {w : World} {S : Nat → Prop} {v : Value} {l : List Ins} (h : IOut w S v l) : ∃ A c, v = .slice A l.length c := by
  obtain ⟨-, cs, h2, -⟩ := h
  obtain ⟨A, c, e, -⟩ := own_read h2
  exact ⟨A, c, e⟩
set_option maxRecDepth 100000 in
set_option maxHeartbeats 8000000 in
theorem iown_any (l : List Ins) (w : World) (v : Value) (h1 : IIn w v l) (hsm : ISm l) :
    Calls Tryd.prog 9 #[v] w fun e w' => ∃ v', e = .returned v' ∧ IOut w' (fun g => w.heap.size ≤ g) v' l ∧ Below w.heap.size w w' := by
  have hlen := h1.len
  obtain ⟨A1, c1, rfl⟩ := h1.read
  obtain ⟨N, hN⟩ : ∃ N, l.length = N := ⟨_, rfl⟩
  rw [hN] at h1 hlen ⊢
  have hN' := Lib.hid hN
  have hsm' := Lib.hid hsm
  have hNs : N ≤ 100000 := by have := hsm.1; omega
  clear hN hsm
  have hb0 := Below.refl w.heap.size w
  go_enter Tryd.func9, Tryd.ntmps9
  go_wp2_with fail
  go_loopw [3, 4] (fun v8 i wr => ∃ (j : Nat), j ≤ N ∧ i = .int .i64 j ∧ Hid (IOut wr (fun g => w.heap.size ≤ g) v8 (l.take j)) ∧ Below w.heap.size w wr) (fun _ i _ => N - (intOf i).toNat)
  case atStart => exact ⟨0, by omega, rfl, Lib.hid ⟨fun g hg => by simp [Value.ownBlock] at hg, [], own_none _ _ _ _, rfl⟩, hb0⟩
  case round =>
    obtain ⟨j, hj, rfl, hI, hb⟩ := hrel
    clear hb0
    obtain ⟨A8, c8, rfl⟩ := hI.out.read
    have htl : (l.take j).length = j := by rw [List.length_take, hN'.out, Nat.min_eq_left hj]
    rw [htl] at hI ⊢
    clear htl
    by_cases hlt : j < N
    · have hx : l[j]? = some (l[j]'(by rw [hN'.out]; exact hlt)) := List.getElem?_eq_getElem _
      obtain ⟨x, hxe⟩ : ∃ x, l[j]'(by rw [hN'.out]; exact hlt) = x := ⟨_, rfl⟩
      rw [hxe] at hx
      obtain ⟨b, o, Ix, q, rfl, hbl, hd, p0, p1, p2, p3, p4, p5, p6, p7⟩ := (h1.below hb).at_ hx
      have hba : Below wr.heap.size wr (wr.alloc (.cells #[.int .i64 x.op, .int .i64 x.a, .int .i64 x.b, .string ⟨x.s.toArray⟩, .int .i64 x.d.k, .int .i64 x.d.n, .string ⟨x.d.s.toArray⟩, .slice Ix x.d.is.len q] 44)) := (Below.refl _ _).alloc (Nat.le_refl _) _
      have hL := Lies.made wr 44 #[.int .i64 x.op, .int .i64 x.a, .int .i64 x.b, .string ⟨x.s.toArray⟩, .int .i64 x.d.k, .int .i64 x.d.n, .string ⟨x.d.s.toArray⟩, .slice Ix x.d.is.len q]
      have hC := Lib.hid (own_any x.d _ (.slice Ix x.d.is.len q) (hd.below hba) (hsm'.out.2 j x hx))
      unfold dtv at hC
      have hx' := Lib.hid hx
      have htk : l.take (j + 1) = l.take j ++ [x] := by rw [List.take_add_one, hx]; rfl
      have htk' := Lib.hid htk
      clear hx hxe hd htk
      go_wp2_with (first
        | (go_at_call 19
           refine hC.out.mono ?_
           rintro e w3 ⟨v3, rfl, hd3, hb3⟩
           obtain ⟨A3, c3, rfl⟩ := hd3.read
           have hL3 := hL.below hb3 hL.lt
           have z0 := hL3.cell 0
           have z1 := hL3.cell 1
           have z2 := hL3.cell 2
           have z3 := hL3.cell 3
           have z4 := hL3.cell 4
           have z5 := hL3.cell 5
           have z6 := hL3.cell 6
           have z7 := hL3.cell 7
           have zf := hL3.free
           have hzl := hL3.lt
           simp only [List.getElem?_cons_zero, List.getElem?_cons_succ] at z0 z1 z2 z3 z4 z5 z6 z7
           have hb4 : Below wr.heap.size wr w3 := hba.trans (Below.mono hb3 hba.size)
           have R3 := Lib.hid (And.intro hd3 hb4)
           clear hb3 hd3 hL3 hb4)
        | (at_builtin
           go_must (
             have T6 : Turns (fun _ => False) wr ((((w3.setCell ⟨wr.heap.size, 4, none⟩ (.int .i64 x.d.k)).setCell ⟨wr.heap.size, 5, none⟩ (.int .i64 x.d.n)).setCell ⟨wr.heap.size, 6, none⟩ (.string ⟨x.d.s.toArray⟩)).setCell ⟨wr.heap.size, 7, none⟩ (.slice A3 x.d.is.len c3)) := ((((Turns.of_below R3.out.2 (fun _ => False)).setCell (p := ⟨wr.heap.size, 4, none⟩) (fun h => absurd h (Nat.lt_irrefl _)) _).setCell (p := ⟨wr.heap.size, 5, none⟩) (fun h => absurd h (Nat.lt_irrefl _)) _).setCell (p := ⟨wr.heap.size, 6, none⟩) (fun h => absurd h (Nat.lt_irrefl _)) _).setCell (p := ⟨wr.heap.size, 7, none⟩) (fun h => absurd h (Nat.lt_irrefl _)) _
             have T6b : Turns (fun k => k = wr.heap.size) w3 ((((w3.setCell ⟨wr.heap.size, 4, none⟩ (.int .i64 x.d.k)).setCell ⟨wr.heap.size, 5, none⟩ (.int .i64 x.d.n)).setCell ⟨wr.heap.size, 6, none⟩ (.string ⟨x.d.s.toArray⟩)).setCell ⟨wr.heap.size, 7, none⟩ (.slice A3 x.d.is.len c3)) := ((((Turns.refl (fun k => k = wr.heap.size) w3).setCell (p := ⟨wr.heap.size, 4, none⟩) (fun _ => rfl) _).setCell (p := ⟨wr.heap.size, 5, none⟩) (fun _ => rfl) _).setCell (p := ⟨wr.heap.size, 6, none⟩) (fun _ => rfl) _).setCell (p := ⟨wr.heap.size, 7, none⟩) (fun _ => rfl) _
             have hd6 := R3.out.1.turns T6b (fun g _ hs e => by simp at hs; omega)
             clear z0 z1 z2 z3 z4 z5 z6 z7
             have e6 : ((((w3.setCell ⟨wr.heap.size, 4, none⟩ (.int .i64 x.d.k)).setCell ⟨wr.heap.size, 5, none⟩ (.int .i64 x.d.n)).setCell ⟨wr.heap.size, 6, none⟩ (.string ⟨x.d.s.toArray⟩)).setCell ⟨wr.heap.size, 7, none⟩ (.slice A3 x.d.is.len c3)).heap.size = w3.heap.size := by simp
             generalize ((((w3.setCell ⟨wr.heap.size, 4, none⟩ (.int .i64 x.d.k)).setCell ⟨wr.heap.size, 5, none⟩ (.int .i64 x.d.n)).setCell ⟨wr.heap.size, 6, none⟩ (.string ⟨x.d.s.toArray⟩)).setCell ⟨wr.heap.size, 7, none⟩ (.slice A3 x.d.is.len c3)) = w6 at T6 T6b hd6 e6 ⊢
             have T7 := T6.alloc (.cells #[.int .i64 x.op, .int .i64 x.a, .int .i64 x.b, .string ⟨x.s.toArray⟩, .int .i64 x.d.k, .int .i64 x.d.n, .string ⟨x.d.s.toArray⟩, .slice A3 x.d.is.len c3] 44)
             have hd7 := hd6.turns ((Turns.refl (fun _ => False) w6).alloc (.cells #[.int .i64 x.op, .int .i64 x.a, .int .i64 x.b, .string ⟨x.s.toArray⟩, .int .i64 x.d.k, .int .i64 x.d.n, .string ⟨x.d.s.toArray⟩, .slice A3 x.d.is.len c3] 44)) (fun _ _ _ h => h)
             obtain ⟨hI0, cs, hI1, hI2⟩ := hI.out
             have hI1b := own_turns hI1 T7 (fun _ _ h => h)
             have hI2b := IAt.turns T7 (fun _ _ _ h => h) hI2
             rw [List.length_take, hN'.out, Nat.min_eq_left hj] at hI1b
             have hone : IAt (w6.alloc (.cells #[.int .i64 x.op, .int .i64 x.a, .int .i64 x.b, .string ⟨x.s.toArray⟩, .int .i64 x.d.k, .int .i64 x.d.n, .string ⟨x.d.s.toArray⟩, .slice A3 x.d.is.len c3] 44)) (fun g => w.heap.size ≤ g ∧ (Value.slice A8 j c8).ownBlock ≠ some g) [x] (icells x (.slice A3 x.d.is.len c3)) := IAt.one (hd7.mono (fun g _ hs => have h9 : wr.heap.size + 1 ≤ g := (by simpa using hs); ⟨(by have := hb.size; show w.heap.size ≤ g; omega), fun e => by have := (hI0 g e).2; omega⟩))
             have hn1 := own_one (e := 44) (sz := 8) (B := 0) w6 #[.int .i64 x.op, .int .i64 x.a, .int .i64 x.b, .string ⟨x.s.toArray⟩, .int .i64 x.d.k, .int .i64 x.d.n, .string ⟨x.d.s.toArray⟩, .slice A3 x.d.is.len c3] rfl (Nat.zero_le _)
             rw [e6] at hn1
             refine wpList_append_row (v := .slice A8 j c8) (x := .slice (some ⟨w3.heap.size, 0, none⟩) 1 1) (.agg #[.int .i64 0, .int .i64 0, .int .i64 0, .string ⟨#[]⟩, .int .i64 0, .int .i64 0, .string ⟨#[]⟩, .slice none 0 0]) 96 Tryd.infoInstr rfl (by decide) rfl _ _ 22 rfl Tryd.underlying22 rfl rfl hI1b hn1 IAt.cells (by omega) (by omega) (Nat.zero_le _) ?_
             intro v9 w9 hown9 hg9 hat9
             have hlt9 := World.ownsRow.lt hown9
             have hI9 : IOut w9 (fun g => w.heap.size ≤ g) v9 (l.take j ++ [x]) := IAt.grew (v := .slice A8 j c8) (fun g hg => ⟨(hI0 g hg).1, Nat.lt_of_lt_of_le (hI0 g hg).2 T7.size⟩) hI2b hone (by rw [List.length_append, List.length_take, hN'.out, Nat.min_eq_left hj]; exact hown9) hg9 hat9 (fun g hg => (hlt9 g hg).2) (Nat.le_trans hb.size T7.size)
             have hb9 : Below w.heap.size w w9 := ((Turns.of_below hb (fun g => w.heap.size ≤ g)).then ((T7.mono (Y := fun g => w.heap.size ≤ g) (fun _ _ h => h.elim)).grown hg9 (fun k hk _ => (hI0 k hk).1)) (fun _ _ h => h)).below (Nat.le_refl _) (fun _ h => h)
             have hI9' := Lib.hid hI9
             obtain ⟨A9, c9, e9⟩ := hI9.read
             rw [show (l.take j ++ [x]).length = j + 1 by rw [List.length_append, List.length_take, hN'.out, Nat.min_eq_left hj]; rfl] at e9
             subst e9
             clear hown9 hg9 hat9 hlt9 hI9 T6 T6b T7 hd6 hd7 hI0 hI1 hI2 hI1b hI2b hone)))
      go_roundw
      case rel => exact ⟨j + 1, by omega, by go_num, Lib.hid (by rw [htk'.out]; exact hI9'.out), hb9⟩
      case measure => simp [intOf]; omega
    · obtain rfl : j = N := by omega
      have htk : l.take j = l := by rw [← hN'.out]; exact List.take_length
      rw [htk] at hI
      go_wp2_with fail
      go_ret
      exact ⟨_, rfl, hI.out, hb⟩
end Go.Proofs.YthfelkcomhflnaaDoor
