/- The reference's Own: a datum in new memory. -/
import Derived.Test.YthfelkcomhflnaaDoorQ14
import Derived.Deep.CutRange
import Derived.Test.YthfelkcomhflnaaDoorQ10
import Derived.Shelf.Abstract
import Derived.Deep.RegionHeld3
import Derived.Deep.RegionWith
import Derived.Test.YthfelkcomhflnaaDoorShelf
namespace Go.Proofs.YthfelkcomhflnaaDoor
open Go.ChangeShapes Go.WideShapes Go.ChangeAt Go.RowKit

namespace SM
/-- the first data -/
def tk : RM.Dl → Nat → RM.Dl
  | _, 0 => .nil
  | .nil, _ + 1 => .nil
  | .cons k n s is r, i + 1 => .cons k n s is (tk r i)
theorem tk_all : ∀ d : RM.Dl, tk d d.len = d
  | .nil => rfl
  | .cons k n s is r => by rw [RM.Dl.len, tk, tk_all r]
theorem tk_len : ∀ (d : RM.Dl) (i : Nat), i ≤ d.len → (tk d i).len = i
  | .nil, 0, _ => rfl
  | .nil, i + 1, h => by simp [RM.Dl.len] at h
  | .cons k n s is r, 0, _ => rfl
  | .cons k n s is r, i + 1, h => by rw [tk, RM.Dl.len, tk_len r i (by simp only [RM.Dl.len] at h; omega)]
theorem tk_snoc : ∀ (d : RM.Dl) (i : Nat) (x : RM.Dm), d.at_ i = some x → tk d (i + 1) = (tk d i).snoc x
  | .nil, i, x, h => by simp [RM.Dl.at_] at h
  | .cons k n s is r, 0, x, h => by
    simp only [RM.Dl.at_, Option.some.injEq] at h
    subst h
    cases r <;> rfl
  | .cons k n s is r, i + 1, x, h => by
    show RM.Dl.cons k n s is (tk r (i + 1)) = _
    rw [tk_snoc r i x h]; rfl
theorem sz_in {d : RM.Dl} {i : Nat} {x : RM.Dm} (h : d.at_ i = some x) : sz x.is + 1 ≤ sz d := by
  have h2 : ∀ (d : RM.Dl) (i : Nat), sz (dr d i) ≤ sz d := by
    intro d
    induction d with
    | nil => intro i; cases i <;> exact Nat.le_refl _
    | cons k n s is r _ ih =>
      intro i
      cases i with
      | zero => exact Nat.le_refl _
      | succ i => have := ih i; show sz (dr r i) ≤ sz is + 1 + sz r; omega
  have := h2 d i
  rw [sz_at h] at this
  omega
theorem len_sz : ∀ d : RM.Dl, d.len ≤ sz d
  | .nil => Nat.le_refl _
  | .cons k n s is r => by have := len_sz r; simp only [RM.Dl.len, sz]; omega
end SM
theorem went_box' (w : World) (vs : Array Value) (t : TypeId) : Went w (w.alloc (.cells vs t)) := (Below.refl _ w).alloc (Nat.le_refl _) _
def OwnOk (x : RM.Dm) : Prop := ∀ (w : World) (v : Value), In w v x.is → SM.sz x.is ≤ 5000 →
  Calls Tryd.prog 19 #[dtv x v] w fun e w' => ∃ v', e = .returned (dtv x v') ∧ Dat w' (fun g => w.heap.size ≤ g) v' x.is ∧ Went w w'
set_option maxRecDepth 100000 in
set_option maxHeartbeats 8000000 in
theorem own_step (k n : Int) (s : List UInt8) (is : RM.Dl) (hP : ∀ i x, is.at_ i = some x → OwnOk x) : OwnOk ⟨k, n, s, is⟩ := by
  intro w v h1 hsz
  obtain ⟨A1, c1, rfl⟩ := h1.read
  have hlen := h1.len
  simp only at h1 hlen hsz ⊢
  unfold dtv
  simp only
  obtain ⟨N, hN⟩ : ∃ N, is.len = N := ⟨_, rfl⟩
  obtain ⟨Z, hZ⟩ : ∃ Z, SM.sz is = Z := ⟨_, rfl⟩
  rw [hN] at h1 hlen ⊢
  rw [hZ] at hsz
  have hN' := Lib.hid hN
  have hZ' := Lib.hid hZ
  have hP' := Lib.hid hP
  have hL := (Lies.made w 42 #[.int .i64 k, .int .i64 n, .string ⟨s.toArray⟩, .slice A1 N c1]).alloc (.cells #[.int .i64 0, .int .i64 0, .string ⟨#[]⟩, .slice none 0 0] 42)
  have hL2 : Lies ((w.alloc (.cells #[.int .i64 k, .int .i64 n, .string ⟨s.toArray⟩, .slice A1 N c1] 42)).alloc (.cells #[.int .i64 0, .int .i64 0, .string ⟨#[]⟩, .slice none 0 0] 42)) (w.heap.size + 1) 42 [.int .i64 0, .int .i64 0, .string ⟨#[]⟩, .slice none 0 0] := by
    have := Lies.made (w.alloc (.cells #[.int .i64 k, .int .i64 n, .string ⟨s.toArray⟩, .slice A1 N c1] 42)) 42 #[.int .i64 0, .int .i64 0, .string ⟨#[]⟩, .slice none 0 0]
    rwa [show (w.alloc (.cells #[.int .i64 k, .int .i64 n, .string ⟨s.toArray⟩, .slice A1 N c1] 42)).heap.size = w.heap.size + 1 by simp] at this
  have hb0 : Below w.heap.size w ((w.alloc (.cells #[.int .i64 k, .int .i64 n, .string ⟨s.toArray⟩, .slice A1 N c1] 42)).alloc (.cells #[.int .i64 0, .int .i64 0, .string ⟨#[]⟩, .slice none 0 0] 42)) := (went_box' _ _ _).alloc (by simp) _
  clear hN hP hZ
  go_enter Tryd.func19, Tryd.ntmps19
  go_wp2_with fail
  go_loopw [3, 4] (fun v8 i wr => ∃ (j : Nat), j ≤ N ∧ i = .int .i64 j ∧ Its wr (fun g => w.heap.size + 1 < g) v8 (SM.tk is j) ∧ Lies wr w.heap.size 42 [.int .i64 k, .int .i64 n, .string ⟨s.toArray⟩, .slice A1 N c1] ∧ Lies wr (w.heap.size + 1) 42 [.int .i64 0, .int .i64 0, .string ⟨#[]⟩, .slice none 0 0] ∧ Below w.heap.size w wr) (fun _ i _ => N - (intOf i).toNat)
  case atStart => exact ⟨0, by omega, rfl, by rw [show SM.tk is 0 = .nil by cases is <;> rfl]; exact Its.nil _ _, hL, hL2, hb0⟩
  case round =>
    obtain ⟨j, hj, rfl, hI, hM1, hM2, hb⟩ := hrel
    clear hL hL2 hb0
    have y3 : wr.cell? ⟨w.heap.size, 3, none⟩ = some (.slice A1 N c1) := hM1.cell 3
    have hz2 := hM2.lt
    obtain ⟨A8, c8, rfl⟩ := hI.read
    have htl : (SM.tk is j).len = j := SM.tk_len is j (by rw [hN'.out]; exact hj)
    by_cases hlt : j < N
    · obtain ⟨x, hx⟩ := is.at_some j (by rw [hN'.out]; exact hlt)
      obtain ⟨b, o, B, q, rfl, hbl, p0, p1, p2, p3, hd1⟩ := (h1.below hb).at_ hx
      have hup := SM.sz_in hx
      rw [hZ'.out] at hup
      have hjz : j ≤ Z := by
        have := SM.len_sz is
        rw [hN'.out, hZ'.out] at this
        omega
      have hC := Lib.hid (hP'.out j x hx wr (.slice B x.is.len q) hd1 (by omega))
      unfold dtv at hC
      have hsn := SM.tk_snoc is j x hx
      generalize SM.tk is j = out at hI hsn htl ⊢
      have hsn' := Lib.hid hsn
      have hIl2 := Lib.hid hI.lt
      have e8 : Value.slice A8 out.len c8 = .slice A8 j c8 := by rw [htl]
      rw [e8] at hI hIl2
      rw [e8]
      have htl' := Lib.hid htl
      clear hx hup hsn htl e8
      go_wp2_with (first
        | (go_at_call 19
           refine hC.out.mono ?_
           rintro e w3 ⟨v3, rfl, hd3, hb3⟩
           obtain ⟨A3, c3, rfl⟩ := hd3.read
           have hM3 := hM1.below hb3 hM1.lt
           have hM4 := hM2.below hb3 hM2.lt
           have hb4 : Below w.heap.size w w3 := hb.trans (hb3.mono hb.size)
           have hI3 := hI.below hb3
           have hs3 := hb3.size
           have hone : DatAt w3 (fun g => w.heap.size + 1 < g ∧ (Value.slice A8 j c8).ownBlock ≠ some g) (.one x) [.int .i64 x.k, .int .i64 x.n, .string ⟨x.s.toArray⟩, .slice A3 x.is.len c3] :=
             DatAt.cell1 (hd3.mono (fun g _ hs => ⟨by omega, fun hh => by have := (hIl2.out _ hh).2; omega⟩))
           clear hb3 hd3 p0 p1 p2 p3 y3)
        | (at_builtin
           have hIl3 := hI3.lt
           obtain ⟨cs, h1', -, h3⟩ := hI3
           rw [htl'.out] at h1'
           refine wpList_append_row (v := .slice A8 j c8) (x := .slice (some ⟨w3.heap.size, 0, none⟩) 1 1) (.agg #[.int .i64 0, .int .i64 0, .string ⟨#[]⟩, .slice none 0 0]) 56 Tryd.infoDatum rfl (by decide) rfl _ _ 40 rfl Tryd.underlying40 rfl rfl (own_turns h1' ((Turns.refl (fun _ => False) _).alloc _) (fun _ _ h => h)) (own_one (e := 42) (sz := 4) (B := 0) w3 #[.int .i64 x.k, .int .i64 x.n, .string ⟨x.s.toArray⟩, .slice A3 x.is.len c3] rfl (Nat.zero_le _)) (DatAt.one hone) (by omega) (by omega) (by simp) ?_
           intro v9 w9 hown9 hg9 hat9
           have T1 := Turns.appendedS hg9
           have hown9' : w9.ownsRow 0 42 4 v9 (out.len + (RM.Dl.one x).len) (cs ++ [.int .i64 x.k, .int .i64 x.n, .string ⟨x.s.toArray⟩, .slice A3 x.is.len c3]) := by rw [htl'.out]; exact hown9
           have hI9 : Its w9 (fun g => w.heap.size + 1 < g) v9 (out.snoc x) := Its.grew (e := .one x) hIl3 h3 hone ((Turns.refl (fun _ => False) _).alloc _) hown9' hg9 hat9 (fun g _ hs => hs) (by simp; omega)
           have hM5 := (Lies.alloc hM3 _).turns T1 (fun hh => by have := (hIl3 _ hh).1; omega)
           have hM6 := (Lies.alloc hM4 _).turns T1 (fun hh => by have := (hIl3 _ hh).1; omega)
           have hb9 : Below w.heap.size w w9 := (((Turns.of_below hb4 (fun _ => False)).alloc _).then T1 (fun k hk hh => by have := (hIl3 _ hh).1; omega)).below (Nat.le_refl _) (fun _ h => h.elim)
           clear hg9 hat9 hown9 hown9' T1 h1' h3 hone))
      go_roundw
      case rel => exact ⟨j + 1, by omega, by go_num, by rw [hsn'.out]; exact hI9, hM5, hM6, hb9⟩
      case measure => simp [intOf]; omega
    · obtain rfl : j = N := by omega
      have hall : SM.tk is j = is := by rw [← hN'.out]; exact SM.tk_all is
      rw [hall] at hI htl ⊢
      rw [htl] at hI ⊢
      have hL9 := (hM1.stored 3 (.slice A8 j c8))
      have hI9 := hI.dat.turns ((Turns.refl (fun k => k = w.heap.size) wr).setCell (p := ⟨w.heap.size, 3, none⟩) (fun _ => rfl) (.slice A8 j c8)) (fun g _ hs hh => by omega)
      have hM9 := hM2.far (p := ⟨w.heap.size, 3, none⟩) (by simp) (.slice A8 j c8)
      have hb9 : Below w.heap.size w (wr.setCell ⟨w.heap.size, 3, none⟩ (.slice A8 j c8)) := hb.setCell (p := ⟨w.heap.size, 3, none⟩) (Nat.le_refl _) _
      have q0 := hL9.cell 0
      have q1 := hL9.cell 1
      have q2 := hL9.cell 2
      have q3 := hL9.cell 3
      have f1 := hM1.free
      have f2 := hM9.free
      have m0 := hM9.cell 0
      have m1 := hM9.cell 1
      have m2 := hM9.cell 2
      have m3 := hM9.cell 3
      simp only [List.getElem?_cons_zero, List.getElem?_cons_succ, List.set_cons_zero, List.set_cons_succ] at q0 q1 q2 q3 m0 m1 m2 m3
      go_wp2_with fail
      have hF := four_lies hM9 (.int .i64 k) (.int .i64 n) (.string ⟨s.toArray⟩) (.slice A8 j c8)
      have r0 := hF.cell 0
      have r1 := hF.cell 1
      have r2 := hF.cell 2
      have r3 := hF.cell 3
      have hd9 := hI9.turns (four_one (wr.setCell ⟨w.heap.size, 3, none⟩ (.slice A8 j c8)) (w.heap.size + 1) (.int .i64 k) (.int .i64 n) (.string ⟨s.toArray⟩) (.slice A8 j c8)) (fun g _ hs hh => by omega)
      have hb10 := four_below hb9 (g := w.heap.size + 1) (by omega) (.int .i64 k) (.int .i64 n) (.string ⟨s.toArray⟩) (.slice A8 j c8)
      unfold four at r0 r1 r2 r3 hd9 hb10
      simp only [List.getElem?_cons_zero, List.getElem?_cons_succ] at r0 r1 r2 r3
      exact bodyPost_ret (v := .agg #[.int .i64 k, .int .i64 n, .string ⟨s.toArray⟩, .slice A8 j c8]) (by simp [results, Tryd.results19, go_sem, r0, r1, r2, r3]) rfl ⟨_, rfl, hd9.mono (fun g _ hs => by omega), hb10⟩
theorem own_any (x : RM.Dm) : OwnOk x := RM.Dl.all_of OwnOk own_step (.one x) 0 x (by cases x; rfl)
end Go.Proofs.YthfelkcomhflnaaDoor

/- Package term: are two data the same, all through? The library's EqualFunc over data; the reference's Same. -/
namespace Go.Proofs.YthfelkcomhflnaaDoor
open Go.ChangeShapes Go.WideShapes Go.ChangeAt Go.RowKit Go.Deep

theorem str_ne {a b : List UInt8} (h : ¬ a = b) : ((⟨a.toArray⟩ : ByteArray).toList == (⟨b.toArray⟩ : ByteArray).toList) = false ∧ ¬ (⟨a.toArray⟩ : ByteArray).toList = (⟨b.toArray⟩ : ByteArray).toList ∧ ((⟨a.toArray⟩ : ByteArray).toList != (⟨b.toArray⟩ : ByteArray).toList) = true := by
  have e : ∀ l : List UInt8, (⟨l.toArray⟩ : ByteArray).toList = l := fun l => by rw [ByteArray.toList_eq]
  rw [e, e]
  exact ⟨by simpa using h, h, by simpa using h⟩
def BoolIff (p : Prop) (w : World) (e : Ending) (w' : World) : Prop := ∃ r : Bool, e = .returned (.bool r) ∧ (r = true ↔ p) ∧ Went w w'
theorem SM.dr_eq {a b : RM.Dl} {j : Nat} {x y : RM.Dm} (hx : a.at_ j = some x) (hy : b.at_ j = some y) : SM.dr a j = SM.dr b j ↔ (x = y ∧ SM.dr a (j + 1) = SM.dr b (j + 1)) := by
  rw [SM.dr_at a j x hx, SM.dr_at b j y hy]
  obtain ⟨k, n, s, is⟩ := x
  obtain ⟨k2, n2, s2, is2⟩ := y
  simp only [RM.Dl.cons.injEq, RM.Dm.mk.injEq]
  constructor
  · rintro ⟨h1, h2, h3, h4, h5⟩; exact ⟨⟨h1, h2, h3, h4⟩, h5⟩
  · rintro ⟨⟨h1, h2, h3, h4⟩, h5⟩; exact ⟨h1, h2, h3, h4, h5⟩
end Go.Proofs.YthfelkcomhflnaaDoor

/- Package term: are two terms the same, all through? The library's Equal over ints, EqualFunc over terms. -/
namespace Go.Proofs.YthfelkcomhflnaaDoor
open Go.ChangeShapes Go.WideShapes Go.ChangeAt Go.RowKit Go.Deep
open TM (Tl Tm)

theorem equalInts_any (a b : List Int) (w : World) (u v : Value) (h1 : PIn w u a) (h2 : PIn w v b) : Calls Tryd.prog 50 #[u, v] w (BoolIff (a = b) w) := by
  obtain ⟨A1, c1, e1, hl1, b1, o1, k1, q1⟩ := h1
  obtain ⟨A2, c2, e2, hl2, b2, o2, k2, q2⟩ := h2
  subst e1 e2
  have wd : ∀ q, Went w (w.drewN q) := fun q => below_drewN (Below.refl _ _) q
  by_cases hne : a.length = b.length
  · by_cases h0 : a.length = 0
    · have ha : a = [] := List.eq_nil_of_length_eq_zero h0
      have hb : b = [] := List.eq_nil_of_length_eq_zero (by omega)
      subst ha hb
      refine (Tryd.slices_Equal_int_empty A1 A2 c1 0 c2 w (by omega)).mono ?_
      rintro e w' ⟨rfl, rfl⟩
      exact ⟨_, rfl, by simp, Below.refl _ _⟩
    · obtain ⟨hA1, _⟩ := k1 (by omega)
      obtain ⟨hA2, _⟩ := k2 (by omega)
      subst hA1 hA2
      have g : ∀ (l : List Int) (j : Nat), j < l.length → l[j]? = some (l.getD j 0) := fun l j hj => by
        rw [List.getD_eq_getElem?_getD, List.getElem?_eq_getElem hj]; rfl
      refine (Tryd.slices_Equal_int b1 o1 a.length c1 b2 o2 b.length c2 a b w (Nat.le_refl _) (Nat.le_refl _) hl1 hl2 (fun j hj => q1 j _ (g a j hj)) (fun j hj => q2 j _ (g b j hj))).mono ?_
      rintro e w' ⟨rfl, q, rfl⟩
      exact ⟨_, rfl, by rw [List.take_length, List.take_length, beq_iff_eq], wd q⟩
  · refine (Tryd.slices_Equal_int_lens A1 A2 a.length c1 b.length c2 w hne).mono ?_
    rintro e w' ⟨rfl, rfl⟩
    refine ⟨_, rfl, ?_, Below.refl _ _⟩
    constructor
    · intro h; simp at h
    · intro h; exact absurd (by rw [h]) hne
theorem TM.dr_eq {a b : Tl} {j : Nat} {x y : Tm} (hx : a.at_ j = some x) (hy : b.at_ j = some y) : Tl.dr a j = Tl.dr b j ↔ (x = y ∧ Tl.dr a (j + 1) = Tl.dr b (j + 1)) := by
  rw [Tl.dr_at a j x hx, Tl.dr_at b j y hy]
  obtain ⟨k, n, s, ps, d, is⟩ := x
  obtain ⟨k2, n2, s2, ps2, d2, is2⟩ := y
  simp only [Tl.cons.injEq, Tm.mk.injEq]
  constructor
  · rintro ⟨h1, h2, h3, h4, h5, h6, h7⟩; exact ⟨⟨h1, h2, h3, h4, h5, h6⟩, h7⟩
  · rintro ⟨⟨h1, h2, h3, h4, h5, h6⟩, h7⟩; exact ⟨h1, h2, h3, h4, h5, h6, h7⟩
end Go.Proofs.YthfelkcomhflnaaDoor
