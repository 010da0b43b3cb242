/- The reference's Same of two stacks. -/
import Derived.Test.YthfelkcomhflnaaDoorQ26
import Derived.Test.YthfelkcomhflnaaDoorQ22
import Derived.Deep.CutRange
import Derived.Test.YthfelkcomhflnaaDoorQ28
import Derived.Test.YthfelkcomhflnaaDoorQ35
import Derived.Test.YthfelkcomhflnaaDoorQ29
import Derived.Test.YthfelkcomhflnaaDoorQ39
import Derived.Test.YthfelkcomhflnaaDoorQ40
import Derived.Test.YthfelkcomhflnaaDoorQ19
import Derived.Test.YthfelkcomhflnaaDoorQ2
namespace Go.Proofs.YthfelkcomhflnaaDoor
open Go.ChangeShapes Go.WideShapes Go.ChangeAt Go.RowKit Go.Deep
open CD (Ins)

set_option maxRecDepth 100000 in
set_option maxHeartbeats 8000000 in
theorem rsame16_any (l m : List Int) (w : World) (v u : Value) (h : PIn w v l) (k : PIn w u m) : Calls Tryd.prog 12 #[v, u] w fun e w' => e = .returned (.bool (decide (l = m))) ∧ Went w w' := by
  have hl := h.len
  have hm := k.len
  obtain ⟨A, c, rfl⟩ := h.read
  obtain ⟨A2, c2, rfl⟩ := k.read
  obtain ⟨L, hL⟩ : ∃ L, l.length = L := ⟨_, rfl⟩
  obtain ⟨M, hM⟩ : ∃ M, m.length = M := ⟨_, rfl⟩
  rw [hL] at h hl ⊢
  rw [hM] at k hm ⊢
  have hL' := Lib.hid hL
  have hM' := Lib.hid hM
  clear hL hM
  by_cases hne : L = M
  · subst hne
    go_enter Tryd.func12, Tryd.ntmps12
    go_wp2_with fail
    go_loopw [5] (fun i wr => ∃ j : Nat, j ≤ L ∧ i = .int .i64 j ∧ Hid (l.take j = m.take j) ∧ Below w.heap.size w wr) (fun i _ => L - (intOf i).toNat)
    case atStart => exact ⟨0, by omega, rfl, Lib.hid (by simp), Below.refl _ _⟩
    case round =>
      obtain ⟨j, hj, rfl, hf, hb⟩ := hrel
      by_cases hlt : j < L
      · obtain ⟨x, hx⟩ : ∃ x, l[j]? = some x := ⟨_, List.getElem?_eq_getElem (by rw [hL'.out]; exact hlt)⟩
        obtain ⟨y, hy⟩ : ∃ y, m[j]? = some y := ⟨_, List.getElem?_eq_getElem (by rw [hM'.out]; exact hlt)⟩
        obtain ⟨b, o, rfl, hbl, p0⟩ := (h.below hb).cell hx
        obtain ⟨b2, o2, rfl, hbl2, p2⟩ := (k.below hb).cell hy
        have hx' := Lib.hid hx
        have hy' := Lib.hid hy
        clear hx hy
        by_cases hxy : x = y
        · subst hxy
          go_wp2_with fail
          all_goals (try go_quiet (fail))
          go_wp2_with fail
          go_roundw
          case rel => exact ⟨j + 1, by omega, by go_num, Lib.hid (by rw [List.take_add_one, List.take_add_one, hx'.out, hy'.out, hf.out]), below_drewN hb _⟩
          case measure => simp [intOf]; omega
        · have exy : (x == y) = false := by simp [hxy]
          go_wp2_with fail
          all_goals (try go_quiet (fail))
          go_wp2_with fail
          go_ret
          exact ⟨ret_b (by symm; rw [decide_eq_false_iff_not]; intro e; rw [e, hy'.out] at hx'; have := hx'.out; injection this with this; exact hxy this.symm), below_drewN hb _⟩
      · obtain rfl : j = L := by omega
        go_wp2_with fail
        go_ret
        exact ⟨ret_b (by symm; rw [decide_eq_true_iff]; have := hf.out; rw [List.take_of_length_le (by rw [hL'.out]; omega), List.take_of_length_le (by rw [hM'.out]; omega)] at this; exact this), hb⟩
  · have e1 : (L == M) = false := by simp [hne]
    go_enter Tryd.func12, Tryd.ntmps12
    go_wp2_with fail
    go_ret
    exact ⟨ret_b (by symm; rw [decide_eq_false_iff_not]; intro e; rw [e, hM'.out] at hL'; exact hne hL'.out.symm), Below.refl _ _⟩
end Go.Proofs.YthfelkcomhflnaaDoor

/- The law's awake of stage 16. -/
namespace Go.Proofs.YthfelkcomhflnaaDoor
open Go.ChangeShapes Go.WideShapes Go.ChangeAt Go.RowKit Go.Deep
open CD (Ins)

def cn0 : RM.Dm := ⟨0, 0, [], .nil⟩
def aw7 : List Ins := [⟨10, 6, 0, [], cn0⟩, ⟨3, 0, 0, [102], cn0⟩, ⟨11, 0, 0, [], cn0⟩, ⟨1, 0, 0, [], ⟨1, 1, [], .nil⟩⟩, ⟨11, 0, 0, [], cn0⟩, ⟨12, 1, 0, [], cn0⟩, ⟨14, 0, 0, [], cn0⟩]
def aw6 : List Ins := [⟨10, 6, 0, [], cn0⟩, ⟨3, 0, 0, [102], cn0⟩, ⟨11, 0, 0, [], cn0⟩, ⟨1, 0, 0, [], ⟨1, 1, [], .nil⟩⟩, ⟨11, 0, 0, [], cn0⟩, ⟨12, 1, 0, [], cn0⟩]
def awm : List Ins := [⟨10, 6, 0, [], cn0⟩, ⟨3, 0, 0, [102], cn0⟩, ⟨11, 0, 0, [], cn0⟩, ⟨1, 0, 0, [], ⟨1, 1, [], .nil⟩⟩, ⟨11, 0, 0, [], cn0⟩, ⟨12, 2, 0, [], cn0⟩, ⟨14, 0, 0, [], cn0⟩]
def awS : List (List Int) := [[0], [0, 0], [0, 0], [0, 1], [0, 1], [0, 2], [0]]
theorem aw7_rgt : CD.rgt aw7 = true := by decide +kernel
theorem aw6_rgt : CD.rgt aw6 = false := by decide +kernel
theorem awm_rgt : CD.rgt awm = true := by decide +kernel
section
variable {l : List Ins} (h0 : l[0]? = some ⟨10, 6, 0, [], cn0⟩) (h1 : l[1]? = some ⟨3, 0, 0, [102], cn0⟩) (h2 : l[2]? = some ⟨11, 0, 0, [], cn0⟩) (h3 : l[3]? = some ⟨1, 0, 0, [], ⟨1, 1, [], .nil⟩⟩) (h4 : l[4]? = some ⟨11, 0, 0, [], cn0⟩)
include h0 in
theorem aw_c1 : CD.Comes l 1 [0, 0] := .on (ts := [(6, [0]), (1, [0, 0])]) .start h0 rfl (by simp)
include h0 in
theorem aw_c6 : CD.Comes l 6 [0] := .on (ts := [(6, [0]), (1, [0, 0])]) .start h0 rfl (by simp)
include h0 h1 in
theorem aw_c2 : CD.Comes l 2 [0, 0] := .on (ts := [(2, [0, 0])]) (aw_c1 h0) h1 rfl (by simp)
include h0 h1 h2 in
theorem aw_c3 : CD.Comes l 3 [0, 1] := .on (ts := [(3, [0, 1])]) (aw_c2 h0 h1) h2 rfl (by simp)
include h0 h1 h2 h3 in
theorem aw_c4 : CD.Comes l 4 [0, 1] := .on (ts := [(4, [0, 1])]) (aw_c3 h0 h1 h2) h3 rfl (by simp)
include h0 h1 h2 h3 h4 in
theorem aw_c5 : CD.Comes l 5 [0, 2] := .on (ts := [(5, [0, 2])]) (aw_c4 h0 h1 h2 h3) h4 rfl (by simp)
end
theorem awm_no : ¬ CD.Well awm := fun h => h.on 5 [0, 2] ⟨12, 2, 0, [], cn0⟩ (aw_c5 rfl rfl rfl rfl rfl) rfl rfl
theorem aw7_fin : CD.Fin aw7 awS := by
  refine ⟨rfl, rfl, fun p s hp _ => ?_, fun p s x hp _ hx => ?_⟩
  · match p, hp with
    | 0, hp => cases hp; exact ⟨.start, by decide⟩
    | 1, hp => cases hp; exact ⟨aw_c1 rfl, by decide⟩
    | 2, hp => cases hp; exact ⟨aw_c2 rfl rfl, by decide⟩
    | 3, hp => cases hp; exact ⟨aw_c3 rfl rfl rfl, by decide⟩
    | 4, hp => cases hp; exact ⟨aw_c4 rfl rfl rfl rfl, by decide⟩
    | 5, hp => cases hp; exact ⟨aw_c5 rfl rfl rfl rfl rfl, by decide⟩
    | 6, hp => cases hp; exact ⟨aw_c6 rfl, by decide⟩
    | p + 7, hp => cases hp
  · match p, hp, hx with
    | 0, hp, hx => cases hp; cases hx; exact ⟨[(6, [0]), (1, [0, 0])], rfl, fun q t hm => by simp at hm; rcases hm with ⟨rfl, rfl⟩ | ⟨rfl, rfl⟩ <;> rfl⟩
    | 1, hp, hx => cases hp; cases hx; exact ⟨[(2, [0, 0])], rfl, fun q t hm => by simp at hm; obtain ⟨rfl, rfl⟩ := hm; rfl⟩
    | 2, hp, hx => cases hp; cases hx; exact ⟨[(3, [0, 1])], rfl, fun q t hm => by simp at hm; obtain ⟨rfl, rfl⟩ := hm; rfl⟩
    | 3, hp, hx => cases hp; cases hx; exact ⟨[(4, [0, 1])], rfl, fun q t hm => by simp at hm; obtain ⟨rfl, rfl⟩ := hm; rfl⟩
    | 4, hp, hx => cases hp; cases hx; exact ⟨[(5, [0, 2])], rfl, fun q t hm => by simp at hm; obtain ⟨rfl, rfl⟩ := hm; rfl⟩
    | 5, hp, hx => cases hp; cases hx; exact ⟨[], rfl, fun q t hm => by simp at hm⟩
    | 6, hp, hx => cases hp; cases hx; exact ⟨[], rfl, fun q t hm => by simp at hm⟩
    | p + 7, hp, hx => cases hp
def awT : ByteArray := ⟨#[48, 58, 32, 102, 114, 97, 109, 101, 32, 54, 10, 49, 58, 32, 103, 108, 111, 98, 97, 108, 32, 102, 10, 50, 58, 32, 112, 117, 115, 104, 10, 51, 58, 32, 99, 111, 110, 115, 116, 32, 49, 10, 52, 58, 32, 112, 117, 115, 104, 10, 53, 58, 32, 99, 97, 108, 108, 32, 49, 10, 54, 58, 32, 114, 101, 116, 117, 114, 110, 10]⟩
theorem aw7_text : CD.texts 0 aw7 = awT.data.toList := by
  have d : ∀ i : Nat, i < 10 → Lib.itoa (i : Int) = [UInt8.ofNat (48 + i)] := fun i hi => by
    unfold Lib.itoa
    rw [if_neg (by omega), Int.toNat_natCast, Lib.decDigits_one hi]
  have d0 := d 0 (by omega); have d1 := d 1 (by omega); have d2 := d 2 (by omega); have d3 := d 3 (by omega); have d4 := d 4 (by omega); have d5 := d 5 (by omega); have d6 := d 6 (by omega)
  simp only [Int.natCast_zero, Int.natCast_one] at d0 d1
  have e2 : ((2 : Nat) : Int) = 2 := rfl
  have e3 : ((3 : Nat) : Int) = 3 := rfl
  have e4 : ((4 : Nat) : Int) = 4 := rfl
  have e5 : ((5 : Nat) : Int) = 5 := rfl
  have e6 : ((6 : Nat) : Int) = 6 := rfl
  rw [e2] at d2; rw [e3] at d3; rw [e4] at d4; rw [e5] at d5; rw [e6] at d6
  simp [CD.texts, aw7, CD.line, CD.nm, CD.opd, CD.val, SM.txt, SM.one, cn0, d0, d1, d2, d3, d4, d5, d6]
  decide
theorem iin_lies {w : World} {S : Nat → Prop} {g c : Nat} {cs : List Value} {l : List Ins} (h : Lies w g 44 cs) {c2 : List Value} (hp : ∀ (i : Nat) (y : Value), c2[i]? = some y → cs[i]? = some y) (H : IAt w S l c2) (hl : l.length ≤ 1000) : IIn w (.slice (some ⟨g, 0, none⟩) l.length c) l := by
  refine ⟨_, _, rfl, by omega, g, 0, fun _ => ⟨rfl, h.lt⟩, fun j x hx => ?_⟩
  obtain ⟨u, hd, H2⟩ := H.at_ hx
  refine ⟨u, hd.in_, fun i y hy => ?_⟩
  rw [Nat.zero_add, h.cell]
  exact hp _ _ (H2 i y hy)
def aw7c : List Value := [.int .i64 10, .int .i64 6, .int .i64 0, .string ⟨#[]⟩, .int .i64 0, .int .i64 0, .string ⟨#[]⟩, .slice none 0 0,
  .int .i64 3, .int .i64 0, .int .i64 0, .string ⟨#[102]⟩, .int .i64 0, .int .i64 0, .string ⟨#[]⟩, .slice none 0 0,
  .int .i64 11, .int .i64 0, .int .i64 0, .string ⟨#[]⟩, .int .i64 0, .int .i64 0, .string ⟨#[]⟩, .slice none 0 0,
  .int .i64 1, .int .i64 0, .int .i64 0, .string ⟨#[]⟩, .int .i64 1, .int .i64 1, .string ⟨#[]⟩, .slice none 0 0,
  .int .i64 11, .int .i64 0, .int .i64 0, .string ⟨#[]⟩, .int .i64 0, .int .i64 0, .string ⟨#[]⟩, .slice none 0 0,
  .int .i64 12, .int .i64 1, .int .i64 0, .string ⟨#[]⟩, .int .i64 0, .int .i64 0, .string ⟨#[]⟩, .slice none 0 0,
  .int .i64 14, .int .i64 0, .int .i64 0, .string ⟨#[]⟩, .int .i64 0, .int .i64 0, .string ⟨#[]⟩, .slice none 0 0]
theorem aw7_at (w : World) : IAt w (fun _ => True) aw7 aw7c :=
  ⟨_, _, rfl, Dat.nil _ _, _, _, rfl, Dat.nil _ _, _, _, rfl, Dat.nil _ _, _, _, rfl, Dat.nil _ _, _, _, rfl, Dat.nil _ _, _, _, rfl, Dat.nil _ _, _, _, rfl, Dat.nil _ _, rfl⟩
theorem aw6_at (w : World) : IAt w (fun _ => True) aw6 (aw7c.take 48) :=
  ⟨_, _, rfl, Dat.nil _ _, _, _, rfl, Dat.nil _ _, _, _, rfl, Dat.nil _ _, _, _, rfl, Dat.nil _ _, _, _, rfl, Dat.nil _ _, _, _, rfl, Dat.nil _ _, rfl⟩
theorem awm_at {w : World} {S : Nat → Prop} {cs : List Value} (h : IAt w S aw7 cs) : IAt w S awm (cs.set 41 (.int .i64 2)) := by
  obtain ⟨v0, c0, rfl, d0, v1, c1, rfl, d1, v2, c2, rfl, d2, v3, c3, rfl, d3, v4, c4, rfl, d4, v5, c5, rfl, d5, v6, c6, rfl, d6, rfl⟩ := h
  exact ⟨v0, _, rfl, d0, v1, _, rfl, d1, v2, _, rfl, d2, v3, _, rfl, d3, v4, _, rfl, d4, v5, _, rfl, d5, v6, _, rfl, d6, rfl⟩
/-- m, behind its store -/
theorem awm_in {w : World} {v : Value} (h : IOut w (fun _ => True) v aw7) : ∃ g c, v = .slice (some ⟨g, 0, none⟩) 7 c ∧ w.cell? ⟨g, 41, none⟩ = some (.int .i64 1) ∧ w.frozen? ⟨g, 41, none⟩ = false ∧ IIn (w.setCell ⟨g, 41, none⟩ (.int .i64 2)) (.slice (some ⟨g, 0, none⟩) 7 c) awm := by
  obtain ⟨-, cs, ho, hi⟩ := h
  rcases ho.2 with ⟨-, e⟩ | ⟨g, cap, cur, e, -, hh, hc, hm, hs, ht⟩
  · exact absurd e (by decide)
  · have hL : Lies w g 44 cur.toList := by unfold Lies; simpa using hh
    have hsub : ∀ (i : Nat) (y : Value), cs[i]? = some y → cur.toList[i]? = some y := fun i y hy => by
      rw [← ht] at hy
      have hi := (List.getElem?_eq_some_iff.1 hy).1
      rw [List.length_take] at hi
      rw [List.getElem?_take_of_lt (by omega)] at hy
      exact hy
    have hne : v.ownBlock = some g := by rw [e]; rfl
    refine ⟨g, cap, e, ?_, hL.free 41, ?_⟩
    · rw [hL.cell]
      obtain ⟨v0, c0, rfl, d0, v1, c1, rfl, d1, v2, c2, rfl, d2, v3, c3, rfl, d3, v4, c4, rfl, d4, v5, c5, rfl, d5, v6, c6, rfl, d6, rfl⟩ := hi
      exact hsub 41 _ rfl
    · have T : Turns (fun k => k = g) w (w.setCell ⟨g, 41, none⟩ (.int .i64 2)) := (Turns.refl (fun k => k = g) w).setCell (p := ⟨g, 41, none⟩) (fun _ => rfl) _
      have hi2 := IAt.turns T (fun k _ hs e2 => hs.2 (by rw [hne, e2])) (awm_at hi)
      exact iin_lies (l := awm) (hL.stored 41 (.int .i64 2)) (fun i y hy => by
        rw [List.getElem?_set] at hy ⊢
        split at hy
        · split at hy
          · rw [if_pos (by assumption)]
            have : cs.length = 56 := ho.1
            have h9 : cur.toList.length = cap * 8 := by simpa using hs
            have h7 : 7 ≤ cap := hc
            rw [if_pos (by omega)]
            exact hy
          · cases hy
        · rw [if_neg (by assumption)]
          exact hsub i y hy) hi2 (by decide)
end Go.Proofs.YthfelkcomhflnaaDoor
