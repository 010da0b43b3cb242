/- The plain mathematics of layer 15: where each local is bound, noted in the order of their numbers, finds what the ribs find. No dump is read here. -/
import Derived.Test.YtpiekdcbjkgipaaQ35
import Derived.Test.YtpiekdcbjkgipaaQ39
import Derived.Test.YtpiekdcbjkgipaaQ10
namespace Go.Proofs.Ytpiekdcbjkgipaa.SC
open Go.RowKit TM

/-- where the locals of a procedure are bound that stands within so many others -/
def hom (a : Nat) (ps : List Int) : List (Nat × Nat) := (List.range ps.length).map fun i => (a, i)
theorem hom_len (a : Nat) (ps : List Int) : (hom a ps).length = ps.length := by simp [hom]
theorem hom_at (a : Nat) (ps : List Int) {i : Nat} (h : i < ps.length) : (hom a ps)[i]? = some (a, i) := by simp [hom, h]
/-- those of all that stand in these terms -/
def hms : Nat → Tl → List (Nat × Nat)
  | _, .nil => []
  | a, .cons k _ _ ps _ ks r => (if k = 8 then hom a ps else []) ++ (hms (if k = 8 then a + 1 else a) ks ++ hms a r)
def hm1 (a : Nat) (t : Tm) : List (Nat × Nat) := (if t.k = 8 then hom a t.ps else []) ++ hms (if t.k = 8 then a + 1 else a) t.ks
theorem hms_snoc (a : Nat) : ∀ (d : Tl) (x : Tm), hms a (d.snoc x) = hms a d ++ hm1 a x
  | .nil, x => by
    obtain ⟨k, n, s, ps, e, ks⟩ := x
    show hms a (.cons k n s ps e ks .nil) = _
    simp [hms, hm1]
  | .cons k n s ps e ks r, x => by
    show (_ ++ (_ ++ hms a (r.snoc x))) = _
    rw [hms_snoc a r x]; simp [hms]
theorem hms_len : ∀ {bd : List Int} {d : Tl} (a : Nat), rtl bd d = true → (hms a d).length = (prs d).length
  | _, .nil, _, _ => rfl
  | bd, .cons k n s ps d ks r, a, h => by
    simp only [rtl, Bool.and_eq_true] at h
    have h1 := hms_len (if k = 8 then a + 1 else a) h.1.2
    have h2 := hms_len a h.2
    rw [hms, prs, List.length_append, List.length_append, List.length_append, List.length_append, h1, h2]
    by_cases hk : k = 8
    · rw [if_pos hk, hom_len]
    · rw [if_neg hk, show ps = [] from fit_ps (t := ⟨k, n, s, ps, d, ks⟩) h.1.1 hk]
      rfl
/-- each local of the ribs is noted at its number -/
def HOk (R : List (List Int)) (H : List (Nat × Nat)) : Prop := ∀ (u : Nat) (r : List Int) (x : Int), R[u]? = some r → x ∈ r → 1 ≤ x ∧ H[(x - 1).toNat]? = some (R.length - 1 - u, r.idxOf x)
theorem HOk.nil (H : List (Nat × Nat)) : HOk [] H := fun u r x h => by simp at h
theorem HOk.app {R : List (List Int)} {H : List (Nat × Nat)} (h : HOk R H) (E : List (Nat × Nat)) : HOk R (H ++ E) := fun u r x hr hx => by
  obtain ⟨h1, h2⟩ := h u r x hr hx
  refine ⟨h1, ?_⟩
  rw [List.getElem?_append_left (List.getElem?_eq_some_iff.1 h2).1]
  exact h2
theorem HOk.push {R : List (List Int)} {H : List (Nat × Nat)} (h : HOk R H) {ps : List Int} (hp : ps = cnt (H.length + 1) ps.length) : HOk (ps :: R) (H ++ hom R.length ps) := by
  intro u r x hr hx
  cases u with
  | zero =>
    simp at hr; subst hr
    have hx2 := hx
    rw [hp, cnt_mem] at hx2
    obtain ⟨i, hi, rfl⟩ : ∃ i : Nat, i < ps.length ∧ x = (H.length : Int) + 1 + i := ⟨(x - (H.length + 1)).toNat, by omega, by omega⟩
    refine ⟨by omega, ?_⟩
    have e1 : ((H.length : Int) + 1 + i - 1).toNat = H.length + i := by omega
    have e2 : ps.idxOf ((H.length : Int) + 1 + i) = i := by rw [hp]; exact cnt_idx _ hi
    rw [e1, e2, List.getElem?_append_right (by omega), Nat.add_sub_cancel_left, hom_at _ _ hi]
    simp
  | succ u =>
    have hr' : R[u]? = some r := by simpa using hr
    obtain ⟨h1, h2⟩ := (h.app (hom R.length ps)) u r x hr' hx
    refine ⟨h1, ?_⟩
    rw [h2, List.length_cons, show R.length + 1 - 1 - (u + 1) = R.length - 1 - u by omega]
theorem first_rib (x : Int) : ∀ R : List (List Int), (∃ r ∈ R, x ∈ r) → ∃ (u : Nat) (r : List Int), R[u]? = some r ∧ x ∈ r ∧ ∀ i : Nat, i < u → ∀ r' : List Int, R[i]? = some r' → ¬ x ∈ r'
  | [], h => by obtain ⟨r, h, _⟩ := h; simp at h
  | r :: R, h => by
    by_cases hx : x ∈ r
    · exact ⟨0, r, by simp, hx, fun i hi => by omega⟩
    · obtain ⟨r', hr', hx'⟩ := h
      rcases List.mem_cons.1 hr' with e | e
      · subst e; exact absurd hx' hx
      · obtain ⟨u, q, h1, h2, h3⟩ := first_rib x R ⟨r', e, hx'⟩
        refine ⟨u + 1, q, by simpa using h1, h2, fun i hi r2 hr2 => ?_⟩
        cases i with
        | zero => simp at hr2; subst hr2; exact hx
        | succ i => exact h3 i (by omega) r2 (by simpa using hr2)
/-- a local that is bound is found by its number as the ribs find it -/
theorem HOk.found {R : List (List Int)} {H : List (Nat × Nat)} (h : HOk R H) {x : Int} (hx : ∃ r ∈ R, x ∈ r) : ∃ a i : Nat, 1 ≤ x ∧ H[(x - 1).toNat]? = some (a, i) ∧ a < R.length ∧ plu 0 R x = 32 * ((R.length : Int) - 1 - a) + i := by
  obtain ⟨u, r, h1, h2, h3⟩ := first_rib x R hx
  obtain ⟨h4, h5⟩ := h u r x h1 h2
  have hu := (List.getElem?_eq_some_iff.1 h1).1
  refine ⟨R.length - 1 - u, r.idxOf x, h4, h5, by omega, ?_⟩
  rw [plu_at x 0 R u r h1 h2 h3]
  omega
theorem cnt_split {a : Int} {l1 l2 : List Int} (h : l1 ++ l2 = cnt a (l1 ++ l2).length) : l1 = cnt a l1.length ∧ l2 = cnt (a + l1.length) l2.length := by
  rw [List.length_append, ← cnt_app] at h
  exact List.append_inj h (by rw [cnt_len])
theorem up1_cnt (n : Nat) : up1 n = cnt 1 n := by
  simp only [up1, cnt]
  refine List.map_congr_left fun i _ => ?_
  omega
/-- the Params of what Alpha answers are numbered in their order -/
theorem alpha_prs {t : Tm} (h : okt t = true) : (alpha t).ps ++ prs (alpha t).ks = cnt 1 (t.ps ++ prs t.ks).length := by
  have hL : (t.ps ++ prs t.ks).Nodup := by
    have h3 := (okt_parts h).2.2.1
    rw [frs_iff] at h3
    exact h3.2.1
  have e : (alpha t).ps ++ prs (alpha t).ks = (t.ps ++ prs t.ks).map (pl (t.ps ++ prs t.ks)) := by
    rw [alpha, nm1_ren]
    show t.ps.map _ ++ prs (ren _ t.ks) = _
    rw [ren_prs, List.map_append]
  rw [e]
  generalize t.ps ++ prs t.ks = L at hL
  refine List.ext_getElem (by rw [List.length_map, cnt_len]) fun i h1 h2 => ?_
  rw [List.length_map] at h1
  rw [List.getElem_map]
  have hi : L.idxOf (L[i]) = i := hL.idxOf_getElem i h1
  unfold pl
  rw [if_pos (by simp), hi]
  simp only [cnt, List.getElem_map, List.getElem_range]
  omega
def st1 (t : Tm) : List Int := (if t.k = 4 then [t.n] else []) ++ stl t.ks
theorem stl_snoc : ∀ (d : Tl) (x : Tm), stl (d.snoc x) = stl d ++ st1 x
  | .nil, x => by
    obtain ⟨k, n, s, ps, e, ks⟩ := x
    show stl (.cons k n s ps e ks .nil) = _
    simp [stl, st1]
  | .cons k n s ps e ks r, x => by
    show (_ ++ (_ ++ stl (r.snoc x))) = _
    rw [stl_snoc r x]; simp [stl]
end Go.Proofs.Ytpiekdcbjkgipaa.SC

/- Package scope: where locals are bound, in memory; bind notes a procedure's, place finds one by its number. -/
namespace Go.Proofs.Ytpiekdcbjkgipaa
open Go.ChangeShapes Go.WideShapes Go.ChangeAt Go.RowKit Go.Deep
open TM (Tl Tm)

theorem Try.infoHome : (Try.prog.info? 90).map (fun i => (i.zero, i.size, i.bytes)) = some (some (.agg #[.int .i64 0, .int .i64 0]), 2, 16) := by kernel_rfl
/-- the cells of such a row -/
def hcl (H : List (Nat × Nat)) : List Value := H.flatMap fun p => [.int .i64 (p.1 : Int), .int .i64 (p.2 : Int)]
theorem hcl_len : ∀ H : List (Nat × Nat), (hcl H).length = H.length * 2
  | [] => rfl
  | p :: H => by
    show (_ :: _ :: hcl H).length = _
    simp only [List.length_cons, hcl_len H]; omega
theorem hcl_app (H E : List (Nat × Nat)) : hcl (H ++ E) = hcl H ++ hcl E := by simp [hcl]
theorem hcl_at : ∀ {H : List (Nat × Nat)} {i a b : Nat}, H[i]? = some (a, b) → (hcl H)[i * 2]? = some (.int .i64 (a : Int)) ∧ (hcl H)[i * 2 + 1]? = some (.int .i64 (b : Int))
  | [], i, a, b, h => by simp at h
  | p :: H, 0, a, b, h => by
    simp at h; subst h
    exact ⟨rfl, rfl⟩
  | p :: H, i + 1, a, b, h => by
    obtain ⟨h1, h2⟩ := hcl_at (H := H) (i := i) (by simpa using h)
    have e : ∀ j, (hcl (p :: H))[j + 2]? = (hcl H)[j]? := fun j => rfl
    rw [show (i + 1) * 2 = i * 2 + 2 by omega, show i * 2 + 2 + 1 = (i * 2 + 1) + 2 by omega, e, e]
    exact ⟨h1, h2⟩
/-- the box q holds these, by the row v -/
structure Hs (w : World) (q : Nat) (v : Value) (H : List (Nat × Nat)) : Prop where
  box : Lies w q 45 [v]
  row : w.ownsRow 0 90 2 v H.length (hcl H)
  small : ∀ p ∈ H, p.1 ≤ 1000 ∧ p.2 ≤ 1000
theorem row_apart {w : World} {B B' sz sz' n n' : Nat} {e e' : TypeId} {v v' : Value} {xs xs' : List Value} (h : w.ownsRow B e sz v n xs) (k : w.ownsRow B' e' sz' v' n' xs') (hne : e ≠ e') : ∀ g, v.ownBlock = some g → v'.ownBlock ≠ some g := by
  intro g hg hg'
  rcases h.2 with ⟨rfl, _⟩ | ⟨g1, c1, u1, rfl, _, h1, _⟩
  · simp [Value.ownBlock] at hg
  rcases k.2 with ⟨rfl, _⟩ | ⟨g2, c2, u2, rfl, _, h2, _⟩
  · simp [Value.ownBlock] at hg'
  have e1 : g1 = g := by simpa [Value.ownBlock] using hg
  have e2 : g2 = g := by simpa [Value.ownBlock] using hg'
  subst e1; subst e2
  rw [h1] at h2
  simp at h2
  exact hne h2.2
theorem row_lies {w : World} {B sz n g : Nat} {e t : TypeId} {v : Value} {xs cs : List Value} (h : w.ownsRow B e sz v n xs) (k : Lies w g t cs) (hne : e ≠ t) : v.ownBlock ≠ some g := by
  intro hg
  rcases h.2 with ⟨rfl, _⟩ | ⟨g1, c1, u1, rfl, _, h1, _⟩
  · simp [Value.ownBlock] at hg
  have e1 : g1 = g := by simpa [Value.ownBlock] using hg
  subst e1
  unfold Lies at k
  rw [h1] at k
  simp at k
  exact hne k.2
theorem Hs.turns {w w' : World} {q : Nat} {v : Value} {H : List (Nat × Nat)} {X : Nat → Prop} (h : Hs w q v H) (k : Turns X w w') (hq : ¬ X q) (hv : ∀ g, v.ownBlock = some g → ¬ X g) : Hs w' q v H :=
  ⟨h.box.turns k hq, own_turns h.row k hv, h.small⟩
theorem Hs.below {w w' : World} {q : Nat} {v : Value} {H : List (Nat × Nat)} (h : Hs w q v H) (k : Below w.heap.size w w') : Hs w' q v H := h.turns (Turns.of_below k (fun _ => False)) (fun h => h) (fun _ _ h => h)
/-- such a row is no kids' row, no params' row, no box -/
theorem Hs.int {w : World} {q B : Nat} {v u : Value} {H : List (Nat × Nat)} {l : List Int} (h : Hs w q v H) (k : Own w B u l) : (∀ g, v.ownBlock = some g → u.ownBlock ≠ some g) ∧ u.ownBlock ≠ some q :=
  ⟨row_apart h.row k (by decide), row_lies k h.box (by decide)⟩
theorem Hs.self {w : World} {q : Nat} {v : Value} {H : List (Nat × Nat)} (h : Hs w q v H) : v.ownBlock ≠ some q := row_lies h.row h.box (by decide)
set_option maxRecDepth 100000 in
set_option maxHeartbeats 4000000 in
theorem hbind_any (w : World) (q : Nat) (v vp : Value) (H : List (Nat × Nat)) (ps : List Int) (a : Nat) (hH : Hs w q v H) (hp : Own w 0 vp ps) (hl : ps.length ≤ 200) (hn : H.length + ps.length ≤ 100000) (ha : a ≤ 1000) :
    Calls Try.prog 20 #[.pointer (some ⟨q, 0, none⟩), vp, .int .i64 (a : Int)] w fun e w' => e = .returned (.tuple #[]) ∧ ∃ v', Hs w' q v' (H ++ SC.hom a ps) ∧ Own w' 0 vp (SC.up1 ps.length) ∧ (∀ g, v'.ownBlock = some g → v.ownBlock = some g ∨ w.heap.size ≤ g) ∧ Turns (fun g => g = q ∨ v.ownBlock = some g ∨ vp.ownBlock = some g) w w' := by
  obtain ⟨A, c, rfl, -⟩ := hp.read
  obtain ⟨L, hL⟩ : ∃ x, ps.length = x := ⟨_, rfl⟩
  have hL' := Lib.hid hL
  rw [hL] at hp hl hn ⊢
  have hq0 := hH.box.lt
  go_enter Try.func20, Try.ntmps20
  go_wp2_with fail
  go_loopw [9] (fun i wr => ∃ (j : Nat) (v1 : Value), j ≤ L ∧ i = .int .i64 j ∧ Hs wr q v1 (H ++ (SC.hom a ps).take j) ∧ Own wr 0 (.slice A L c) (SC.up1 j ++ ps.drop j) ∧ (∀ g, v1.ownBlock = some g → v.ownBlock = some g ∨ w.heap.size ≤ g) ∧ Turns (fun g => g = q ∨ v.ownBlock = some g ∨ (Value.slice A L c).ownBlock = some g) w wr) (fun i _ => L - (intOf i).toNat)
  case atStart =>
    exact ⟨0, v, Nat.zero_le _, rfl, by simpa using hH, by simpa [SC.up1] using hp, fun g hg => .inl hg, Turns.refl _ _⟩
  case round =>
    obtain ⟨j, v1, hj, rfl, hH1, hp1, hv1, hT⟩ := hrel
    by_cases hlt : j < L
    · have hln : (H ++ (SC.hom a ps).take j).length = H.length + j := by
        rw [List.length_append, List.length_take, SC.hom_len, hL'.out]; omega
      have hln2 : (SC.up1 j ++ ps.drop j).length = L := by
        rw [List.length_append, SC.up1_len, List.length_drop, hL'.out]; omega
      obtain ⟨g, rfl, -, hg2, hgc⟩ := hp1.cell (j := j) (by rw [hln2]; exact hlt)
      have hrow := hH1.row
      have hsm := Lib.hid hH1.small
      rw [hln] at hrow
      obtain ⟨A1, c1, rfl, -⟩ := own_read hrow
      have hgq : g ≠ q := fun e => (hH1.int hp1).2 (by rw [← e]; rfl)
      have hgv : (Value.slice A1 (H.length + j) c1).ownBlock ≠ some g := fun e => (hH1.int hp1).1 g e rfl
      have hqv : (Value.slice A1 (H.length + j) c1).ownBlock ≠ some q := hH1.self
      have hx1 : ∀ b, (Value.slice (some ⟨g, 0, none⟩) L c).ownBlock = some b → ¬ (Value.slice A1 (H.length + j) c1).ownBlock = some b := fun b hb h => hgv (by cases hb; exact h)
      have hx2 : ∀ b, (Value.slice (some ⟨g, 0, none⟩) L c).ownBlock = some b → ¬ b = q := fun b hb h => hgq (by cases hb; exact h)
      obtain ⟨y, hy⟩ : ∃ y, ((SC.up1 j ++ ps.drop j).map (Value.int .i64))[j]? = some y := ⟨_, List.getElem?_eq_getElem (by rw [List.length_map, hln2]; exact hlt)⟩
      have hbox := hH1.box
      have hbx : wr.cell? ⟨q, 0, none⟩ = some (.slice A1 (H.length + j) c1) := hbox.cell 0
      have hrow' := Lib.hid hrow
      have hp1r := hp1
      unfold Own at hp1r
      rw [hln2] at hp1r
      have hp1' := Lib.hid hp1r
      have hT' := Lib.hid hT
      have hgc' := Lib.hid hgc
      have hln' := Lib.hid hln
      have hln2' := Lib.hid hln2
      have hv1' := Lib.hid hv1
      clear hrow hp1 hp1r hT hgc hH1 hp hln hln2 hv1 hH
      go_wp2_with (
        at_builtin
        refine wpList_append_own (B := 0) (v := .slice A1 (H.length + j) c1) (x := .slice (some ⟨wr.heap.size, 0, none⟩) 1 1) (B' := 0) (.agg #[.int .i64 0, .int .i64 0]) 16 Try.infoHome rfl (by decide) rfl _ _ _ rfl Try.underlying45 rfl rfl (own_turns hrow'.out ((Turns.refl (fun _ => False) _).alloc _) (fun _ _ h => h)) (own_one (e := 90) (sz := 2) (B := 0) wr #[.int .i64 (a : Int), .int .i64 (j : Int)] rfl (Nat.zero_le _)) (by intro u hu; simp at hu; rcases hu with rfl | rfl <;> rfl) (by omega) (by decide) (Nat.zero_le _) ?_
        intro v2 w2 hown hg9 hat
        have T2 := ((Turns.refl (fun b => (Value.slice A1 (H.length + j) c1).ownBlock = some b) wr).alloc (.cells #[.int .i64 (a : Int), .int .i64 (j : Int)] 90)).then (Turns.appendedS hg9) (fun _ _ h => h)
        obtain ⟨A2, c2, rfl, -⟩ := own_read hown
        have hb2 := hbox.turns T2 hqv
        have q0 : w2.cell? ⟨q, 0, none⟩ = some (.slice A1 (H.length + j) c1) := hb2.cell 0
        have f0 := hb2.free 0
        have hP2 := own_turns hp1'.out T2 hx1
        have hP3 := own_turns hP2 ((Turns.refl (fun b => b = q) w2).setCell (p := ⟨q, 0, none⟩) (fun _ => rfl) (.slice A2 (H.length + j + 1) c2)) hx2
        have g0 := (World.ownsRow.cellAt hP3 j (by omega)).trans hy
        have gf := World.ownsRow.frozenAt hP3 j
        have R2 := Lib.hid (And.intro hown (And.intro T2 (And.intro hat (And.intro hb2 hP3))))
        clear hown T2 hg9 hat hb2 hP2 hP3)
      have hy' := Lib.hid hy
      clear g0 gf q0 f0 hy hbx
      have R3 := Lib.hid (show Hs ((w2.setCell ⟨q, 0, none⟩ (.slice A2 (H.length + j + 1) c2)).setCell ⟨g, j, none⟩ (.int .i64 ((j : Int) + 1))) q (.slice A2 (H.length + j + 1) c2) (H ++ (SC.hom a ps).take (j + 1)) ∧ Own ((w2.setCell ⟨q, 0, none⟩ (.slice A2 (H.length + j + 1) c2)).setCell ⟨g, j, none⟩ (.int .i64 ((j : Int) + 1))) 0 (.slice (some ⟨g, 0, none⟩) L c) (SC.up1 (j + 1) ++ ps.drop (j + 1)) ∧ (∀ b, (Value.slice A2 (H.length + j + 1) c2).ownBlock = some b → v.ownBlock = some b ∨ w.heap.size ≤ b) ∧ Turns (fun b => b = q ∨ v.ownBlock = some b ∨ (Value.slice (some ⟨g, 0, none⟩) L c).ownBlock = some b) w ((w2.setCell ⟨q, 0, none⟩ (.slice A2 (H.length + j + 1) c2)).setCell ⟨g, j, none⟩ (.int .i64 ((j : Int) + 1))) from by
        obtain ⟨hown, T2, hat, hb2, hP3⟩ := R2.out
        have hP2 := own_turns hp1'.out T2 hx1
        have e1 : (SC.hom a ps).take (j + 1) = (SC.hom a ps).take j ++ [(a, j)] := by
          rw [List.take_add_one, SC.hom_at a ps (by rw [hL'.out]; exact hlt)]; rfl
        have e2 : SC.up1 (j + 1) = SC.up1 j ++ [(j : Int) + 1] := by simp [SC.up1, List.range_succ]
        have e3 : ps.drop j = ps[j]'(by rw [hL'.out]; exact hlt) :: ps.drop (j + 1) := List.drop_eq_getElem_cons _
        have hv2 := row_lies hown hb2 (by decide)
        have hvg : ∀ b, (Value.slice A2 (H.length + j + 1) c2).ownBlock = some b → b ≠ g := fun b hb e => row_apart hown hP2 (by decide) b hb (by subst e; rfl)
        have T3 := (Turns.refl (fun b => b = q) w2).setCell (p := ⟨q, 0, none⟩) (fun _ => rfl) (.slice A2 (H.length + j + 1) c2)
        have T4 := (Turns.refl (fun b => b = g) (w2.setCell ⟨q, 0, none⟩ (.slice A2 (H.length + j + 1) c2))).setCell (p := ⟨g, j, none⟩) (fun _ => rfl) (.int .i64 ((j : Int) + 1))
        have hv2' : ∀ b, (Value.slice A2 (H.length + j + 1) c2).ownBlock = some b → v.ownBlock = some b ∨ w.heap.size ≤ b := fun b hb => by
          rcases hat with e | e
          · exact hv1'.out b (e.symm.trans hb)
          · rw [hb] at e
            have := hT'.out.size
            simp at e; omega
        refine ⟨⟨((hb2.stored 0 _).far (p := ⟨g, j, none⟩) (fun e => hgq e.symm) _), ?_, ?_⟩, ?_, hv2', ?_⟩
        · have h5 := own_turns (own_turns hown T3 (fun b hb e => hv2 (by rw [hb, e]))) T4 (fun b hb e => hvg b hb e)
          rw [e1, ← List.append_assoc, hcl_app, List.length_append, hln'.out]
          exact h5
        · rw [e1, ← List.append_assoc]
          intro p hp
          rcases List.mem_append.1 hp with hp | hp
          · exact hsm.out p hp
          · simp at hp; subst hp
            exact ⟨ha, by show j ≤ 1000; omega⟩
        · have h6 := (hP3.stored j (.int .i64 ((j : Int) + 1))).1
          have e5 : ((SC.up1 j ++ ps.drop j).map (Value.int .i64)).set j (.int .i64 ((j : Int) + 1)) = (SC.up1 (j + 1) ++ ps.drop (j + 1)).map (Value.int .i64) := by
            rw [e2, e3, List.map_append, List.set_append_right _ _ (by rw [List.length_map, SC.up1_len]; omega), List.length_map, SC.up1_len, Nat.sub_self, List.map_cons, List.set_cons_zero, List.map_append, List.map_append, List.append_assoc]
            rfl
          have e6 : (SC.up1 (j + 1) ++ ps.drop (j + 1)).length = L := by rw [List.length_append, SC.up1_len, List.length_drop, hL'.out]; omega
          rw [e5] at h6
          unfold Own
          rw [e6]
          exact h6
        · refine ((hT'.out.then T2 (fun b hlt hb => ?_)).then T3 (fun b _ hb => .inl hb)).then T4 (fun b _ hb => .inr (.inr (by rw [hb]; rfl)))
          rcases hv1'.out b hb with e | e
          · exact .inr (.inl e)
          · omega)
      clear R2
      go_roundw
      case rel => exact ⟨j + 1, _, by omega, by go_num, R3.out.1, R3.out.2.1, R3.out.2.2.1, R3.out.2.2.2⟩
      case measure => simp [intOf]; omega
    · obtain rfl : j = L := by omega
      have e1 : (SC.hom a ps).take j = SC.hom a ps := List.take_of_length_le (by rw [SC.hom_len, hL'.out]; exact Nat.le_refl _)
      have e2 : ps.drop j = [] := List.drop_of_length_le (by rw [hL'.out]; exact Nat.le_refl _)
      rw [e1] at hH1
      rw [e2, List.append_nil] at hp1
      have R3 := Lib.hid (And.intro hH1 (And.intro hp1 (And.intro hv1 hT)))
      clear hH1 hp1 hv1 hT hH hp e1 e2
      go_wp2_with fail
      go_end0
      exact ⟨rfl, v1, R3.out.1, R3.out.2.1, R3.out.2.2.1, R3.out.2.2.2⟩
set_option maxRecDepth 100000 in
set_option maxHeartbeats 4000000 in
theorem hplace_any (w : World) (q : Nat) (v : Value) (H : List (Nat × Nat)) (n : Int) (r a i : Nat) (hH : Hs w q v H) (h1 : 1 ≤ n) (hat : H[(n - 1).toNat]? = some (a, i)) (hr : r ≤ 1000) (ha : a < r) (hn : n ≤ 1000000) :
    Calls Try.prog 21 #[.pointer (some ⟨q, 0, none⟩), .int .i64 n, .int .i64 (r : Int)] w fun e w' => e = .returned (.int .i64 (32 * ((r : Int) - 1 - a) + i)) ∧ Went w w' := by
  obtain ⟨hb, hrow, hsm⟩ := hH
  have hs := hsm _ (List.mem_of_getElem? hat)
  have hlt := (List.getElem?_eq_some_iff.1 hat).1
  obtain ⟨c1, c2⟩ := hcl_at hat
  obtain ⟨A, c, rfl, hrd⟩ := own_read hrow
  obtain ⟨g, rfl, -, hg2, -⟩ := hrd ((n - 1).toNat * 2) (by omega)
  have x1 := (World.ownsRow.cellAt hrow ((n - 1).toNat * 2) (by omega)).trans c1
  have x2 := (World.ownsRow.cellAt hrow ((n - 1).toNat * 2 + 1) (by omega)).trans c2
  have x0 : w.cell? ⟨q, 0, none⟩ = some (.slice (some ⟨g, 0, none⟩) H.length c) := hb.cell 0
  obtain ⟨m, hm⟩ : ∃ m, (n - 1).toNat = m := ⟨_, rfl⟩
  have en : n - 1 = (m : Int) := by omega
  rw [hm] at x1 x2 hlt
  have hen := Lib.hid en
  clear hsm hat c1 c2 hrd hb hm
  simp only at hs
  obtain ⟨s1, s2⟩ := hs
  go_enter Try.func21, Try.ntmps21
  go_wp2_with fail
  go_ret
  exact ⟨rfl, (Below.refl _ w).alloc (Nat.le_refl _) _⟩
end Go.Proofs.Ytpiekdcbjkgipaa
