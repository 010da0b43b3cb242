/- Package match: the closures that find what a variable stands for. -/
import Derived.Test.YtbomodendobnkaaGreatQ12
import Derived.Test.YtbomodendobnkaaGreatQ16
import Derived.Deep.RegionHeld3
namespace Go.Proofs.YtbomodendobnkaaGreat
open Go.ChangeShapes Go.WideShapes Go.ChangeAt Go.RowKit Go.Deep
open MM (Bl Bm)

def FindN (b : Bm) (w : World) (e : Ending) (w' : World) : Prop := ∃ iv kv, e = .returned (bmv b iv kv) ∧ BmD w' (fun g => w.heap.size ≤ g) b iv kv ∧ Went w w'
/-- u is a closure that finds so, as long as the blocks of S stay -/
def FindAt (w : World) (S : Nat → Prop) (u : Value) (fd : RM.Dm → Option Bm) : Prop :=
  ∃ k lb, u = .func (.func k) #[] lb ∧ (∀ args w, (callFunc k args).run Tryz.prog w = .ok (.enter k args) w)
    ∧ ∀ w' d v b, Kp S w w' → Cn w' v d.is → SM.sz d.is ≤ 5000 → fd d = some b → Calls Tryz.prog k (#[dtv d v] ++ lb) w' (FindN b w')
def LookN (l : RM.Dl) (w : World) (e : Ending) (w' : World) : Prop := ∃ A c, e = .returned (.slice A l.len c) ∧ Cn w' (.slice A l.len c) l ∧ Went w w'
def LookAt (w : World) (S : Nat → Prop) (u : Value) (lk : RM.Dm → RM.Dl) : Prop :=
  ∃ k lb, u = .func (.func k) #[] lb ∧ (∀ args w, (callFunc k args).run Tryz.prog w = .ok (.enter k args) w)
    ∧ ∀ w' d v, Kp S w w' → Cn w' v d.is → Calls Tryz.prog k (#[dtv d v] ++ lb) w' (LookN (lk d) w')
theorem FindAt.kp {w w' : World} {S : Nat → Prop} {u : Value} {fd : RM.Dm → Option Bm} (h : FindAt w S u fd) (k : Kp S w w') : FindAt w' S u fd := by
  obtain ⟨f, lb, h1, h2, h3⟩ := h
  exact ⟨f, lb, h1, h2, fun w2 d v b k2 => h3 w2 d v b (k.trans k2)⟩
theorem FindAt.mono {w : World} {S S' : Nat → Prop} {u : Value} {fd : RM.Dm → Option Bm} (h : FindAt w S u fd) (hd : ∀ g, g < w.heap.size → S g → S' g) : FindAt w S' u fd := by
  obtain ⟨f, lb, h1, h2, h3⟩ := h
  exact ⟨f, lb, h1, h2, fun w2 d v b k2 => h3 w2 d v b (k2.mono hd)⟩
theorem LookAt.kp {w w' : World} {S : Nat → Prop} {u : Value} {fd : RM.Dm → RM.Dl} (h : LookAt w S u fd) (k : Kp S w w') : LookAt w' S u fd := by
  obtain ⟨f, lb, h1, h2, h3⟩ := h
  exact ⟨f, lb, h1, h2, fun w2 d v k2 => h3 w2 d v (k.trans k2)⟩
theorem LookAt.mono {w : World} {S S' : Nat → Prop} {u : Value} {fd : RM.Dm → RM.Dl} (h : LookAt w S u fd) (hd : ∀ g, g < w.heap.size → S g → S' g) : LookAt w S' u fd := by
  obtain ⟨f, lb, h1, h2, h3⟩ := h
  exact ⟨f, lb, h1, h2, fun w2 d v k2 => h3 w2 d v (k2.mono hd)⟩
/-! ### a variable that is the pattern itself -/
def z7 : Array Value := #[.string ⟨#[]⟩, .int .i64 0, .int .i64 0, .int .i64 0, .string ⟨#[]⟩, .slice none 0 0, .slice none 0 0]
set_option maxRecDepth 100000 in
set_option maxHeartbeats 2000000 in
theorem whole_call (w : World) (d : RM.Dm) (v : Value) (nm : List UInt8) (nb : Nat) (hN : Lies w nb 9 [.string ⟨nm.toArray⟩]) (hv : Cn w v d.is) (hs : SM.sz d.is ≤ 5000) :
    Calls Tryz.prog 66 #[dtv d v, .pointer (some ⟨nb, 0, none⟩)] w (FindN ⟨nm, 0, d, .nil⟩ w) := by
  obtain ⟨A, c, rfl⟩ := hv.read
  have hC := Lib.hid (fun (w' : World) (hb : Below w.heap.size w w') => copy_any d w' _ (hv.below hb).in_ hs)
  obtain ⟨hb2, hL1, hL2⟩ := two_boxes w #[.int .i64 d.k, .int .i64 d.n, .string ⟨d.s.toArray⟩, .slice A d.is.len c] z7 24 38
  unfold dtv at hC ⊢
  unfold z7 at hb2 hL1 hL2
  have hnb := hN.lt
  have n0 := (hb2.cell (p := ⟨nb, 0, none⟩) hnb).trans (hN.cell 0)
  simp only [List.getElem?_cons_zero] at n0
  have hN2 := Lib.hid hN
  have hne : ¬ nb = w.heap.size + 1 := by omega
  clear hv hN
  go_enter Tryz.func66, Tryz.ntmps66
  go_wp2_with fail
  go_region_held3 (fun w' => w'.cell? ⟨nb, 0, none⟩ = some (.string ⟨nm.toArray⟩) ∧ w'.cell? ⟨w.heap.size, 0, none⟩ = some (.int .i64 d.k) ∧ w'.cell? ⟨w.heap.size, 1, none⟩ = some (.int .i64 d.n) ∧ w'.cell? ⟨w.heap.size, 2, none⟩ = some (.string ⟨d.s.toArray⟩) ∧ w'.cell? ⟨w.heap.size, 3, none⟩ = some (.slice A d.is.len c)) (first | go_keep | with_reducible exact kx | with_reducible exact kz)
    (first
      | (go_at_call 67
         refine (hC.out _ (below_drewN hb2 1)).mono ?_
         rintro e w5 ⟨v5, rfl, hd5, hb5⟩
         obtain ⟨V5, c5, rfl⟩ := hd5.read
         have M1 := hL1.drew.below hb5 hL1.lt
         have M2 := hL2.drew.below hb5 hL2.lt
         have hbw : Below w.heap.size w w5 := hb2.trans (below_of_drew (hb5.mono hb2.size))
         have kx : w5.cell? ⟨nb, 0, none⟩ = some (.string ⟨nm.toArray⟩) ∧ w5.cell? ⟨w.heap.size, 0, none⟩ = some (.int .i64 d.k) ∧ w5.cell? ⟨w.heap.size, 1, none⟩ = some (.int .i64 d.n) ∧ w5.cell? ⟨w.heap.size, 2, none⟩ = some (.string ⟨d.s.toArray⟩) ∧ w5.cell? ⟨w.heap.size, 3, none⟩ = some (.slice A d.is.len c) := ⟨(hN2.out.below hbw hnb).cell 0, M1.cell 0, M1.cell 1, M1.cell 2, M1.cell 3⟩
         have x0 := M2.cell 0
         have x1 := M2.cell 1
         have x2 := M2.cell 2
         have x3 := M2.cell 3
         have x4 := M2.cell 4
         have x5 := M2.cell 5
         have x6 := M2.cell 6
         have xf := M2.free
         simp only [List.getElem?_cons_zero, List.getElem?_cons_succ] at x0 x1 x2 x3 x4 x5 x6
         have kz : (seven w5 (w.heap.size + 1) (.string ⟨nm.toArray⟩) (.int .i64 0) (.int .i64 d.k) (.int .i64 d.n) (.string ⟨d.s.toArray⟩) (.slice V5 d.is.len c5) (.slice none 0 0)).cell? ⟨nb, 0, none⟩ = some (.string ⟨nm.toArray⟩) ∧ (seven w5 (w.heap.size + 1) (.string ⟨nm.toArray⟩) (.int .i64 0) (.int .i64 d.k) (.int .i64 d.n) (.string ⟨d.s.toArray⟩) (.slice V5 d.is.len c5) (.slice none 0 0)).cell? ⟨w.heap.size, 0, none⟩ = some (.int .i64 d.k) ∧ (seven w5 (w.heap.size + 1) (.string ⟨nm.toArray⟩) (.int .i64 0) (.int .i64 d.k) (.int .i64 d.n) (.string ⟨d.s.toArray⟩) (.slice V5 d.is.len c5) (.slice none 0 0)).cell? ⟨w.heap.size, 1, none⟩ = some (.int .i64 d.n) ∧ (seven w5 (w.heap.size + 1) (.string ⟨nm.toArray⟩) (.int .i64 0) (.int .i64 d.k) (.int .i64 d.n) (.string ⟨d.s.toArray⟩) (.slice V5 d.is.len c5) (.slice none 0 0)).cell? ⟨w.heap.size, 2, none⟩ = some (.string ⟨d.s.toArray⟩) ∧ (seven w5 (w.heap.size + 1) (.string ⟨nm.toArray⟩) (.int .i64 0) (.int .i64 d.k) (.int .i64 d.n) (.string ⟨d.s.toArray⟩) (.slice V5 d.is.len c5) (.slice none 0 0)).cell? ⟨w.heap.size, 3, none⟩ = some (.slice A d.is.len c) :=
           have s1 := seven_far (hN2.out.below hbw hnb) hne (.string ⟨nm.toArray⟩) (.int .i64 0) (.int .i64 d.k) (.int .i64 d.n) (.string ⟨d.s.toArray⟩) (.slice V5 d.is.len c5) (.slice none 0 0)
           have s2 := seven_far M1 (by omega) (.string ⟨nm.toArray⟩) (.int .i64 0) (.int .i64 d.k) (.int .i64 d.n) (.string ⟨d.s.toArray⟩) (.slice V5 d.is.len c5) (.slice none 0 0)
           ⟨s1.cell 0, s2.cell 0, s2.cell 1, s2.cell 2, s2.cell 3⟩
         unfold seven at kz
         have hD5 := Lib.hid hd5
         have hB5 := Lib.hid hb5
         clear hd5 hb5))
  go_wp2_with fail
  have hF := seven_lies M2 (.string ⟨nm.toArray⟩) (.int .i64 0) (.int .i64 d.k) (.int .i64 d.n) (.string ⟨d.s.toArray⟩) (.slice V5 d.is.len c5) (.slice none 0 0)
  have r0 := hF.cell 0
  have r1 := hF.cell 1
  have r2 := hF.cell 2
  have r3 := hF.cell 3
  have r4 := hF.cell 4
  have r5 := hF.cell 5
  have r6 := hF.cell 6
  have hb10 := seven_below hbw (g := w.heap.size + 1) (by omega) (.string ⟨nm.toArray⟩) (.int .i64 0) (.int .i64 d.k) (.int .i64 d.n) (.string ⟨d.s.toArray⟩) (.slice V5 d.is.len c5) (.slice none 0 0)
  have hd9 := hD5.out.turns (seven_one w5 (w.heap.size + 1) (.string ⟨nm.toArray⟩) (.int .i64 0) (.int .i64 d.k) (.int .i64 d.n) (.string ⟨d.s.toArray⟩) (.slice V5 d.is.len c5) (.slice none 0 0)) (fun g _ hs hh => by simp at hs; omega)
  unfold seven at r0 r1 r2 r3 r4 r5 r6 hb10 hd9
  simp only [List.getElem?_cons_zero, List.getElem?_cons_succ] at r0 r1 r2 r3 r4 r5 r6
  exact bodyPost_ret (v := bmv ⟨nm, 0, d, .nil⟩ (.slice V5 d.is.len c5) (.slice none 0 0)) (by simp [results, Tryz.results66, go_sem, r0, r1, r2, r3, r4, r5, r6, bmv]) rfl ⟨_, _, rfl, ⟨hd9.dnd.mono (fun g _ hs => by simp at hs; omega), BnD.nil _ _⟩, hb10⟩
theorem RowAt.kp {w w' : World} {r : MM.Row} {a b c d : Value} (h : RowAt w r a b c d) (k : Kp (fun g => g < w.heap.size) w w') : RowAt w' r a b c d := ⟨h.f.kp k, h.m.kp k, h.b.kp k, h.t.kp k⟩
/-! ### what a row's part sees -/
set_option maxRecDepth 100000 in
set_option maxHeartbeats 2000000 in
theorem look_call (w : World) (r : MM.Row) (a b c d : Value) (k : Int) (part : Nat) (hp : part < 4) (rb pb qb : Nat) (x1 x2 x3 : Value) (x : RM.Dm) (v : Value) (hR : RowAt w r a b c d)
    (hr : Lies w rb 78 [a, b, c, d]) (hpb : Lies w pb 24 [.int .i64 k, x1, x2, x3]) (hq : Lies w qb 3 [.int .i64 part]) (hv : Cn w v x.is) :
    Calls Tryz.prog 68 #[dtv x v, .pointer (some ⟨rb, 0, none⟩), .pointer (some ⟨pb, 0, none⟩), .pointer (some ⟨qb, 0, none⟩)] w (LookN (MM.lookAt r k part x) w) := by
  obtain ⟨A, cc, rfl⟩ := hv.read
  have hb1 := m_box w #[.int .i64 x.k, .int .i64 x.n, .string ⟨x.s.toArray⟩, .slice A x.is.len cc] 24
  have hL := Lib.hid (lay_any _ r a b c d k x _ (hR.below hb1) (hv.below hb1))
  have hlk : ∀ q, MM.lookAt r k q x = (MM.lay r k x).1.part q := fun _ => rfl
  rw [hlk]
  obtain ⟨⟨Rr, ok⟩, hRr⟩ : ∃ R, MM.lay r k x = R := ⟨_, rfl⟩
  rw [hRr] at hL ⊢
  unfold rwv dtv at hL
  unfold dtv
  have p0 := (hb1.cell (p := ⟨pb, 0, none⟩) hpb.lt).trans (hpb.cell 0)
  have r0 := (hb1.cell (p := ⟨rb, 0, none⟩) hr.lt).trans (hr.cell 0)
  have r1 := (hb1.cell (p := ⟨rb, 1, none⟩) hr.lt).trans (hr.cell 1)
  have r2 := (hb1.cell (p := ⟨rb, 2, none⟩) hr.lt).trans (hr.cell 2)
  have r3 := (hb1.cell (p := ⟨rb, 3, none⟩) hr.lt).trans (hr.cell 3)
  simp only [List.getElem?_cons_zero, List.getElem?_cons_succ] at p0 r0 r1 r2 r3
  obtain ⟨Fa, ca, rfl⟩ := hR.f.read
  obtain ⟨Ma, cm, rfl⟩ := hR.m.read
  obtain ⟨Ba, cb, rfl⟩ := hR.b.read
  obtain ⟨Ta, ct, rfl⟩ := hR.t.read
  have hq' := Lib.hid (hq.below hb1 hq.lt)
  have hb1' := Lib.hid hb1
  clear hR hr hpb hq hv hlk hRr hb1
  rcases (show part = 0 ∨ part = 1 ∨ part = 2 ∨ part = 3 by omega) with rfl | rfl | rfl | rfl
  all_goals
    go_enter Tryz.func68, Tryz.ntmps68
    go_wp2_with (
      go_at_call 34
      refine hL.out.mono ?_
      rintro e w5 ⟨a5, b5, c5, d5, rfl, hR5, hb5⟩
      obtain ⟨Fa5, ca5, rfl⟩ := hR5.f.read
      obtain ⟨Ma5, cm5, rfl⟩ := hR5.m.read
      obtain ⟨Ba5, cb5, rfl⟩ := hR5.b.read
      obtain ⟨Ta5, ct5, rfl⟩ := hR5.t.read
      unfold rwv
      have q5 := (hq'.out.below hb5 hq'.out.lt)
      have q6 := (q5.alloc (.cells #[.slice Fa5 Rr.f.len ca5, .slice Ma5 Rr.m.len cm5, .slice Ba5 Rr.b.len cb5, .slice Ta5 Rr.t.len ct5] 78)).cell 0
      simp only [List.getElem?_cons_zero] at q6
      have hbw := Lib.hid (hb1'.out.trans (hb5.mono hb1'.out.size))
      have hR6 := Lib.hid hR5
      clear hb5 hR5)
    go_ret
    have hbx := (Below.refl _ w5).alloc (Nat.le_refl _) (.cells #[.slice Fa5 Rr.f.len ca5, .slice Ma5 Rr.m.len cm5, .slice Ba5 Rr.b.len cb5, .slice Ta5 Rr.t.len ct5] 78)
    have hby := hbw.out.trans (hbx.mono hbw.out.size)
    first
      | exact ⟨_, _, rfl, hR6.out.f.below hbx, hby⟩
      | exact ⟨_, _, rfl, hR6.out.m.below hbx, hby⟩
      | exact ⟨_, _, rfl, hR6.out.b.below hbx, hby⟩
      | exact ⟨_, _, rfl, hR6.out.t.below hbx, hby⟩
end Go.Proofs.YtbomodendobnkaaGreat

/- Package match: the closure that finds in one item of a part; those that make closures. -/
namespace Go.Proofs.YtbomodendobnkaaGreat
open Go.ChangeShapes Go.WideShapes Go.ChangeAt Go.RowKit Go.Deep
open MM (Bl Bm)

set_option maxRecDepth 100000 in
set_option maxHeartbeats 4000000 in
theorem one_call (w : World) (S : Nat → Prop) (fv lv : Value) (fd : RM.Dm → Option Bm) (lk : RM.Dm → RM.Dl) (i : Nat) (vb lb ib : Nat) (nv dv : Value) (x : RM.Dm) (v : Value) (b : Bm)
    (hf : FindAt w S fv fd) (hl : LookAt w S lv lk)
    (hvb : Lies w vb 60 [nv, dv, fv]) (hlb : Lies w lb 141 [lv]) (hib : Lies w ib 3 [.int .i64 i]) (hv : Cn w v x.is) (hs : ∀ i y, (lk x).at_ i = some y → SM.sz y.is ≤ 5000) (hb : MM.oneF lk i fd x = some b) :
    Calls Tryz.prog 83 #[dtv x v, .pointer (some ⟨vb, 0, none⟩), .pointer (some ⟨lb, 0, none⟩), .pointer (some ⟨ib, 0, none⟩)] w (FindN b w) := by
  obtain ⟨A, c, rfl⟩ := hv.read
  obtain ⟨y, hy, hfy⟩ : ∃ y, (lk x).at_ i = some y ∧ fd y = some b := by
    unfold MM.oneF at hb
    cases h : (lk x).at_ i with
    | none => rw [h] at hb; cases hb
    | some y => rw [h] at hb; exact ⟨y, rfl, hb⟩
  obtain ⟨kf, lf, rfl, ef, hf⟩ := hf
  obtain ⟨kl, ll, rfl, el, hl⟩ := hl
  obtain ⟨hb2, hL1, hL2⟩ := two_boxes w #[.int .i64 x.k, .int .i64 x.n, .string ⟨x.s.toArray⟩, .slice A x.is.len c] z7 24 38
  have hLk := Lib.hid (fun (w' : World) (hb' : Below w.heap.size w w') => hl w' x (.slice A x.is.len c) (Kp.of_below hb') (hv.below hb'))
  have hFd := Lib.hid (fun (w' : World) (hb' : Below w.heap.size w w') u (hu : Cn w' u y.is) => hf w' y u b (Kp.of_below hb') hu (hs i y hy) hfy)
  unfold dtv at hLk hFd ⊢
  unfold z7 at hb2 hL1 hL2
  have hy' := Lib.hid hy
  have hil := MM.at_lt hy
  obtain ⟨N, hN⟩ : ∃ N, (lk x).len = N := ⟨_, rfl⟩
  obtain ⟨l, hll⟩ : ∃ l, lk x = l := ⟨_, rfl⟩
  rw [hll] at hLk hN hy' hil
  unfold LookN at hLk
  rw [hN] at hLk hil
  have n1 : ¬ vb = w.heap.size + 1 := by have := hvb.lt; omega
  have n2 : ¬ lb = w.heap.size + 1 := by have := hlb.lt; omega
  have n3 : ¬ ib = w.heap.size + 1 := by have := hib.lt; omega
  have hvb2 := hvb.below hb2 hvb.lt
  have hlb2 := hlb.below hb2 hlb.lt
  have hib2 := hib.below hb2 hib.lt
  have hil2 : (i : Int) < (N : Int) := by omega
  clear hv hf hl hs hb hy hfy hll hN hvb hlb hib
  go_enter Tryz.func83, Tryz.ntmps83
  go_wp2_with fail
  refine wp_region_held_drew (S := fun w' => Lies w' vb 60 [nv, dv, .func (.func kf) #[] lf] ∧ Lies w' lb 141 [.func (.func kl) #[] ll] ∧ Lies w' ib 3 [.int .i64 i] ∧ Lies w' w.heap.size 24 [.int .i64 x.k, .int .i64 x.n, .string ⟨x.s.toArray⟩, .slice A x.is.len c]) rfl ⟨hvb2.drew, hlb2.drew, hib2.drew, hL1.drew⟩ (fun hHeld => ?_)
  refine wpAnyH_take (i := 0) (oi := { dst := some 6, op := Go.Op.fieldAddr 60 (Go.Operand.tmp 1) 2, type := 0, pos := "variable.go:87", after := #[], guard := none }) (v := ?_) rfl (by kernel_rfl) (by kernel_rfl) (by kernel_rfl) (fun _ _ _ h => h) (Or.inl ⟨by rfl, ?_⟩) (by assumption) ?_
  rotate_left
  · intro w hSw; clear hSw; go_simp; try with_reducible rfl
  try simp only [Act.put, List.setIfInBounds_toArray, List.set_cons_zero, List.set_cons_succ]
  refine wpAnyH_take (i := 1) (oi := { dst := some 7, op := Go.Op.load 58 (Go.Operand.tmp 6), type := 58, pos := "variable.go:87", after := #[{ on := 0, ground := Go.Ground.data }], guard := none }) (v := ?_) rfl (by kernel_rfl) (by kernel_rfl) (by kernel_rfl) (fun _ _ _ h => h) (Or.inl ⟨by rfl, ?_⟩) (by assumption) ?_
  rotate_left
  · intro w7 hS7
    have k2 := hS7.1.cell 2
    simp only [List.getElem?_cons_succ, List.getElem?_cons_zero] at k2
    clear hS7
    go_simp
    try with_reducible rfl
  try simp only [Act.put, List.setIfInBounds_toArray, List.set_cons_zero, List.set_cons_succ]
  refine wpAnyH_take (i := 2) (oi := { dst := some 8, op := Go.Op.load 141 (Go.Operand.tmp 2), type := 141, pos := "variable.go:87", after := #[], guard := none }) (v := ?_) rfl (by kernel_rfl) (by kernel_rfl) (by kernel_rfl) (fun _ _ _ h => h) (Or.inl ⟨by rfl, ?_⟩) (by assumption) ?_
  rotate_left
  · intro w7 hS7
    have k2 := hS7.2.1.cell 0
    simp only [List.getElem?_cons_zero] at k2
    clear hS7
    go_simp
    try with_reducible rfl
  try simp only [Act.put, List.setIfInBounds_toArray, List.set_cons_zero, List.set_cons_succ]
  refine wpAnyH_take (i := 3) (oi := { dst := some 9, op := Go.Op.load 24 (Go.Operand.tmp 4), type := 24, pos := "variable.go:87", after := #[], guard := none }) (v := ?_) rfl (by kernel_rfl) (by kernel_rfl) (by kernel_rfl) (fun _ _ _ h => h) (Or.inl ⟨by rfl, ?_⟩) (by assumption) ?_
  rotate_left
  · intro w7 hS7
    have k0 := hS7.2.2.2.cell 0
    have k1 := hS7.2.2.2.cell 1
    have k2 := hS7.2.2.2.cell 2
    have k3 := hS7.2.2.2.cell 3
    simp only [List.getElem?_cons_succ, List.getElem?_cons_zero] at k0 k1 k2 k3
    clear hS7
    go_simp
    try with_reducible rfl
  try simp only [Act.put, List.setIfInBounds_toArray, List.set_cons_zero, List.set_cons_succ]
  refine wpAnyH_take (i := 5) (oi := { dst := some 11, op := Go.Op.load 3 (Go.Operand.tmp 3), type := 3, pos := "variable.go:87", after := #[], guard := none }) (v := ?_) rfl (by kernel_rfl) (by kernel_rfl) (by kernel_rfl) (fun _ _ _ h => h) (Or.inl ⟨by rfl, ?_⟩) (by assumption) ?_
  rotate_left
  · intro w7 hS7
    have k0 := hS7.2.2.1.cell 0
    simp only [List.getElem?_cons_zero] at k0
    clear hS7
    go_simp
    try with_reducible rfl
  try simp only [Act.put, List.setIfInBounds_toArray, List.set_cons_zero, List.set_cons_succ]
  refine wpAnyH_ready (rs := [4]) (by kernel_rfl) (by simp) ?_
  refine AllReadyH.cons (o := { dst := some 10, op := Go.Op.call { callee := Go.Callee.value (Go.Operand.tmp 8), args := #[Go.Operand.tmp 9], argTypes := #[24] }, type := 22, pos := "variable.go:87", after := #[{ on := 2, ground := Go.Ground.data }, { on := 3, ground := Go.Ground.data }], guard := none }) rfl (fun K hK => ?_) AllReadyH.nil
  rw [if_pos (by rfl)]
  go_simp
  refine (hLk.out _ (below_drewN hb2 1)).mono ?_
  rintro e w5 ⟨B5, c5, rfl, hC5, hb5⟩
  have M2 := hL2.drew.below hb5 hL2.lt
  have hbw : Below w.heap.size w w5 := hb2.trans (below_of_drew (hb5.mono hb2.size))
  have kx := Lib.hid (And.intro (hHeld.1.below hb5 hHeld.1.lt) (And.intro (hHeld.2.1.below hb5 hHeld.2.1.lt) (And.intro (hHeld.2.2.1.below hb5 hHeld.2.2.1.lt) (hHeld.2.2.2.below hb5 hHeld.2.2.2.lt))))
  obtain ⟨g5, o5, Y5, y5, rfl, hg5, e0, e1, e2, e3, hCy⟩ := hC5.at_ hy'.out
  have hCy' := Lib.hid hCy
  clear hC5 hCy hb5 hHeld
  refine hK.out _ _ kx.out (fun hHeld => ?_)
  clear hK K
  try simp only [Act.put, List.setIfInBounds_toArray, List.set_cons_zero, List.set_cons_succ]
  refine wpAnyH_take (i := 6) (oi := { dst := some 12, op := Go.Op.indexAddr 22 (Go.Operand.tmp 10) (Go.Operand.tmp 11), type := 0, pos := "variable.go:87", after := #[{ on := 4, ground := Go.Ground.data }, { on := 5, ground := Go.Ground.data }], guard := none }) (v := ?_) rfl (by kernel_rfl) (by kernel_rfl) (by kernel_rfl) (fun _ _ _ h => h) (Or.inl ⟨by rfl, ?_⟩) (by assumption) ?_
  rotate_left
  · intro w hSw; clear hSw; go_simp; try with_reducible rfl
  try simp only [Act.put, List.setIfInBounds_toArray, List.set_cons_zero, List.set_cons_succ]
  refine wpAnyH_ready (rs := [7]) (by kernel_rfl) (by simp) ?_
  refine AllReadyH.cons (o := { dst := some 13, op := Go.Op.load 24 (Go.Operand.tmp 12), type := 24, pos := "variable.go:87", after := #[{ on := 6, ground := Go.Ground.data }], guard := none }) rfl (fun K hK => ?_) AllReadyH.nil
  rw [if_pos (by rfl)]
  go_simp
  refine hK.out _ _ hHeld (fun hHeld => ?_)
  clear hK K
  try simp only [Act.put, List.setIfInBounds_toArray, List.set_cons_zero, List.set_cons_succ]
  refine wpAnyH_ready (rs := [8]) (by kernel_rfl) (by simp) ?_
  refine AllReadyH.cons (o := { dst := some 14, op := Go.Op.call { callee := Go.Callee.value (Go.Operand.tmp 7), args := #[Go.Operand.tmp 13], argTypes := #[24] }, type := 38, pos := "variable.go:87", after := #[{ on := 1, ground := Go.Ground.data }, { on := 7, ground := Go.Ground.data }, { on := 4, ground := Go.Ground.chain }], guard := none }) rfl (fun K hK => ?_) AllReadyH.nil
  rw [if_pos (by rfl)]
  go_simp
  refine (hFd.out _ hbw _ hCy'.out).mono ?_
  rintro e w6 ⟨iv, kv, rfl, hbm, hb6⟩
  unfold bmv
  have M6 := M2.below hb6 M2.lt
  have hbw6 : Below w.heap.size w w6 := hbw.trans (hb6.mono hbw.size)
  have ky := Lib.hid (And.intro (hHeld.1.below hb6 hHeld.1.lt) (And.intro (hHeld.2.1.below hb6 hHeld.2.1.lt) (And.intro (hHeld.2.2.1.below hb6 hHeld.2.2.1.lt) (hHeld.2.2.2.below hb6 hHeld.2.2.2.lt))))
  obtain ⟨I6, iq, rfl⟩ := hbm.d.in_.read
  obtain ⟨K6, kr, rfl⟩ := hbm.k.read
  have x0 := M6.cell 0
  have x1 := M6.cell 1
  have x2 := M6.cell 2
  have x3 := M6.cell 3
  have x4 := M6.cell 4
  have x5 := M6.cell 5
  have x6 := M6.cell 6
  have xf := M6.free
  simp only [List.getElem?_cons_succ, List.getElem?_cons_zero] at x0 x1 x2 x3 x4 x5 x6
  have hs5 : w.heap.size + 1 < w5.heap.size := M2.lt
  have hbm' := Lib.hid hbm
  clear hb6 hHeld hbm
  refine hK.out _ _ ky.out (fun hHeld => ?_)
  clear hK K
  try simp only [Act.put, List.setIfInBounds_toArray, List.set_cons_zero, List.set_cons_succ]
  refine wpAnyH_ready (rs := [9]) (by kernel_rfl) (by simp) ?_
  refine AllReadyH.cons (o := { dst := none, op := Go.Op.store 38 (Go.Operand.tmp 5) (Go.Operand.tmp 14), type := 0, pos := "variable.go:87", after := #[{ on := 8, ground := Go.Ground.data }, { on := 8, ground := Go.Ground.chain }, { on := 0, ground := Go.Ground.phase }, { on := 1, ground := Go.Ground.phase }, { on := 2, ground := Go.Ground.phase }, { on := 3, ground := Go.Ground.phase }, { on := 4, ground := Go.Ground.phase }, { on := 5, ground := Go.Ground.phase }, { on := 6, ground := Go.Ground.phase }, { on := 7, ground := Go.Ground.phase }, { on := 8, ground := Go.Ground.phase }], guard := none }) rfl (fun K hK => ?_) AllReadyH.nil
  rw [if_pos (by rfl)]
  go_simp
  have kz := Lib.hid (And.intro (seven_far hHeld.1 n1 (.string ⟨b.nm.toArray⟩) (.int .i64 b.dp) (.int .i64 b.d.k) (.int .i64 b.d.n) (.string ⟨b.d.s.toArray⟩) (.slice I6 b.d.is.len iq) (.slice K6 b.ks.len kr)) (And.intro (seven_far hHeld.2.1 n2 (.string ⟨b.nm.toArray⟩) (.int .i64 b.dp) (.int .i64 b.d.k) (.int .i64 b.d.n) (.string ⟨b.d.s.toArray⟩) (.slice I6 b.d.is.len iq) (.slice K6 b.ks.len kr)) (And.intro (seven_far hHeld.2.2.1 n3 (.string ⟨b.nm.toArray⟩) (.int .i64 b.dp) (.int .i64 b.d.k) (.int .i64 b.d.n) (.string ⟨b.d.s.toArray⟩) (.slice I6 b.d.is.len iq) (.slice K6 b.ks.len kr)) (seven_far hHeld.2.2.2 (g := w.heap.size + 1) (by omega) (.string ⟨b.nm.toArray⟩) (.int .i64 b.dp) (.int .i64 b.d.k) (.int .i64 b.d.n) (.string ⟨b.d.s.toArray⟩) (.slice I6 b.d.is.len iq) (.slice K6 b.ks.len kr)))))
  clear hHeld
  refine hK.out _ _ kz.out (fun hHeld => ?_)
  clear hK K
  try simp only [Act.put, List.setIfInBounds_toArray, List.set_cons_zero, List.set_cons_succ]
  refine wpAnyH_done (by kernel_rfl) ?_ _
  go_wp2_with fail
  have hF := seven_lies M6 (.string ⟨b.nm.toArray⟩) (.int .i64 b.dp) (.int .i64 b.d.k) (.int .i64 b.d.n) (.string ⟨b.d.s.toArray⟩) (.slice I6 b.d.is.len iq) (.slice K6 b.ks.len kr)
  have r0 := hF.cell 0
  have r1 := hF.cell 1
  have r2 := hF.cell 2
  have r3 := hF.cell 3
  have r4 := hF.cell 4
  have r5 := hF.cell 5
  have r6 := hF.cell 6
  have hb10 := seven_below hbw6 (g := w.heap.size + 1) (by omega) (.string ⟨b.nm.toArray⟩) (.int .i64 b.dp) (.int .i64 b.d.k) (.int .i64 b.d.n) (.string ⟨b.d.s.toArray⟩) (.slice I6 b.d.is.len iq) (.slice K6 b.ks.len kr)
  have hm9 := hbm'.out.kp (Kp.of_turns (seven_one w6 (w.heap.size + 1) (.string ⟨b.nm.toArray⟩) (.int .i64 b.dp) (.int .i64 b.d.k) (.int .i64 b.d.n) (.string ⟨b.d.s.toArray⟩) (.slice I6 b.d.is.len iq) (.slice K6 b.ks.len kr)) (fun g _ hs hh => by omega))
  unfold seven at r0 r1 r2 r3 r4 r5 r6 hb10 hm9
  simp only [List.getElem?_cons_zero, List.getElem?_cons_succ] at r0 r1 r2 r3 r4 r5 r6
  exact bodyPost_ret (v := bmv b (.slice I6 b.d.is.len iq) (.slice K6 b.ks.len kr)) (by simp [results, Tryz.results83, go_sem, r0, r1, r2, r3, r4, r5, r6, bmv]) rfl ⟨_, _, rfl, hm9.mono (fun g _ hs => by omega), hb10⟩
end Go.Proofs.YtbomodendobnkaaGreat
