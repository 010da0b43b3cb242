/- Package code: it goes on from a place to all that may follow. -/
import Derived.Test.YthfelkcomhflnaaDoorQ16
import Derived.Deep.CutRange
import Derived.BigQuiet
import Derived.BigFrame
namespace Go.Proofs.YthfelkcomhflnaaDoor
open Go.ChangeShapes Go.WideShapes Go.ChangeAt Go.RowKit Go.Deep
open CD (Ins)

section
variable {l : List Ins} {w w1 w' : World} {T : TypeId} {B p b : Nat} {N N' : Nat → Prop} {cv qv : Value} {S : List (List Int)} {todo : List Nat} {K : List (Nat × List Int)} {e : Ending}
theorem ComeN.of_below (hb : Below w.heap.size w w1) (h : ComeN l w1 T B N p b cv S qv todo K e w') : ComeN l w T B N p b cv S qv todo K e w' := by
  obtain ⟨h1, h2⟩ := h
  refine ⟨(Turns.of_below hb _).trans h1, ?_⟩
  rcases h2 with h2 | ⟨h2, S', todo', qv', h3, h4, h5, h6⟩
  · exact .inl h2
  · refine .inr ⟨h2, S', todo', qv', h3, h4, h5, ?_⟩
    rcases h6 with h6 | ⟨g, h6, h7⟩
    · exact .inl h6
    · exact .inr ⟨g, h6, Nat.le_trans hb.size h7⟩
theorem ComeN.no (h : Turns (fun k => k = p ∨ k = b ∨ qv.ownBlock = some k) w w') (hn : ¬ CD.Well l) : ComeN l w T B N p b cv S qv todo K (.returned (.bool false)) w' := ⟨h, .inl ⟨rfl, hn⟩⟩
theorem ComeN.bool (h : ComeN l w T B N p b cv S qv todo K e w') : ∃ r : Bool, e = .returned (.bool r) := by
  rcases h.2 with ⟨h, -⟩ | ⟨h, -⟩
  · exact ⟨_, h⟩
  · exact ⟨_, h⟩
/-- two one after the other -/
theorem ComeN.then_ {w2 : World} {S' : List (List Int)} {todo' : List Nat} {qv' : Value} {K' : List (Nat × List Int)} (h1 : Turns (fun k => k = p ∨ k = b ∨ qv.ownBlock = some k) w w2) (hm : lookM S' todo' ≤ lookM S todo) (ho : qv'.ownBlock = qv.ownBlock ∨ ∃ g, qv'.ownBlock = some g ∧ w.heap.size ≤ g)
    (hb : Below w2.heap.size w2 w1) (h : ComeN l w1 T B N p b cv S' qv' todo' K' e w') : ComeN l w T B N p b cv S qv todo K' e w' := by
  obtain ⟨k1, k2⟩ := ComeN.of_below hb h
  refine ⟨h1.then k1 (fun i hi hh => ?_), ?_⟩
  · rcases hh with hh | hh | hh
    · exact .inl hh
    · exact .inr (.inl hh)
    · rcases ho with ho | ⟨g, ho, hg⟩
      · rw [ho] at hh; exact .inr (.inr hh)
      · rw [ho] at hh; injection hh with hh; omega
  · rcases k2 with k2 | ⟨k2, S2, todo2, qv2, k3, k4, k5, k6⟩
    · exact .inl k2
    · refine .inr ⟨k2, S2, todo2, qv2, k3, k4, Nat.le_trans k5 hm, ?_⟩
      rcases k6 with k6 | ⟨g, k6, k7⟩
      · rw [k6]
        rcases ho with ho | ⟨g, ho, hg⟩
        · exact .inl ho
        · exact .inr ⟨g, ho, hg⟩
      · exact .inr ⟨g, k6, Nat.le_trans h1.size k7⟩
end
theorem below_drew1' {B : Nat} {a w : World} (h : Below B a w) : Below B a w.drew := ⟨h.os, h.tape, h.output, h.size, h.block⟩
theorem ComeN.get {l : List Ins} {w w' : World} {T : TypeId} {B p b : Nat} {N : Nat → Prop} {cv qv : Value} {S : List (List Int)} {todo : List Nat} {K : List (Nat × List Int)} {r : Bool} (h : ComeN l w T B N p b cv S qv todo K (.returned (.bool r)) w') (hr : r = true) :
    Turns (fun k => k = p ∨ k = b ∨ qv.ownBlock = some k) w w' ∧ ∃ S' todo' qv', WSt w' T B N p b cv [] S' qv' todo' ∧ CD.Amid l S' todo' K ∧ lookM S' todo' ≤ lookM S todo ∧ (qv'.ownBlock = qv.ownBlock ∨ ∃ g, qv'.ownBlock = some g ∧ w.heap.size ≤ g) := by
  subst hr
  obtain ⟨h1, ⟨h2, -⟩ | ⟨-, h2⟩⟩ := h
  · cases h2
  · exact ⟨h1, h2⟩
theorem ComeN.no_of {l : List Ins} {w w1 w' : World} {T : TypeId} {B p b : Nat} {N N2 : Nat → Prop} {cv qv : Value} {S : List (List Int)} {todo : List Nat} {K K' : List (Nat × List Int)} {r : Bool} (h : ComeN l w1 T B N2 p b cv S qv todo K (.returned (.bool r)) w') (hb : Below w.heap.size w w1) (hr : r = false) : ComeN l w T B N p b cv S qv todo K' (.returned (.bool false)) w' := by
  subst hr
  obtain ⟨h1, ⟨-, h2⟩ | ⟨h2, -⟩⟩ := h
  · exact ⟨(Turns.of_below hb _).trans h1, .inl ⟨rfl, h2⟩⟩
  · cases h2
/-- one of the ints is another one -/
theorem Own.put {w : World} {B g n c : Nat} {l : List Int} (h : Own w B (.slice (some ⟨g, 0, none⟩) n c) l) {j : Nat} {a : Int} (_ : j < l.length) : Own (w.setCell ⟨g, j, none⟩ (.int .i64 a)) B (.slice (some ⟨g, 0, none⟩) n c) (l.set j a) := by
  obtain ⟨h1, h2⟩ := h
  refine ⟨by simp, .inr ?_⟩
  rcases h2 with ⟨e, -⟩ | ⟨g', cap, cur, e, hb, hh, hc, hm, hs, ht⟩
  · cases e
  · injection e with e1 e2 e3
    injection e1 with e1
    injection e1 with e1
    subst e1 e2 e3
    have hL : Lies w g 3 cur.toList := by unfold Lies; simpa using hh
    have := hL.stored j (.int .i64 a)
    refine ⟨g, c, (cur.toList.set j (.int .i64 a)).toArray, by rw [List.length_set], hb, this, by rw [List.length_set]; exact hc, hm, by simpa using hs, ?_⟩
    rw [List.length_set, List.map_set, ← ht, List.toList_toArray, List.take_set]
theorem pin_one (w : World) (a : Int) : PIn (w.alloc (.cells #[.int .i64 a] 3)) (.slice (some ⟨w.heap.size, 0, none⟩) 1 1) [a] := (Own.one (B := 0) w a (Nat.zero_le _)).pin
set_option maxRecDepth 100000 in
set_option maxHeartbeats 8000000 in
theorem begin_any (l : List Ins) (w : World) (B p b : Nat) (A : Option Addr) (c : Nat) (S : List (List Int)) (qv : Value) (todo : List Nat) (q : Nat) (K : List (Nat × List Int))
    (hW : WSt w 49 B (fun _ => False) p b (.slice A l.length c) [] S qv todo) (hA : CD.Amid l S todo ((q, [0]) :: K)) (hq : q ≤ l.length) (hl : l.length ≤ 8000) (hm : lookM S todo ≤ 20000) :
    Calls Tryd.prog 30 #[.pointer (some ⟨p, 0, none⟩), .int .i64 q] w (ComeN l w 49 B (fun _ => False) p b (.slice A l.length c) S qv todo K) := by
  have hba : Below w.heap.size w (w.alloc (.cells #[.int .i64 0] 3)) := (Below.refl _ _).alloc (Nat.le_refl _) _
  have hC := Lib.hid (come_any l (w.alloc (.cells #[.int .i64 0] 3)) B (fun _ => False) p b A c S qv todo q [0] _ K (hW.below hba) hA (pin_one w 0) hq hl hm (fun _ h => h.elim))
  clear hW hA
  go_enter Tryd.func30, Tryd.ntmps30
  go_wp2_with (
    go_at_call 41
    refine hC.out.mono ?_
    intro e w3 h3
    obtain ⟨r, rfl⟩ := h3.bool)
  go_ret
  exact h3.of_below hba
/-- what is known when it goes on from a place: its instruction in block ib, its stack cloned -/
structure Lv (w wc : World) (ib : Nat) (x : Ins) (I : Option Addr) (iq : Nat) (v0 : Value) (s : List Int) : Prop where
  box : Lies wc ib 44 (icells x (.slice I x.d.is.len iq))
  own : Own wc w.heap.size v0 s
  low : Below w.heap.size w wc
  lo : w.heap.size ≤ ib
  ne : v0.ownBlock ≠ some ib
set_option maxRecDepth 100000 in
set_option maxHeartbeats 16000000 in
theorem leave_any (l : List Ins) (w : World) (B p b : Nat) (A : Option Addr) (c : Nat) (S : List (List Int)) (qv : Value) (todo todo0 : List Nat) (at_ : Nat) (s : List Int) (x : Ins)
    (hW : WSt w 49 B (fun _ => False) p b (.slice A l.length c) [] S qv todo) (hI : IIn w (.slice A l.length c) l) (hr : CD.rgt l = true) (hx : l[at_]? = some x) (hs : S[at_]? = some s) (hA : CD.Amid l S todo0 [])
    (hat : at_ ∈ todo0) (ht1 : ∀ q, q ∈ todo0 → q ∈ todo ∨ q = at_) (ht2 : ∀ q ∈ todo, q ∈ todo0) (hm : lookM S todo ≤ 20000) :
    Calls Tryd.prog 31 #[.pointer (some ⟨p, 0, none⟩), .int .i64 at_] w (ComeN l w 49 B (fun _ => False) p b (.slice A l.length c) S qv todo []) := by
  have hlen := CD.rgt_len hr
  have hmay := CD.rgt_at hr hx
  obtain ⟨s', hs', sne⟩ := hA.tod at_ hat
  rw [hs] at hs'
  injection hs' with hs'
  subst hs'
  have hcm := hA.come at_ s hs sne
  have hnn := hcm.1.nn
  have hop := CD.may_op hmay
  have hatl : at_ < l.length := (List.getElem?_eq_some_iff.1 hx).1
  have hSl := hA.len
  obtain ⟨v, d0, hv, -, hvs⟩ := hW.get hs
  obtain ⟨g, gc, rfl⟩ := hvs sne
  obtain ⟨bi, oi, I, iq, rfl, hbi, hdi, p0, p1, p2, p3, p4, p5, p6, p7⟩ := hI.at_ hx
  obtain ⟨M, hM⟩ : ∃ M, s.length = M + 1 := ⟨s.length - 1, by cases s with | nil => exact absurd rfl sne | cons => simp⟩
  have hM2 : M + 1 ≤ 200 := by rw [← hM]; exact hcm.2.2.1
  obtain ⟨y, hy⟩ : ∃ y, s[M]? = some y := ⟨_, List.getElem?_eq_getElem (by omega)⟩
  have hyd : s.getD (s.length - 1) 0 = y := by rw [hM, Nat.add_sub_cancel, List.getD_eq_getElem?_getD, hy]; rfl
  have hy0 : 0 ≤ y := hnn y (List.mem_of_getElem? hy)
  have hy29 : y ≤ 29 := by rw [← hyd]; exact hcm.2.2.2
  have hts : ∀ ts, CD.nexts at_ x s = some ts → CD.Amid l S todo ts := fun ts hn => hA.take_ hat hs hx hn ht1 ht2
  have hbad : CD.nexts at_ x s = none → ¬ CD.Well l := fun hn => hA.bad_on hat hs hx hn
  have hC := Lib.hid (fun (w' : World) (hb : Below w.heap.size w w') => clone_pin s w' (.slice (some ⟨g, 0, none⟩) s.length gc) (hv.below hb) (by omega))
  have c0 := hW.st.cell 0
  have c1 := hW.st.cell 1
  have hpl := hW.st.lt
  obtain ⟨L, hL⟩ : ∃ L, l.length = L := ⟨_, rfl⟩
  rw [hSl, hL] at c1
  rw [hL] at hlen hatl c0 hmay
  simp only [List.cons_append, List.nil_append, List.getElem?_cons_succ, List.getElem?_cons_zero] at c0 c1
  obtain ⟨vs, bL, -, -⟩ := hW.out
  have hbl := bL.lt
  have hql := fun g hg => (hW.q.lt g hg).2
  have hW' := Lib.hid hW
  have hts' := Lib.hid hts
  have hbad' := Lib.hid hbad
  have hL' := Lib.hid hL
  have hM' := Lib.hid hM
  have hyd' := Lib.hid hyd
  have hy' := Lib.hid hy
  have hql' := Lib.hid hql
  have hmay' := Lib.hid hmay
  have hm' := Lib.hid hm
  have sne' := Lib.hid sne
  have hpa := Lib.hid (fun ho => CD.may_place hmay ho)
  have haa := Lib.hid (fun ho => CD.may_arg hmay ho)
  have hbw := Below.refl w.heap.size w
  have hdi' := Lib.hid hdi
  rw [hM] at hC d0
  rw [hL]
  clear hW hI hr hx hs hA hat ht1 ht2 hcm hnn hts hbad bL hv hvs hL hM hyd hy hql hmay hm sne hSl hdi
  go_enter Tryd.func31, Tryd.ntmps31
  go_upto_region 1 with fail
  go_cut [5, 6] from 8 to 22 (fun s5 s6 wx => ∃ ib v0, s5 = .pointer (some ⟨ib, 0, none⟩) ∧ s6 = v0 ∧ Lv w wx ib x I iq v0 s)
  case first =>
    have hZ := Lies.made w 44 #[.int .i64 0, .int .i64 0, .int .i64 0, .string ⟨#[]⟩, .int .i64 0, .int .i64 0, .string ⟨#[]⟩, .slice none 0 0]
    refine wp_region_held_drew (S := fun w' => Below w.heap.size w w') rfl (below_drew1' (Below.refl _ w)) (fun hHeld => ?_)
    refine wpAnyH_take (i := 0) (oi := { dst := some 8, op := Go.Op.move (Go.Operand.tmp 0), type := 66, pos := "flow.go:55", after := #[], guard := none }) (v := ?_) rfl (by kernel_rfl) (by kernel_rfl) (by kernel_rfl) (fun _ _ _ h => h) (Or.inl ⟨by rfl, ?_⟩) (by assumption) ?_
    rotate_left
    · intro w hSw; clear hSw; go_simp; try with_reducible rfl
    try simp only [Act.put, List.setIfInBounds_toArray, List.set_cons_zero, List.set_cons_succ]
    refine wpAnyH_take (i := 1) (oi := { dst := some 9, op := Go.Op.nilCheck (Go.Operand.tmp 8), type := 0, pos := "flow.go:55", after := #[{ on := 0, ground := Go.Ground.data }], guard := none }) (v := ?_) rfl (by kernel_rfl) (by kernel_rfl) (by kernel_rfl) (fun _ _ _ h => h) (Or.inl ⟨by rfl, ?_⟩) (by assumption) ?_
    rotate_left
    · intro w hSw; clear hSw; go_simp; try with_reducible rfl
    try simp only [Act.put, List.setIfInBounds_toArray, List.set_cons_zero, List.set_cons_succ]
    refine wpAnyH_take (i := 2) (oi := { dst := some 10, op := Go.Op.fieldAddr 49 (Go.Operand.tmp 9) 0, type := 0, pos := "flow.go:55", after := #[{ on := 1, ground := Go.Ground.data }], guard := none }) (v := ?_) rfl (by kernel_rfl) (by kernel_rfl) (by kernel_rfl) (fun _ _ _ h => h) (Or.inl ⟨by rfl, ?_⟩) (by assumption) ?_
    rotate_left
    · intro w hSw; clear hSw; go_simp; try with_reducible rfl
    try simp only [Act.put, List.setIfInBounds_toArray, List.set_cons_zero, List.set_cons_succ]
    refine wpAnyH_take (i := 3) (oi := { dst := some 11, op := Go.Op.load 22 (Go.Operand.tmp 10), type := 22, pos := "flow.go:55", after := #[{ on := 2, ground := Go.Ground.data }], guard := none }) (v := ?_) rfl (by kernel_rfl) (by kernel_rfl) (by kernel_rfl) (fun _ _ _ h => h) (Or.inl ⟨by rfl, ?_⟩) (by assumption) ?_
    rotate_left
    · intro w7 hS7
      have k0 := (Below.cell hS7 (p := ⟨p, 0, none⟩) hpl).trans c0
      clear hS7
      go_simp
      try with_reducible rfl
    try simp only [Act.put, List.setIfInBounds_toArray, List.set_cons_zero, List.set_cons_succ]
    refine wpAnyH_take (i := 4) (oi := { dst := some 12, op := Go.Op.move (Go.Operand.tmp 1), type := 3, pos := "flow.go:55", after := #[], guard := none }) (v := ?_) rfl (by kernel_rfl) (by kernel_rfl) (by kernel_rfl) (fun _ _ _ h => h) (Or.inl ⟨by rfl, ?_⟩) (by assumption) ?_
    rotate_left
    · intro w hSw; clear hSw; go_simp; try with_reducible rfl
    try simp only [Act.put, List.setIfInBounds_toArray, List.set_cons_zero, List.set_cons_succ]
    refine wpAnyH_take (i := 5) (oi := { dst := some 13, op := Go.Op.indexAddr 22 (Go.Operand.tmp 11) (Go.Operand.tmp 12), type := 0, pos := "flow.go:55", after := #[{ on := 3, ground := Go.Ground.data }, { on := 4, ground := Go.Ground.data }], guard := none }) (v := ?_) rfl (by kernel_rfl) (by kernel_rfl) (by kernel_rfl) (fun _ _ _ h => h) (Or.inl ⟨by rfl, ?_⟩) (by assumption) ?_
    rotate_left
    · intro w hSw; clear hSw; go_simp; try with_reducible rfl
    try simp only [Act.put, List.setIfInBounds_toArray, List.set_cons_zero, List.set_cons_succ]
    refine wpAnyH_take (i := 6) (oi := { dst := some 14, op := Go.Op.load 44 (Go.Operand.tmp 13), type := 44, pos := "flow.go:55", after := #[{ on := 5, ground := Go.Ground.data }], guard := none }) (v := ?_) rfl (by kernel_rfl) (by kernel_rfl) (by kernel_rfl) (fun _ _ _ h => h) (Or.inl ⟨by rfl, ?_⟩) (by assumption) ?_
    rotate_left
    · intro w7 hS7
      have k0 := (Below.cell hS7 (p := ⟨bi, oi + at_ * 8, none⟩) hbi).trans p0
      have k1 := (Below.cell hS7 (p := ⟨bi, oi + at_ * 8 + 1, none⟩) hbi).trans p1
      have k2 := (Below.cell hS7 (p := ⟨bi, oi + at_ * 8 + 2, none⟩) hbi).trans p2
      have k3 := (Below.cell hS7 (p := ⟨bi, oi + at_ * 8 + 3, none⟩) hbi).trans p3
      have k4 := (Below.cell hS7 (p := ⟨bi, oi + at_ * 8 + 4, none⟩) hbi).trans p4
      have k5 := (Below.cell hS7 (p := ⟨bi, oi + at_ * 8 + 5, none⟩) hbi).trans p5
      have k6 := (Below.cell hS7 (p := ⟨bi, oi + at_ * 8 + 6, none⟩) hbi).trans p6
      have k7 := (Below.cell hS7 (p := ⟨bi, oi + at_ * 8 + 7, none⟩) hbi).trans p7
      clear hS7
      go_simp
      try with_reducible rfl
    try simp only [Act.put, List.setIfInBounds_toArray, List.set_cons_zero, List.set_cons_succ]
    refine wpAnyH_take (i := 7) (oi := { dst := some 15, op := Go.Op.move (Go.Operand.tmp 0), type := 66, pos := "flow.go:55", after := #[], guard := none }) (v := ?_) rfl (by kernel_rfl) (by kernel_rfl) (by kernel_rfl) (fun _ _ _ h => h) (Or.inl ⟨by rfl, ?_⟩) (by assumption) ?_
    rotate_left
    · intro w hSw; clear hSw; go_simp; try with_reducible rfl
    try simp only [Act.put, List.setIfInBounds_toArray, List.set_cons_zero, List.set_cons_succ]
    refine wpAnyH_take (i := 8) (oi := { dst := some 16, op := Go.Op.nilCheck (Go.Operand.tmp 15), type := 0, pos := "flow.go:55", after := #[{ on := 7, ground := Go.Ground.data }], guard := none }) (v := ?_) rfl (by kernel_rfl) (by kernel_rfl) (by kernel_rfl) (fun _ _ _ h => h) (Or.inl ⟨by rfl, ?_⟩) (by assumption) ?_
    rotate_left
    · intro w hSw; clear hSw; go_simp; try with_reducible rfl
    try simp only [Act.put, List.setIfInBounds_toArray, List.set_cons_zero, List.set_cons_succ]
    refine wpAnyH_take (i := 9) (oi := { dst := some 17, op := Go.Op.fieldAddr 49 (Go.Operand.tmp 16) 1, type := 0, pos := "flow.go:55", after := #[{ on := 8, ground := Go.Ground.data }], guard := none }) (v := ?_) rfl (by kernel_rfl) (by kernel_rfl) (by kernel_rfl) (fun _ _ _ h => h) (Or.inl ⟨by rfl, ?_⟩) (by assumption) ?_
    rotate_left
    · intro w hSw; clear hSw; go_simp; try with_reducible rfl
    try simp only [Act.put, List.setIfInBounds_toArray, List.set_cons_zero, List.set_cons_succ]
    refine wpAnyH_take (i := 10) (oi := { dst := some 18, op := Go.Op.load 25 (Go.Operand.tmp 17), type := 25, pos := "flow.go:55", after := #[{ on := 9, ground := Go.Ground.data }], guard := none }) (v := ?_) rfl (by kernel_rfl) (by kernel_rfl) (by kernel_rfl) (fun _ _ _ h => h) (Or.inl ⟨by rfl, ?_⟩) (by assumption) ?_
    rotate_left
    · intro w7 hS7
      have k1 := (Below.cell hS7 (p := ⟨p, 1, none⟩) hpl).trans c1
      clear hS7
      go_simp
      try with_reducible rfl
    try simp only [Act.put, List.setIfInBounds_toArray, List.set_cons_zero, List.set_cons_succ]
    refine wpAnyH_take (i := 11) (oi := { dst := some 19, op := Go.Op.move (Go.Operand.tmp 1), type := 3, pos := "flow.go:55", after := #[], guard := none }) (v := ?_) rfl (by kernel_rfl) (by kernel_rfl) (by kernel_rfl) (fun _ _ _ h => h) (Or.inl ⟨by rfl, ?_⟩) (by assumption) ?_
    rotate_left
    · intro w hSw; clear hSw; go_simp; try with_reducible rfl
    try simp only [Act.put, List.setIfInBounds_toArray, List.set_cons_zero, List.set_cons_succ]
    refine wpAnyH_take (i := 12) (oi := { dst := some 20, op := Go.Op.indexAddr 25 (Go.Operand.tmp 18) (Go.Operand.tmp 19), type := 0, pos := "flow.go:55", after := #[{ on := 10, ground := Go.Ground.data }, { on := 11, ground := Go.Ground.data }], guard := none }) (v := ?_) rfl (by kernel_rfl) (by kernel_rfl) (by kernel_rfl) (fun _ _ _ h => h) (Or.inl ⟨by rfl, ?_⟩) (by assumption) ?_
    rotate_left
    · intro w hSw; clear hSw; go_simp; try with_reducible rfl
    try simp only [Act.put, List.setIfInBounds_toArray, List.set_cons_zero, List.set_cons_succ]
    refine wpAnyH_take (i := 13) (oi := { dst := some 21, op := Go.Op.load 36 (Go.Operand.tmp 20), type := 36, pos := "flow.go:55", after := #[{ on := 12, ground := Go.Ground.data }], guard := none }) (v := ?_) rfl (by kernel_rfl) (by kernel_rfl) (by kernel_rfl) (fun _ _ _ h => h) (Or.inl ⟨by rfl, ?_⟩) (by assumption) ?_
    rotate_left
    · intro w7 hS7
      have k2 := (Below.cell hS7 (p := ⟨b, at_, none⟩) hbl).trans d0
      clear hS7
      go_simp
      try with_reducible rfl
    try simp only [Act.put, List.setIfInBounds_toArray, List.set_cons_zero, List.set_cons_succ]
    refine wpAnyH_ready (rs := [14, 15]) (by kernel_rfl) (by simp) ?_
    refine AllReadyH.cons (o := { dst := some 22, op := Go.Op.call { callee := Go.Callee.value (Go.Operand.func 42), args := #[Go.Operand.tmp 21], argTypes := #[36] }, type := 36, pos := "flow.go:55", after := #[{ on := 13, ground := Go.Ground.data }], guard := none }) rfl (fun K hK => ?_) ?_
    · rw [if_pos (by rfl)]
      go_simp
      refine (hC.out _ hHeld).mono ?_
      rintro e w3 ⟨v3, rfl, ho, hb3⟩
      obtain ⟨A3, n3, c3, rfl⟩ : ∃ A n c, v3 = .slice A n c := by obtain ⟨A, c, e, -⟩ := ho.read; exact ⟨_, _, _, e⟩
      have hb4 : Below w.heap.size w w3 := hHeld.trans (Below.mono hb3 hHeld.size)
      have ho' := Lib.hid ho
      clear ho hb3
      refine hK.out _ _ hb4 (fun hHeld => ?_)
      clear hK K
      try simp only [Act.put, List.setIfInBounds_toArray, List.set_cons_zero, List.set_cons_succ]
      refine wpAnyH_ready (rs := [15]) (by kernel_rfl) (by simp) ?_
      refine AllReadyH.cons (o := { dst := some 5, op := Go.Op.alloc 44, type := 0, pos := "flow.go:55", after := #[], guard := none }) rfl (fun K hK => ?_) AllReadyH.nil
      rw [if_pos (by rfl)]
      go_simp
      refine hK.out _ _ (hHeld.alloc hHeld.size _) (fun hHeld => ?_)
      clear hK K
      try simp only [Act.put, List.setIfInBounds_toArray, List.set_cons_zero, List.set_cons_succ]
      refine wpAnyH_ready (rs := [16]) (by kernel_rfl) (by simp) ?_
      refine AllReadyH.cons (o := { dst := none, op := Go.Op.store 44 (Go.Operand.tmp 5) (Go.Operand.tmp 14), type := 0, pos := "flow.go:55", after := #[{ on := 15, ground := Go.Ground.data }, { on := 6, ground := Go.Ground.data }, { on := 14, ground := Go.Ground.chain }, { on := 0, ground := Go.Ground.phase }, { on := 1, ground := Go.Ground.phase }, { on := 2, ground := Go.Ground.phase }, { on := 3, ground := Go.Ground.phase }, { on := 4, ground := Go.Ground.phase }, { on := 5, ground := Go.Ground.phase }, { on := 6, ground := Go.Ground.phase }, { on := 7, ground := Go.Ground.textOnly Go.Departure.lateStores }, { on := 8, ground := Go.Ground.textOnly Go.Departure.lateStores }, { on := 9, ground := Go.Ground.textOnly Go.Departure.lateStores }, { on := 10, ground := Go.Ground.textOnly Go.Departure.lateStores }, { on := 11, ground := Go.Ground.textOnly Go.Departure.lateStores }, { on := 12, ground := Go.Ground.textOnly Go.Departure.lateStores }, { on := 13, ground := Go.Ground.textOnly Go.Departure.lateStores }, { on := 14, ground := Go.Ground.textOnly Go.Departure.lateStoresUnsure }, { on := 15, ground := Go.Ground.phase }], guard := none }) rfl (fun K hK => ?_) AllReadyH.nil
      rw [if_pos (by rfl)]
      go_simp
      refine hK.out _ _ (hb4.alloc (Below.size hb4) _) (fun hHeld => ?_)
      clear hK K
      try simp only [Act.put, List.setIfInBounds_toArray, List.set_cons_zero, List.set_cons_succ]
      refine wpAnyH_take (i := 17) (oi := { dst := some 6, op := Go.Op.assign (Go.Operand.tmp 22), type := 36, pos := "flow.go:55", after := #[{ on := 14, ground := Go.Ground.data }, { on := 16, ground := Go.Ground.chain }, { on := 0, ground := Go.Ground.phase }, { on := 1, ground := Go.Ground.phase }, { on := 2, ground := Go.Ground.phase }, { on := 3, ground := Go.Ground.phase }, { on := 4, ground := Go.Ground.phase }, { on := 5, ground := Go.Ground.phase }, { on := 6, ground := Go.Ground.phase }, { on := 7, ground := Go.Ground.phase }, { on := 8, ground := Go.Ground.phase }, { on := 9, ground := Go.Ground.phase }, { on := 10, ground := Go.Ground.phase }, { on := 11, ground := Go.Ground.phase }, { on := 12, ground := Go.Ground.phase }, { on := 13, ground := Go.Ground.phase }, { on := 14, ground := Go.Ground.phase }, { on := 15, ground := Go.Ground.phase }, { on := 16, ground := Go.Ground.phase }], guard := none }) (v := ?_) rfl (by kernel_rfl) (by kernel_rfl) (by kernel_rfl) (fun _ _ _ h => h) (Or.inl ⟨by rfl, ?_⟩) (by assumption) ?_
      rotate_left
      · intro w hSw; clear hSw; go_simp; try with_reducible rfl
      try simp only [Act.put, List.setIfInBounds_toArray, List.set_cons_zero, List.set_cons_succ]
      refine wpAnyH_done (by kernel_rfl) ?_ _
      have hH := Lib.hid hHeld
      clear hHeld
      go_wp2_with fail
      go_meet
      have hb5 := Below.size hb4
      exact ⟨w3.heap.size, .slice A3 n3 c3, rfl, rfl, ⟨Lies.made w3 44 #[.int .i64 x.op, .int .i64 x.a, .int .i64 x.b, .string ⟨x.s.toArray⟩, .int .i64 x.d.k, .int .i64 x.d.n, .string ⟨x.d.s.toArray⟩, .slice I x.d.is.len iq], (ho'.out.base (B' := w.heap.size) (by first | exact Nat.le_refl _ | simp)).below ((Below.refl _ _).alloc (Nat.le_refl _) _), hH.out, hb5, fun e => by have := (ho'.out.lt _ e).2; omega⟩⟩
    refine AllReadyH.cons (o := { dst := some 5, op := Go.Op.alloc 44, type := 0, pos := "flow.go:55", after := #[], guard := none }) rfl (fun K hK => ?_) AllReadyH.nil
    · rw [if_pos (by rfl)]
      go_simp
      refine hK.out _ _ (hHeld.alloc hHeld.size _) (fun hHeld => ?_)
      clear hK K
      try simp only [Act.put, List.setIfInBounds_toArray, List.set_cons_zero, List.set_cons_succ]
      refine wpAnyH_ready (rs := [14]) (by kernel_rfl) (by simp) ?_
      refine AllReadyH.cons (o := { dst := some 22, op := Go.Op.call { callee := Go.Callee.value (Go.Operand.func 42), args := #[Go.Operand.tmp 21], argTypes := #[36] }, type := 36, pos := "flow.go:55", after := #[{ on := 13, ground := Go.Ground.data }], guard := none }) rfl (fun K hK => ?_) AllReadyH.nil
      rw [if_pos (by rfl)]
      go_simp
      refine (hC.out _ hHeld).mono ?_
      rintro e w3 ⟨v3, rfl, ho, hb3⟩
      obtain ⟨A3, n3, c3, rfl⟩ : ∃ A n c, v3 = .slice A n c := by obtain ⟨A, c, e, -⟩ := ho.read; exact ⟨_, _, _, e⟩
      have hb4 : Below w.heap.size w w3 := hHeld.trans (Below.mono hb3 hHeld.size)
      have hz3 := Lib.hid (hZ.drew.below hb3 (by simp))
      have z0 := hz3.out.cell 0
      have f0 := hz3.out.free 0
      have z1 := hz3.out.cell 1
      have f1 := hz3.out.free 1
      have z2 := hz3.out.cell 2
      have f2 := hz3.out.free 2
      have z3 := hz3.out.cell 3
      have f3 := hz3.out.free 3
      have z4 := hz3.out.cell 4
      have f4 := hz3.out.free 4
      have z5 := hz3.out.cell 5
      have f5 := hz3.out.free 5
      have z6 := hz3.out.cell 6
      have f6 := hz3.out.free 6
      have z7 := hz3.out.cell 7
      have f7 := hz3.out.free 7
      have hzl := hz3.out.lt
      simp only [List.getElem?_cons_succ, List.getElem?_cons_zero] at z0 z1 z2 z3 z4 z5 z6 z7
      have ho' := Lib.hid ho
      clear ho hb3
      refine hK.out _ _ hb4 (fun hHeld => ?_)
      clear hK K
      try simp only [Act.put, List.setIfInBounds_toArray, List.set_cons_zero, List.set_cons_succ]
      refine wpAnyH_ready (rs := [16]) (by kernel_rfl) (by simp) ?_
      refine AllReadyH.cons (o := { dst := none, op := Go.Op.store 44 (Go.Operand.tmp 5) (Go.Operand.tmp 14), type := 0, pos := "flow.go:55", after := #[{ on := 15, ground := Go.Ground.data }, { on := 6, ground := Go.Ground.data }, { on := 14, ground := Go.Ground.chain }, { on := 0, ground := Go.Ground.phase }, { on := 1, ground := Go.Ground.phase }, { on := 2, ground := Go.Ground.phase }, { on := 3, ground := Go.Ground.phase }, { on := 4, ground := Go.Ground.phase }, { on := 5, ground := Go.Ground.phase }, { on := 6, ground := Go.Ground.phase }, { on := 7, ground := Go.Ground.textOnly Go.Departure.lateStores }, { on := 8, ground := Go.Ground.textOnly Go.Departure.lateStores }, { on := 9, ground := Go.Ground.textOnly Go.Departure.lateStores }, { on := 10, ground := Go.Ground.textOnly Go.Departure.lateStores }, { on := 11, ground := Go.Ground.textOnly Go.Departure.lateStores }, { on := 12, ground := Go.Ground.textOnly Go.Departure.lateStores }, { on := 13, ground := Go.Ground.textOnly Go.Departure.lateStores }, { on := 14, ground := Go.Ground.textOnly Go.Departure.lateStoresUnsure }, { on := 15, ground := Go.Ground.phase }], guard := none }) rfl (fun K hK => ?_) AllReadyH.nil
      rw [if_pos (by rfl)]
      go_simp
      refine hK.out _ _ (((((((((hb4.setCell (p := ⟨w.heap.size, 0, none⟩) (Nat.le_refl _) _).setCell (p := ⟨w.heap.size, 1, none⟩) (Nat.le_refl _) _).setCell (p := ⟨w.heap.size, 2, none⟩) (Nat.le_refl _) _).setCell (p := ⟨w.heap.size, 3, none⟩) (Nat.le_refl _) _).setCell (p := ⟨w.heap.size, 4, none⟩) (Nat.le_refl _) _).setCell (p := ⟨w.heap.size, 5, none⟩) (Nat.le_refl _) _).setCell (p := ⟨w.heap.size, 6, none⟩) (Nat.le_refl _) _).setCell (p := ⟨w.heap.size, 7, none⟩) (Nat.le_refl _) _)) (fun hHeld => ?_)
      clear hK K
      try simp only [Act.put, List.setIfInBounds_toArray, List.set_cons_zero, List.set_cons_succ]
      refine wpAnyH_take (i := 17) (oi := { dst := some 6, op := Go.Op.assign (Go.Operand.tmp 22), type := 36, pos := "flow.go:55", after := #[{ on := 14, ground := Go.Ground.data }, { on := 16, ground := Go.Ground.chain }, { on := 0, ground := Go.Ground.phase }, { on := 1, ground := Go.Ground.phase }, { on := 2, ground := Go.Ground.phase }, { on := 3, ground := Go.Ground.phase }, { on := 4, ground := Go.Ground.phase }, { on := 5, ground := Go.Ground.phase }, { on := 6, ground := Go.Ground.phase }, { on := 7, ground := Go.Ground.phase }, { on := 8, ground := Go.Ground.phase }, { on := 9, ground := Go.Ground.phase }, { on := 10, ground := Go.Ground.phase }, { on := 11, ground := Go.Ground.phase }, { on := 12, ground := Go.Ground.phase }, { on := 13, ground := Go.Ground.phase }, { on := 14, ground := Go.Ground.phase }, { on := 15, ground := Go.Ground.phase }, { on := 16, ground := Go.Ground.phase }], guard := none }) (v := ?_) rfl (by kernel_rfl) (by kernel_rfl) (by kernel_rfl) (fun _ _ _ h => h) (Or.inl ⟨by rfl, ?_⟩) (by assumption) ?_
      rotate_left
      · intro w hSw; clear hSw; go_simp; try with_reducible rfl
      try simp only [Act.put, List.setIfInBounds_toArray, List.set_cons_zero, List.set_cons_succ]
      refine wpAnyH_done (by kernel_rfl) ?_ _
      have hH := Lib.hid hHeld
      clear hHeld
      go_wp2_with fail
      go_meet
      have T8 : Turns (fun k => k = w.heap.size) w3 _ := (((((((((Turns.refl (fun k => k = w.heap.size) w3).setCell (p := ⟨w.heap.size, 0, none⟩) (fun _ => rfl) (.int .i64 x.op)).setCell (p := ⟨w.heap.size, 1, none⟩) (fun _ => rfl) (.int .i64 x.a)).setCell (p := ⟨w.heap.size, 2, none⟩) (fun _ => rfl) (.int .i64 x.b)).setCell (p := ⟨w.heap.size, 3, none⟩) (fun _ => rfl) (.string ⟨x.s.toArray⟩)).setCell (p := ⟨w.heap.size, 4, none⟩) (fun _ => rfl) (.int .i64 x.d.k)).setCell (p := ⟨w.heap.size, 5, none⟩) (fun _ => rfl) (.int .i64 x.d.n)).setCell (p := ⟨w.heap.size, 6, none⟩) (fun _ => rfl) (.string ⟨x.d.s.toArray⟩)).setCell (p := ⟨w.heap.size, 7, none⟩) (fun _ => rfl) (.slice I x.d.is.len iq))
      have ho8 := (ho'.out.base (B' := w.heap.size) (by simp)).turns T8 (fun g hg e => by have := (ho'.out.lt g hg).1; simp at this; omega)
      exact ⟨w.heap.size, .slice A3 n3 c3, rfl, rfl, ⟨by have := ((((((((hz3.out.stored 0 (.int .i64 x.op)).stored 1 (.int .i64 x.a)).stored 2 (.int .i64 x.b)).stored 3 (.string ⟨x.s.toArray⟩)).stored 4 (.int .i64 x.d.k)).stored 5 (.int .i64 x.d.n)).stored 6 (.string ⟨x.d.s.toArray⟩)).stored 7 (.slice I x.d.is.len iq)); simpa [icells] using this, ho8, hH.out, Nat.le_refl _, fun e => by have := (ho'.out.lt _ e).1; simp at this; omega⟩⟩
  case rest =>
    obtain ⟨ib, v0, rfl, rfl, hLv⟩ := hcut
    obtain ⟨A0, c0', rfl, -⟩ := hLv.own.read
    have hbx := hLv.box
    have hwn := hLv.own
    have hlw := hLv.low
    rw [hM'.out] at hwn ⊢
    obtain ⟨g0, rfl, hg0, hg0l, l0⟩ := hLv.own.cell (A := A0) (c := c0') (j := M) (by rw [hM'.out]; omega)
    have hyD : s.getD M 0 = y := by rw [List.getD_eq_getElem?_getD, hy'.out]; rfl
    rw [hyD] at l0
    have hfr : wc.frozen? ⟨g0, M, none⟩ = false := by
      rcases hLv.own.2 with ⟨e, -⟩ | ⟨g9, cap, cur, e, -, hh, -⟩
      · cases e
      · injection e with e
        injection e with e
        injection e with e
        subst e
        exact frozen_of_row wc g0 M _ _ hh
    have y0 := hbx.cell 0
    have y1 := hbx.cell 1
    have fb1 := hbx.free 1
    unfold icells at y0 y1
    simp only [List.getElem?_cons_succ, List.getElem?_cons_zero] at y0 y1
    have hW1 := Lib.hid (hW'.out.below hlw)
    have hW9' := hW'
    have hLv' := Lib.hid hLv
    have hibl := hbx.lt
    have hL9 := hL'.out
    have hlL : L ≤ 8000 := hlen.2
    rw [hL'.out] at hW1
    have hW2 := Lib.hid (by have := hW1.out; exact this)
    clear hbx hLv hwn c0 c1 d0 p0 p1 p2 p3 p4 p5 p6 p7 hC hW1 hbw hdi'
    have hyD0 : s.getD (s.length - 1) 0 = y := hyd'.out
    rw [hM'.out] at hyD0
    have hyD0' := Lib.hid hyD0
    have hpx : p ≠ ib := by have := hLv'.out.lo; omega
    have hbx2 : b ≠ ib := by have := hLv'.out.lo; omega
    have hqx : qv.ownBlock ≠ some ib := fun e => by have := hql'.out _ e; have := hLv'.out.lo; omega
    have hpg : p ≠ g0 := by omega
    have hbg : b ≠ g0 := by omega
    have hqg : qv.ownBlock ≠ some g0 := fun e => by have := hql'.out _ e; omega
    have hig : g0 ≠ ib := fun e => hLv'.out.ne (by rw [e]; rfl)
    clear hyD0 hyD
    have hm2 := hm'.out
    have hC1 : ∀ (q : Nat) (K : List (Nat × List Int)), CD.Amid l S todo ((q, s) :: K) → q ≤ L → Calls Tryd.prog 41 #[.pointer (some ⟨p, 0, none⟩), .int .i64 q, .slice (some ⟨g0, 0, none⟩) (M + 1) c0'] wc (ComeN l wc 49 B (fun _ => False) p b (.slice (some ⟨bi, oi, none⟩) L c) S qv todo K) := fun q K hAm hq => by
      have h := come_any l wc B (fun _ => False) p b (some ⟨bi, oi, none⟩) c S qv todo q s (.slice (some ⟨g0, 0, none⟩) s.length c0') K (by rw [hL'.out]; exact hW2.out) hAm hLv'.out.own.pin (by rw [hL'.out]; exact hq) (by rw [hL'.out]; exact hlL) hm'.out (fun _ h => h.elim)
      rw [hL'.out, hM'.out] at h
      exact h
    have hC1' := Lib.hid hC1
    clear hC1
    have hlwN := fun n => below_drewN hlw n
    by_cases o12 : x.op = 12
    · rw [o12] at y0
      have hb12 := haa.out (.inl o12)
      have en : CD.nexts at_ x s = if 2 ≤ s.length ∧ s.getD (s.length - 1) 0 = x.a + 1 then some [] else none := by simp [CD.nexts, o12]
      rw [hM'.out, hyD0'.out] at en
      by_cases h1 : M = 0
      · subst h1
        have hno := Lib.hid (hbad'.out (by rw [en]; simp))
        clear en
        go_wp2_with fail
        all_goals (try go_quiet (fail))
        go_wp2_with fail
        go_ret
        exact ComeN.no (Turns.of_below (hlwN _) _) hno.out
      · have h1' : 0 < M := by omega
        by_cases h2 : y = x.a + 1
        · have hyes := Lib.hid (hts'.out [] (by rw [en, if_pos ⟨by omega, h2⟩]))
          clear en
          go_wp2_with fail
          all_goals (try go_quiet (fail))
          go_wp2_with fail
          go_ret
          exact ⟨Turns.of_below (hlwN _) _, .inr ⟨rfl, S, todo, qv, hW2.out.below (below_drewN (Below.refl _ _) _), hyes.out, Nat.le_refl _, .inl rfl⟩⟩
        · have hno := Lib.hid (hbad'.out (by rw [en, if_neg (fun h => h2 h.2)]))
          have e2 : (y == x.a + 1) = false := by simp [h2]
          clear en
          go_wp2_with fail
          all_goals (try go_quiet (fail))
          go_wp2_with fail
          go_ret
          exact ComeN.no (Turns.of_below (hlwN _) _) hno.out
    by_cases o13 : x.op = 13
    · rw [o13] at y0
      have hb13 := haa.out (.inr o13)
      have en : CD.nexts at_ x s = if s.length = 1 ∧ s.getD (s.length - 1) 0 = x.a + 1 then some [] else none := by simp [CD.nexts, o13]
      rw [hM'.out, hyD0'.out] at en
      by_cases h1 : M = 0
      · subst h1
        by_cases h2 : y = x.a + 1
        · have hyes := Lib.hid (hts'.out [] (by rw [en, if_pos ⟨by omega, h2⟩]))
          clear en
          go_wp2_with fail
          all_goals (try go_quiet (fail))
          go_wp2_with fail
          go_ret
          exact ⟨Turns.of_below (hlwN _) _, .inr ⟨rfl, S, todo, qv, hW2.out.below (below_drewN (Below.refl _ _) _), hyes.out, Nat.le_refl _, .inl rfl⟩⟩
        · have hno := Lib.hid (hbad'.out (by rw [en, if_neg (fun h => h2 h.2)]))
          have e2 : (y == x.a + 1) = false := by simp [h2]
          clear en
          go_wp2_with fail
          all_goals (try go_quiet (fail))
          go_wp2_with fail
          go_ret
          exact ComeN.no (Turns.of_below (hlwN _) _) hno.out
      · have h1' : 0 < M := by omega
        have hno := Lib.hid (hbad'.out (by rw [en, if_neg (fun h => by omega)]))
        clear en
        go_wp2_with fail
        all_goals (try go_quiet (fail))
        go_wp2_with fail
        go_ret
        exact ComeN.no (Turns.of_below (hlwN _) _) hno.out
    by_cases o14 : x.op = 14
    · rw [o14] at y0
      have en : CD.nexts at_ x s = if s.length = 1 ∧ s.getD (s.length - 1) 0 = 0 then some [] else none := by simp [CD.nexts, o14]
      rw [hM'.out, hyD0'.out] at en
      have hbs : Below w.heap.size w (wc.setCell ⟨ib, 1, none⟩ (.int .i64 (-1))) := hlw.setCell (p := ⟨ib, 1, none⟩) hLv'.out.lo _
      have hbsN := fun n => below_drewN hbs n
      have hWs := Lib.hid (hW'.out.below hbs)
      rw [hL'.out] at hWs
      by_cases h1 : M = 0
      · subst h1
        by_cases h2 : y = 0
        · have hyes := Lib.hid (hts'.out [] (by rw [en, if_pos ⟨by omega, h2⟩]))
          clear en
          go_wp2_with fail
          all_goals (try go_quiet (fail))
          go_wp2_with fail
          go_ret
          exact ⟨Turns.of_below (hbsN _) _, .inr ⟨rfl, S, todo, qv, hWs.out.below (below_drewN (Below.refl _ _) _), hyes.out, Nat.le_refl _, .inl rfl⟩⟩
        · have hno := Lib.hid (hbad'.out (by rw [en, if_neg (fun h => h2 h.2)]))
          have e2 : (y == 0) = false := by simp [h2]
          clear en
          go_wp2_with fail
          all_goals (try go_quiet (fail))
          go_wp2_with fail
          go_ret
          exact ComeN.no (Turns.of_below (hbsN _) _) hno.out
      · have h1' : 0 < M := by omega
        have hno := Lib.hid (hbad'.out (by rw [en, if_neg (fun h => by omega)]))
        clear en
        go_wp2_with fail
        all_goals (try go_quiet (fail))
        go_wp2_with fail
        go_ret
        exact ComeN.no (Turns.of_below (hbsN _) _) hno.out
    by_cases o8 : x.op = 8
    · rw [o8] at y0
      have hp8 := hpa.out (.inr (.inl o8))
      have hAm := hts'.out _ (show CD.nexts at_ x s = some [(x.a.toNat, s)] by simp [CD.nexts, o8])
      have hC2 := Lib.hid (by have h := hC1'.out x.a.toNat [] hAm (by omega); rw [Int.toNat_of_nonneg hp8.1] at h; exact h)
      clear hAm
      go_wp2_with (
        go_at_call 41
        refine hC2.out.mono ?_
        intro e w3 h3
        obtain ⟨r, rfl⟩ := h3.bool)
      go_ret
      exact h3.of_below hlw
    by_cases o7 : x.op = 7
    · rw [o7] at y0
      have hp7 := hpa.out (.inl o7)
      have hAm := (hts'.out _ (show CD.nexts at_ x s = some [(x.a.toNat, s), (at_ + 1, s)] by simp [CD.nexts, o7])).perm (K' := [(at_ + 1, s), (x.a.toNat, s)]) (fun z => by simp [or_comm])
      have hC2 := Lib.hid (by have h := hC1'.out (at_ + 1) _ hAm (by omega); rw [show ((at_ + 1 : Nat) : Int) = (at_ : Int) + 1 by omega] at h; exact h)
      have hC3 := Lib.hid (fun (w3 : World) (S' : List (List Int)) (todo' : List Nat) (qv' : Value) (hW3 : WSt w3 49 B (fun _ => False) p b (.slice (some ⟨bi, oi, none⟩) L c) [] S' qv' todo') (hA3 : CD.Amid l S' todo' [(x.a.toNat, s)]) (hm3 : lookM S' todo' ≤ lookM S todo) (hO : Own w3 w.heap.size (.slice (some ⟨g0, 0, none⟩) s.length c0') s) => by
        have h := come_any l w3 B (fun _ => False) p b (some ⟨bi, oi, none⟩) c S' qv' todo' (x.a.toNat) s (.slice (some ⟨g0, 0, none⟩) s.length c0') [] (by rw [hL'.out]; exact hW3) hA3 hO.pin (by rw [hL'.out]; omega) (by rw [hL'.out]; exact hlL) (Nat.le_trans hm3 hm'.out) (fun _ h => h.elim)
        rw [hL'.out, hM'.out, Int.toNat_of_nonneg hp7.1] at h
        exact h)
      clear hAm
      go_wp2_with (first
        | (go_at_call 41
           with_reducible refine hC2.out.mono ?_
           intro e w3 h3
           obtain ⟨r, rfl⟩ := h3.bool
           have hLb := Lib.hid (hLv'.out.box.turns h3.1 (fun h => by rcases h with h | h | h; exact hpx h.symm; exact hbx2 h.symm; exact hqx h))
           have hOw := Lib.hid (hLv'.out.own.turns h3.1 (fun g hg h => by have e : some g0 = some g := hg; injection e with e; subst e; rcases h with h | h | h; exact hpg h.symm; exact hbg h.symm; exact hqg h))
           have z1 := hLb.out.cell 1
           unfold icells at z1
           simp only [List.getElem?_cons_succ, List.getElem?_cons_zero] at z1)
        | (go_at_call 41
           (have h3g := h3.get (by first | assumption | (have hz : (!r) = false := (by assumption); simpa using hz)))
           obtain ⟨T3, S', todo', qv', hW3, hA3, hm3, ho3⟩ := h3g
           (refine (hC3.out w3 S' todo' qv' hW3 hA3 hm3 hOw.out).mono ?_)
           intro e w5 h5
           obtain ⟨r5, rfl⟩ := h5.bool))
      all_goals go_ret
      all_goals first
        | exact (h3.no_of hlw (by first | assumption | (have hz : (!r) = true := (by assumption); simpa using hz)))
        | exact ComeN.then_ ((Turns.of_below hlw _).trans T3) hm3 (ho3.imp id (fun ⟨g, h1, h2⟩ => ⟨g, h1, Nat.le_trans hlw.size h2⟩)) (Below.refl _ _) h5
    by_cases o9 : x.op = 9
    · rw [o9] at y0
      have hp9 := hpa.out (.inr (.inr (.inl o9)))
      have hAm := hts'.out _ (show CD.nexts at_ x s = some [(x.a.toNat, [0]), (at_ + 1, s)] by simp [CD.nexts, o9])
      have hC2 := Lib.hid (by
        have h := begin_any l wc B p b (some ⟨bi, oi, none⟩) c S qv todo x.a.toNat _ (by rw [hL'.out]; exact hW2.out) hAm (by rw [hL'.out]; omega) (by rw [hL'.out]; exact hlL) hm'.out
        rw [hL'.out, Int.toNat_of_nonneg hp9.1] at h
        exact h)
      have hC3 := Lib.hid (fun (w3 : World) (S' : List (List Int)) (todo' : List Nat) (qv' : Value) (hW3 : WSt w3 49 B (fun _ => False) p b (.slice (some ⟨bi, oi, none⟩) L c) [] S' qv' todo') (hA3 : CD.Amid l S' todo' [(at_ + 1, s)]) (hm3 : lookM S' todo' ≤ lookM S todo) (hO : Own w3 w.heap.size (.slice (some ⟨g0, 0, none⟩) s.length c0') s) => by
        have h := come_any l w3 B (fun _ => False) p b (some ⟨bi, oi, none⟩) c S' qv' todo' (at_ + 1) s (.slice (some ⟨g0, 0, none⟩) s.length c0') [] (by rw [hL'.out]; exact hW3) hA3 hO.pin (by rw [hL'.out]; omega) (by rw [hL'.out]; exact hlL) (Nat.le_trans hm3 hm'.out) (fun _ h => h.elim)
        rw [hL'.out, hM'.out, show ((at_ + 1 : Nat) : Int) = (at_ : Int) + 1 by omega] at h
        exact h)
      clear hAm
      go_wp2_with (first
        | (go_at_call 30
           with_reducible refine hC2.out.mono ?_
           intro e w3 h3
           obtain ⟨r, rfl⟩ := h3.bool
           have hLb := Lib.hid (hLv'.out.box.turns h3.1 (fun h => by rcases h with h | h | h; exact hpx h.symm; exact hbx2 h.symm; exact hqx h))
           have hOw := Lib.hid (hLv'.out.own.turns h3.1 (fun g hg h => by have e : some g0 = some g := hg; injection e with e; subst e; rcases h with h | h | h; exact hpg h.symm; exact hbg h.symm; exact hqg h))
           have z1 := hLb.out.cell 1
           unfold icells at z1
           simp only [List.getElem?_cons_succ, List.getElem?_cons_zero] at z1)
        | (go_at_call 41
           (have h3g := h3.get (by first | assumption | (have hz : (!r) = false := (by assumption); simpa using hz)))
           obtain ⟨T3, S', todo', qv', hW3, hA3, hm3, ho3⟩ := h3g
           (refine (hC3.out w3 S' todo' qv' hW3 hA3 hm3 hOw.out).mono ?_)
           intro e w5 h5
           obtain ⟨r5, rfl⟩ := h5.bool))
      all_goals go_ret
      all_goals first
        | exact (h3.no_of hlw (by first | assumption | (have hz : (!r) = true := (by assumption); simpa using hz)))
        | exact ComeN.then_ ((Turns.of_below hlw _).trans T3) hm3 (ho3.imp id (fun ⟨g, h1, h2⟩ => ⟨g, h1, Nat.le_trans hlw.size h2⟩)) (Below.refl _ _) h5
    by_cases o11 : x.op = 11
    · rw [o11] at y0
      have hO1 := hLv'.out.own.put (j := M) (a := y + 1) (by rw [hM'.out]; omega)
      have hbs : Below w.heap.size w (wc.setCell ⟨g0, M, none⟩ (.int .i64 (y + 1))) := hlw.setCell (p := ⟨g0, M, none⟩) hg0 _
      have hset : s.set M (y + 1) = s.take (s.length - 1) ++ [s.getD (s.length - 1) 0 + 1] := by
        rw [hyd'.out, hM'.out, Nat.add_sub_cancel, List.set_eq_take_append_cons_drop, if_pos (by rw [hM'.out]; omega), List.drop_of_length_le (by rw [hM'.out]; omega)]
      have hAm := hts'.out _ (show CD.nexts at_ x s = some [(at_ + 1, s.take (s.length - 1) ++ [s.getD (s.length - 1) 0 + 1])] by simp [CD.nexts, o11])
      rw [← hset] at hAm
      have hC2 := Lib.hid (by
        have h := come_any l (wc.setCell ⟨g0, M, none⟩ (.int .i64 (y + 1))) B (fun _ => False) p b (some ⟨bi, oi, none⟩) c S qv todo (at_ + 1) (s.set M (y + 1)) _ [] (hW'.out.below hbs) hAm hO1.pin (by rw [hL'.out]; omega) (by rw [hL'.out]; exact hlL) hm'.out (fun _ h => h.elim)
        rw [hL'.out, hM'.out, show ((at_ + 1 : Nat) : Int) = (at_ : Int) + 1 by omega] at h
        exact h)
      clear hAm hO1 hset
      go_wp2_with (
        go_at_call 41
        refine hC2.out.mono ?_
        intro e w3 h3
        obtain ⟨r, rfl⟩ := h3.bool)
      go_ret
      exact h3.of_below hbs
    by_cases o10 : x.op = 10
    · rw [o10] at y0
      have hp10 := hpa.out (.inr (.inr (.inr o10)))
      have hAm := hts'.out _ (show CD.nexts at_ x s = some [(x.a.toNat, s), (at_ + 1, s ++ [0])] by simp [CD.nexts, o10])
      have hC2 := Lib.hid (by
        have h := come_any l wc B (fun g => g = g0) p b (some ⟨bi, oi, none⟩) c S qv todo x.a.toNat s (.slice (some ⟨g0, 0, none⟩) s.length c0') _ ((hW9'.out.fresh (fun g (e : g = g0) => by rw [e]; exact hg0)).below hlw) hAm hLv'.out.own.pin (by rw [hL'.out]; omega) (by rw [hL'.out]; exact hlL) hm'.out (fun g (e : g = g0) => by rw [e]; exact hg0l)
        rw [hL'.out, hM'.out, Int.toNat_of_nonneg hp10.1] at h
        exact h)
      have hC3 := Lib.hid (fun (w3 : World) (S' : List (List Int)) (todo' : List Nat) (qv' v6 : Value) (hW3 : WSt w3 49 B (fun _ => False) p b (.slice (some ⟨bi, oi, none⟩) L c) [] S' qv' todo') (hA3 : CD.Amid l S' todo' [(at_ + 1, s ++ [0])]) (hm3 : lookM S' todo' ≤ lookM S todo) (hO : Own w3 w.heap.size v6 (s ++ [0])) => by
        have h := come_any l w3 B (fun _ => False) p b (some ⟨bi, oi, none⟩) c S' qv' todo' (at_ + 1) (s ++ [0]) v6 [] (by rw [hL'.out]; exact hW3) hA3 hO.pin (by rw [hL'.out]; omega) (by rw [hL'.out]; exact hlL) (Nat.le_trans hm3 hm'.out) (fun _ h => h.elim)
        rw [hL'.out, show ((at_ + 1 : Nat) : Int) = (at_ : Int) + 1 by omega] at h
        exact h)
      clear hAm
      go_wp2_with (first
        | (go_at_call 41
           with_reducible refine hC2.out.mono ?_
           intro e w3 h3
           obtain ⟨r, rfl⟩ := h3.bool
           have hLb := Lib.hid (hLv'.out.box.turns h3.1 (fun h => by rcases h with h | h | h; exact hpx h.symm; exact hbx2 h.symm; exact hqx h))
           have hOw := Lib.hid (hLv'.out.own.turns h3.1 (fun g hg h => by have e : some g0 = some g := hg; injection e with e; subst e; rcases h with h | h | h; exact hpg h.symm; exact hbg h.symm; exact hqg h))
           have z1 := hLb.out.cell 1
           unfold icells at z1
           simp only [List.getElem?_cons_succ, List.getElem?_cons_zero] at z1
           have hOa := Lib.hid (hOw.out.below ((Below.refl _ _).alloc (Nat.le_refl _) (.cells #[.int .i64 0] 3)))
           rw [hM'.out] at hOa
           have hOn := Lib.hid (Own.one (B := 0) w3 0 (Nat.zero_le _))
           have hsz3 : w.heap.size ≤ (w3.alloc (.cells #[.int .i64 0] 3)).heap.size := by have := h3.1.size; have := hlw.size; simp; omega)
        | (at_builtin
           refine BigFrame.wpList_want (by first | rfl | (simp [Region.wanted, yielded]; done)) (fun K9 hK9 => ?_)
           refine wp_append_ints (v := .slice (some ⟨g0, 0, none⟩) (M + 1) c0') (l := s) (lx := [0]) (B := w.heap.size) (B' := 0) _ _ 36 rfl Tryd.underlying36 rfl rfl hOa.out hOn.out (by have := hM'.out; simp; omega) hsz3 ?_
           intro v6 w6 ho6 hg6 hv6
           obtain ⟨A6, n6, c6, rfl⟩ : ∃ A n c, v6 = .slice A n c := by obtain ⟨A, c, e, -⟩ := ho6.read; exact ⟨_, _, _, e⟩
           have ho6' := Lib.hid ho6
           have hg6' := Lib.hid hg6
           clear ho6 hg6 hv6
           refine hK9 _ _ ?_
           clear hK9 K9)
        | (go_at_call 41
           (have h3g := h3.get (by first | assumption | (have hz : (!r) = false := (by assumption); simpa using hz)))
           obtain ⟨T3, S', todo', qv', hW3, hA3, hm3, ho3⟩ := h3g
           have hT6 : Turns (fun g => g = g0) w3 w6 := ((Turns.refl _ w3).alloc _).trans (Turns.mono (Turns.appended hg6'.out) (fun i _ h => by have e : some g0 = some i := h; injection e with e; exact e.symm))
           refine (hC3.out w6 S' todo' qv' _ (hW3.turnsN hT6).free hA3 hm3 ho6'.out).mono ?_
           intro e w5 h5
           obtain ⟨r5, rfl⟩ := h5.bool))
      all_goals go_ret
      all_goals first
        | (have hrf : r = false := (by first | assumption | (have hz : (!r) = true := (by assumption); simpa using hz) | (have hz : ¬ r = true := (by assumption); simpa using hz)); subst hrf; exact h3.no_of hlw rfl)
        | exact ComeN.then_ (((Turns.of_below hlw _).trans T3).then hT6 (fun i hi e => by omega)) hm3 (ho3.imp id (fun ⟨g, h1, h2⟩ => ⟨g, h1, Nat.le_trans hlw.size h2⟩)) (Below.refl _ _) h5
    have en : CD.nexts at_ x s = some [(at_ + 1, s)] := by simp [CD.nexts, o7, o8, o9, o10, o11, o12, o13, o14]
    have k7 : (x.op == 7) = false := by simp [o7]
    have k8 : (x.op == 8) = false := by simp [o8]
    have k9 : (x.op == 9) = false := by simp [o9]
    have k10 : (x.op == 10) = false := by simp [o10]
    have k11 : (x.op == 11) = false := by simp [o11]
    have k12 : (x.op == 12) = false := by simp [o12]
    have k13 : (x.op == 13) = false := by simp [o13]
    have k14 : (x.op == 14) = false := by simp [o14]
    have hAm := hts'.out _ en
    have hC2 := Lib.hid (by have h := hC1'.out (at_ + 1) [] hAm (by omega); rw [show ((at_ + 1 : Nat) : Int) = (at_ : Int) + 1 by omega] at h; exact h)
    clear hAm en
    go_wp2_with (
      go_at_call 41
      refine hC2.out.mono ?_
      intro e w3 h3
      obtain ⟨r, rfl⟩ := h3.bool)
    go_ret
    exact h3.of_below hlw
end Go.Proofs.YthfelkcomhflnaaDoor
