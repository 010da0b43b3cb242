/- The laws' own configurations: may. -/
import Derived.Test.YtclcnepkgjcmcaaDoorQ30
namespace Go.Proofs.YtclcnepkgjcmcaaDoor
open Go.RowKit

/-- a configuration that is small enough -/
def Small (qa qb qc qd k : Int) : Prop := (0 ≤ qa ∧ qa ≤ 300) ∧ (0 ≤ qb ∧ qb ≤ 300) ∧ (0 ≤ qc ∧ qc ≤ 300) ∧ (0 ≤ qd ∧ qd ≤ 300) ∧ 1 ≤ k ∧ k ≤ 64
/-- the answer is just whether Q holds -/
def Says (Q : Prop) (e : Ending) : Prop := ∃ b, e = .returned (.bool b) ∧ (b = true ↔ Q)
theorem Says.no {Q : Prop} (h : ¬ Q) : Says Q (.returned (.bool false)) := ⟨false, rfl, ⟨(fun h => by cases h), fun k => absurd k h⟩⟩
theorem Says.yes {Q : Prop} (h : Q) : Says Q (.returned (.bool true)) := ⟨true, rfl, ⟨fun _ => h, fun _ => rfl⟩⟩
def qat (qa qb qc qd : Int) : Nat → Int
  | 0 => qa
  | 1 => qb
  | 2 => qc
  | _ => qd
end Go.Proofs.YtclcnepkgjcmcaaDoor

/- A range over a map from pointers to bools: which keys were handed out; one step; what is left. -/
namespace Go.Proofs.YtclcnepkgjcmcaaDoor
open Go.RowKit

theorem ents_born : ∀ (ks : List Nat) (n : Nat), (entsFrom ks n).map (·.born) = List.range' n ks.length
  | [], _ => rfl
  | k :: l, n => by
    show n :: (entsFrom l (n + 1)).map (·.born) = _
    rw [ents_born l (n + 1)]
    rfl
theorem ents_mem : ∀ (ks : List Nat) (n : Nat) (e : MapEntry), e ∈ entsFrom ks n ↔ ∃ j, j < ks.length ∧ e = ent (ks.getD j 0) (n + j)
  | [], n, e => by
    constructor
    · intro h
      cases h
    · rintro ⟨j, hj, _⟩
      exact absurd hj (by simp)
  | k :: l, n, e => by
    show e ∈ ent k n :: entsFrom l (n + 1) ↔ _
    rw [List.mem_cons, ents_mem l (n + 1) e]
    constructor
    · rintro (rfl | ⟨j, hj, rfl⟩)
      · exact ⟨0, by simp, by simp⟩
      · exact ⟨j + 1, by simpa using hj, by simp [show n + 1 + j = n + (j + 1) by omega]⟩
    · rintro ⟨j, hj, rfl⟩
      cases j with
      | zero => exact .inl (by simp)
      | succ j => exact .inr ⟨j, by simpa using hj, by simp [show n + 1 + j = n + (j + 1) by omega]⟩
/-- block r walks the map g of n keys: those of sn were handed out -/
def PIter (w : World) (r g n : Nat) (sn : Array Nat) : Prop := w.heap[r]? = some (.mapIter (some g) n sn n)
def leftW (w : World) (r g : Nat) : Nat := match w.heap[r]?, w.heap[g]? with
  | some (.mapIter _ _ s _), some (.map es _) => (leftOf es s).size
  | _, _ => 0
section
variable {w w' : World} {r g n : Nat} {sn : Array Nat} {ks : List Nat} {X : Nat → Prop}
theorem PIter.lt (h : PIter w r g n sn) : r < w.heap.size := by
  unfold PIter at h
  by_cases hg : r < w.heap.size
  · exact hg
  · rw [Array.getElem?_eq_none (by omega)] at h
    cases h
theorem PIter.turns (h : PIter w r g n sn) (k : Turns X w w') (hx : ¬ X r) : PIter w' r g n sn := (k.block r h.lt hx).trans h
theorem PIter.apart {b : Nat} {t : TypeId} {cs : List Value} (h : PIter w r g n sn) (k : Lies w b t cs) : r ≠ b := by
  intro e
  subst e
  unfold PIter at h
  unfold Lies at k
  rw [h] at k
  cases k
theorem PIter.other (h : PIter w r g n sn) (k : PMap w g ks) : g ≠ r := by
  intro e
  subst e
  unfold PIter at h
  unfold PMap at k
  rw [h] at k
  cases k
theorem PIter.left (h : PIter w r g n sn) (k : PMap w g ks) : leftW w r g = (leftOf (entsFrom ks 0).toArray sn).size := by
  unfold PIter at h
  unfold PMap at k
  unfold leftW
  rw [h, k]
theorem PIter.made (w : World) (g n : Nat) : PIter (w.alloc (.mapIter (some g) n #[] n)) w.heap.size g n #[] := heap_alloc_new w _
theorem PIter.set {o : Obj} {w1 : World} (hr : w1.heap[r]? = some o) (sn' : Array Nat) : PIter (Go.ChangeMaps.setBlock w1 r (.mapIter (some g) n sn' n)) r g n sn' := by
  have hlt : r < w1.heap.size := by
    by_cases hg : r < w1.heap.size
    · exact hg
    · rw [Array.getElem?_eq_none (by omega)] at hr
      cases hr
  unfold PIter Go.ChangeMaps.setBlock
  simp [hlt]
/-- one step -/
theorem PIter.next (h : PIter w r g ks.length sn) (hm : PMap w g ks) :
    ((∀ j, j < ks.length → sn.contains j = true) ∧ ∀ ty, (Instr.next (.pointer (some ⟨r, 0, none⟩)) false ty).run Tryd.prog w = .ok (.tuple #[.bool false]) w) ∨
    ∃ j, j < ks.length ∧ sn.contains j = false ∧ (leftOf (entsFrom ks 0).toArray (sn.push j)).size < (leftOf (entsFrom ks 0).toArray sn).size ∧ ∃ w1, (w1 = w ∨ w1 = w.drew) ∧
      ∀ ty, (Instr.next (.pointer (some ⟨r, 0, none⟩)) false ty).run Tryd.prog w = .ok (.tuple #[.bool true, .pointer (some ⟨ks.getD j 0, 0, none⟩), .bool true]) (Go.ChangeMaps.setBlock w1 r (.mapIter (some g) ks.length (sn.push j) ks.length)) := by
  have hold : ∀ x ∈ (entsFrom ks 0).toArray.toList, x.born < ks.length := fun x hx => by
    obtain ⟨j, hj, rfl⟩ := (ents_mem ks 0 x).1 hx
    show 0 + j < _
    omega
  rcases run_next_at (P := Tryd.prog) w 0 r g ks.length ks.length sn (entsFrom ks 0).toArray ks.length h hm hold (Nat.le_refl _) with ⟨h0, hrun⟩ | ⟨e, he, w1, hw, hrun⟩
  · refine .inl ⟨fun j hj => ?_, fun _ => hrun⟩
    have := all_seen _ sn h0 (ent (ks.getD j 0) (0 + j)) ((ents_mem ks 0 _).2 ⟨j, hj, rfl⟩)
    rw [Nat.zero_add] at this
    exact this
  · obtain ⟨hm1, hm2⟩ := mem_left he
    obtain ⟨j, hj, rfl⟩ := (ents_mem ks 0 e).1 hm1
    have hsh := left_shrinks _ sn _ he
    rw [Nat.zero_add] at hm2 hsh hrun
    exact .inr ⟨j, hj, hm2, hsh, w1, hw, fun _ => hrun⟩
/-- what was handed out -/
theorem PIter.entry {j : Nat} (h : PIter w r g ks.length (sn.push j)) (hm : PMap w g ks) (hj : j < ks.length) :
    (Instr.entry (.pointer (some ⟨r, 0, none⟩))).run Tryd.prog w = .ok (.tuple #[.pointer (some ⟨ks.getD j 0, 0, none⟩), .bool true]) w := by
  have he : ent (ks.getD j 0) (0 + j) ∈ (entsFrom ks 0).toArray.toList := (ents_mem ks 0 _).2 ⟨j, hj, rfl⟩
  rw [Nat.zero_add] at he
  refine run_entry_at (P := Tryd.prog) w r g ks.length sn (entsFrom ks 0).toArray ks.length (ent (ks.getD j 0) j) h hm he ?_
  rw [show (entsFrom ks 0).toArray.toList = entsFrom ks 0 from rfl, ents_born]
  exact List.nodup_range'
end
end Go.Proofs.YtclcnepkgjcmcaaDoor

/- The laws' own world, whole: the heap, and the plain things beside it. -/
namespace Go.Proofs.YtclcnepkgjcmcaaDoor
open Go.RowKit

/-- what else is known of the heap: of its numbers, its rings, what may be reached, and what is had -/
abbrev Gk := Hp → (Nat → List Int) → (Nat → Prop) → (Nat → Prop) → Prop
/-- neither the cycle's state nor how many there are of each colour has turned -/
def Gk.quiet (K : Gk) : Gk := fun H' R' A D => ∃ H R, K H R A D ∧ H'.mrk = H.mrk ∧ H'.cyc = H.cyc ∧ Wh R' + (R' 12).length = Wh R + (R 12).length ∧ Blk R' = Blk R
/-- an increment, while the things are M -/
def Gk.inc (G : Geo) (M : Md) (K : Gk) : Gk := fun H' R' A' D' => ∃ e H R A D, K H R A D ∧ Safe e G H R M A D ∧ H' = H.inc G ∧ R' = H.incR G R ∧
  (H.mrk = true → A' = A ∧ ((H'.mrk = true ∧ D' = D) ∨ (H'.mrk = false ∧ D' = A))) ∧ (H.mrk = false → A' = Reach M ∧ D' = D ∧ H'.mrk = true)
def Gk.incs (G : Geo) (M : Md) (K : Gk) : Nat → Gk
  | 0 => K
  | n + 1 => Gk.inc G M (Gk.incs G M K n)
theorem safe_incsK {e : Int} {G : Geo} {H : Hp} {R : Nat → List Int} {M : Md} {A D : Nat → Prop} {K : Gk} (s : Safe e G H R M A D) (k : K H R A D) : ∀ n : Nat, e + n ≤ 1000000000 → ∃ A' D', Safe (e + n) G (H.incs G n) (H.incsR G R n) M A' D' ∧ Gk.incs G M K n (H.incs G n) (H.incsR G R n) A' D'
  | 0, _ => ⟨A, D, by rw [show e + ((0 : Nat) : Int) = e by omega]; exact s, k⟩
  | n + 1, hn => by
    obtain ⟨A1, D1, s1, k1⟩ := safe_incsK s k n (by omega)
    obtain ⟨A2, D2, s2, h2, h3⟩ := safe_inc s1 (by omega)
    exact ⟨A2, D2, by rw [show e + ((n + 1 : Nat) : Int) = e + n + 1 by omega]; exact s2, _, _, _, A1, D1, k1, s1, rfl, rfl, h2, h3⟩

/-- besides, all that is had was made -/
def Gk.low (K : Gk) (N : Nat) : Gk := fun H R A D => K H R A D ∧ ∀ i, D i → i < N
theorem Gk.quiet_low {K : Gk} {N : Nat} {H : Hp} {R : Nat → List Int} {A D : Nat → Prop} (h : (K.low N).quiet H R A D) : K.quiet.low N H R A D := by
  obtain ⟨H1, R1, ⟨k, l⟩, h⟩ := h
  exact ⟨⟨H1, R1, k, h⟩, l⟩
theorem Gk.inc_low {G : Geo} {M : Md} {K : Gk} {N : Nat} {H : Hp} {R : Nat → List Int} {A D : Nat → Prop} (h : Gk.inc G M (K.low N) H R A D) : (Gk.inc G M K).low N H R A D := by
  obtain ⟨e, H1, R1, A1, D1, ⟨k, l⟩, s, h1, h2, h3, h4⟩ := h
  refine ⟨⟨e, H1, R1, A1, D1, k, s, h1, h2, h3, h4⟩, fun i hi => ?_⟩
  cases hm : H1.mrk
  · rw [(h4 hm).2.1] at hi
    exact l i hi
  · rcases (h3 hm).2 with ⟨-, e⟩ | ⟨-, e⟩
    · rw [e] at hi; exact l i hi
    · rw [e] at hi; exact l i (s.ct.sub i hi)
theorem Gk.inc_mono {G : Geo} {M : Md} {K K' : Gk} (hk : ∀ H R A D, K H R A D → K' H R A D) {H : Hp} {R : Nat → List Int} {A D : Nat → Prop} (h : Gk.inc G M K H R A D) : Gk.inc G M K' H R A D := by
  obtain ⟨e, H1, R1, A1, D1, k, s⟩ := h
  exact ⟨e, H1, R1, A1, D1, hk _ _ _ _ k, s⟩
theorem Gk.incs_low {G : Geo} {M : Md} {K : Gk} {N : Nat} : ∀ (n : Nat) {H : Hp} {R : Nat → List Int} {A D : Nat → Prop}, Gk.incs G M (K.low N) n H R A D → (Gk.incs G M K n).low N H R A D
  | 0, _, _, _, _, h => h
  | n + 1, _, _, _, _, h => Gk.inc_low (Gk.inc_mono (fun _ _ _ _ h => Gk.incs_low n h) h)

/-- The world x of the law over the heap q: the N things M lie in memory from block B on, and the heap holds what may be reached of them. -/
structure Ws (w : World) (x q p b : Nat) (e : Int) (G : Geo) (M : Md) (N B : Nat) (blk : Nat → Nat) (fv : Nat → Value) (al : Value) (bad full : Bool) (K : Gk) : Prop where
  cells : Lies w x 43 (wcells q blk M.reg al bad full)
  things : Thw w B blk fv M N
  all : OwnP w B al ((List.range N).map blk)
  heap : ∃ H R A D, Tr w q p b G H ∧ Safe e G H R M A D ∧ K.low N H R A D
  lq : q < B
  lp : p < B
  lb : b < B
  lx : x < B
  apart : ¬ Own3 q p b x
  high : ∀ i, i < N → B ≤ blk i
  sz : B ≤ w.heap.size
section
variable {w w' : World} {x q p b : Nat} {e : Int} {G : Geo} {M : Md} {N B z j : Nat} {blk : Nat → Nat} {fv : Nat → Value} {al : Value} {bad full : Bool} {K : Gk}
theorem Ws.quiet (s : Ws w x q p b e G M N B blk fv al bad full K) (k : Turns (fun _ => False) w w') : Ws w' x q p b e G M N B blk fv al bad full K := by
  obtain ⟨H, R, A, D, h, hs, hk⟩ := s.heap
  exact ⟨s.cells.turns k (fun h => h), s.things.quiet k, s.all.turns k (fun _ _ h => h), ⟨H, R, A, D, h.turns k (fun h => h) (fun h => h) (fun h => h) (fun h => h), hs, hk⟩, s.lq, s.lp, s.lb, s.lx, s.apart, s.high, Nat.le_trans s.sz k.size⟩
theorem Ws.not3 (s : Ws w x q p b e G M N B blk fv al bad full K) {k : Nat} (hk : B ≤ k) : ¬ Own3 q p b k := fun h => by
  have := s.lq; have := s.lp; have := s.lb
  unfold Own3 at h
  omega
/-- the heap has turned, the things haven't -/
theorem Ws.weaken {K' : Gk} (s : Ws w x q p b e G M N B blk fv al bad full K) (h : ∀ H R A D, K H R A D → K' H R A D) : Ws w x q p b e G M N B blk fv al bad full K' := by
  obtain ⟨H, R, A, D, h1, hs, hk⟩ := s.heap
  exact ⟨s.cells, s.things, s.all, ⟨H, R, A, D, h1, hs, ⟨h _ _ _ _ hk.1, hk.2⟩⟩, s.lq, s.lp, s.lb, s.lx, s.apart, s.high, s.sz⟩
theorem Ws.moved {e' : Int} {K' : Gk} (s : Ws w x q p b e G M N B blk fv al bad full K) (k : Turns (Own3 q p b) w w') (h : ∃ H R A D, Tr w' q p b G H ∧ Safe e' G H R M A D ∧ K'.low N H R A D) : Ws w' x q p b e' G M N B blk fv al bad full K' :=
  ⟨s.cells.turns k s.apart, s.things.turns k (fun i hi => s.not3 (s.high i hi)) (fun i hi g hg => s.not3 ((s.things.rows i hi).lt g hg).1), s.all.turns k (fun g hg => s.not3 (s.all.lt g hg).1), h, s.lq, s.lp, s.lb, s.lx, s.apart, s.high, Nat.le_trans s.sz k.size⟩
/-- what is reached is a thing that was made -/
theorem Thw.reach (T : Thw w B blk fv M N) (h : Reach M z) : z < N :=
  h (fun t => t < N) ⟨T.regs, fun i hi _ j hj => T.named i hi j hj, fun i hi hf _ => T.named i hi 1 (by rw [T.len3 i hi hf]; omega)⟩
theorem Ws.shape (s : Ws w x q p b e G M N B blk fv al bad full K) (hz : Reach M z) :
    Calls Tryd.prog 16 #[.pointer (some ⟨q, 0, none⟩), .int .u64 (8 * M.cell z + 1)] w fun r w' => ∃ t : Int, r = .returned (.tuple #[.int .i64 (M.form z), .int .i64 t, .int .i64 (M.len z : Int), .nilIface]) ∧ Ws w' x q p b e G M N B blk fv al bad full K ∧ Turns (Own3 q p b) w w' := by
  obtain ⟨H, R, A, D, h, hs, hk⟩ := s.heap
  obtain ⟨hC, e1, e2, -⟩ := hs.sees (hs.reach hz)
  refine (Shape_yes hs.inv _ hC w h).mono ?_
  rintro r w' ⟨rfl, h1, ht⟩
  rw [e1, e2]
  exact ⟨_, rfl, s.moved ht ⟨H, R, A, D, h1, hs, hk⟩, ht⟩
theorem Ws.get (s : Ws w x q p b e G M N B blk fv al bad full K) (hz : Reach M z) (hf : M.form z ≠ 3) (hj : j < M.len z) :
    Calls Tryd.prog 23 #[.pointer (some ⟨q, 0, none⟩), .int .u64 (8 * M.cell z + 1), .int .i64 (j : Int)] w fun r w' => r = .returned (.tuple #[.int .u64 ((M.fld z j).wd M.cell), .nilIface]) ∧ Ws w' x q p b e G M N B blk fv al bad full K ∧ Turns (Own3 q p b) w w' := by
  obtain ⟨H, R, A, D, h, hs, hk⟩ := s.heap
  have hA := hs.reach hz
  obtain ⟨kk, h4, hk13, hx⟩ := hs.ring hA
  obtain ⟨hC, e1, e2, e3⟩ := hs.sees hA
  refine (Get_yes hs.inv (M.cell z) h4 hk13 hx (j : Int) (by omega) (by omega) w h).mono ?_
  rintro r w' ⟨rfl, h1, ht⟩
  rw [if_neg (by omega)] at h1
  rw [e3 hf j hj]
  exact ⟨rfl, s.moved ht ⟨H, R, A, D, h1, hs, hk⟩, ht⟩
theorem Ws.reached (s : Ws w x q p b e G M N B blk fv al bad full K) (hN : N ≤ 100000) :
    Calls Tryd.prog 8 #[.pointer (some ⟨x, 0, none⟩)] w fun r w' => ∃ (g : Nat) (is : List Nat), r = .returned (.map (some g)) ∧ PMap w' g (is.map blk) ∧ w.heap.size ≤ g ∧ (∀ i, i ∈ is ↔ Reach M i) ∧ (∀ i ∈ is, i < N) ∧ is.Nodup ∧ Ws w' x q p b e G M N B blk fv al bad full K ∧ Turns (fun _ => False) w w' := by
  refine (reached_any blk fv M N B q x al bad full w hN s.cells s.things s.all).mono ?_
  rintro r w' ⟨g, is, rfl, h1, h2, h3, h4, h5, h6⟩
  exact ⟨g, is, rfl, h1, h2, h3, h4, h5, s.quiet h6, h6⟩
theorem Ws.wcell (s : Ws w x q p b e G M N B blk fv al bad full K) {v : V} (hv : v.Has (fun t => t < N)) : Wcell w blk M.cell v := fun i ev => by
  subst ev
  exact ⟨_, _, s.things.here i hv⟩
theorem Ws.word (s : Ws w x q p b e G M N B blk fv al bad full K) {v : V} (hv : v.Has (fun t => t < N)) :
    Calls Tryd.prog 24 #[vg blk v] w fun r w' => r = .returned (.int .u64 (v.wd M.cell)) ∧ Ws w' x q p b e G M N B blk fv al bad full K ∧ Turns (fun _ => False) w w' := by
  refine (word_any blk M.cell v w (s.wcell hv)).mono ?_
  rintro r w' ⟨rfl, ht⟩
  exact ⟨rfl, s.quiet ht, ht⟩
/-- an increment, or many -/
theorem Ws.incs (s : Ws w x q p b e G M N B blk fv al bad full K) (n : Nat) (hn : n ≤ 1000) (he : e + n ≤ 1000000000) :
    Calls Tryd.prog 15 #[.pointer (some ⟨q, 0, none⟩), .int .i64 (n : Int)] w fun r w' => r = .returned (.tuple #[]) ∧ Ws w' x q p b (e + n) G M N B blk fv al bad full (Gk.incs G M K n) ∧ Turns (Own3 q p b) w w' := by
  obtain ⟨H, R, A, D, h, hs, hk⟩ := s.heap
  refine (incs_any hs.inv (n : Int) (by omega) (by omega) w h).mono ?_
  rintro r w' ⟨rfl, h1, ht⟩
  obtain ⟨A', D', hs', hk'⟩ := safe_incsK hs hk n he
  rw [Int.toNat_natCast] at h1
  exact ⟨rfl, s.moved ht ⟨_, _, A', D', h1, hs', Gk.incs_low n hk'⟩, ht⟩
end
end Go.Proofs.YtclcnepkgjcmcaaDoor
