/- The laws' own count, walked. -/
import Derived.Test.YtclcnepkgjcmcaaGreatDoorQ47
import Derived.Test.YtclcnepkgjcmcaaGreatDoorQ46
namespace Go.Proofs.YtclcnepkgjcmcaaGreatDoor
open Go.RowKit

/-- four counts -/
def fourOf (f : Nat → Nat) : List Value := [.int .i64 (f 0 : Nat), .int .i64 (f 1 : Nat), .int .i64 (f 2 : Nat), .int .i64 (f 3 : Nat)]
set_option maxHeartbeats 2000000 in
set_option maxRecDepth 100000 in
theorem count_any {w : World} {g : Nat} {L : List Nat} {blk : Nat → Nat} {M : Md} (hT : Tab w) (pm : PMap w g (L.map blk)) (hth : ∀ i ∈ L, ∃ f A c y, Lies w (blk i) 67 [f, .slice A (M.len i) c, y]) (hl : ∀ i ∈ L, M.len i ≤ 127) (hlL : L.length ≤ 100000) :
    Calls Tryz.prog 13 #[.map (some g)] w fun r w' => r = .returned (.agg (fourOf fun c => cntc M c L).toArray) ∧ Turns (fun _ => False) w w' := by
  have hkl : ∀ j, j < L.length → (L.map blk).getD j 0 = blk (L.getD j 0) := fun j hj => by simp [List.getD, hj]
  have hll : Hid ((L.map blk).length = L.length) := List.length_map _
  have tq := ((Turns.refl (fun _ => False) w).alloc (.cells #[.int .i64 0, .int .i64 0, .int .i64 0, .int .i64 0] 22)).alloc (.cells #[.int .i64 0, .int .i64 0, .int .i64 0, .int .i64 0] 22)
  have pm2 := pm.turns tq (fun h => h)
  have hrg := run_range_map (P := Tryz.prog) _ 44 36 4 g _ _ Tryz.underlying44 pm2
  have pm3 := pm2.turns ((Turns.refl (fun _ => False) _).alloc (.mapIter (some g) (L.map blk).length #[] (L.map blk).length)) (fun h => h)
  have t3 := tq.alloc (.mapIter (some g) (L.map blk).length #[] (L.map blk).length)
  have i3 := PIter.made ((w.alloc (.cells #[.int .i64 0, .int .i64 0, .int .i64 0, .int .i64 0] 22)).alloc (.cells #[.int .i64 0, .int .i64 0, .int .i64 0, .int .i64 0] 22)) g (L.map blk).length
  have r3 := ((Lies.made w 22 #[.int .i64 0, .int .i64 0, .int .i64 0, .int .i64 0]).alloc (.cells #[.int .i64 0, .int .i64 0, .int .i64 0, .int .i64 0] 22)).alloc (.mapIter (some g) (L.map blk).length #[] (L.map blk).length)
  have o3 := (Lies.made (w.alloc (.cells #[.int .i64 0, .int .i64 0, .int .i64 0, .int .i64 0] 22)) 22 #[.int .i64 0, .int .i64 0, .int .i64 0, .int .i64 0]).alloc (.mapIter (some g) (L.map blk).length #[] (L.map blk).length)
  have hsz : ((w.alloc (.cells #[.int .i64 0, .int .i64 0, .int .i64 0, .int .i64 0] 22)).alloc (.cells #[.int .i64 0, .int .i64 0, .int .i64 0, .int .i64 0] 22)).heap.size = w.heap.size + 2 := by simp
  have hsz1 : (w.alloc (.cells #[.int .i64 0, .int .i64 0, .int .i64 0, .int .i64 0] 22)).heap.size = w.heap.size + 1 := by simp
  rw [hsz] at i3
  rw [hsz1] at o3
  have HH := Lib.hid (And.intro hT (And.intro hth (And.intro hl (And.intro hkl (And.intro hll hlL)))))
  have hgw := pm.lt
  clear hT hth hl hkl hll hlL pm pm2 hsz hsz1 tq
  generalize L.map blk = ks at *
  have F3 := Lib.hid (And.intro pm3 (And.intro i3 (And.intro r3 (And.intro o3 t3))))
  clear pm3 i3 r3 o3 t3
  go_enter Tryz.func13, Tryz.ntmps13
  go_wp2_with fail
  go_loopw [] (fun wr => ∃ ps : List Nat, ps.Nodup ∧ (∀ j ∈ ps, j < L.length) ∧ PMap wr g ks ∧ PIter wr (w.heap.size + 2) g ks.length ps.toArray ∧ Lies wr w.heap.size 22 [.int .i64 0, .int .i64 0, .int .i64 0, .int .i64 0] ∧ Lies wr (w.heap.size + 1) 22 (fourOf fun c => posc M L c ps) ∧ Turns (fun _ => False) w wr) (fun wr => leftW wr (w.heap.size + 2) g)
  case atStart => exact ⟨[], List.nodup_nil, (fun j h => by cases h), F3.out.1, F3.out.2.1, F3.out.2.2.1, F3.out.2.2.2.1, F3.out.2.2.2.2⟩
  case round =>
    clear F3
    obtain ⟨ps, hnd, hlt, hm, hi, hr, ho, ht⟩ := hrel
    rcases hi.next hm with ⟨hall, hnx⟩ | ⟨j, hj, hsn, hsh, w2, hw2, hnx⟩
    · have hp : ∀ c, posc M L c ps = cntc M c L := fun c => posc_all M L c hnd hlt fun j hj => by
        have := hall j (by rw [HH.out.2.2.2.2.1.out]; exact hj)
        simpa using this
      have HE := Lib.hid ht
      have e0 : wr.cell? ⟨w.heap.size + 1, 0, none⟩ = some (.int .i64 (cntc M 0 L : Nat)) := by rw [← hp 0]; exact ho.cell 0
      have e1 : wr.cell? ⟨w.heap.size + 1, 1, none⟩ = some (.int .i64 (cntc M 1 L : Nat)) := by rw [← hp 1]; exact ho.cell 1
      have e2 : wr.cell? ⟨w.heap.size + 1, 2, none⟩ = some (.int .i64 (cntc M 2 L : Nat)) := by rw [← hp 2]; exact ho.cell 2
      have e3 : wr.cell? ⟨w.heap.size + 1, 3, none⟩ = some (.int .i64 (cntc M 3 L : Nat)) := by rw [← hp 3]; exact ho.cell 3
      have f0 : wr.cell? ⟨w.heap.size, 0, none⟩ = some (.int .i64 0) := hr.cell 0
      have f1 : wr.cell? ⟨w.heap.size, 1, none⟩ = some (.int .i64 0) := hr.cell 1
      have f2 : wr.cell? ⟨w.heap.size, 2, none⟩ = some (.int .i64 0) := hr.cell 2
      have f3 : wr.cell? ⟨w.heap.size, 3, none⟩ = some (.int .i64 0) := hr.cell 3
      have z0 := hr.free 0
      have s0 := hr.stored 0 (.int .i64 (cntc M 0 L : Nat))
      have z1 := s0.free 1
      have s1 := s0.stored 1 (.int .i64 (cntc M 1 L : Nat))
      have z2 := s1.free 2
      have s2 := s1.stored 2 (.int .i64 (cntc M 2 L : Nat))
      have z3 := s2.free 3
      have s3 := s2.stored 3 (.int .i64 (cntc M 3 L : Nat))
      have q0 : ((((wr.setCell ⟨w.heap.size, 0, none⟩ (.int .i64 (cntc M 0 L : Nat))).setCell ⟨w.heap.size, 1, none⟩ (.int .i64 (cntc M 1 L : Nat))).setCell ⟨w.heap.size, 2, none⟩ (.int .i64 (cntc M 2 L : Nat))).setCell ⟨w.heap.size, 3, none⟩ (.int .i64 (cntc M 3 L : Nat))).cell? ⟨w.heap.size, 0, none⟩ = some (.int .i64 (cntc M 0 L : Nat)) := s3.cell 0
      have q1 : ((((wr.setCell ⟨w.heap.size, 0, none⟩ (.int .i64 (cntc M 0 L : Nat))).setCell ⟨w.heap.size, 1, none⟩ (.int .i64 (cntc M 1 L : Nat))).setCell ⟨w.heap.size, 2, none⟩ (.int .i64 (cntc M 2 L : Nat))).setCell ⟨w.heap.size, 3, none⟩ (.int .i64 (cntc M 3 L : Nat))).cell? ⟨w.heap.size, 1, none⟩ = some (.int .i64 (cntc M 1 L : Nat)) := s3.cell 1
      have q2 : ((((wr.setCell ⟨w.heap.size, 0, none⟩ (.int .i64 (cntc M 0 L : Nat))).setCell ⟨w.heap.size, 1, none⟩ (.int .i64 (cntc M 1 L : Nat))).setCell ⟨w.heap.size, 2, none⟩ (.int .i64 (cntc M 2 L : Nat))).setCell ⟨w.heap.size, 3, none⟩ (.int .i64 (cntc M 3 L : Nat))).cell? ⟨w.heap.size, 2, none⟩ = some (.int .i64 (cntc M 2 L : Nat)) := s3.cell 2
      have q3 : ((((wr.setCell ⟨w.heap.size, 0, none⟩ (.int .i64 (cntc M 0 L : Nat))).setCell ⟨w.heap.size, 1, none⟩ (.int .i64 (cntc M 1 L : Nat))).setCell ⟨w.heap.size, 2, none⟩ (.int .i64 (cntc M 2 L : Nat))).setCell ⟨w.heap.size, 3, none⟩ (.int .i64 (cntc M 3 L : Nat))).cell? ⟨w.heap.size, 3, none⟩ = some (.int .i64 (cntc M 3 L : Nat)) := s3.cell 3
      have HF := Lib.hid (show (fourOf fun c => cntc M c L) = [.int .i64 (cntc M 0 L : Nat), .int .i64 (cntc M 1 L : Nat), .int .i64 (cntc M 2 L : Nat), .int .i64 (cntc M 3 L : Nat)] from rfl)
      have HR := Lib.hid hr
      have hrl := hr.lt
      clear s0 s1 s2 s3
      clear hall hm hi hr ho ht hp
      generalize cntc M 0 L = n0 at *
      generalize cntc M 1 L = n1 at *
      generalize cntc M 2 L = n2 at *
      generalize cntc M 3 L = n3 at *
      go_wp2_with fail
      exact bodyPost_ret (v := .agg #[.int .i64 (n0 : Nat), .int .i64 (n1 : Nat), .int .i64 (n2 : Nat), .int .i64 (n3 : Nat)]) (by simp [results, Tryz.results13, go_sem, q0, q1, q2, q3]) rfl ⟨by rw [HF.out], (((HE.out.setCell (fun h => absurd h (Nat.lt_irrefl _)) _).setCell (fun h => absurd h (Nat.lt_irrefl _)) _).setCell (fun h => absurd h (Nat.lt_irrefl _)) _).setCell (fun h => absurd h (Nat.lt_irrefl _)) _⟩
    · have tq : Turns (fun k => k = w.heap.size + 2) wr (Go.ChangeMaps.setBlock w2 (w.heap.size + 2) (.mapIter (some g) ks.length (ps.toArray.push j) ks.length)) := by
        refine Turns.setBlock (X := fun k => k = w.heap.size + 2) ?_ (fun _ => rfl) _
        rcases hw2 with rfl | rfl
        · exact Turns.refl _ _
        · exact (Turns.refl _ _).drew
      have hr2 : w2.heap[w.heap.size + 2]? = some (.mapIter (some g) ks.length ps.toArray ks.length) := by
        rcases hw2 with rfl | rfl <;> exact hi
      have hi2 := PIter.set (g := g) (n := ks.length) hr2 (ps.toArray.push j)
      have hm2 := hm.turns tq (hi.other hm)
      have ho2 := ho.turns tq (by omega)
      have hrb2 := hr.turns tq (by omega)
      have ht2 := ht.then tq (fun i hi2 e => by omega)
      have hen := hi2.entry hm2 hj
      have hj2 : j < L.length := by rw [← HH.out.2.2.2.2.1.out]; exact hj
      have hzz := HH.out.2.2.2.1 j hj2
      rw [hzz] at hnx hen
      have hzm : L.getD j 0 ∈ L := by simp [List.getD, hj2]
      have hjn : j ∉ ps := fun h => by
        have : ps.toArray.contains j = true := by simpa using h
        rw [this] at hsn
        cases hsn
      obtain ⟨f, A, c, y, here⟩ := HH.out.2.1 _ hzm
      have hzl := HH.out.2.2.1 _ hzm
      have HL : Hid (leftW wr (w.heap.size + 2) g = (leftOf (entsFrom ks 0).toArray ps.toArray).size ∧ (leftOf (entsFrom ks 0).toArray (ps.toArray.push j)).size < (leftOf (entsFrom ks 0).toArray ps.toArray).size) := ⟨hi.left hm, hsh⟩
      generalize Go.ChangeMaps.setBlock w2 (w.heap.size + 2) (.mapIter (some g) ks.length (ps.toArray.push j) ks.length) = w3 at *
      have d1 : w3.cell? ⟨blk (L.getD j 0), 1, none⟩ = some (.slice A (M.len (L.getD j 0)) c) := (here.turns ht2 (fun h => h)).cell 1
      have hbd : ∀ c, posc M L c ps ≤ 100000 := fun c => by
        have h1 := posc_le M L c ps
        have h2 : ps.length ≤ L.length := by
          have := List.Nodup.length_le_of_subset hnd (fun x hx => List.mem_range.2 (hlt x hx))
          simpa using this
        have := HH.out.2.2.2.2.2
        omega
      have hb0 := hbd 0
      have hb1 := hbd 1
      have hb2 := hbd 2
      have hb3 := hbd 3
      have CA := Lib.hid (fun w4 (h4 : Tab w4) => class_any (M.len (L.getD j 0)) w4 h4)
      have e0 : w3.cell? ⟨w.heap.size + 1, 0, none⟩ = some (.int .i64 (posc M L 0 ps : Nat)) := ho2.cell 0
      have e1 : w3.cell? ⟨w.heap.size + 1, 1, none⟩ = some (.int .i64 (posc M L 1 ps : Nat)) := ho2.cell 1
      have e2 : w3.cell? ⟨w.heap.size + 1, 2, none⟩ = some (.int .i64 (posc M L 2 ps : Nat)) := ho2.cell 2
      have e3 : w3.cell? ⟨w.heap.size + 1, 3, none⟩ = some (.int .i64 (posc M L 3 ps : Nat)) := ho2.cell 3
      have hT3 := HH.out.1.turns ht2 (fun h => h)
      have hol := ho2.lt
      have z0 := ho2.free 0
      have z1 := ho2.free 1
      have z2 := ho2.free 2
      have z3 := ho2.free 3
      have hcl : cl1 (M.len (L.getD j 0) : Int) = cln (M.len (L.getD j 0)) := by
        unfold cl1
        rw [if_neg (by omega), if_pos (by omega)]
      rw [hcl] at CA
      have hp0 := posc_snoc M L 0 ps j
      have hp1 := posc_snoc M L 1 ps j
      have hp2 := posc_snoc M L 2 ps j
      have hp3 := posc_snoc M L 3 ps j
      have ho4 : Lies w3 (w.heap.size + 1) 22 [.int .i64 (posc M L 0 ps : Nat), .int .i64 (posc M L 1 ps : Nat), .int .i64 (posc M L 2 ps : Nat), .int .i64 (posc M L 3 ps : Nat)] := ho2
      have hi4 : PIter w3 (w.heap.size + 2) g ks.length (ps ++ [j]).toArray := by simpa using hi2
      have hnd2 : (ps ++ [j]).Nodup := List.nodup_append.2 ⟨hnd, by simp, fun a ha b hb => by
        rw [List.mem_singleton] at hb
        subst hb
        exact fun e => hjn (e ▸ ha)⟩
      have hlt2 : ∀ i ∈ ps ++ [j], i < L.length := fun i hi => by
        rcases List.mem_append.1 hi with h | h
        · exact hlt i h
        · rw [List.mem_singleton] at h
          omega
      have HN := Lib.hid (And.intro hnd2 (And.intro hlt2 hi2))
      have HE := Lib.hid (And.intro hm2 (And.intro hi4 (And.intro hrb2 (And.intro ho4 (And.intro ht2 hT3)))))
      clear hm hi hr ho ht tq hr2 hi2 hm2 ho2 hrb2 ht2 hzz hzm here hsh hbd hcl hT3 hi4 ho4 hnd2 hlt2 hnd hlt
      rcases lt4 (cln_lt (M.len (L.getD j 0))) with e | e | e | e
      all_goals
        rw [e] at CA
        rw [e] at hp0 hp1 hp2 hp3
        simp at hp0 hp1 hp2 hp3
        have HP := Lib.hid (And.intro hp0 (And.intro hp1 (And.intro hp2 hp3)))
        clear e hp0 hp1 hp2 hp3
        generalize M.len (L.getD j 0) = ln at *
        generalize blk (L.getD j 0) = bz at *
        generalize posc M L 0 ps = p0 at *
        generalize posc M L 1 ps = p1 at *
        generalize posc M L 2 ps = p2 at *
        generalize posc M L 3 ps = p3 at *
        go_wp2_with (
          go_at_call 23
          refine (CA.out _ HE.out.2.2.2.2.2).mono ?_
          rintro r4 w4 ⟨rfl, rfl⟩)
        go_roundw
        case rel =>
          refine ⟨ps ++ [j], HN.out.1, HN.out.2.1, HE.out.1.turns ((Turns.refl (fun k => k = w.heap.size + 1) _).setCell (fun _ => rfl) _) (by omega), HE.out.2.1.turns ((Turns.refl (fun k => k = w.heap.size + 1) _).setCell (fun _ => rfl) _) (by omega), HE.out.2.2.1.turns ((Turns.refl (fun k => k = w.heap.size + 1) _).setCell (fun _ => rfl) _) (by omega), ?_, HE.out.2.2.2.2.1.setCell (fun h => absurd h (Nat.not_lt.2 (Nat.le_succ _))) _⟩
          have hs := HE.out.2.2.2.1.stored
          have h5 := HP.out
          show Lies _ _ _ [.int .i64 (posc M L 0 (ps ++ [j]) : Nat), .int .i64 (posc M L 1 (ps ++ [j]) : Nat), .int .i64 (posc M L 2 (ps ++ [j]) : Nat), .int .i64 (posc M L 3 (ps ++ [j]) : Nat)]
          rw [h5.1, h5.2.1, h5.2.2.1, h5.2.2.2]
          exact hs _ _
        case measure =>
          rw [HL.out.1, PIter.left (HN.out.2.2.turns ((Turns.refl (fun k => k = w.heap.size + 1) _).setCell (fun _ => rfl) _) (by omega)) (HE.out.1.turns ((Turns.refl (fun k => k = w.heap.size + 1) _).setCell (fun _ => rfl) _) (by omega))]
          exact HL.out.2
end Go.Proofs.YtclcnepkgjcmcaaGreatDoor

/- TreadFlip: what its loops keep. -/
namespace Go.Proofs.YtclcnepkgjcmcaaGreatDoor
open Go.RowKit Go.ChangeShapes Go.WideShapes Go.ChangeAt

/-- the law's own call so far: what came in is as it was, and so is the box of its first argument -/
def Base (w wr : World) (cs : List Value) : Prop := Below w.heap.size w wr ∧ Lies wr w.heap.size 24 cs
theorem Base.turns {w wr w' : World} {cs : List Value} {X : Nat → Prop} (h : Base w wr cs) (t : Turns X wr w') (hX : ∀ i, X i → w.heap.size + 1 ≤ i) : Base w w' cs :=
  ⟨h.1.trans (t.below h.1.size (fun i hi => by have := hX i hi; omega)), h.2.turns t (fun hi => by have := hX _ hi; omega)⟩
theorem Base.quiet {w wr w' : World} {cs : List Value} (h : Base w wr cs) (t : Turns (fun _ => False) wr w') : Base w w' cs := h.turns t (fun _ h => h.elim)
section
variable {w w' : World} {x q p b : Nat} {e : Int} {G : Geo} {M : Md} {N B : Nat} {blk : Nat → Nat} {fv : Nat → Value} {al : Value} {bad full : Bool} {K : Gk}
theorem Ws.marks {m : Bool} (s : Ws w x q p b e G M N B blk fv al bad full K) (hK : ∀ H R A D, K H R A D → H.mrk = m) :
    Calls Tryz.prog 9 #[.pointer (some ⟨q, 0, none⟩)] w fun r w' => r = .returned (.bool m) ∧ w = w' := by
  obtain ⟨H, R, A, D, h1, hs, hk⟩ := s.heap
  rw [← hK H R A D hk.1]
  exact Marking_any w h1
theorem Ws.cycs {c : Int} (s : Ws w x q p b e G M N B blk fv al bad full K) (hK : ∀ H R A D, K H R A D → H.cyc = c) :
    Calls Tryz.prog 12 #[.pointer (some ⟨q, 0, none⟩)] w fun r w' => r = .returned (.int .i64 c) ∧ w = w' := by
  obtain ⟨H, R, A, D, h1, hs, hk⟩ := s.heap
  rw [← hK H R A D hk.1]
  exact Cycles_any w h1
end
/-- amid the increments ahead of the flip: n are left at most -/
def R2 (w : World) (cs : List Value) (x q p b : Nat) (G : Geo) (M : Md) (N B : Nat) (blk : Nat → Nat) (fv : Nat → Value) (al : Value) (full : Bool) (wr : World) (n : Nat) : Prop :=
  ∃ e : Int, e + n ≤ 7000000 ∧ Ws wr x q p b e G M N B blk fv al false full (Mk n) ∧ Base w wr cs
/-- amid the increments to the cycle's end -/
def R4 (w : World) (cs : List Value) (x q p b : Nat) (G : Geo) (M : Md) (N B : Nat) (blk : Nat → Nat) (fv : Nat → Value) (al : Value) (full : Bool) (c : Int) (L : List Nat) (g : Nat) (ks : List Nat) (wr : World) (n : Nat) : Prop :=
  ∃ e : Int, e + n ≤ 16000000 ∧ Ws wr x q p b e G M N B blk fv al false full (K4 c L n) ∧ PMap wr g ks ∧ Base w wr cs
section
variable {w wr w' : World} {cs : List Value} {x q p b g : Nat} {e : Int} {G : Geo} {M : Md} {N B n : Nat} {blk : Nat → Nat} {fv : Nat → Value} {al : Value} {full : Bool} {c : Int} {L ks : List Nat}
theorem R2.start {K : Gk} (s : Ws wr x q p b e G M N B blk fv al false full K) (he : e ≤ 900000) (hb : Base w wr cs) : ∃ n, R2 w cs x q p b G M N B blk fv al full wr n := by
  obtain ⟨a, ⟨H, R, A, D, hs, -, ha⟩, s'⟩ := s.some_ (fun _ R => Wh R + (R 12).length)
  have := hs.inv.few_wh
  exact ⟨a + 1, e, by omega, s'.with_ (fun H R A D _ h _ => by have := h.2; omega), hb⟩
theorem R2.step (hp : Plain M N) (he : e + n ≤ 7000000) (s : Ws w' x q p b (e + 1) G M N B blk fv al false full (Gk.inc G M (Gk.low (fun H R A D => Mk n H R A D ∧ H.mrk = true) N))) (hb : Base w w' cs) : 1 ≤ n ∧ R2 w cs x q p b G M N B blk fv al full w' (n - 1) := by
  obtain ⟨H, R, A, D, h1, hs, hk⟩ := s.heap
  have h := (Mk.inc hp hk.1).2
  exact ⟨h, e + 1, by omega, s.weaken (fun H R A D h => (Mk.inc hp h).1), hb⟩
theorem R4.start {A0 : Nat → Prop} {N0 : Nat} (s : Ws wr x q p b e G M N B blk fv al false full (K3 c A0 N0 N)) (hL : ∀ i, i ∈ L ↔ (A0 i ∨ (N0 ≤ i ∧ i < N))) (he : e ≤ 9000000) (hm : PMap wr g ks) (hb : Base w wr cs) : ∃ n, R4 w cs x q p b G M N B blk fv al full c L g ks wr n := by
  obtain ⟨a, ⟨H, R, A, D, hs, -, ha⟩, s'⟩ := s.some_ (fun _ R => Wh R + (R 12).length)
  have := hs.inv.few_wh
  refine ⟨a + 1, e, by omega, s'.with_ (fun H R A D _ h => ⟨fun _ => ⟨h.1.2.1, ?_⟩, fun hne => absurd h.1.1 hne, fun i => (hL i).trans (h.1.2.2 i).symm⟩), hm, hb⟩
  have := h.2
  omega
theorem R4.step (hp : Plain M N) (he : e + n ≤ 16000000) (s : Ws w' x q p b (e + 1) G M N B blk fv al false full (Gk.inc G M (Gk.low (fun H R A D => K4 c L n H R A D ∧ H.cyc = c) N))) (hm : PMap w' g ks) (hb : Base w w' cs) : 1 ≤ n ∧ R4 w cs x q p b G M N B blk fv al full c L g ks w' (n - 1) := by
  obtain ⟨H, R, A, D, h1, hs, hk⟩ := s.heap
  have h := (K4.inc hp hk.1).2
  exact ⟨h, e + 1, by omega, s.weaken (fun H R A D h => (K4.inc hp h).1), hm, hb⟩
theorem leastN_get {P : Nat → Prop} (h : ∃ n, P n) : ∃ n, leastN P = n ∧ P n := ⟨_, rfl, (leastN_spec h).1⟩
theorem DoT.not_map {K : Gk} (s : Ws w x q p b e G M N B blk fv al false full K) (pm : PMap w g ks) (hg : B ≤ g) : ¬ DoT w x q p b B g := by
  rintro ((h | h) | h)
  · have := s.lx; omega
  · exact s.not3 hg h
  · exact h.2 _ pm
theorem leastN_lt {P Q : Nat → Prop} {m : Nat} (h : leastN P = m) (h1 : 1 ≤ m) (hq : Q (m - 1)) : leastN Q < leastN P := by
  have := (leastN_spec ⟨_, hq⟩).2 _ hq
  omega
end
theorem live_len {is : List Nat} {N0 : Nat} (h : is.Nodup) (hl : ∀ i ∈ is, i < N0) (j : Nat) : (is ++ List.range' N0 j).length ≤ N0 + j := by
  have h2 : is.length ≤ (List.range N0).length := List.Nodup.length_le_of_subset h (fun x hx => List.mem_range.2 (hl x hx))
  simp at h2 ⊢
  exact h2
theorem OwnP.tail_ {B N0 N : Nat} {blk : Nat → Nat} {A : Option Addr} {q : Nat} (_ : N0 ≤ N) (w : World) (h : OwnP w B (.slice A N q) ((List.range N).map blk)) (j : Nat) (hj : j < N - N0) :
    ∃ gA off, Option.map (fun x => x.add N0) A = some ⟨gA, off, none⟩ ∧ w.cell? ⟨gA, off + j, none⟩ = some (.pointer (some ⟨blk (N0 + j), 0, none⟩)) := by
  obtain ⟨A', c', he, hc⟩ := h.read
  injection he with h1 h2 h3
  obtain ⟨g', hA', -, -, hcell⟩ := hc (N0 + j) (by simp; omega)
  subst hA'
  subst h1
  refine ⟨g', 0 + N0, by
    by_cases hz : N0 = 0
    · subst hz; rfl
    · simp only [Option.map_some, Addr.add, if_neg hz], ?_⟩
  rw [show 0 + N0 + j = N0 + j by omega, hcell]
  have : ((List.range N).map blk).getD (N0 + j) 0 = blk (N0 + j) := by simp [List.getD, show N0 + j < N by omega]
  rw [this]
  rfl
theorem index_fourOf (f : Nat → Nat) (i : Nat) (hi : i < 4) (w : World) :
    (Instr.index 22 (.agg (fourOf f).toArray) (.int .i64 (i : Int))).run Tryz.prog w = .ok (.int .i64 (f i : Nat)) w := by
  have := index_four ⟨f 0, f 1, f 2, f 3⟩ i hi w
  rcases lt4 hi with rfl | rfl | rfl | rfl <;> exact this
theorem geo_at {qa qb qc qd k : Int} (g : Geo.ok ⟨⟨qa, qb, qc, qd⟩, k⟩) {i : Nat} (hi : i < 4) : 0 ≤ (⟨qa, qb, qc, qd⟩ : Q4).at_ i ∧ (⟨qa, qb, qc, qd⟩ : Q4).at_ i ≤ 1048576 := by
  unfold Geo.ok Geo.top Geo.b3 Geo.b2 Geo.b1 at g
  simp only at g
  rcases lt4 hi with rfl | rfl | rfl | rfl
  · show 0 ≤ qa ∧ qa ≤ _; omega
  · show 0 ≤ qb ∧ qb ≤ _; omega
  · show 0 ≤ qc ∧ qc ≤ _; omega
  · show 0 ≤ qd ∧ qd ≤ _; omega
end Go.Proofs.YtclcnepkgjcmcaaGreatDoor
