/- The law's awake: answers that the document fixes. -/
import Derived.Test.YtpiekdcbjkgipaaGreatQ30
import Derived.Test.YtpiekdcbjkgipaaGreatQ32
import Derived.Test.YtpiekdcbjkgipaaGreatQ8
namespace Go.Proofs.YtpiekdcbjkgipaaGreat
open Go.ChangeShapes Go.WideShapes Go.ChangeAt Go.RowKit Go.Deep
open TM (Tl Tm)

def nd0 : RM.Dm := ⟨0, 0, [], .nil⟩
def sa_k : Tl := .cons 2 2 [] [] nd0 .nil (.cons 2 3 [] [] nd0 .nil .nil)
def sa_i : Tm := ⟨8, 0, [], [3], nd0, .cons 10 0 [] [] nd0 sa_k .nil⟩
def sa_o : Tm := ⟨8, 0, [], [1, 2], nd0, .one sa_i⟩
def sr_k : Tl := .cons 2 33 [] [] nd0 .nil (.cons 2 0 [] [] nd0 .nil .nil)
def sr_i : Tm := ⟨8, 0, [], [1], nd0, .cons 10 0 [] [] nd0 sr_k .nil⟩
def sr_o : Tm := ⟨8, 0, [], [1, 2], nd0, .one sr_i⟩
theorem sa_i_ok : TM.okt sa_i = false := by decide +kernel
theorem sa_o_ok : TM.okt sa_o = true := by decide +kernel
theorem sa_res : SC.res sa_o = sr_o := by rfl
theorem sa_free : fr1 sa_i = [2] := by decide +kernel
theorem sa_i_bd : TmBd sa_i := ⟨by unfold b64 sa_i; simp, by unfold b64 sa_i; simp, by unfold b64 sa_i; simp, by unfold b64 sa_i nd0; simp, by unfold b64 sa_i nd0; simp, trivial, by unfold sa_i sa_k nd0; simp [TBd, Bd, b64]⟩
theorem sa_o_bd : TmBd sa_o := ⟨by unfold b64 sa_o; simp, by unfold b64 sa_o; simp, by unfold b64 sa_o; simp, by unfold b64 sa_o nd0; simp, by unfold b64 sa_o nd0; simp, trivial, by unfold sa_o sa_i sa_k nd0; simp [Tl.one, TBd, Bd, b64]⟩
theorem pin_of {w : World} {g c : Nat} {l : List Int} (h : Lies w g 3 (l.map (.int .i64))) (hl : l.length ≤ 1000) : PIn w (.slice (some ⟨g, 0, none⟩) l.length c) l := by
  refine ⟨_, _, rfl, by omega, g, 0, fun _ => ⟨rfl, h.lt⟩, fun j x hx => ?_⟩
  rw [Nat.zero_add, h.cell j, List.getElem?_map, hx]; rfl
/-- a term by its cells: its Kids lie in a block -/
theorem tin_one {w : World} {g c : Nat} {t : Tm} {vp vi vk : Value} (h : Lies w g 28 (tcells t vp vi vk)) (hT : TmIn w t vp vi vk) : TIn w (.slice (some ⟨g, 0, none⟩) 1 c) (.one t) := by
  obtain ⟨A, m, rfl, hl, b', o', h3, h4⟩ := hT.k
  exact ⟨_, _, rfl, by simp [Tl.one, Tl.len], g, 0, fun _ => rfl, h.lt, h.cell 0, h.cell 1, h.cell 2, ⟨_, h.cell 3, hT.p⟩, h.cell 4, h.cell 5, h.cell 6, ⟨_, h.cell 7, hT.d⟩, ⟨_, _, h.cell 8, hl, _, _, h3, h4⟩, trivial⟩
theorem sa_k_in {w : World} {g c : Nat} (h : Lies w g 28 [.int .i64 2, .int .i64 2, .string ⟨#[]⟩, .slice none 0 0, .int .i64 0, .int .i64 0, .string ⟨#[]⟩, .slice none 0 0, .slice none 0 0, .int .i64 2, .int .i64 3, .string ⟨#[]⟩, .slice none 0 0, .int .i64 0, .int .i64 0, .string ⟨#[]⟩, .slice none 0 0, .slice none 0 0]) : TIn w (.slice (some ⟨g, 0, none⟩) 2 c) sa_k :=
  ⟨_, _, rfl, by simp [sa_k, Tl.len], g, 0, fun _ => rfl, h.lt, h.cell 0, h.cell 1, h.cell 2, ⟨_, h.cell 3, PIn.nil _⟩, h.cell 4, h.cell 5, h.cell 6, ⟨_, h.cell 7, In.nil _⟩, ⟨none, 0, h.cell 8, by simp [Tl.len], 0, 0, fun h => absurd h (by simp [Tl.len]), trivial⟩,
    h.lt, h.cell 9, h.cell 10, h.cell 11, ⟨_, h.cell 12, PIn.nil _⟩, h.cell 13, h.cell 14, h.cell 15, ⟨_, h.cell 16, In.nil _⟩, ⟨none, 0, h.cell 17, by simp [Tl.len], 0, 0, fun h => absurd h (by simp [Tl.len]), trivial⟩, trivial⟩
set_option maxRecDepth 100000 in
theorem sa_i_in (w : World) : TmIn (((w.alloc (.cells #[.int .i64 3] 3)).alloc (.cells #[.int .i64 2, .int .i64 2, .string ⟨#[]⟩, .slice none 0 0, .int .i64 0, .int .i64 0, .string ⟨#[]⟩, .slice none 0 0, .slice none 0 0, .int .i64 2, .int .i64 3, .string ⟨#[]⟩, .slice none 0 0, .int .i64 0, .int .i64 0, .string ⟨#[]⟩, .slice none 0 0, .slice none 0 0] 28)).alloc (.cells #[.int .i64 10, .int .i64 0, .string ⟨#[]⟩, .slice none 0 0, .int .i64 0, .int .i64 0, .string ⟨#[]⟩, .slice none 0 0, .slice (some ⟨w.heap.size + 1, 0, none⟩) 2 2] 28)) sa_i (.slice (some ⟨w.heap.size, 0, none⟩) 1 1) (.slice none 0 0) (.slice (some ⟨w.heap.size + 1 + 1, 0, none⟩) 1 1) := by
  have z1 : (w.alloc (.cells #[.int .i64 3] 3)).heap.size = w.heap.size + 1 := by simp
  have z2 : ((w.alloc (.cells #[.int .i64 3] 3)).alloc (.cells #[.int .i64 2, .int .i64 2, .string ⟨#[]⟩, .slice none 0 0, .int .i64 0, .int .i64 0, .string ⟨#[]⟩, .slice none 0 0, .slice none 0 0, .int .i64 2, .int .i64 3, .string ⟨#[]⟩, .slice none 0 0, .int .i64 0, .int .i64 0, .string ⟨#[]⟩, .slice none 0 0, .slice none 0 0] 28)).heap.size = w.heap.size + 1 + 1 := by simp
  have hA := (((Lies.made w 3 #[.int .i64 3]).alloc (.cells #[.int .i64 2, .int .i64 2, .string ⟨#[]⟩, .slice none 0 0, .int .i64 0, .int .i64 0, .string ⟨#[]⟩, .slice none 0 0, .slice none 0 0, .int .i64 2, .int .i64 3, .string ⟨#[]⟩, .slice none 0 0, .int .i64 0, .int .i64 0, .string ⟨#[]⟩, .slice none 0 0, .slice none 0 0] 28)).alloc (.cells #[.int .i64 10, .int .i64 0, .string ⟨#[]⟩, .slice none 0 0, .int .i64 0, .int .i64 0, .string ⟨#[]⟩, .slice none 0 0, .slice (some ⟨w.heap.size + 1, 0, none⟩) 2 2] 28))
  have hB := ((Lies.made (w.alloc (.cells #[.int .i64 3] 3)) 28 #[.int .i64 2, .int .i64 2, .string ⟨#[]⟩, .slice none 0 0, .int .i64 0, .int .i64 0, .string ⟨#[]⟩, .slice none 0 0, .slice none 0 0, .int .i64 2, .int .i64 3, .string ⟨#[]⟩, .slice none 0 0, .int .i64 0, .int .i64 0, .string ⟨#[]⟩, .slice none 0 0, .slice none 0 0]).alloc (.cells #[.int .i64 10, .int .i64 0, .string ⟨#[]⟩, .slice none 0 0, .int .i64 0, .int .i64 0, .string ⟨#[]⟩, .slice none 0 0, .slice (some ⟨w.heap.size + 1, 0, none⟩) 2 2] 28))
  have hC := Lies.made ((w.alloc (.cells #[.int .i64 3] 3)).alloc (.cells #[.int .i64 2, .int .i64 2, .string ⟨#[]⟩, .slice none 0 0, .int .i64 0, .int .i64 0, .string ⟨#[]⟩, .slice none 0 0, .slice none 0 0, .int .i64 2, .int .i64 3, .string ⟨#[]⟩, .slice none 0 0, .int .i64 0, .int .i64 0, .string ⟨#[]⟩, .slice none 0 0, .slice none 0 0] 28)) 28 #[.int .i64 10, .int .i64 0, .string ⟨#[]⟩, .slice none 0 0, .int .i64 0, .int .i64 0, .string ⟨#[]⟩, .slice none 0 0, .slice (some ⟨w.heap.size + 1, 0, none⟩) 2 2]
  rw [z1] at hB
  rw [z2] at hC
  obtain ⟨W, hW⟩ : ∃ W, (((w.alloc (.cells #[.int .i64 3] 3)).alloc (.cells #[.int .i64 2, .int .i64 2, .string ⟨#[]⟩, .slice none 0 0, .int .i64 0, .int .i64 0, .string ⟨#[]⟩, .slice none 0 0, .slice none 0 0, .int .i64 2, .int .i64 3, .string ⟨#[]⟩, .slice none 0 0, .int .i64 0, .int .i64 0, .string ⟨#[]⟩, .slice none 0 0, .slice none 0 0] 28)).alloc (.cells #[.int .i64 10, .int .i64 0, .string ⟨#[]⟩, .slice none 0 0, .int .i64 0, .int .i64 0, .string ⟨#[]⟩, .slice none 0 0, .slice (some ⟨w.heap.size + 1, 0, none⟩) 2 2] 28)) = W := ⟨_, rfl⟩
  rw [hW] at hA hB hC ⊢
  refine ⟨pin_of (l := [3]) hA (by simp), In.nil _, tin_one (t := ⟨10, 0, [], [], nd0, sa_k⟩) hC ⟨PIn.nil _, In.nil _, sa_k_in hB⟩⟩
set_option maxRecDepth 100000 in
set_option maxHeartbeats 8000000 in
theorem awake15_any (w : World) : Calls Tryz.prog 5 #[] w fun e w' => e = .returned (.bool true) ∧ Went w w' := by
  have hI0 := sa_i_in w
  have z3 : (((w.alloc (.cells #[.int .i64 3] 3)).alloc (.cells #[.int .i64 2, .int .i64 2, .string ⟨#[]⟩, .slice none 0 0, .int .i64 0, .int .i64 0, .string ⟨#[]⟩, .slice none 0 0, .slice none 0 0, .int .i64 2, .int .i64 3, .string ⟨#[]⟩, .slice none 0 0, .int .i64 0, .int .i64 0, .string ⟨#[]⟩, .slice none 0 0, .slice none 0 0] 28)).alloc (.cells #[.int .i64 10, .int .i64 0, .string ⟨#[]⟩, .slice none 0 0, .int .i64 0, .int .i64 0, .string ⟨#[]⟩, .slice none 0 0, .slice (some ⟨w.heap.size + 1, 0, none⟩) 2 2] 28)).heap.size = w.heap.size + 1 + 1 + 1 := by simp
  have hL0 := Lies.made (((w.alloc (.cells #[.int .i64 3] 3)).alloc (.cells #[.int .i64 2, .int .i64 2, .string ⟨#[]⟩, .slice none 0 0, .int .i64 0, .int .i64 0, .string ⟨#[]⟩, .slice none 0 0, .slice none 0 0, .int .i64 2, .int .i64 3, .string ⟨#[]⟩, .slice none 0 0, .int .i64 0, .int .i64 0, .string ⟨#[]⟩, .slice none 0 0, .slice none 0 0] 28)).alloc (.cells #[.int .i64 10, .int .i64 0, .string ⟨#[]⟩, .slice none 0 0, .int .i64 0, .int .i64 0, .string ⟨#[]⟩, .slice none 0 0, .slice (some ⟨w.heap.size + 1, 0, none⟩) 2 2] 28)) 28 #[.int .i64 8, .int .i64 0, .string ⟨#[]⟩, .slice (some ⟨w.heap.size, 0, none⟩) 1 1, .int .i64 0, .int .i64 0, .string ⟨#[]⟩, .slice none 0 0, .slice (some ⟨w.heap.size + 1 + 1, 0, none⟩) 1 1]
  have hb0 : Below w.heap.size w (((w.alloc (.cells #[.int .i64 3] 3)).alloc (.cells #[.int .i64 2, .int .i64 2, .string ⟨#[]⟩, .slice none 0 0, .int .i64 0, .int .i64 0, .string ⟨#[]⟩, .slice none 0 0, .slice none 0 0, .int .i64 2, .int .i64 3, .string ⟨#[]⟩, .slice none 0 0, .int .i64 0, .int .i64 0, .string ⟨#[]⟩, .slice none 0 0, .slice none 0 0] 28)).alloc (.cells #[.int .i64 10, .int .i64 0, .string ⟨#[]⟩, .slice none 0 0, .int .i64 0, .int .i64 0, .string ⟨#[]⟩, .slice none 0 0, .slice (some ⟨w.heap.size + 1, 0, none⟩) 2 2] 28)) := (((Below.refl _ w).alloc (Nat.le_refl _) _).alloc (by simp) _).alloc (by simp; omega) _
  rw [z3] at hL0
  obtain ⟨V, hV⟩ : ∃ V, (((w.alloc (.cells #[.int .i64 3] 3)).alloc (.cells #[.int .i64 2, .int .i64 2, .string ⟨#[]⟩, .slice none 0 0, .int .i64 0, .int .i64 0, .string ⟨#[]⟩, .slice none 0 0, .slice none 0 0, .int .i64 2, .int .i64 3, .string ⟨#[]⟩, .slice none 0 0, .int .i64 0, .int .i64 0, .string ⟨#[]⟩, .slice none 0 0, .slice none 0 0] 28)).alloc (.cells #[.int .i64 10, .int .i64 0, .string ⟨#[]⟩, .slice none 0 0, .int .i64 0, .int .i64 0, .string ⟨#[]⟩, .slice none 0 0, .slice (some ⟨w.heap.size + 1, 0, none⟩) 2 2] 28)) = V := ⟨_, rfl⟩
  rw [hV] at hI0 hL0 hb0 z3
  obtain ⟨Z, hZ⟩ : ∃ Z, w.heap.size + 1 + 1 + 1 = Z := ⟨_, rfl⟩
  obtain ⟨K, hK⟩ : ∃ K, w.heap.size + 1 + 1 = K := ⟨_, rfl⟩
  obtain ⟨W4, hW4⟩ : ∃ W4, V.alloc (.cells #[.int .i64 8, .int .i64 0, .string ⟨#[]⟩, .slice (some ⟨w.heap.size, 0, none⟩) 1 1, .int .i64 0, .int .i64 0, .string ⟨#[]⟩, .slice none 0 0, .slice (some ⟨K, 0, none⟩) 1 1] 28) = W4 := ⟨_, rfl⟩
  rw [hZ] at hL0 z3
  rw [hK] at hI0 hL0
  have hIb : Below V.heap.size V W4 := by rw [← hW4]; exact (Below.refl _ V).alloc (Nat.le_refl _) _
  have z4 : W4.heap.size = Z + 1 := by rw [← hW4, ← z3]; simp
  have hI := Lib.hid (hI0.below hIb)
  rw [hW4] at hL0
  have hb4 := Lib.hid (hb0.trans (hIb.mono hb0.size))
  have y0 := hL0.cell 0
  have y1 := hL0.cell 1
  have y2 := hL0.cell 2
  have y3 := hL0.cell 3
  have y4 := hL0.cell 4
  have y5 := hL0.cell 5
  have y6 := hL0.cell 6
  have y7 := hL0.cell 7
  have y8 := hL0.cell 8
  simp only [List.getElem?_cons_succ, List.getElem?_cons_zero] at y0 y1 y2 y3 y4 y5 y6 y7 y8
  have hL := Lib.hid hL0
  clear hI0 hL0 hb0 hIb
  go_enter Tryz.func5, Tryz.ntmps5
  go_upto_region 2 with fail
  clear hV hW4
  -- the outer procedure
  have hA5 := (Lies.made W4 3 #[.int .i64 1, .int .i64 2]).alloc (.cells #[.int .i64 8, .int .i64 0, .string ⟨#[]⟩, .slice (some ⟨w.heap.size, 0, none⟩) 1 1, .int .i64 0, .int .i64 0, .string ⟨#[]⟩, .slice none 0 0, .slice (some ⟨K, 0, none⟩) 1 1] 28)
  have z5 : (W4.alloc (.cells #[.int .i64 1, .int .i64 2] 3)).heap.size = Z + 1 + 1 := by simp [z4]
  have hK5 := Lies.made (W4.alloc (.cells #[.int .i64 1, .int .i64 2] 3)) 28 #[.int .i64 8, .int .i64 0, .string ⟨#[]⟩, .slice (some ⟨w.heap.size, 0, none⟩) 1 1, .int .i64 0, .int .i64 0, .string ⟨#[]⟩, .slice none 0 0, .slice (some ⟨K, 0, none⟩) 1 1]
  have hb5 : Below W4.heap.size W4 ((W4.alloc (.cells #[.int .i64 1, .int .i64 2] 3)).alloc (.cells #[.int .i64 8, .int .i64 0, .string ⟨#[]⟩, .slice (some ⟨w.heap.size, 0, none⟩) 1 1, .int .i64 0, .int .i64 0, .string ⟨#[]⟩, .slice none 0 0, .slice (some ⟨K, 0, none⟩) 1 1] 28)) := ((Below.refl _ W4).alloc (Nat.le_refl _) _).alloc (by simp) _
  rw [z5] at hK5
  rw [z4] at hA5
  obtain ⟨W5, hW5⟩ : ∃ W5, (W4.alloc (.cells #[.int .i64 1, .int .i64 2] 3)).alloc (.cells #[.int .i64 8, .int .i64 0, .string ⟨#[]⟩, .slice (some ⟨w.heap.size, 0, none⟩) 1 1, .int .i64 0, .int .i64 0, .string ⟨#[]⟩, .slice none 0 0, .slice (some ⟨K, 0, none⟩) 1 1] 28) = W5 := ⟨_, rfl⟩
  rw [hW5] at hA5 hK5 hb5
  have hI5 := hI.out.below hb5
  have hT5 : TmIn W5 sa_o (.slice (some ⟨Z + 1, 0, none⟩) 2 2) (.slice none 0 0) (.slice (some ⟨Z + 1 + 1, 0, none⟩) 1 1) :=
    ⟨pin_of (l := [1, 2]) hA5 (by simp), In.nil _, tin_one (t := sa_i) hK5 hI5⟩
  have hC5 := sresolve_any sa_o W5 _ _ _ hT5 sa_o_bd
  unfold RsO at hC5
  rw [sa_res] at hC5
  unfold tmv at hC5
  simp only [sa_o, sr_o, nd0] at hC5
  have hC := Lib.hid hC5
  have hL5 := Lib.hid (hL.out.below hb5 hL.out.lt)
  have hb50 := Lib.hid (hb4.out.trans (hb5.mono hb4.out.size))
  have hI5' := Lib.hid hI5
  clear hC5 hT5 hI5 hA5 hK5 hb5
  go_upto_region 3 with (
    go_at_call 7
    refine hC.out.mono ?_
    rintro e w6 ⟨hyes, -, hb6⟩
    obtain ⟨vp6, vi6, vk6, rfl, hT6⟩ := hyes sa_o_ok
    obtain ⟨P6, p6, e6⟩ := hT6.p.read
    have e6' : vp6 = .slice P6 2 p6 := e6
    subst e6'
    obtain ⟨I6, q6, e7⟩ := hT6.d.read
    have e7' : vi6 = .slice I6 0 q6 := e7
    subst e7'
    obtain ⟨K6, r6, e8⟩ := hT6.k.read
    have e8' : vk6 = .slice K6 1 r6 := e8
    subst e8'
    have R6 := Lib.hid (And.intro hT6 hb6)
    clear hT6 hb6 hyes e6 e7 e8)
  clear hW5
  obtain ⟨hT6, hb6⟩ := R6.out
  have hT6' : TmIn w6 sr_o (.slice P6 2 p6) (.slice I6 0 q6) (.slice K6 1 r6) := hT6
  obtain ⟨bk, ok, Pk, pk, Ik, qk, Kk, rk, rfl, hbk, -, -, -, k3, -, -, -, -, k8, hTk⟩ := TIn.at_ (t := sr_o.ks) hT6'.k (i := 0) (x := sr_i) rfl
  have k3' : w6.cell? ⟨bk, ok + 3, none⟩ = some (.slice Pk 1 pk) := by simpa [sr_i] using k3
  have k8' : w6.cell? ⟨bk, ok + 8, none⟩ = some (.slice Kk 1 rk) := by simpa [sr_i, Tl.len] using k8
  obtain ⟨bp, op, rfl, hbp, p0⟩ := PIn.cell (l := [1]) (n := 1) hTk.p (j := 0) (x := 1) rfl
  obtain ⟨bc, oc, Pc, pc, Ic, qc, Kc, rc, rfl, hbc, -, -, -, -, -, -, -, -, c8, hTc⟩ := TIn.at_ (t := sr_i.ks) (n := 1) hTk.k (i := 0) (x := ⟨10, 0, [], [], nd0, sr_k⟩) rfl
  have c8' : w6.cell? ⟨bc, oc + 8, none⟩ = some (.slice Kc 2 rc) := by simpa [sr_k, Tl.len] using c8
  obtain ⟨bd, od, _, _, _, _, _, _, rfl, hbd, -, d1, -⟩ := TIn.at_ (t := sr_k) (n := 2) hTc.k (i := 0) (x := ⟨2, 33, [], [], nd0, .nil⟩) rfl
  obtain ⟨be, oe, _, _, _, _, _, _, hee, -, -, e1, -⟩ := TIn.at_ (t := sr_k) (n := 2) hTc.k (i := 1) (x := ⟨2, 0, [], [], nd0, .nil⟩) rfl
  injection hee with hee
  injection hee with h1 h2
  subst h1 h2
  have d1' : w6.cell? ⟨bd, od + 1, none⟩ = some (.int .i64 33) := by simpa using d1
  have e1' : w6.cell? ⟨bd, od + 9 + 1, none⟩ = some (.int .i64 0) := by simpa using e1
  have p0' : w6.cell? ⟨bp, op, none⟩ = some (.int .i64 1) := by simpa using p0
  have F := Lib.hid (And.intro k3' (And.intro k8' (And.intro p0' (And.intro c8' (And.intro d1' e1')))))
  have hX6 := Lies.made w6 28 #[.int .i64 8, .int .i64 0, .string ⟨#[]⟩, .slice P6 2 p6, .int .i64 0, .int .i64 0, .string ⟨#[]⟩, .slice I6 0 q6, .slice (some ⟨bk, ok, none⟩) 1 r6]
  have hb67 : Below w6.heap.size w6 (w6.alloc (.cells #[.int .i64 8, .int .i64 0, .string ⟨#[]⟩, .slice P6 2 p6, .int .i64 0, .int .i64 0, .string ⟨#[]⟩, .slice I6 0 q6, .slice (some ⟨bk, ok, none⟩) 1 r6] 28)) := (Below.refl _ w6).alloc (Nat.le_refl _) _
  obtain ⟨W7, hW7⟩ : ∃ W7, w6.alloc (.cells #[.int .i64 8, .int .i64 0, .string ⟨#[]⟩, .slice P6 2 p6, .int .i64 0, .int .i64 0, .string ⟨#[]⟩, .slice I6 0 q6, .slice (some ⟨bk, ok, none⟩) 1 r6] 28) = W7 := ⟨_, rfl⟩
  rw [hW7] at hX6 hb67 ⊢
  have hb57 : Below W5.heap.size W5 W7 := Below.trans hb6 (Below.mono hb67 (Below.size hb6))
  have hL7 := hL5.out.below hb57 hL5.out.lt
  have hb07 := hb50.out.trans (hb57.mono hb50.out.size)
  have hC7 := sresolve_any sa_i W7 _ _ _ (hI5'.out.below hb57) sa_i_bd
  have hF7 := fun (w' : World) (hb : Below W7.heap.size W7 w') => free_any sa_i w' _ _ _ ((hI5'.out.below hb57).below hb) sa_i_bd rfl (by decide) (by decide)
  rw [sa_free] at hF7
  unfold RsO zerov at hC7
  unfold tmv at hC7 hF7
  simp only [sa_i, nd0] at hC7 hF7
  have hC7' := Lib.hid hC7
  have hF7' := Lib.hid hF7
  have y0 := hL7.cell 0
  have y1 := hL7.cell 1
  have y2 := hL7.cell 2
  have y3 := hL7.cell 3
  have y4 := hL7.cell 4
  have y5 := hL7.cell 5
  have y6 := hL7.cell 6
  have y7 := hL7.cell 7
  have y8 := hL7.cell 8
  simp only [List.getElem?_cons_succ, List.getElem?_cons_zero] at y0 y1 y2 y3 y4 y5 y6 y7 y8
  have hL7' := Lib.hid hL7
  have hX7 := Lib.hid hX6
  have hb67' := Lib.hid hb67
  have hb07' := Lib.hid hb07
  clear hC7 hF7 hL7 hX6 hb67 hb57 hb07 hT6 hT6' hb6 R6 k3 k8 k3' k8' hTk p0 p0' c8 c8' hTc d1 d1' e1 e1' hW7 hL hL5 hb4 hb50 hI hI5' hC
  go_upto_region 4 with (
    go_at_call 7
    refine hC7'.out.mono ?_
    rintro e w8 ⟨-, hno, hb8⟩
    obtain rfl := hno sa_i_ok
    have R8 := Lib.hid hb8
    clear hb8 hno)
  have hb89 : Below w8.heap.size w8 (w8.alloc (.cells #[.int .i64 0, .int .i64 0, .string ⟨#[]⟩, .slice none 0 0, .int .i64 0, .int .i64 0, .string ⟨#[]⟩, .slice none 0 0, .slice none 0 0] 28)) := (Below.refl _ w8).alloc (Nat.le_refl _) _
  obtain ⟨W9, hW9⟩ : ∃ W9, w8.alloc (.cells #[.int .i64 0, .int .i64 0, .string ⟨#[]⟩, .slice none 0 0, .int .i64 0, .int .i64 0, .string ⟨#[]⟩, .slice none 0 0, .slice none 0 0] 28) = W9 := ⟨_, rfl⟩
  rw [hW9] at hb89 ⊢
  have hb79 : Below W7.heap.size W7 W9 := Below.trans R8.out (Below.mono hb89 (Below.size R8.out))
  clear hW9
  have hL9 := hL7'.out.below hb79 hL7'.out.lt
  have y0 := hL9.cell 0
  have y1 := hL9.cell 1
  have y2 := hL9.cell 2
  have y3 := hL9.cell 3
  have y4 := hL9.cell 4
  have y5 := hL9.cell 5
  have y6 := hL9.cell 6
  have y7 := hL9.cell 7
  have y8 := hL9.cell 8
  simp only [List.getElem?_cons_succ, List.getElem?_cons_zero] at y0 y1 y2 y3 y4 y5 y6 y7 y8
  have hF9 := Lib.hid (hF7'.out W9 hb79)
  have hPl := Lib.hid (fun w => place_yes w 33 (by decide) ⟨by decide, by decide⟩)
  have hb79' := Lib.hid hb79
  clear hb89 hb79 R8 hC7' hF7' hL9
  go_upto_region 5 with (
    go_at_call 17
    refine (hPl.out _).mono ?_
    rintro e w10 ⟨rfl, rfl⟩)
  have hIs := Lib.hid (fun w => is_same 7 w)
  go_wp2_with (first
    | (go_at_call 18
       refine hF9.out.mono ?_
       rintro e w11 ⟨v, l, rfl, hOl, hpl, hml, hb11⟩
       obtain rfl : l = [2] := SC.up_ext (a := l) (b := [2]) hpl (by simp [SC.Up]) hml
       obtain ⟨Al, cl, rfl, hrd⟩ := hOl.read
       obtain ⟨gl, rfl, -, hgl, v0⟩ := hrd 0 (by simp)
       have v0' : w11.cell? ⟨gl, 0, none⟩ = some (.int .i64 2) := v0
       have hb6b : Below w6.heap.size w6 w11 := Below.trans hb67'.out (Below.mono (Below.trans hb79'.out (Below.mono hb11 (Below.size hb79'.out))) (Below.size hb67'.out))
       have hbb := Lib.hid (Below.trans hb07'.out (Below.mono (Below.trans hb79'.out (Below.mono hb11 (Below.size hb79'.out))) (Below.size hb07'.out)))
       have hX10 := (hX7.out.below hb79'.out hX7.out.lt).below hb11 (Nat.lt_of_lt_of_le hX7.out.lt (Below.size hb79'.out))
       have x0 := hX10.cell 0
       have x1 := hX10.cell 1
       have x2 := hX10.cell 2
       have x3 := hX10.cell 3
       have x4 := hX10.cell 4
       have x5 := hX10.cell 5
       have x6 := hX10.cell 6
       have x7 := hX10.cell 7
       have x8 := hX10.cell 8
       simp only [List.getElem?_cons_succ, List.getElem?_cons_zero] at x0 x1 x2 x3 x4 x5 x6 x7 x8
       have k3 := (hb6b.cell (p := ⟨bk, ok + 3, none⟩) hbk).trans F.out.1
       have k8 := (hb6b.cell (p := ⟨bk, ok + 8, none⟩) hbk).trans F.out.2.1
       have p0 := (hb6b.cell (p := ⟨bp, op, none⟩) hbp).trans F.out.2.2.1
       have c8 := (hb6b.cell (p := ⟨bc, oc + 8, none⟩) hbc).trans F.out.2.2.2.1
       have d1 := (hb6b.cell (p := ⟨bd, od + 1, none⟩) hbd).trans F.out.2.2.2.2.1
       have e1 := (hb6b.cell (p := ⟨bd, od + 9 + 1, none⟩) hbd).trans F.out.2.2.2.2.2
       clear hOl hpl hml hrd hb11 hb6b hX10 v0)
    | (go_at_call 11
       refine (hIs.out _).mono ?_
       rintro e w12 ⟨rfl, rfl⟩))
  go_ret
  exact ⟨rfl, hbb.out⟩
end Go.Proofs.YtpiekdcbjkgipaaGreat
