/- Package match: lay: what stands in a datum, laid out as a pattern's row is. -/
import Derived.Test.YtbomodendobnkaaGreatQ15
namespace Go.Proofs.YtbomodendobnkaaGreat
open Go.ChangeShapes Go.WideShapes Go.ChangeAt Go.RowKit Go.Deep

theorem three_boxes (w : World) (vs us ts : Array Value) (t u s : TypeId) : Below w.heap.size w (((w.alloc (.cells vs t)).alloc (.cells us u)).alloc (.cells ts s)) ∧ Lies (((w.alloc (.cells vs t)).alloc (.cells us u)).alloc (.cells ts s)) w.heap.size t vs.toList
    ∧ Lies (((w.alloc (.cells vs t)).alloc (.cells us u)).alloc (.cells ts s)) (w.heap.size + 1) u us.toList ∧ Lies (((w.alloc (.cells vs t)).alloc (.cells us u)).alloc (.cells ts s)) (w.heap.size + 1 + 1) s ts.toList := by
  obtain ⟨h1, h2, h3⟩ := two_boxes w vs us t u
  refine ⟨h1.alloc (by simp; omega) _, h2.alloc _, h3.alloc _, ?_⟩
  have := Lies.made ((w.alloc (.cells vs t)).alloc (.cells us u)) s ts
  rwa [show ((w.alloc (.cells vs t)).alloc (.cells us u)).heap.size = w.heap.size + 1 + 1 by simp] at this
def z4 : Array Value := #[.slice none 0 0, .slice none 0 0, .slice none 0 0, .slice none 0 0]
def LayN (w : World) (R : MM.Row × Bool) (e : Ending) (w' : World) : Prop := ∃ a b c d, e = .returned (.tuple #[rwv a b c d, .bool R.2]) ∧ RowAt w' R.1 a b c d ∧ Went w w'
theorem RowAt.none_ (w : World) : RowAt w ⟨.nil, .nil, .nil, .nil⟩ (.slice none 0 0) (.slice none 0 0) (.slice none 0 0) (.slice none 0 0) := ⟨Cn.nil w, Cn.nil w, Cn.nil w, Cn.nil w⟩
theorem Cn.one {w : World} {g : Nat} {x : RM.Dm} {v : Value} (h : Lies w g 24 [.int .i64 x.k, .int .i64 x.n, .string ⟨x.s.toArray⟩, v]) (hv : Cn w v x.is) : Cn w (.slice (some ⟨g, 0, none⟩) 1 1) (.one x) := by
  obtain ⟨A, c, rfl, hl, b, o, h1, h2⟩ := hv
  exact ⟨_, _, rfl, ⟨Nat.le_refl _, by omega⟩, g, 0, fun _ => rfl, h.lt, h.cell 0, h.cell 1, h.cell 2, ⟨A, c, h.cell 3, hl, b, o, h1, h2⟩, trivial⟩
set_option maxRecDepth 100000 in
set_option maxHeartbeats 4000000 in
theorem lay_no (w : World) (r : MM.Row) (a b c d : Value) (k : Int) (x : RM.Dm) (v : Value) (hr : RowAt w r a b c d) (hv : Cn w v x.is) (hno : MM.takes k x.k = false ∨ (MM.items x).len < r.f.len + r.b.len) :
    Calls Tryz.prog 34 #[rwv a b c d, .int .i64 k, dtv x v] w (LayN w (⟨.nil, .nil, .nil, .nil⟩, false)) := by
  obtain ⟨A, cc, rfl⟩ := hv.read
  obtain ⟨Fa, ca, rfl⟩ := hr.f.read
  obtain ⟨Ma, cm, rfl⟩ := hr.m.read
  obtain ⟨Ba, cb, rfl⟩ := hr.b.read
  obtain ⟨Ta, ct, rfl⟩ := hr.t.read
  have lf := hr.f.len
  have lb := hr.b.len
  have hP := Lib.hid (fun (w' : World) => parted_of w w' x _ hv)
  have hT := Lib.hid (fun w => takes_any k x.k w)
  have li := MM.items_len x
  have lc := MM.cut_le x
  have lv := hv.len
  unfold dtv rwv at *
  obtain ⟨N, hN⟩ : ∃ N, (MM.items x).len = N := ⟨_, rfl⟩
  obtain ⟨F, hF⟩ : ∃ F, r.f.len = F := ⟨_, rfl⟩
  obtain ⟨B, hB⟩ : ∃ B, r.b.len = B := ⟨_, rfl⟩
  obtain ⟨G, hG⟩ : ∃ G, MM.takes k x.k = G := ⟨_, rfl⟩
  simp only [hN, hF, hB, hG] at *
  have h63 : N ≤ 9223372036854775807 := by omega
  obtain ⟨hb3, hL1, hL2, hL3⟩ := three_boxes w #[.slice Fa F ca, .slice Ma r.m.len cm, .slice Ba B cb, .slice Ta r.t.len ct] #[.int .i64 x.k, .int .i64 x.n, .string ⟨x.s.toArray⟩, .slice A x.is.len cc] z4 78 24 78
  unfold z4 at hb3 hL1 hL2 hL3
  clear hr hv hN hF hB hG li lc lv
  have hno' := Lib.hid hno
  have hlast : G = true → (N : Int) - (B : Int) < (F : Int) := fun h => by
    rcases hno with h1 | h1
    · rw [h] at h1; cases h1
    · omega
  clear hno
  cases G with
  | true =>
    have hlt := hlast rfl
    clear hlast
    go_enter Tryz.func34, Tryz.ntmps34
    go_upto_region 2 with (
      go_at_call 49
      refine (hP.out _).mono ?_
      rintro e w3 ⟨A1, c1, A2, c2, rfl, -, -, hbp⟩
      have hbw : Below w.heap.size w w3 := hb3.trans (hbp.mono hb3.size)
      have M1 := hL1.below hbp hL1.lt
      have M2 := hL2.below hbp hL2.lt
      have M3 := hL3.below hbp hL3.lt
      have z0 := M1.cell 0
      have z2 := M1.cell 2
      have y0 := M2.cell 0
      have x0 := M3.cell 0
      have x1 := M3.cell 1
      have x2 := M3.cell 2
      have x3 := M3.cell 3
      have xf := M3.free
      simp only [List.getElem?_cons_zero, List.getElem?_cons_succ] at z0 z2 y0 x0 x1 x2 x3
      clear hbp)
    go_region
    go_wp2_with (go_at_call 52; refine (hT.out _).mono ?_; rintro e w4 ⟨rfl, rfl⟩)
    have hF4 := four_lies M3 (.slice none 0 0) (.slice none 0 0) (.slice none 0 0) (.slice none 0 0)
    have r0 := hF4.cell 0
    have r1 := hF4.cell 1
    have r2 := hF4.cell 2
    have r3 := hF4.cell 3
    have hb10 := below_drewN (four_below hbw (g := w.heap.size + 1 + 1) (by omega) (.slice none 0 0) (.slice none 0 0) (.slice none 0 0) (.slice none 0 0)) 1
    unfold four at r0 r1 r2 r3 hb10
    simp only [List.getElem?_cons_zero, List.getElem?_cons_succ] at r0 r1 r2 r3
    exact bodyPost_ret (v := .tuple #[rwv (.slice none 0 0) (.slice none 0 0) (.slice none 0 0) (.slice none 0 0), .bool false]) (by simp [results, Tryz.results34, go_sem, r0, r1, r2, r3, rwv]) rfl ⟨_, _, _, _, rfl, RowAt.none_ _, hb10⟩
  | false =>
    clear hlast
    go_enter Tryz.func34, Tryz.ntmps34
    go_upto_region 2 with (
      go_at_call 49
      refine (hP.out _).mono ?_
      rintro e w3 ⟨A1, c1, A2, c2, rfl, -, -, hbp⟩
      have hbw : Below w.heap.size w w3 := hb3.trans (hbp.mono hb3.size)
      have M1 := hL1.below hbp hL1.lt
      have M2 := hL2.below hbp hL2.lt
      have M3 := hL3.below hbp hL3.lt
      have z0 := M1.cell 0
      have z2 := M1.cell 2
      have y0 := M2.cell 0
      have x0 := M3.cell 0
      have x1 := M3.cell 1
      have x2 := M3.cell 2
      have x3 := M3.cell 3
      have xf := M3.free
      simp only [List.getElem?_cons_zero, List.getElem?_cons_succ] at z0 z2 y0 x0 x1 x2 x3
      clear hbp)
    go_region
    go_wp2_with (go_at_call 52; refine (hT.out _).mono ?_; rintro e w4 ⟨rfl, rfl⟩)
    have hF4 := four_lies M3 (.slice none 0 0) (.slice none 0 0) (.slice none 0 0) (.slice none 0 0)
    have r0 := hF4.cell 0
    have r1 := hF4.cell 1
    have r2 := hF4.cell 2
    have r3 := hF4.cell 3
    have hb10 := below_drewN (four_below hbw (g := w.heap.size + 1 + 1) (by omega) (.slice none 0 0) (.slice none 0 0) (.slice none 0 0) (.slice none 0 0)) 1
    unfold four at r0 r1 r2 r3 hb10
    simp only [List.getElem?_cons_zero, List.getElem?_cons_succ] at r0 r1 r2 r3
    exact bodyPost_ret (v := .tuple #[rwv (.slice none 0 0) (.slice none 0 0) (.slice none 0 0) (.slice none 0 0), .bool false]) (by simp [results, Tryz.results34, go_sem, r0, r1, r2, r3, rwv]) rfl ⟨_, _, _, _, rfl, RowAt.none_ _, hb10⟩
set_option maxRecDepth 100000 in
set_option maxHeartbeats 8000000 in
theorem lay_yes (w : World) (r : MM.Row) (a b c d : Value) (k : Int) (x : RM.Dm) (v : Value) (hr : RowAt w r a b c d) (hv : Cn w v x.is) (hG : MM.takes k x.k = true) (hFB : r.f.len + r.b.len ≤ (MM.items x).len) :
    Calls Tryz.prog 34 #[rwv a b c d, .int .i64 k, dtv x v] w (LayN w (MM.lay r k x)) := by
  obtain ⟨R, hR⟩ : ∃ R, MM.lay r k x = R := ⟨_, rfl⟩
  rw [hR]
  unfold MM.lay at hR
  rw [if_neg (by simp [hG]; omega)] at hR
  have hM : MM.mid r x = if r.m.len = 0 then r.f.len else (MM.items x).len - r.b.len := rfl
  obtain ⟨M, hM2⟩ : ∃ M, MM.mid r x = M := ⟨_, rfl⟩
  rw [hM2] at hR hM
  have hBh := Lib.hid (fun (w' : World) (hb : Below w.heap.size w w') (e : Nat) (he : e ≤ x.is.len) => behind_any w w' hb x v e hv he)
  obtain ⟨it, hit⟩ : ∃ it, MM.items x = it := ⟨_, rfl⟩
  obtain ⟨A, cc, rfl⟩ := hv.read
  obtain ⟨Fa, ca, rfl⟩ := hr.f.read
  obtain ⟨Ma, cm, rfl⟩ := hr.m.read
  obtain ⟨Ba, cb, rfl⟩ := hr.b.read
  obtain ⟨Ta, ct, rfl⟩ := hr.t.read
  have hP := Lib.hid (fun (w' : World) => parted_of w w' x _ hv)
  have hT := Lib.hid (fun w => takes_any k x.k w)
  have li := MM.items_len x
  have lc := MM.cut_le x
  have lv := hv.len
  unfold dtv rwv at *
  rw [hit] at hP hFB hM hR li
  obtain ⟨N, hN⟩ : ∃ N, it.len = N := ⟨_, rfl⟩
  obtain ⟨F, hF⟩ : ∃ F, r.f.len = F := ⟨_, rfl⟩
  obtain ⟨B, hB⟩ : ∃ B, r.b.len = B := ⟨_, rfl⟩
  obtain ⟨E, hE⟩ : ∃ E, r.m.len = E := ⟨_, rfl⟩
  rw [hN] at hP hFB hM hR li
  rw [hF] at hFB hM hR ⊢
  rw [hB] at hFB hM hR ⊢
  rw [hE] at hM ⊢
  rw [hG] at hT
  have h63 : N ≤ 9223372036854775807 := by omega
  have hNx : N ≤ x.is.len := by omega
  obtain ⟨hb3, hL1, hL2, hL3⟩ := three_boxes w #[.slice Fa F ca, .slice Ma E cm, .slice Ba B cb, .slice Ta r.t.len ct] #[.int .i64 x.k, .int .i64 x.n, .string ⟨x.s.toArray⟩, .slice A x.is.len cc] z4 78 24 78
  unfold z4 at hb3 hL1 hL2 hL3
  have hIt := hN
  clear hr hv hN hF hB hG li lc lv hit hM2 hE
  have hIt' := Lib.hid hIt
  have hle' := Lib.hid hNx
  clear hIt
  by_cases h7 : k = 7
  · subst h7
    rw [if_pos rfl] at hR
    by_cases hz : E = 0
    · rw [if_pos hz] at hM
      subst hz
      have hMF : M = F := hM
      subst hMF
      have hlast : ¬ (N : Int) - (B : Int) < (M : Int) := by omega
      have hFM : M ≤ M := Nat.le_refl _
      have hMBN : M + B ≤ N := hFB
      rw [Nat.sub_self] at hR
      clear hM
      go_enter Tryz.func34, Tryz.ntmps34
      go_upto_region 2 with (
        go_at_call 49
        refine (hP.out _).mono ?_
        rintro e w3 ⟨A1, c1, A2, c2, rfl, hC1, -, hbp⟩
        obtain ⟨B1, d1, s1, D1⟩ := hC1.to (k := M) (by rw [hIt'.out]; omega)
        obtain ⟨B2, d2, s2, D2⟩ := hC1.cut (j := M) (k := M) (by omega) (by rw [hIt'.out]; omega)
        obtain ⟨B3, d3, s3, D3⟩ := hC1.cut (j := M) (k := M + B) (by omega) (by rw [hIt'.out]; omega)
        rw [show M + B - M = B by omega] at s3 D3
        rw [Int.natCast_add] at s3
        rw [Nat.sub_self] at s2 D2
        have hD := Lib.hid (And.intro D1 (And.intro D2 D3))
        clear D1 D2 D3 hC1
        have hbw : Below w.heap.size w w3 := hb3.trans (hbp.mono hb3.size)
        have M1 := hL1.below hbp hL1.lt
        have M2 := hL2.below hbp hL2.lt
        have M3 := hL3.below hbp hL3.lt
        have z0 := M1.cell 0
        have z1 := M1.cell 1
        have z2 := M1.cell 2
        have y1 := M2.cell 1
        have y2 := M2.cell 2
        have y3 := M2.cell 3
        have y0 := M2.cell 0
        have x0 := M3.cell 0
        have x1 := M3.cell 1
        have x2 := M3.cell 2
        have x3 := M3.cell 3
        have xf := M3.free
        simp only [List.getElem?_cons_zero, List.getElem?_cons_succ] at z0 z1 z2 y0 y1 y2 y3 x0 x1 x2 x3
        clear hbp)
      go_region
      go_upto_region 8 with (go_at_call 52; refine (hT.out _).mono ?_; rintro e w4 ⟨rfl, rfl⟩)
      go_region
      have hb8 := Lib.hid (show Below w.heap.size w (w3.alloc (.cells #[.slice B1 M d1, .slice B2 0 d2, .slice B3 B d3, .slice none 0 0] 78)).drew.drew from below_drewN (below_drewN (hbw.alloc hbw.size _) 1) 1)
      have L8 := (show Lies (w3.alloc (.cells #[.slice B1 M d1, .slice B2 0 d2, .slice B3 B d3, .slice none 0 0] 78)) w3.heap.size 78 (#[.slice B1 M d1, .slice B2 0 d2, .slice B3 B d3, .slice none 0 0] : Array Value).toList from Lies.made w3 _ _)
      have M8 := M3.alloc (.cells #[.slice B1 M d1, .slice B2 0 d2, .slice B3 B d3, .slice none 0 0] 78)
      have N8 := M2.alloc (.cells #[.slice B1 M d1, .slice B2 0 d2, .slice B3 B d3, .slice none 0 0] 78)
      have y0' := N8.cell 0
      have y1' := N8.cell 1
      have y2' := N8.cell 2
      have y3' := N8.cell 3
      have l0 := L8.cell 0
      have l1 := L8.cell 1
      have l2 := L8.cell 2
      have l3 := L8.cell 3
      have x0' := M8.cell 0
      have x1' := M8.cell 1
      have x2' := M8.cell 2
      have x3' := M8.cell 3
      have lf8 := L8.free
      have xf8 := M8.free
      simp only [List.getElem?_cons_zero, List.getElem?_cons_succ] at y0' y1' y2' y3' l0 l1 l2 l3 x0' x1' x2' x3'
      have hne : ¬ w3.heap.size = w.heap.size + 1 + 1 := by have := M3.lt; omega
      have hE := Lib.hid (hBh.out _ hb8.out (M + B) (by have := hle'.out; omega))
      rw [Int.natCast_add] at hE
      generalize MM.behind x (M + B) = z at hE hR
      go_wp2_with (
        go_at_call 53
        refine hE.out.mono ?_
        rintro e w5 ⟨v5, rfl, hC5, hb5⟩
        obtain ⟨V5, c5, rfl⟩ := hC5.read
        have hC5' := Lib.hid hC5
        have hbw5 := Lib.hid (hb8.out.trans (hb5.mono hb8.out.size))
        have L5 := (L8.drew.drew.below hb5 L8.lt).alloc (.cells #[.int .i64 z.k, .int .i64 z.n, .string ⟨z.s.toArray⟩, .slice V5 z.is.len c5] 24)
        have M5 := (M8.drew.drew.below hb5 M8.lt).alloc (.cells #[.int .i64 z.k, .int .i64 z.n, .string ⟨z.s.toArray⟩, .slice V5 z.is.len c5] 24)
        have K5 := Lib.hid (Lies.made w5 24 #[.int .i64 z.k, .int .i64 z.n, .string ⟨z.s.toArray⟩, .slice V5 z.is.len c5])
        have q5 := Lib.hid (L8.drew.drew.below hb5 L8.lt).lt
        have l05 := L5.cell 0
        have l15 := L5.cell 1
        have l25 := L5.cell 2
        have l35 := L5.cell 3
        have x05 := M5.cell 0
        have x15 := M5.cell 1
        have x25 := M5.cell 2
        have x35 := M5.cell 3
        have lf5 := L5.free
        have xf5 := M5.free
        simp only [List.getElem?_cons_zero, List.getElem?_cons_succ] at l05 l15 l25 l35 x05 x15 x25 x35
        clear hC5 hb5)
      have T5 := M5.far (p := ⟨w3.heap.size, 3, none⟩) (fun e => hne e.symm) (.slice (some ⟨w5.heap.size, 0, none⟩) 1 1)
      have hb9 := (hbw5.out.alloc hbw5.out.size (.cells #[.int .i64 z.k, .int .i64 z.n, .string ⟨z.s.toArray⟩, .slice V5 z.is.len c5] 24)).setCell (p := ⟨w3.heap.size, 3, none⟩) (show w.heap.size ≤ w3.heap.size from hbw.size) (.slice (some ⟨w5.heap.size, 0, none⟩) 1 1)
      have q5' := q5.out
      have q6 := M3.lt
      have K9 := four_far (K5.out.far (p := ⟨w3.heap.size, 3, none⟩) (show ¬ w5.heap.size = w3.heap.size by omega) (.slice (some ⟨w5.heap.size, 0, none⟩) 1 1)) (g := w.heap.size + 1 + 1) (by omega) (.slice B1 M d1) (.slice B2 0 d2) (.slice B3 B d3) (.slice (some ⟨w5.heap.size, 0, none⟩) 1 1)
      have hF4 := four_lies T5 (.slice B1 M d1) (.slice B2 0 d2) (.slice B3 B d3) (.slice (some ⟨w5.heap.size, 0, none⟩) 1 1)
      have r0 := hF4.cell 0
      have r1 := hF4.cell 1
      have r2 := hF4.cell 2
      have r3 := hF4.cell 3
      have hb10 := four_below hb9 (g := w.heap.size + 1 + 1) (by omega) (.slice B1 M d1) (.slice B2 0 d2) (.slice B3 B d3) (.slice (some ⟨w5.heap.size, 0, none⟩) 1 1)
      unfold four at r0 r1 r2 r3 hb10 K9
      simp only [List.getElem?_cons_zero, List.getElem?_cons_succ] at r0 r1 r2 r3
      obtain ⟨D1, D2, D3⟩ := hD.out
      rw [← hR]
      exact bodyPost_ret (v := .tuple #[rwv (.slice B1 M d1) (.slice B2 0 d2) (.slice B3 B d3) (.slice (some ⟨w5.heap.size, 0, none⟩) 1 1), .bool true]) (by simp [results, Tryz.results34, go_sem, r0, r1, r2, r3, rwv]) rfl ⟨_, _, _, _, rfl, ⟨D1.below hb10, D2.below hb10, D3.below hb10, Cn.one K9 (hC5'.out.below hb10)⟩, hb10⟩
    · rw [if_neg hz] at hM
      have hlast : ¬ (N : Int) - (B : Int) < (F : Int) := by omega
      have hM' := Lib.hid hM
      have hMi' := Lib.hid (show (M : Int) = (N : Int) - (B : Int) by omega)
      have hMB' := Lib.hid (show ((M + B : Nat) : Int) = (N : Int) by omega)
      have hFM : F ≤ M := by omega
      have hMBN : M + B ≤ N := by omega
      clear hM
      go_enter Tryz.func34, Tryz.ntmps34
      go_upto_region 2 with (
        go_at_call 49
        refine (hP.out _).mono ?_
        rintro e w3 ⟨A1, c1, A2, c2, rfl, hC1, -, hbp⟩
        obtain ⟨B1, d1, s1, D1⟩ := hC1.to (k := F) (by rw [hIt'.out]; omega)
        obtain ⟨B2, d2, s2, D2⟩ := hC1.cut (j := F) (k := M) (by omega) (by rw [hIt'.out]; omega)
        obtain ⟨B3, d3, s3, D3⟩ := hC1.cut (j := M) (k := M + B) (by omega) (by rw [hIt'.out]; omega)
        rw [show M + B - M = B by omega] at s3 D3
        rw [hMi'.out] at s2
        rw [hMB'.out, hMi'.out] at s3
        have hD := Lib.hid (And.intro D1 (And.intro D2 D3))
        clear D1 D2 D3 hC1
        have hbw : Below w.heap.size w w3 := hb3.trans (hbp.mono hb3.size)
        have M1 := hL1.below hbp hL1.lt
        have M2 := hL2.below hbp hL2.lt
        have M3 := hL3.below hbp hL3.lt
        have z0 := M1.cell 0
        have z1 := M1.cell 1
        have z2 := M1.cell 2
        have y1 := M2.cell 1
        have y2 := M2.cell 2
        have y3 := M2.cell 3
        have y0 := M2.cell 0
        have x0 := M3.cell 0
        have x1 := M3.cell 1
        have x2 := M3.cell 2
        have x3 := M3.cell 3
        have xf := M3.free
        simp only [List.getElem?_cons_zero, List.getElem?_cons_succ] at z0 z1 z2 y0 y1 y2 y3 x0 x1 x2 x3
        clear hbp)
      go_region
      go_upto_region 8 with (go_at_call 52; refine (hT.out _).mono ?_; rintro e w4 ⟨rfl, rfl⟩)
      go_region
      have hb8 := Lib.hid (show Below w.heap.size w (w3.alloc (.cells #[.slice B1 F d1, .slice B2 (M - F) d2, .slice B3 B d3, .slice none 0 0] 78)).drew.drew from below_drewN (below_drewN (hbw.alloc hbw.size _) 1) 1)
      have L8 := (show Lies (w3.alloc (.cells #[.slice B1 F d1, .slice B2 (M - F) d2, .slice B3 B d3, .slice none 0 0] 78)) w3.heap.size 78 (#[.slice B1 F d1, .slice B2 (M - F) d2, .slice B3 B d3, .slice none 0 0] : Array Value).toList from Lies.made w3 _ _)
      have M8 := M3.alloc (.cells #[.slice B1 F d1, .slice B2 (M - F) d2, .slice B3 B d3, .slice none 0 0] 78)
      have N8 := M2.alloc (.cells #[.slice B1 F d1, .slice B2 (M - F) d2, .slice B3 B d3, .slice none 0 0] 78)
      have y0' := N8.cell 0
      have y1' := N8.cell 1
      have y2' := N8.cell 2
      have y3' := N8.cell 3
      have l0 := L8.cell 0
      have l1 := L8.cell 1
      have l2 := L8.cell 2
      have l3 := L8.cell 3
      have x0' := M8.cell 0
      have x1' := M8.cell 1
      have x2' := M8.cell 2
      have x3' := M8.cell 3
      have lf8 := L8.free
      have xf8 := M8.free
      simp only [List.getElem?_cons_zero, List.getElem?_cons_succ] at y0' y1' y2' y3' l0 l1 l2 l3 x0' x1' x2' x3'
      have hne : ¬ w3.heap.size = w.heap.size + 1 + 1 := by have := M3.lt; omega
      have hE := Lib.hid (hBh.out _ hb8.out (M + B) (by have := hle'.out; omega))
      rw [hMB'.out] at hE
      generalize MM.behind x (M + B) = z at hE hR
      go_wp2_with (
        go_at_call 53
        refine hE.out.mono ?_
        rintro e w5 ⟨v5, rfl, hC5, hb5⟩
        obtain ⟨V5, c5, rfl⟩ := hC5.read
        have hC5' := Lib.hid hC5
        have hbw5 := Lib.hid (hb8.out.trans (hb5.mono hb8.out.size))
        have L5 := (L8.drew.drew.below hb5 L8.lt).alloc (.cells #[.int .i64 z.k, .int .i64 z.n, .string ⟨z.s.toArray⟩, .slice V5 z.is.len c5] 24)
        have M5 := (M8.drew.drew.below hb5 M8.lt).alloc (.cells #[.int .i64 z.k, .int .i64 z.n, .string ⟨z.s.toArray⟩, .slice V5 z.is.len c5] 24)
        have K5 := Lib.hid (Lies.made w5 24 #[.int .i64 z.k, .int .i64 z.n, .string ⟨z.s.toArray⟩, .slice V5 z.is.len c5])
        have q5 := Lib.hid (L8.drew.drew.below hb5 L8.lt).lt
        have l05 := L5.cell 0
        have l15 := L5.cell 1
        have l25 := L5.cell 2
        have l35 := L5.cell 3
        have x05 := M5.cell 0
        have x15 := M5.cell 1
        have x25 := M5.cell 2
        have x35 := M5.cell 3
        have lf5 := L5.free
        have xf5 := M5.free
        simp only [List.getElem?_cons_zero, List.getElem?_cons_succ] at l05 l15 l25 l35 x05 x15 x25 x35
        clear hC5 hb5)
      have T5 := M5.far (p := ⟨w3.heap.size, 3, none⟩) (fun e => hne e.symm) (.slice (some ⟨w5.heap.size, 0, none⟩) 1 1)
      have hb9 := (hbw5.out.alloc hbw5.out.size (.cells #[.int .i64 z.k, .int .i64 z.n, .string ⟨z.s.toArray⟩, .slice V5 z.is.len c5] 24)).setCell (p := ⟨w3.heap.size, 3, none⟩) (show w.heap.size ≤ w3.heap.size from hbw.size) (.slice (some ⟨w5.heap.size, 0, none⟩) 1 1)
      have q5' := q5.out
      have q6 := M3.lt
      have K9 := four_far (K5.out.far (p := ⟨w3.heap.size, 3, none⟩) (show ¬ w5.heap.size = w3.heap.size by omega) (.slice (some ⟨w5.heap.size, 0, none⟩) 1 1)) (g := w.heap.size + 1 + 1) (by omega) (.slice B1 F d1) (.slice B2 (M - F) d2) (.slice B3 B d3) (.slice (some ⟨w5.heap.size, 0, none⟩) 1 1)
      have hF4 := four_lies T5 (.slice B1 F d1) (.slice B2 (M - F) d2) (.slice B3 B d3) (.slice (some ⟨w5.heap.size, 0, none⟩) 1 1)
      have r0 := hF4.cell 0
      have r1 := hF4.cell 1
      have r2 := hF4.cell 2
      have r3 := hF4.cell 3
      have hb10 := four_below hb9 (g := w.heap.size + 1 + 1) (by omega) (.slice B1 F d1) (.slice B2 (M - F) d2) (.slice B3 B d3) (.slice (some ⟨w5.heap.size, 0, none⟩) 1 1)
      unfold four at r0 r1 r2 r3 hb10 K9
      simp only [List.getElem?_cons_zero, List.getElem?_cons_succ] at r0 r1 r2 r3
      obtain ⟨D1, D2, D3⟩ := hD.out
      rw [← hR]
      exact bodyPost_ret (v := .tuple #[rwv (.slice B1 F d1) (.slice B2 (M - F) d2) (.slice B3 B d3) (.slice (some ⟨w5.heap.size, 0, none⟩) 1 1), .bool true]) (by simp [results, Tryz.results34, go_sem, r0, r1, r2, r3, rwv]) rfl ⟨_, _, _, _, rfl, ⟨D1.below hb10, D2.below hb10, D3.below hb10, Cn.one K9 (hC5'.out.below hb10)⟩, hb10⟩
  · rw [if_neg h7] at hR
    by_cases hz : E = 0
    · rw [if_pos hz] at hM
      subst hz
      have hMF : M = F := hM
      subst hMF
      have hlast : ¬ (N : Int) - (B : Int) < (M : Int) := by omega
      have hFM : M ≤ M := Nat.le_refl _
      have hMBN : M + B ≤ N := hFB
      rw [Nat.sub_self] at hR
      clear hM
      go_enter Tryz.func34, Tryz.ntmps34
      go_upto_region 2 with (
        go_at_call 49
        refine (hP.out _).mono ?_
        rintro e w3 ⟨A1, c1, A2, c2, rfl, hC1, -, hbp⟩
        obtain ⟨B1, d1, s1, D1⟩ := hC1.to (k := M) (by rw [hIt'.out]; omega)
        obtain ⟨B2, d2, s2, D2⟩ := hC1.cut (j := M) (k := M) (by omega) (by rw [hIt'.out]; omega)
        obtain ⟨B3, d3, s3, D3⟩ := hC1.cut (j := M) (k := M + B) (by omega) (by rw [hIt'.out]; omega)
        rw [show M + B - M = B by omega] at s3 D3
        rw [Int.natCast_add] at s3
        rw [Nat.sub_self] at s2 D2
        have hD := Lib.hid (And.intro D1 (And.intro D2 D3))
        clear D1 D2 D3 hC1
        have hbw : Below w.heap.size w w3 := hb3.trans (hbp.mono hb3.size)
        have M1 := hL1.below hbp hL1.lt
        have M2 := hL2.below hbp hL2.lt
        have M3 := hL3.below hbp hL3.lt
        have z0 := M1.cell 0
        have z1 := M1.cell 1
        have z2 := M1.cell 2
        have y1 := M2.cell 1
        have y2 := M2.cell 2
        have y3 := M2.cell 3
        have y0 := M2.cell 0
        have x0 := M3.cell 0
        have x1 := M3.cell 1
        have x2 := M3.cell 2
        have x3 := M3.cell 3
        have xf := M3.free
        simp only [List.getElem?_cons_zero, List.getElem?_cons_succ] at z0 z1 z2 y0 y1 y2 y3 x0 x1 x2 x3
        clear hbp)
      go_region
      go_upto_region 8 with (go_at_call 52; refine (hT.out _).mono ?_; rintro e w4 ⟨rfl, rfl⟩)
      go_region
      have hb8 := Lib.hid (show Below w.heap.size w (w3.alloc (.cells #[.slice B1 M d1, .slice B2 0 d2, .slice B3 B d3, .slice none 0 0] 78)).drew.drew from below_drewN (below_drewN (hbw.alloc hbw.size _) 1) 1)
      have L8 := (show Lies (w3.alloc (.cells #[.slice B1 M d1, .slice B2 0 d2, .slice B3 B d3, .slice none 0 0] 78)) w3.heap.size 78 (#[.slice B1 M d1, .slice B2 0 d2, .slice B3 B d3, .slice none 0 0] : Array Value).toList from Lies.made w3 _ _)
      have M8 := M3.alloc (.cells #[.slice B1 M d1, .slice B2 0 d2, .slice B3 B d3, .slice none 0 0] 78)
      have N8 := M2.alloc (.cells #[.slice B1 M d1, .slice B2 0 d2, .slice B3 B d3, .slice none 0 0] 78)
      have y0' := N8.cell 0
      have y1' := N8.cell 1
      have y2' := N8.cell 2
      have y3' := N8.cell 3
      have l0 := L8.cell 0
      have l1 := L8.cell 1
      have l2 := L8.cell 2
      have l3 := L8.cell 3
      have x0' := M8.cell 0
      have x1' := M8.cell 1
      have x2' := M8.cell 2
      have x3' := M8.cell 3
      have lf8 := L8.free
      have xf8 := M8.free
      simp only [List.getElem?_cons_zero, List.getElem?_cons_succ] at y0' y1' y2' y3' l0 l1 l2 l3 x0' x1' x2' x3'
      have hne : ¬ w3.heap.size = w.heap.size + 1 + 1 := by have := M3.lt; omega
      go_wp2_with fail
      have T5 := M8
      have hb9 := hbw.alloc hbw.size (.cells #[.slice B1 M d1, .slice B2 0 d2, .slice B3 B d3, .slice none 0 0] 78)
      have hF4 := four_lies T5 (.slice B1 M d1) (.slice B2 0 d2) (.slice B3 B d3) (.slice none 0 0)
      have r0 := hF4.cell 0
      have r1 := hF4.cell 1
      have r2 := hF4.cell 2
      have r3 := hF4.cell 3
      have hb10 := four_below hb9 (g := w.heap.size + 1 + 1) (by omega) (.slice B1 M d1) (.slice B2 0 d2) (.slice B3 B d3) (.slice none 0 0)
      unfold four at r0 r1 r2 r3 hb10
      simp only [List.getElem?_cons_zero, List.getElem?_cons_succ] at r0 r1 r2 r3
      obtain ⟨D1, D2, D3⟩ := hD.out
      rw [← hR]
      have hb11 := below_drewN (below_drewN hb10 1) 1
      exact bodyPost_ret (v := .tuple #[rwv (.slice B1 M d1) (.slice B2 0 d2) (.slice B3 B d3) (.slice none 0 0), .bool (decide (M + B = N))]) (by simp [results, Tryz.results34, go_sem, r0, r1, r2, r3, rwv]; rw [Bool.eq_iff_iff]; simp; omega) rfl ⟨_, _, _, _, rfl, ⟨D1.below hb11, D2.below hb11, D3.below hb11, Cn.nil _⟩, hb11⟩
    · rw [if_neg hz] at hM
      have hlast : ¬ (N : Int) - (B : Int) < (F : Int) := by omega
      have hM' := Lib.hid hM
      have hMi' := Lib.hid (show (M : Int) = (N : Int) - (B : Int) by omega)
      have hMB' := Lib.hid (show ((M + B : Nat) : Int) = (N : Int) by omega)
      have hFM : F ≤ M := by omega
      have hMBN : M + B ≤ N := by omega
      clear hM
      go_enter Tryz.func34, Tryz.ntmps34
      go_upto_region 2 with (
        go_at_call 49
        refine (hP.out _).mono ?_
        rintro e w3 ⟨A1, c1, A2, c2, rfl, hC1, -, hbp⟩
        obtain ⟨B1, d1, s1, D1⟩ := hC1.to (k := F) (by rw [hIt'.out]; omega)
        obtain ⟨B2, d2, s2, D2⟩ := hC1.cut (j := F) (k := M) (by omega) (by rw [hIt'.out]; omega)
        obtain ⟨B3, d3, s3, D3⟩ := hC1.cut (j := M) (k := M + B) (by omega) (by rw [hIt'.out]; omega)
        rw [show M + B - M = B by omega] at s3 D3
        rw [hMi'.out] at s2
        rw [hMB'.out, hMi'.out] at s3
        have hD := Lib.hid (And.intro D1 (And.intro D2 D3))
        clear D1 D2 D3 hC1
        have hbw : Below w.heap.size w w3 := hb3.trans (hbp.mono hb3.size)
        have M1 := hL1.below hbp hL1.lt
        have M2 := hL2.below hbp hL2.lt
        have M3 := hL3.below hbp hL3.lt
        have z0 := M1.cell 0
        have z1 := M1.cell 1
        have z2 := M1.cell 2
        have y1 := M2.cell 1
        have y2 := M2.cell 2
        have y3 := M2.cell 3
        have y0 := M2.cell 0
        have x0 := M3.cell 0
        have x1 := M3.cell 1
        have x2 := M3.cell 2
        have x3 := M3.cell 3
        have xf := M3.free
        simp only [List.getElem?_cons_zero, List.getElem?_cons_succ] at z0 z1 z2 y0 y1 y2 y3 x0 x1 x2 x3
        clear hbp)
      go_region
      go_upto_region 8 with (go_at_call 52; refine (hT.out _).mono ?_; rintro e w4 ⟨rfl, rfl⟩)
      go_region
      have hb8 := Lib.hid (show Below w.heap.size w (w3.alloc (.cells #[.slice B1 F d1, .slice B2 (M - F) d2, .slice B3 B d3, .slice none 0 0] 78)).drew.drew from below_drewN (below_drewN (hbw.alloc hbw.size _) 1) 1)
      have L8 := (show Lies (w3.alloc (.cells #[.slice B1 F d1, .slice B2 (M - F) d2, .slice B3 B d3, .slice none 0 0] 78)) w3.heap.size 78 (#[.slice B1 F d1, .slice B2 (M - F) d2, .slice B3 B d3, .slice none 0 0] : Array Value).toList from Lies.made w3 _ _)
      have M8 := M3.alloc (.cells #[.slice B1 F d1, .slice B2 (M - F) d2, .slice B3 B d3, .slice none 0 0] 78)
      have N8 := M2.alloc (.cells #[.slice B1 F d1, .slice B2 (M - F) d2, .slice B3 B d3, .slice none 0 0] 78)
      have y0' := N8.cell 0
      have y1' := N8.cell 1
      have y2' := N8.cell 2
      have y3' := N8.cell 3
      have l0 := L8.cell 0
      have l1 := L8.cell 1
      have l2 := L8.cell 2
      have l3 := L8.cell 3
      have x0' := M8.cell 0
      have x1' := M8.cell 1
      have x2' := M8.cell 2
      have x3' := M8.cell 3
      have lf8 := L8.free
      have xf8 := M8.free
      simp only [List.getElem?_cons_zero, List.getElem?_cons_succ] at y0' y1' y2' y3' l0 l1 l2 l3 x0' x1' x2' x3'
      have hne : ¬ w3.heap.size = w.heap.size + 1 + 1 := by have := M3.lt; omega
      go_wp2_with fail
      have T5 := M8
      have hb9 := hbw.alloc hbw.size (.cells #[.slice B1 F d1, .slice B2 (M - F) d2, .slice B3 B d3, .slice none 0 0] 78)
      have hF4 := four_lies T5 (.slice B1 F d1) (.slice B2 (M - F) d2) (.slice B3 B d3) (.slice none 0 0)
      have r0 := hF4.cell 0
      have r1 := hF4.cell 1
      have r2 := hF4.cell 2
      have r3 := hF4.cell 3
      have hb10 := four_below hb9 (g := w.heap.size + 1 + 1) (by omega) (.slice B1 F d1) (.slice B2 (M - F) d2) (.slice B3 B d3) (.slice none 0 0)
      unfold four at r0 r1 r2 r3 hb10
      simp only [List.getElem?_cons_zero, List.getElem?_cons_succ] at r0 r1 r2 r3
      obtain ⟨D1, D2, D3⟩ := hD.out
      rw [← hR]
      have hb11 := below_drewN (below_drewN hb10 1) 1
      exact bodyPost_ret (v := .tuple #[rwv (.slice B1 F d1) (.slice B2 (M - F) d2) (.slice B3 B d3) (.slice none 0 0), .bool (decide (M + B = N))]) (by simp [results, Tryz.results34, go_sem, r0, r1, r2, r3, rwv]; have := hMB'.out; omega) rfl ⟨_, _, _, _, rfl, ⟨D1.below hb11, D2.below hb11, D3.below hb11, Cn.nil _⟩, hb11⟩

theorem lay_any (w : World) (r : MM.Row) (a b c d : Value) (k : Int) (x : RM.Dm) (v : Value) (hr : RowAt w r a b c d) (hv : Cn w v x.is) :
    Calls Tryz.prog 34 #[rwv a b c d, .int .i64 k, dtv x v] w (LayN w (MM.lay r k x)) := by
  by_cases h : MM.takes k x.k = false ∨ (MM.items x).len < r.f.len + r.b.len
  · have := lay_no w r a b c d k x v hr hv h
    rwa [show MM.lay r k x = (⟨.nil, .nil, .nil, .nil⟩, false) by unfold MM.lay; rw [if_pos h]]
  · exact lay_yes w r a b c d k x v hr hv (by cases h1 : MM.takes k x.k <;> simp_all) (by omega)
end Go.Proofs.YtbomodendobnkaaGreat
