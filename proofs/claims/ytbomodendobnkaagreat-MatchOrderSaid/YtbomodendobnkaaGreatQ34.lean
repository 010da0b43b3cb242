/- Package match: Check, Vars. -/
import Derived.Test.YtbomodendobnkaaGreatQ33
import Derived.Test.YtbomodendobnkaaGreatShelf
import Derived.Test.YtbomodendobnkaaGreatQ13
import Derived.Test.YtbomodendobnkaaGreatQ1
import Derived.Test.YtbomodendobnkaaGreatQ23
import Derived.Deep.QuietTactic
import Derived.BigQuiet
import Derived.Lib.Hide
import Derived.Deep.RegionHeld3
import Derived.Deep.RegionWith
namespace Go.Proofs.YtbomodendobnkaaGreat
open Go.ChangeShapes Go.WideShapes Go.ChangeAt Go.RowKit Go.Deep
open MM (Bl Bm Var)

theorem Tryz.infoPair : (Tryz.prog.info? 40).map (fun i => (i.zero, i.size, i.bytes)) = some (some (.agg #[.string ⟨#[]⟩, .string ⟨#[]⟩]), 2, 32) := by kernel_rfl
set_option maxRecDepth 100000 in
set_option maxHeartbeats 4000000 in
theorem mcheck_any (w : World) (x : RM.Dm) (u lv : Value) (lits : List (List UInt8)) (dots : List UInt8)
    (hu : Cn w u x.is) (hx : Db x) (hzx : SM.sz x.is ≤ 5000) (hl : Sn w lv lits) (hll : lits.length ≤ 1000) (hls : ∀ x ∈ lits, x.length ≤ maxLen) (hdl : dots.length ≤ maxLen) :
    Calls Tryz.prog 13 #[dtv x u, lv, .string ⟨dots.toArray⟩] w fun e w' => e = .returned (if (MM.pat (MM.nms lits dots) x).isSome then .nilIface else .iface 47 (.int .i64 7)) ∧ Went w w' := by
  obtain ⟨A, cA, rfl⟩ := hu.read
  obtain ⟨LA, Lc, rfl⟩ := hl.read
  obtain ⟨n, hn⟩ : ∃ n, MM.nms lits dots = n := ⟨_, rfl⟩
  have hNa := Lib.hid (fun (w' : World) (hb' : Below w.heap.size w w') => namesOf_any w' _ lits dots (hl.below hb') hll hls hdl)
  rw [hn] at hNa ⊢
  have hPt := Lib.hid (fun (w' : World) (hb' : Below w.heap.size w w') q (hN : Nm w' q 2000 n) => pattern_any w' q 2000 n hN w' x _ (Below.refl _ _) (hu.below hb') hx.1 hx.2 hzx)
  obtain ⟨PT, hPT⟩ : ∃ PT, MM.pat n x = PT := ⟨_, rfl⟩
  rw [hPT]
  simp only [hPT] at hPt
  unfold dtv at *
  obtain ⟨LN, hLN⟩ : ∃ LN, lits.length = LN := ⟨_, rfl⟩
  rw [hLN] at hNa ⊢
  have hb1 := m_box w #[.int .i64 x.k, .int .i64 x.n, .string ⟨x.s.toArray⟩, .slice A x.is.len cA] 24
  have hL1 := Lies.made w 24 #[.int .i64 x.k, .int .i64 x.n, .string ⟨x.s.toArray⟩, .slice A x.is.len cA]
  clear hu hl hx hzx hn hll hls hdl hLN hPT
  cases PT with
  | none =>
    rw [if_neg (by simp)]
    go_enter Tryz.func13, Tryz.ntmps13
    go_wp2_with fail
    go_region_held3 (fun w' => w'.cell? ⟨w.heap.size, 0, none⟩ = some (.int .i64 x.k) ∧ w'.cell? ⟨w.heap.size, 1, none⟩ = some (.int .i64 x.n) ∧ w'.cell? ⟨w.heap.size, 2, none⟩ = some (.string ⟨x.s.toArray⟩) ∧ w'.cell? ⟨w.heap.size, 3, none⟩ = some (.slice A x.is.len cA)) (first | go_keep | with_reducible exact kx | with_reducible exact ky)
      (first
        | (go_at_call 16
           refine (hNa.out _ (below_drewN hb1 1)).mono ?_
           rintro e w1 ⟨q, rfl, hq, hNm, hb2⟩
           have M1 := hL1.drew.below hb2 hL1.lt
           have kx : w1.cell? ⟨w.heap.size, 0, none⟩ = some (.int .i64 x.k) ∧ w1.cell? ⟨w.heap.size, 1, none⟩ = some (.int .i64 x.n) ∧ w1.cell? ⟨w.heap.size, 2, none⟩ = some (.string ⟨x.s.toArray⟩) ∧ w1.cell? ⟨w.heap.size, 3, none⟩ = some (.slice A x.is.len cA) := ⟨M1.cell 0, M1.cell 1, M1.cell 2, M1.cell 3⟩
           have bw1 := Lib.hid (hb1.trans (below_of_drew (hb2.mono hb1.size)))
           have hPt2 := Lib.hid (hPt.out _ bw1.out q hNm)
           clear hNm hb2)
        | (go_at_call 17
           refine hPt2.out.mono ?_
           intro e w3 h3
           obtain ⟨rfl, hb3⟩ := h3.none_
           have M3 := M1.below hb3 M1.lt
           have ky : w3.cell? ⟨w.heap.size, 0, none⟩ = some (.int .i64 x.k) ∧ w3.cell? ⟨w.heap.size, 1, none⟩ = some (.int .i64 x.n) ∧ w3.cell? ⟨w.heap.size, 2, none⟩ = some (.string ⟨x.s.toArray⟩) ∧ w3.cell? ⟨w.heap.size, 3, none⟩ = some (.slice A x.is.len cA) := ⟨M3.cell 0, M3.cell 1, M3.cell 2, M3.cell 3⟩
           have bw3 := Lib.hid (bw1.out.trans (hb3.mono bw1.out.size))
           clear h3 hb3))
    go_wp2_with fail
    go_ret
    exact ⟨rfl, bw3.out⟩
  | some vs =>
    rw [if_pos (by simp)]
    go_enter Tryz.func13, Tryz.ntmps13
    go_wp2_with fail
    go_region_held3 (fun w' => w'.cell? ⟨w.heap.size, 0, none⟩ = some (.int .i64 x.k) ∧ w'.cell? ⟨w.heap.size, 1, none⟩ = some (.int .i64 x.n) ∧ w'.cell? ⟨w.heap.size, 2, none⟩ = some (.string ⟨x.s.toArray⟩) ∧ w'.cell? ⟨w.heap.size, 3, none⟩ = some (.slice A x.is.len cA)) (first | go_keep | with_reducible exact kx | with_reducible exact ky)
      (first
        | (go_at_call 16
           refine (hNa.out _ (below_drewN hb1 1)).mono ?_
           rintro e w1 ⟨q, rfl, hq, hNm, hb2⟩
           have M1 := hL1.drew.below hb2 hL1.lt
           have kx : w1.cell? ⟨w.heap.size, 0, none⟩ = some (.int .i64 x.k) ∧ w1.cell? ⟨w.heap.size, 1, none⟩ = some (.int .i64 x.n) ∧ w1.cell? ⟨w.heap.size, 2, none⟩ = some (.string ⟨x.s.toArray⟩) ∧ w1.cell? ⟨w.heap.size, 3, none⟩ = some (.slice A x.is.len cA) := ⟨M1.cell 0, M1.cell 1, M1.cell 2, M1.cell 3⟩
           have bw1 := Lib.hid (hb1.trans (below_of_drew (hb2.mono hb1.size)))
           have hPt2 := Lib.hid (hPt.out _ bw1.out q hNm)
           clear hNm hb2)
        | (go_at_call 17
           refine hPt2.out.mono ?_
           intro e w3 h3
           obtain ⟨VA, vc, rfl, -, -, hb3⟩ := h3.some_
           have M3 := M1.below hb3 M1.lt
           have ky : w3.cell? ⟨w.heap.size, 0, none⟩ = some (.int .i64 x.k) ∧ w3.cell? ⟨w.heap.size, 1, none⟩ = some (.int .i64 x.n) ∧ w3.cell? ⟨w.heap.size, 2, none⟩ = some (.string ⟨x.s.toArray⟩) ∧ w3.cell? ⟨w.heap.size, 3, none⟩ = some (.slice A x.is.len cA) := ⟨M3.cell 0, M3.cell 1, M3.cell 2, M3.cell 3⟩
           have bw3 := Lib.hid (bw1.out.trans (hb3.mono bw1.out.size))
           clear h3 hb3))
    go_wp2_with fail
    go_ret
    exact ⟨rfl, bw3.out⟩

/-- the cells of a row of pairs: each variable's name, and so many stars -/
def prcs (v : Var) : List Value := [.string ⟨v.nm.toArray⟩, .string ⟨(Lib.repeatL [42] v.dp).toArray⟩]
theorem prcs_at : ∀ {l : List Var} {i : Nat} {v : Var}, l[i]? = some v → (l.flatMap prcs)[i * 2]? = some (.string ⟨v.nm.toArray⟩) ∧ (l.flatMap prcs)[i * 2 + 1]? = some (.string ⟨(Lib.repeatL [42] v.dp).toArray⟩)
  | [], _, _, h => by simp at h
  | v :: r, 0, x, h => by
    simp only [List.getElem?_cons_zero, Option.some.injEq] at h
    subst h
    exact ⟨rfl, rfl⟩
  | v :: r, i + 1, x, h => by
    have k := prcs_at (l := r) (i := i) (v := x) (by simpa using h)
    have e : ∀ j, ((v :: r).flatMap prcs)[(i + 1) * 2 + j]? = (r.flatMap prcs)[i * 2 + j]? := fun j => by
      rw [List.flatMap_cons, List.getElem?_append_right (by simp [prcs]; omega)]
      congr 1
      simp [prcs]; omega
    exact ⟨by rw [← k.1]; exact e 0, by rw [← k.2]; exact e 1⟩
def VarsN (vs : List Var) (w : World) (e : Ending) (w' : World) : Prop :=
  Went w w' ∧ ∃ A c, e = .returned (.slice A vs.length c) ∧ w'.ownsRow w.heap.size 40 2 (.slice A vs.length c) vs.length (vs.flatMap prcs)
set_option maxRecDepth 100000 in
set_option maxHeartbeats 8000000 in
theorem mvars_any (w : World) (x : RM.Dm) (u lv : Value) (lits : List (List UInt8)) (dots : List UInt8)
    (hu : Cn w u x.is) (hx : Db x) (hzx : SM.sz x.is ≤ 5000) (hl : Sn w lv lits) (hll : lits.length ≤ 1000) (hls : ∀ x ∈ lits, x.length ≤ maxLen) (hdl : dots.length ≤ maxLen) :
    Calls Tryz.prog 10 #[dtv x u, lv, .string ⟨dots.toArray⟩] w (VarsN ((MM.pat (MM.nms lits dots) x).getD []) w) := by
  obtain ⟨A, cA, rfl⟩ := hu.read
  obtain ⟨LA, Lc, rfl⟩ := hl.read
  obtain ⟨n, hn⟩ : ∃ n, MM.nms lits dots = n := ⟨_, rfl⟩
  have hNa := Lib.hid (fun (w' : World) (hb' : Below w.heap.size w w') => namesOf_any w' _ lits dots (hl.below hb') hll hls hdl)
  rw [hn] at hNa ⊢
  have hPt := Lib.hid (fun (w' : World) (hb' : Below w.heap.size w w') q (hN : Nm w' q 2000 n) => pattern_any w' q 2000 n hN w' x _ (Below.refl _ _) (hu.below hb') hx.1 hx.2 hzx)
  obtain ⟨PT, hPT⟩ : ∃ PT, MM.pat n x = PT := ⟨_, rfl⟩
  have hdp : ∀ vs, PT = some vs → (∀ v ∈ vs, v.dp ≤ 64) ∧ vs.length ≤ 4001 := fun vs h => by
    rw [h] at hPT
    have hf := pat_fits hPT
    exact ⟨MM.vars_dp _ _ _ _ hf.1, by have := MM.vars_len n 64 x vs hf.1; omega⟩
  rw [hPT]
  simp only [hPT] at hPt
  unfold dtv at *
  obtain ⟨LN, hLN⟩ : ∃ LN, lits.length = LN := ⟨_, rfl⟩
  rw [hLN] at hNa ⊢
  have hb1 := m_box w #[.int .i64 x.k, .int .i64 x.n, .string ⟨x.s.toArray⟩, .slice A x.is.len cA] 24
  have hL1 := Lies.made w 24 #[.int .i64 x.k, .int .i64 x.n, .string ⟨x.s.toArray⟩, .slice A x.is.len cA]
  clear hu hl hx hzx hn hll hls hdl hLN hPT
  unfold VarsN
  cases PT with
  | none =>
    clear hdp
    go_enter Tryz.func10, Tryz.ntmps10
    go_wp2_with fail
    go_region_held3 (fun w' => w'.cell? ⟨w.heap.size, 0, none⟩ = some (.int .i64 x.k) ∧ w'.cell? ⟨w.heap.size, 1, none⟩ = some (.int .i64 x.n) ∧ w'.cell? ⟨w.heap.size, 2, none⟩ = some (.string ⟨x.s.toArray⟩) ∧ w'.cell? ⟨w.heap.size, 3, none⟩ = some (.slice A x.is.len cA)) (first | go_keep | with_reducible exact kx | with_reducible exact ky)
      (first
        | (go_at_call 16
           refine (hNa.out _ (below_drewN hb1 1)).mono ?_
           rintro e w1 ⟨q, rfl, hq, hNm, hb2⟩
           have M1 := hL1.drew.below hb2 hL1.lt
           have kx : w1.cell? ⟨w.heap.size, 0, none⟩ = some (.int .i64 x.k) ∧ w1.cell? ⟨w.heap.size, 1, none⟩ = some (.int .i64 x.n) ∧ w1.cell? ⟨w.heap.size, 2, none⟩ = some (.string ⟨x.s.toArray⟩) ∧ w1.cell? ⟨w.heap.size, 3, none⟩ = some (.slice A x.is.len cA) := ⟨M1.cell 0, M1.cell 1, M1.cell 2, M1.cell 3⟩
           have bw1 := Lib.hid (hb1.trans (below_of_drew (hb2.mono hb1.size)))
           have hPt2 := Lib.hid (hPt.out _ bw1.out q hNm)
           clear hNm hb2)
        | (go_at_call 17
           refine hPt2.out.mono ?_
           intro e w3 h3
           obtain ⟨rfl, hb3⟩ := h3.none_
           have M3 := M1.below hb3 M1.lt
           have ky : w3.cell? ⟨w.heap.size, 0, none⟩ = some (.int .i64 x.k) ∧ w3.cell? ⟨w.heap.size, 1, none⟩ = some (.int .i64 x.n) ∧ w3.cell? ⟨w.heap.size, 2, none⟩ = some (.string ⟨x.s.toArray⟩) ∧ w3.cell? ⟨w.heap.size, 3, none⟩ = some (.slice A x.is.len cA) := ⟨M3.cell 0, M3.cell 1, M3.cell 2, M3.cell 3⟩
           have bw3 := Lib.hid (bw1.out.trans (hb3.mono bw1.out.size))
           clear h3 hb3))
    go_wp2_with fail
    go_loopw [22, 9] (fun v22 v9 wr => v22 = .int .i64 0 ∧ v9 = .slice none 0 0 ∧ wr = w3) (fun _ _ _ => 0)
    case atStart => exact ⟨rfl, rfl, rfl⟩
    case round =>
      obtain ⟨rfl, rfl, rfl⟩ := hrel
      go_wp2_with fail
      go_ret
      exact ⟨bw3.out, none, 0, rfl, own_none _ _ _ 2⟩
  | some vs =>
    obtain ⟨hd64, hvl⟩ := hdp vs rfl
    have hd64 := Lib.hid hd64
    clear hdp
    go_enter Tryz.func10, Tryz.ntmps10
    go_wp2_with fail
    go_region_held3 (fun w' => w'.cell? ⟨w.heap.size, 0, none⟩ = some (.int .i64 x.k) ∧ w'.cell? ⟨w.heap.size, 1, none⟩ = some (.int .i64 x.n) ∧ w'.cell? ⟨w.heap.size, 2, none⟩ = some (.string ⟨x.s.toArray⟩) ∧ w'.cell? ⟨w.heap.size, 3, none⟩ = some (.slice A x.is.len cA)) (first | go_keep | with_reducible exact kx | with_reducible exact ky)
      (first
        | (go_at_call 16
           refine (hNa.out _ (below_drewN hb1 1)).mono ?_
           rintro e w1 ⟨q, rfl, hq, hNm, hb2⟩
           have M1 := hL1.drew.below hb2 hL1.lt
           have kx : w1.cell? ⟨w.heap.size, 0, none⟩ = some (.int .i64 x.k) ∧ w1.cell? ⟨w.heap.size, 1, none⟩ = some (.int .i64 x.n) ∧ w1.cell? ⟨w.heap.size, 2, none⟩ = some (.string ⟨x.s.toArray⟩) ∧ w1.cell? ⟨w.heap.size, 3, none⟩ = some (.slice A x.is.len cA) := ⟨M1.cell 0, M1.cell 1, M1.cell 2, M1.cell 3⟩
           have bw1 := Lib.hid (hb1.trans (below_of_drew (hb2.mono hb1.size)))
           have hPt2 := Lib.hid (hPt.out _ bw1.out q hNm)
           clear hNm hb2)
        | (go_at_call 17
           refine hPt2.out.mono ?_
           intro e w3 h3
           obtain ⟨VA, vc, rfl, hO, -, hb3⟩ := h3.some_
           have M3 := M1.below hb3 M1.lt
           have ky : w3.cell? ⟨w.heap.size, 0, none⟩ = some (.int .i64 x.k) ∧ w3.cell? ⟨w.heap.size, 1, none⟩ = some (.int .i64 x.n) ∧ w3.cell? ⟨w.heap.size, 2, none⟩ = some (.string ⟨x.s.toArray⟩) ∧ w3.cell? ⟨w.heap.size, 3, none⟩ = some (.slice A x.is.len cA) := ⟨M3.cell 0, M3.cell 1, M3.cell 2, M3.cell 3⟩
           have bw3 := Lib.hid (bw1.out.trans (hb3.mono bw1.out.size))
           have hO3 := Lib.hid hO
           clear h3 hb3 hO))
    go_wp2_with fail
    obtain ⟨W3, hWe⟩ : ∃ z, z = w3 := ⟨_, rfl⟩
    subst hWe
    have hsW := bw3.out.size
    go_loopw [22, 9] (fun v22 v9 wr => ∃ (j : Nat) (A8 : Option Addr) (c8 : Nat), j ≤ vs.length ∧ v22 = .int .i64 j ∧ v9 = .slice A8 j c8 ∧ wr.ownsRow W3.heap.size 40 2 (.slice A8 j c8) j ((vs.take j).flatMap prcs) ∧ Below W3.heap.size W3 wr) (fun v22 _ _ => vs.length - (intOf v22).toNat)
    case atStart => exact ⟨0, none, 0, Nat.zero_le _, rfl, rfl, own_none _ _ _ 2, Below.refl _ _⟩
    case round =>
      obtain ⟨j, A8, c8, hj, rfl, rfl, hK, hbr⟩ := hrel
      by_cases hlt : j < vs.length
      · obtain ⟨xv, hxv⟩ : ∃ xv, vs[j]? = some xv := ⟨_, List.getElem?_eq_getElem hlt⟩
        obtain ⟨gi, ui, rfl, hgi, -, e0, e1, e2, hF⟩ := (hO3.out.below hbr).at_ hxv
        have hdx : xv.dp ≤ 64 := hd64.out xv (List.mem_of_getElem? hxv)
        obtain ⟨kf, lf, rfl, ef, hFc⟩ := hF
        have htk := Lib.hid (show (vs.take (j + 1)).flatMap prcs = (vs.take j).flatMap prcs ++ prcs xv by rw [List.take_add_one, hxv]; simp)
        have mbx := m_box wr #[.string ⟨xv.nm.toArray⟩, .int .i64 (xv.dp : Int), .func (.func kf) #[] lf] 60
        have hLx := Lies.made wr 60 #[.string ⟨xv.nm.toArray⟩, .int .i64 (xv.dp : Int), .func (.func kf) #[] lf]
        have hK' := Lib.hid (own_turns hK (Turns.of_below mbx (fun _ => False)) (fun _ _ h => h))
        have hKl := Lib.hid (World.ownsRow.lt hK)
        have hsr := hbr.size
        have hRe := Lib.hid (fun w' => Tryz.strings_Repeat ⟨#[42]⟩ xv.dp w' (by omega) (by show 1 * xv.dp ≤ _; omega))
        have hjl : j < 4002 := by omega
        clear hxv hFc hK
        go_wp2_with fail
        go_region_held3 (fun w' => w'.cell? ⟨wr.heap.size, 0, none⟩ = some (.string ⟨xv.nm.toArray⟩) ∧ w'.cell? ⟨wr.heap.size, 1, none⟩ = some (.int .i64 (xv.dp : Int))) (first | go_keep | with_reducible exact kx | with_reducible exact ky)
          (first
            | (go_at_call 23
               refine (hRe.out _).mono ?_
               rintro e w7 ⟨rfl, hb7⟩
               have M7 := hLx.drew.below hb7 hLx.lt
               have kx : w7.cell? ⟨wr.heap.size, 0, none⟩ = some (.string ⟨xv.nm.toArray⟩) ∧ w7.cell? ⟨wr.heap.size, 1, none⟩ = some (.int .i64 (xv.dp : Int)) := ⟨M7.cell 0, M7.cell 1⟩
               have hb7' := Lib.hid (mbx.trans (below_of_drew (hb7.mono mbx.size)))
               have hK7 := Lib.hid (own_turns hK'.out (Turns.of_below (below_of_drew hb7) (fun _ => False)) (fun _ _ h => h))
               clear hb7)
            | (refine step_append_row (v := .slice A8 j c8) (x := .slice (some ⟨w7.heap.size, 0, none⟩) 1 1) (.agg #[.string ⟨#[]⟩, .string ⟨#[]⟩]) 32 Tryz.infoPair rfl (by decide) rfl _ _ 35 rfl Tryz.underlying35 rfl rfl (own_turns hK7.out ((Turns.refl (fun _ => False) _).alloc _) (fun _ _ h => h)) (own_one (e := 40) (sz := 2) (B := 0) w7 #[.string ⟨xv.nm.toArray⟩, .string ⟨(Lib.repeatL [42] xv.dp).toArray⟩] rfl (Nat.zero_le _)) (by intro u hu; simp at hu; rcases hu with rfl | rfl <;> rfl) (by omega) (by omega) (by have := hb7'.out.size; simp; omega) ?_
               intro v9 w9 hown9 hg9 hat9
               have T1 := Turns.appendedS hg9
               obtain ⟨A9, c9, rfl, -⟩ := own_read hown9
               have hb9 := Lib.hid (show Below W3.heap.size W3 w9 from (((Turns.of_below (hbr.trans (hb7'.out.mono hbr.size)) (fun _ => False)).alloc _).then T1 (fun k hk hh => by have := (hKl.out _ hh).1; omega)).below (Nat.le_refl _) (fun _ h => h.elim))
               have hown9' := Lib.hid hown9
               have ML := (M7.alloc (.cells #[.string ⟨xv.nm.toArray⟩, .string ⟨(Lib.repeatL [42] xv.dp).toArray⟩] 40)).turns T1 (fun h => by have := (hKl.out _ h).2; omega)
               have ky : w9.cell? ⟨wr.heap.size, 0, none⟩ = some (.string ⟨xv.nm.toArray⟩) ∧ w9.cell? ⟨wr.heap.size, 1, none⟩ = some (.int .i64 (xv.dp : Int)) := ⟨ML.cell 0, ML.cell 1⟩
               clear hg9 hown9 hat9 T1 ML))
        go_wp2_with fail
        go_roundw
        case rel => exact ⟨j + 1, A9, c9, by omega, by go_num, rfl, by rw [htk.out]; exact hown9'.out, hb9.out⟩
        case measure => simp [intOf]; omega
      · obtain rfl : j = vs.length := by omega
        have hK' := Lib.hid hK
        clear hK
        go_wp2_with fail
        go_ret
        refine ⟨bw3.out.trans (hbr.mono bw3.out.size), A8, c8, rfl, ?_⟩
        have := hK'.out
        rw [List.take_length] at this
        exact own_base this hsW
end Go.Proofs.YtbomodendobnkaaGreat

/- A table of package env in memory. -/
namespace Go.Proofs.YtbomodendobnkaaGreat
open Go.RowKit Go.Maps

theorem Tryz.infoPlace : (Tryz.prog.info? 148).map (fun i => (i.zero, i.size, i.bytes)) = some (some (.agg #[.int .i64 0, .string ⟨#[]⟩, .int .i64 0, .int .i64 0]), 4, 40) := by kernel_rfl
def pcs (p : EM.Pl) : List Value := [.int .i64 (p.up : Int), .string p.nm, .int .i64 p.k, .int .i64 p.n]
def OwnPl (w : World) (v : Value) (l : List EM.Pl) : Prop := w.ownsRow 0 148 4 v l.length (l.flatMap pcs)
theorem OwnPl.read {w : World} {v : Value} {l : List EM.Pl} (h : OwnPl w v l) : ∃ A c, v = .slice A l.length c := by
  obtain ⟨A, c, e, _⟩ := own_read h; exact ⟨A, c, e⟩
theorem pl_at : ∀ (l : List EM.Pl) (i j : Nat) (t : EM.Pl), l[i]? = some t → j < 4 → (l.flatMap pcs)[i * 4 + j]? = (pcs t)[j]?
  | [], i, j, t, h, _ => by simp at h
  | x :: l, 0, j, t, h, hj => by
    simp at h; subst h
    rw [List.flatMap_cons, List.getElem?_append_left (by simp [pcs]; omega)]; simp
  | x :: l, i + 1, j, t, h, hj => by
    have hl : (pcs x).length = 4 := rfl
    rw [List.flatMap_cons, List.getElem?_append_right (by omega), hl, show (i + 1) * 4 + j - 4 = i * 4 + j by omega]
    exact pl_at l i j t (by simpa using h) hj
theorem OwnPl.cell {w : World} {A : Option Addr} {n c : Nat} {l : List EM.Pl} (h : OwnPl w (.slice A n c) l) {i : Nat} {t : EM.Pl} (ht : l[i]? = some t) :
    ∃ g, A = some ⟨g, 0, none⟩ ∧ g < w.heap.size ∧ w.cell? ⟨g, i * 4, none⟩ = some (.int .i64 (t.up : Int)) ∧ w.cell? ⟨g, i * 4 + 1, none⟩ = some (.string t.nm) ∧ w.cell? ⟨g, i * 4 + 2, none⟩ = some (.int .i64 t.k) ∧ w.cell? ⟨g, i * 4 + 3, none⟩ = some (.int .i64 t.n) := by
  have hi : i < l.length := (List.getElem?_eq_some_iff.1 ht).1
  obtain ⟨A', c', e, hr⟩ := own_read h
  injection e with e1 e2 e3
  subst e1
  obtain ⟨g, hg, h1, h2, h3⟩ := hr (i * 4) (by omega)
  subst hg
  have at_ : ∀ j, j < 4 → w.cell? ⟨g, i * 4 + j, none⟩ = (pcs t)[j]? := fun j hj => by
    obtain ⟨g', hg', _, _, h'⟩ := hr (i * 4 + j) (by omega)
    cases hg'
    rw [h', pl_at l i j t ht hj]
  exact ⟨g, rfl, h2, at_ 0 (by omega), at_ 1 (by omega), at_ 2 (by omega), at_ 3 (by omega)⟩

/-- The table T lies at block p, all of it in blocks of D. -/
structure Tw (w : World) (p : Nat) (D : Nat → Prop) (T : EM.Tb) : Prop where
  cells : ∃ mt v ma nt, Lies w p 65 [mt, v, ma] ∧ OwnPl w v T.P ∧ Mv encM w 0 mt nt T.tp ∧ nt ≤ T.nt ∧ Mv encB w 0 ma T.na T.A ∧ (∀ q, mt = .map (some q) → D q ∧ ma ≠ .map (some q)) ∧ (∀ q, ma = .map (some q) → D q) ∧ ∀ g, v.ownBlock = some g → D g
  self : D p
  low : ∀ g, D g → g < w.heap.size

section
variable {w w' : World} {p : Nat} {D D' X : Nat → Prop} {T : EM.Tb}
theorem Tw.turns (h : Tw w p D T) (k : Turns X w w') (hx : ∀ g, D g → ¬ X g) : Tw w' p D T := by
  obtain ⟨⟨mt, v, ma, nt, h1, h2, h3, h4, h5, h6, h7, h8⟩, h9, h10⟩ := h
  exact ⟨⟨mt, v, ma, nt, h1.turns k (hx p h9), own_turns h2 k (fun g hg => hx g (h8 g hg)), h3.turns k (fun q e => hx q (h6 q e).1), h4, h5.turns k (fun q e => hx q (h7 q e)), h6, h7, h8⟩, h9, fun g hg => Nat.lt_of_lt_of_le (h10 g hg) k.size⟩
theorem Tw.below (h : Tw w p D T) (k : Below w.heap.size w w') : Tw w' p D T := h.turns (Turns.of_below k (fun _ => False)) (fun _ _ h => h)
end
/-- a table without anything -/
def tb0 : EM.Tb := ⟨fun _ => none, 0, [], fun _ => none, 0⟩
theorem Tw.made (w : World) : Tw (w.alloc (.cells #[.map none, .slice none 0 0, .map none] 65)) w.heap.size (fun g => g = w.heap.size) tb0 := by
  have n1 : ∀ q : Nat, Value.map none ≠ .map (some q) := fun q h => by simp at h
  have n2 : ∀ g : Nat, (Value.slice none 0 0).ownBlock ≠ some g := fun g h => by simp [Value.ownBlock] at h
  exact ⟨⟨.map none, .slice none 0 0, .map none, 0, Lies.made w _ _, own_none _ 0 _ 4, .inl ⟨rfl, rfl, fun _ => rfl⟩, Nat.le_refl _, .inl ⟨rfl, rfl, fun _ => rfl⟩, fun q h => absurd h (n1 q), fun q h => absurd h (n1 q), fun g h => absurd h (n2 g)⟩, rfl, fun g hg => by subst hg; simp⟩
end Go.Proofs.YtbomodendobnkaaGreat

/- What the readers of package env give: the kind of a name, the error of a place, the nearest place that binds a name, what binds it. -/
namespace Go.Proofs.YtbomodendobnkaaGreat
open Go.ChangeShapes Go.WideShapes Go.ChangeAt Go.RowKit

theorem Tryz.zeroB (w : World) : (zeroValue 85).run Tryz.prog w = .ok (encB.V ⟨0, ByteArray.empty⟩) w := by kernel_rfl
theorem Tryz.zeroM (w : World) : (zeroValue 146).run Tryz.prog w = .ok (encM.V (0, 0)) w := by kernel_rfl

theorem kind_nil (x : ByteArray) (w : World) :
    Calls Tryz.prog 54 #[.pointer none, .string x] w fun e w' => e = .returned (.int .i64 0) ∧ w = w' := by
  go_enter Tryz.func54, Tryz.ntmps54
  go_wp2
  go_ret
  exact ⟨rfl, rfl⟩
theorem kind_any (p : Nat) (D : Nat → Prop) (T : EM.Tb) (x : ByteArray) (hx : x.size ≤ 1000000) (w : World) (h : Tw w p D T) :
    Calls Tryz.prog 54 #[.pointer (some ⟨p, 0, none⟩), .string x] w fun e w' => e = .returned (.int .i64 (EM.kd T x : Nat)) ∧ Went w w' := by
  obtain ⟨⟨mt, v, ma, nt, h1, h2, h3, h4, h5, h6, h7, h8⟩, h9, h10⟩ := h
  have c2 : w.cell? ⟨p, 2, none⟩ = some ma := h1.cell 2
  have hl := h5.look_ok Tryz.underlying63 Tryz.zeroB (b := x) (by unfold maxLen; omega)
  have hS := Lib.hid (fun w => Symbol_any x (by omega) w)
  clear h1 h2 h3 h4 h5 h6 h7 h8 h9 h10
  unfold EM.kd EM.sy
  cases hs : LM.sym x.data.toList with
  | true =>
    rw [if_pos rfl]
    go_enter Tryz.func54, Tryz.ntmps54
    go_wp2_with (go_at_call 71; refine (hS.out _).mono ?_; rw [hs]; rintro e w' ⟨rfl, rfl⟩)
    go_ret
    exact ⟨rfl, Below.refl _ _⟩
  | false =>
    rw [if_neg (by decide)]
    obtain ⟨b0, hb0⟩ : ∃ b0, (T.A x).getD ⟨0, ByteArray.empty⟩ = b0 := ⟨_, rfl⟩
    rw [hb0] at hl
    clear hb0
    cases ha : (T.A x).isSome with
    | true =>
      rw [if_pos rfl]
      rw [ha] at hl
      simp only [encB] at hl
      go_enter Tryz.func54, Tryz.ntmps54
      go_wp2_with (go_at_call 71; refine (hS.out _).mono ?_; rw [hs]; rintro e w' ⟨rfl, rfl⟩)
      go_ret
      exact ⟨rfl, (Below.refl _ _).alloc (Nat.le_refl _) _⟩
    | false =>
      rw [if_neg (by decide)]
      rw [ha] at hl
      simp only [encB] at hl
      go_enter Tryz.func54, Tryz.ntmps54
      go_wp2_with (go_at_call 71; refine (hS.out _).mono ?_; rw [hs]; rintro e w' ⟨rfl, rfl⟩)
      go_ret
      exact ⟨rfl, (Below.refl _ _).alloc (Nat.le_refl _) _⟩
end Go.Proofs.YtbomodendobnkaaGreat

/- What the readers of package env give, on: the error of a name at a place, the nearest place, what binds a name, what it means. -/
namespace Go.Proofs.YtbomodendobnkaaGreat
open Go.ChangeShapes Go.WideShapes Go.ChangeAt Go.RowKit

theorem tl_ne {a b : ByteArray} (h : ¬ a = b) : (a.toList == b.toList) = false ∧ ¬ a.toList = b.toList ∧ (a.toList != b.toList) = true := by
  have e : ∀ s : ByteArray, s.toList = s.data.toList := fun s => by rw [ByteArray.toList_eq]
  have h2 : ¬ a.data.toList = b.data.toList := fun hh => h (by cases a; cases b; congr; exact Array.toList_inj.1 hh)
  rw [e, e]
  exact ⟨by simpa using h2, h2, by simpa using h2⟩

theorem er_n : er 0 = .nilIface := rfl
theorem er_y {k : Int} (h : k ≠ 0) : er k = .iface 47 (.int .i64 k) := if_neg h
theorem check_nil (a : Int) (x : ByteArray) (w : World) :
    Calls Tryz.prog 36 #[.pointer none, .int .i64 a, .string x] w fun e w' => e = .returned (er 1) ∧ w = w' := by
  rw [er_y (by omega)]
  go_enter Tryz.func36, Tryz.ntmps36
  go_wp2
  go_ret
  exact ⟨rfl, rfl⟩
theorem check_any (p : Nat) (D : Nat → Prop) (T : EM.Tb) (a : Int) (x : ByteArray) (hx : x.size ≤ 1000000) (w : World) (h : Tw w p D T) :
    Calls Tryz.prog 36 #[.pointer (some ⟨p, 0, none⟩), .int .i64 a, .string x] w fun e w' => e = .returned (er (EM.ck T a x)) ∧ Went w w' := by
  have hK := Lib.hid (fun w h => kind_any p D T x hx w h)
  have h' := Lib.hid h
  obtain ⟨⟨mt, v, ma, nt, h1, h2, h3, h4, h5, h6, h7, h8⟩, h9, h10⟩ := h
  obtain ⟨A, c, rfl⟩ := h2.read
  have c1 : w.cell? ⟨p, 1, none⟩ = some (.slice A T.P.length c) := h1.cell 1
  clear h1 h2 h3 h4 h5 h6 h7 h8 h9 h10
  unfold EM.ck
  by_cases n1 : a < 0
  · rw [if_pos (.inl n1), er_y (by omega)]
    go_enter Tryz.func36, Tryz.ntmps36
    go_wp2
    go_ret
    exact ⟨rfl, Below.refl _ _⟩
  · by_cases n2 : (T.P.length : Int) < a
    · rw [if_pos (.inr n2), er_y (by omega)]
      go_enter Tryz.func36, Tryz.ntmps36
      go_wp2
      go_ret
      exact ⟨rfl, Below.refl _ _⟩
    · rw [if_neg (by omega)]
      obtain ⟨k, hk⟩ : ∃ k, EM.kd T x = k := ⟨_, rfl⟩
      rw [hk] at hK ⊢
      clear hk
      by_cases hz : k = 0
      · subst hz
        rw [if_pos rfl, er_y (by omega)]
        go_enter Tryz.func36, Tryz.ntmps36
        go_wp2_with (go_at_call 54; refine (hK.out _ h'.out).mono ?_; rintro e w' ⟨rfl, hb⟩)
        go_ret
        exact ⟨rfl, hb⟩
      · rw [if_neg hz, er_n]
        have hz' : ¬ (k : Int) = 0 := by omega
        go_enter Tryz.func36, Tryz.ntmps36
        go_wp2_with (go_at_call 54; refine (hK.out _ h'.out).mono ?_; rintro e w' ⟨rfl, hb⟩)
        go_ret
        exact ⟨rfl, hb⟩

theorem nearest_any (p : Nat) (D : Nat → Prop) (T : EM.Tb) (hu : EM.Ups T.P) (hlen : T.P.length ≤ 100000) (a : Nat) (ha : a ≤ T.P.length) (x : ByteArray) (w : World) (h : Tw w p D T) :
    Calls Tryz.prog 55 #[.pointer (some ⟨p, 0, none⟩), .int .i64 (a : Nat), .string x] w fun e w' => e = .returned (.int .i64 (EM.nr T.P x a : Nat)) ∧ w = w' := by
  obtain ⟨⟨mt, v, ma, nt, h1, h2, h3, h4, h5, h6, h7, h8⟩, h9, h10⟩ := h
  obtain ⟨A, c, rfl⟩ := h2.read
  have c1 : w.cell? ⟨p, 1, none⟩ = some (.slice A T.P.length c) := h1.cell 1
  clear h1 h3 h4 h5 h6 h7 h8 h9 h10
  obtain ⟨R, hR⟩ : ∃ R, EM.nr T.P x a = R := ⟨_, rfl⟩
  rw [hR]
  have hR' := Lib.hid hR
  have hu' := Lib.hid hu
  have h2' := Lib.hid h2
  obtain ⟨L, hL⟩ : ∃ L, T.P.length = L := ⟨_, rfl⟩
  rw [hL] at c1 ha hlen
  have hL' := Lib.hid hL
  clear hR hu h2 hL
  go_enter Tryz.func55, Tryz.ntmps55
  go_wp2
  go_loopw [1] (fun i wr => ∃ (m : Nat), m ≤ L ∧ i = .int .i64 m ∧ wr = w ∧ Hid (EM.nr T.P x m = R)) (fun i _ => (intOf i).toNat)
  case atStart => exact ⟨a, ha, rfl, rfl, hR'⟩
  case round =>
    obtain ⟨m, hm, rfl, rfl, H⟩ := hrel
    by_cases h0 : m = 0
    · subst h0
      obtain rfl : 0 = R := by rw [← H.out, EM.nr_zero]
      go_wp2
      go_ret
      exact ⟨rfl, rfl⟩
    · obtain ⟨j, rfl⟩ : ∃ j, m = j + 1 := ⟨m - 1, by omega⟩
      have hj : j < T.P.length := by rw [hL'.out]; omega
      obtain ⟨q, hq⟩ : ∃ q, T.P[j]? = some q := ⟨_, List.getElem?_eq_getElem hj⟩
      have hup := hu'.out j q hq
      obtain ⟨g, rfl, hg, k0, k1, k2, k3⟩ := h2'.out.cell hq
      have hst := EM.nr_step hu'.out x (a := j + 1) (p := q) (by omega) hq
      have hw1 : IntKind.i64.wrap ((j : Int) + 1 - 1) = j := by rw [IntKind.wrap_i64]; omega
      have hne0 : ¬ (j : Int) + 1 = 0 := by omega
      by_cases hn : q.nm = x
      · rw [if_pos hn, H.out] at hst
        subst hst
        rw [hn] at k1
        clear hn hq hup k0 k2 k3 hj
        rw [show ((j + 1 : Nat) : Int) = (j : Int) + 1 by omega]
        go_wp2
        go_ret
        exact ⟨rfl, rfl⟩
      · rw [if_neg hn, H.out] at hst
        have hst' := Lib.hid hst.symm
        obtain ⟨e1, e2, e3⟩ := tl_ne hn
        clear hn hq hst hj H
        rw [show ((j + 1 : Nat) : Int) = (j : Int) + 1 by omega]
        go_wp2
        go_roundw
        case rel => exact ⟨q.up, by omega, by first | rfl | trivial, by first | rfl | trivial, hst'⟩
        case measure => simp [intOf]; omega
end Go.Proofs.YtbomodendobnkaaGreat
