/- The law's own evidence: awake answers true. -/
import Derived.Test.YtbomodendobnkaaGreatQ44
import Derived.Test.YtbomodendobnkaaGreatQ22
namespace Go.Proofs.YtbomodendobnkaaGreat
open Go.ChangeShapes Go.WideShapes Go.ChangeAt Go.RowKit Go.Deep
open MM (Bl Bm Var)

theorem MatchN.some_ {l : Bl} {w w' : World} {e : Ending} (h : MatchN (some l) w e w') : ∃ A c, e = .returned (.tuple #[.slice A l.len c, .bool true]) ∧ BnD w' (fun g => w.heap.size ≤ g) (.slice A l.len c) l ∧ Went w w' := by
  obtain ⟨hb, ⟨h, -⟩ | ⟨l', A, c, h, he, hB⟩⟩ := h
  · cases h
  · cases h
    exact ⟨A, c, he, hB, hb⟩
theorem MatchN.none_ {w w' : World} {e : Ending} (h : MatchN none w e w') : e = .returned (.tuple #[.slice none 0 0, .bool false]) ∧ Went w w' := by
  obtain ⟨hb, ⟨-, h⟩ | ⟨l', A, c, h, -⟩⟩ := h
  · exact ⟨h, hb⟩
  · cases h
def dt3 : List UInt8 := [46, 46, 46]
/-- Match with a table without anything -/
theorem fmatch_any (w : World) (p : Nat) (D : Nat → Prop) (hT : Tw w p D tb0) (x y : RM.Dm) (u v lv : Value) (lits : List (List UInt8)) (dots : List UInt8)
    (hu : Cn w u x.is) (hv : Cn w v y.is) (hx : Db x) (hy : Db y) (hzx : SM.sz x.is ≤ 5000) (hzy : SM.sz y.is ≤ 5000) (hl : Sn w lv lits) (hll : lits.length ≤ 1000) (hls : ∀ x ∈ lits, x.length ≤ 100) (hdl : dots.length ≤ maxLen) :
    Calls Tryz.prog 7 #[.pointer (some ⟨p, 0, none⟩), .int .i64 0, dtv x u, .int .i64 0, dtv y v, lv, .string ⟨dots.toArray⟩] w (MatchN (mres true (MM.nms lits dots) Q0 x y) w) :=
  match_any w (some p) 0 0 x y u v lv lits dots Q0 hu hv hx hy hzx hzy hl hll (fun x h => by have := hls x h; unfold maxLen; omega) hdl (fun _ => qok_fresh w p D hT lits dots hls)
def aw_p1 : RM.Dm := ⟨6, 0, [], .cons 5 0 [97] .nil (.cons 5 0 [98] .nil (.cons 5 0 [46, 46, 46] .nil .nil))⟩
theorem aw_p1_r : RM.all ((⟨#[40, 97, 32, 98, 32, 46, 46, 46, 41]⟩ : ByteArray).size + 1) .nil (RM.start (⟨#[40, 97, 32, 98, 32, 46, 46, 46, 41]⟩ : ByteArray).data.toList) = .ok (.one aw_p1) := by kernel_rfl
theorem aw_p1_d (w : World) : Calls Tryz.prog 11 #[.string ⟨#[40, 97, 32, 98, 32, 46, 46, 46, 41]⟩] w (DatumN aw_p1 w) := datum12_any _ (by decide) _ aw_p1_r w
theorem aw_p1_b : Db aw_p1 := by refine ⟨by unfold maxLen; decide, ?_⟩; simp [BdS, aw_p1, maxLen]
def aw_d1 : RM.Dm := ⟨6, 0, [], .cons 1 1 [] .nil (.cons 1 2 [] .nil (.cons 1 3 [] .nil .nil))⟩
theorem aw_d1_r : RM.all ((⟨#[40, 49, 32, 50, 32, 51, 41]⟩ : ByteArray).size + 1) .nil (RM.start (⟨#[40, 49, 32, 50, 32, 51, 41]⟩ : ByteArray).data.toList) = .ok (.one aw_d1) := by kernel_rfl
theorem aw_d1_d (w : World) : Calls Tryz.prog 11 #[.string ⟨#[40, 49, 32, 50, 32, 51, 41]⟩] w (DatumN aw_d1 w) := datum12_any _ (by decide) _ aw_d1_r w
theorem aw_d1_b : Db aw_d1 := by refine ⟨by unfold maxLen; decide, ?_⟩; simp [BdS, aw_d1, maxLen]
def aw_p2 : RM.Dm := ⟨7, 0, [], .cons 5 0 [97] .nil (.cons 5 0 [114] .nil .nil)⟩
theorem aw_p2_r : RM.all ((⟨#[40, 97, 32, 46, 32, 114, 41]⟩ : ByteArray).size + 1) .nil (RM.start (⟨#[40, 97, 32, 46, 32, 114, 41]⟩ : ByteArray).data.toList) = .ok (.one aw_p2) := by kernel_rfl
theorem aw_p2_d (w : World) : Calls Tryz.prog 11 #[.string ⟨#[40, 97, 32, 46, 32, 114, 41]⟩] w (DatumN aw_p2 w) := datum12_any _ (by decide) _ aw_p2_r w
theorem aw_p2_b : Db aw_p2 := by refine ⟨by unfold maxLen; decide, ?_⟩; simp [BdS, aw_p2, maxLen]
def aw_p3 : RM.Dm := ⟨6, 0, [], .cons 5 0 [97] .nil (.cons 5 0 [98] .nil .nil)⟩
theorem aw_p3_r : RM.all ((⟨#[40, 97, 32, 98, 41]⟩ : ByteArray).size + 1) .nil (RM.start (⟨#[40, 97, 32, 98, 41]⟩ : ByteArray).data.toList) = .ok (.one aw_p3) := by kernel_rfl
theorem aw_p3_d (w : World) : Calls Tryz.prog 11 #[.string ⟨#[40, 97, 32, 98, 41]⟩] w (DatumN aw_p3 w) := datum12_any _ (by decide) _ aw_p3_r w
theorem aw_p3_b : Db aw_p3 := by refine ⟨by unfold maxLen; decide, ?_⟩; simp [BdS, aw_p3, maxLen]
def aw_d3 : RM.Dm := ⟨6, 0, [], .cons 1 1 [] .nil .nil⟩
theorem aw_d3_r : RM.all ((⟨#[40, 49, 41]⟩ : ByteArray).size + 1) .nil (RM.start (⟨#[40, 49, 41]⟩ : ByteArray).data.toList) = .ok (.one aw_d3) := by kernel_rfl
theorem aw_d3_d (w : World) : Calls Tryz.prog 11 #[.string ⟨#[40, 49, 41]⟩] w (DatumN aw_d3 w) := datum12_any _ (by decide) _ aw_d3_r w
theorem aw_d3_b : Db aw_d3 := by refine ⟨by unfold maxLen; decide, ?_⟩; simp [BdS, aw_d3, maxLen]
def aw_p4 : RM.Dm := ⟨6, 0, [], .cons 6 0 [] (.cons 5 0 [107] .nil (.cons 5 0 [118] .nil .nil)) (.cons 5 0 [46, 46, 46] .nil (.cons 5 0 [95] .nil .nil))⟩
theorem aw_p4_r : RM.all ((⟨#[40, 40, 107, 32, 118, 41, 32, 46, 46, 46, 32, 95, 41]⟩ : ByteArray).size + 1) .nil (RM.start (⟨#[40, 40, 107, 32, 118, 41, 32, 46, 46, 46, 32, 95, 41]⟩ : ByteArray).data.toList) = .ok (.one aw_p4) := by kernel_rfl
theorem aw_p4_d (w : World) : Calls Tryz.prog 11 #[.string ⟨#[40, 40, 107, 32, 118, 41, 32, 46, 46, 46, 32, 95, 41]⟩] w (DatumN aw_p4 w) := datum12_any _ (by decide) _ aw_p4_r w
theorem aw_p4_b : Db aw_p4 := by refine ⟨by unfold maxLen; decide, ?_⟩; simp [BdS, aw_p4, maxLen]
def aw_p5 : RM.Dm := ⟨6, 0, [], .cons 5 0 [46, 46, 46] .nil (.cons 5 0 [97] .nil .nil)⟩
theorem aw_p5_r : RM.all ((⟨#[40, 46, 46, 46, 32, 97, 41]⟩ : ByteArray).size + 1) .nil (RM.start (⟨#[40, 46, 46, 46, 32, 97, 41]⟩ : ByteArray).data.toList) = .ok (.one aw_p5) := by kernel_rfl
theorem aw_p5_d (w : World) : Calls Tryz.prog 11 #[.string ⟨#[40, 46, 46, 46, 32, 97, 41]⟩] w (DatumN aw_p5 w) := datum12_any _ (by decide) _ aw_p5_r w
theorem aw_p5_b : Db aw_p5 := by refine ⟨by unfold maxLen; decide, ?_⟩; simp [BdS, aw_p5, maxLen]
def aw_l1 : Bl := .cons [97] 0 ⟨1, 1, [], .nil⟩ .nil (.cons [98] 1 MM.d0 (.cons [98] 0 ⟨1, 2, [], .nil⟩ .nil (.cons [98] 0 ⟨1, 3, [], .nil⟩ .nil .nil)) .nil)
def aw_l2 : Bl := .cons [97] 0 ⟨1, 1, [], .nil⟩ .nil (.cons [114] 0 ⟨6, 0, [], .cons 1 2 [] .nil (.cons 1 3 [] .nil .nil)⟩ .nil .nil)
theorem aw_1 : mres true (MM.nms [] dt3) Q0 aw_p1 aw_d1 = some aw_l1 := by kernel_rfl
theorem aw_2 : mres true (MM.nms [] dt3) Q0 aw_p2 aw_d1 = some aw_l2 := by kernel_rfl
theorem aw_3 : mres true (MM.nms [] dt3) Q0 aw_p3 aw_d3 = none := by kernel_rfl
theorem aw_4 : ((MM.pat (MM.nms [] dt3) aw_p4).getD []).map (fun v => (v.nm, v.dp)) = [([107], 1), ([118], 1)] := by kernel_rfl
theorem aw_5 : (MM.pat (MM.nms [] dt3) aw_p5).isSome = false := by kernel_rfl
theorem repeat_one : Lib.repeatL [42] 1 = [42] := by decide
theorem aw_vars {w w' : World} {e : Ending} (h : VarsN ((MM.pat (MM.nms [] dt3) aw_p4).getD []) w e w') :
    ∃ g c, e = .returned (.slice (some ⟨g, 0, none⟩) 2 c) ∧ g < w'.heap.size ∧ w'.cell? ⟨g, 2, none⟩ = some (.string ⟨#[118]⟩) ∧ w'.cell? ⟨g, 3, none⟩ = some (.string ⟨#[42]⟩) ∧ Went w w' := by
  obtain ⟨hb, A, c, he, hr⟩ := h
  have h4 := aw_4
  obtain ⟨vs, hvs⟩ : ∃ vs, (MM.pat (MM.nms [] dt3) aw_p4).getD [] = vs := ⟨_, rfl⟩
  rw [hvs] at h4 he hr
  match vs, h4 with
  | [v0, v1], h4 =>
    simp only [List.map_cons, List.map_nil, List.cons.injEq, Prod.mk.injEq, and_true] at h4
    obtain ⟨⟨a1, a2⟩, a3, a4⟩ := h4
    obtain ⟨A', c', e1, hr⟩ := own_read hr
    injection e1 with e1 e2 e3
    subst e1
    obtain ⟨g, hg, -, hlt, hc2⟩ := hr 2 (by simp)
    obtain ⟨g', hg', -, -, hc3⟩ := hr 3 (by simp)
    subst hg
    cases hg'
    have k2 : ([v0, v1].flatMap prcs)[2]? = some (.string ⟨v1.nm.toArray⟩) := rfl
    have k3 : ([v0, v1].flatMap prcs)[3]? = some (.string ⟨(Lib.repeatL [42] v1.dp).toArray⟩) := rfl
    rw [a3] at k2
    rw [a4, repeat_one] at k3
    exact ⟨g, c, he, hlt, hc2.trans k2, hc3.trans k3, hb⟩
theorem Tryz.eqlPair (w : World) : (binOp .eql 40 (.agg #[.string ⟨#[118]⟩, .string ⟨#[42]⟩]) (.agg #[.string ⟨#[118]⟩, .string ⟨#[42]⟩])).run Tryz.prog w = .ok (.bool true) w := by
  have u9 := Tryz.underlying9
  have a9 := Tryz.isAgg9
  have hS : Tryz.prog.underlying 40 = some (.struct (Tryz.prog.fieldsOf 40)) := by kernel_rfl
  have hp : Tryz.prog.stoodInHeld 40 = false := by kernel_rfl
  rw [run_eql_struct, show (10000 : Nat) = 9999 + 1 from rfl, run_equalIn_agg w 9999 40 _ _ hS hp]
  simp only [Program.fieldsOf, Tryz.underlying40]
  go_simp
end Go.Proofs.YtbomodendobnkaaGreat

/- awake, walked. -/
namespace Go.Proofs.YtbomodendobnkaaGreat
open Go.ChangeShapes Go.WideShapes Go.ChangeAt Go.RowKit Go.Deep
open MM (Bl Bm Var)

set_option maxRecDepth 100000 in
set_option maxHeartbeats 8000000 in
theorem awake12_any (w : World) : Calls Tryz.prog 4 #[] w fun e w' => e = .returned (.bool true) ∧ Went w w' := by
  have hN := Lib.hid (fun w => new_any w)
  have he := Tryz.eqlPair
  have st0 : True := trivial
  go_enter Tryz.func4, Tryz.ntmps4
  go_wp2_with (first
    | (clear st0
       go_at_call 8
       refine (hN.out _).mono ?_
       rintro e w1 ⟨rfl, hw1⟩
       have hT1 : Tw w1 w.heap.size (fun g => g = w.heap.size) tb0 := hw1 ▸ Tw.made w
       have g1 : Went w w1 := hw1 ▸ m_box w _ _
       clear hw1
       have st1 : True := trivial)
    | (clear st1
       go_at_call 11
       (with_reducible refine (aw_p1_d _).mono ?_)
       rintro e w2 ⟨va, rfl, ca_2, k2⟩
       have g2 := g1.trans k2
       have hT2 := hT1.below k2
       have st2 : True := trivial)
    | (clear st2
       go_at_call 11
       (with_reducible refine (aw_d1_d _).mono ?_)
       rintro e w3 ⟨vb, rfl, cb_3, k3⟩
       have g3 := g2.trans k3
       have hT3 := hT2.below k3
       have ca_3 := ca_2.below k3
       have st3 : True := trivial)
    | (clear st3
       go_at_call 7
       have hm := fmatch_any _ _ _ hT3 aw_p1 aw_d1 _ _ _ [] dt3 ca_3 cb_3 aw_p1_b aw_d1_b (by decide) (by decide) (Sn.nil _) (by simp) (by simp) (by unfold maxLen; decide)
       rw [aw_1] at hm
       refine hm.mono ?_
       clear hm
       intro e w4 hm
       obtain ⟨A1, q1, rfl, B1_4, k4⟩ := hm.some_
       clear hm
       have g4 := g3.trans k4
       have hT4 := hT3.below k4
       have st4 : True := trivial)
    | (clear st4
       go_at_call 11
       (with_reducible refine (aw_p2_d _).mono ?_)
       rintro e w5 ⟨vc, rfl, cc_5, k5⟩
       have g5 := g4.trans k5
       have hT5 := hT4.below k5
       have B1_5 := B1_4.kp (Kp.of_below k5)
       have st5 : True := trivial)
    | (clear st5
       go_at_call 11
       (with_reducible refine (aw_d1_d _).mono ?_)
       rintro e w6 ⟨vd, rfl, cd_6, k6⟩
       have g6 := g5.trans k6
       have hT6 := hT5.below k6
       have cc_6 := cc_5.below k6
       have B1_6 := B1_5.kp (Kp.of_below k6)
       have st6 : True := trivial)
    | (clear st6
       go_at_call 7
       have hm := fmatch_any _ _ _ hT6 aw_p2 aw_d1 _ _ _ [] dt3 cc_6 cd_6 aw_p2_b aw_d1_b (by decide) (by decide) (Sn.nil _) (by simp) (by simp) (by unfold maxLen; decide)
       rw [aw_2] at hm
       refine hm.mono ?_
       clear hm
       intro e w7 hm
       obtain ⟨A2, q2, rfl, B2_7, k7⟩ := hm.some_
       clear hm
       have g7 := g6.trans k7
       have hT7 := hT6.below k7
       have B1_7 := B1_6.kp (Kp.of_below k7)
       have st7 : True := trivial)
    | (clear st7
       go_at_call 11
       (with_reducible refine (aw_p3_d _).mono ?_)
       rintro e w8 ⟨ve, rfl, ce_8, k8⟩
       have g8 := g7.trans k8
       have hT8 := hT7.below k8
       have B1_8 := B1_7.kp (Kp.of_below k8)
       have B2_8 := B2_7.kp (Kp.of_below k8)
       have st8 : True := trivial)
    | (clear st8
       go_at_call 11
       (with_reducible refine (aw_d3_d _).mono ?_)
       rintro e w9 ⟨vf, rfl, cf_9, k9⟩
       have g9 := g8.trans k9
       have hT9 := hT8.below k9
       have ce_9 := ce_8.below k9
       have B1_9 := B1_8.kp (Kp.of_below k9)
       have B2_9 := B2_8.kp (Kp.of_below k9)
       have st9 : True := trivial)
    | (clear st9
       go_at_call 7
       have hm := fmatch_any _ _ _ hT9 aw_p3 aw_d3 _ _ _ [] dt3 ce_9 cf_9 aw_p3_b aw_d3_b (by decide) (by decide) (Sn.nil _) (by simp) (by simp) (by unfold maxLen; decide)
       rw [aw_3] at hm
       refine hm.mono ?_
       clear hm
       intro e w10 hm
       obtain ⟨rfl, k10⟩ := hm.none_
       clear hm
       have g10 := g9.trans k10
       have hT10 := hT9.below k10
       have B1_10 := B1_9.kp (Kp.of_below k10)
       have B2_10 := B2_9.kp (Kp.of_below k10)
       have st10 : True := trivial)
    | (clear st10
       go_at_call 11
       (with_reducible refine (aw_p4_d _).mono ?_)
       rintro e w11 ⟨vg, rfl, cg_11, k11⟩
       have g11 := g10.trans k11
       have hT11 := hT10.below k11
       have B1_11 := B1_10.kp (Kp.of_below k11)
       have B2_11 := B2_10.kp (Kp.of_below k11)
       have st11 : True := trivial)
    | (clear st11
       go_at_call 10
       have hm := mvars_any _ aw_p4 _ _ [] dt3 cg_11 aw_p4_b (by decide) (Sn.nil _) (by simp) (by simp) (by unfold maxLen; decide)
       refine hm.mono ?_
       clear hm
       intro e w12 hm
       obtain ⟨gv, qv, rfl, gvl, v2, v3, k12⟩ := aw_vars hm
       clear hm
       have g12 := g11.trans k12
       have x1 := (B1_11.kp (Kp.of_below k12)) _ (Kp.refl _ _)
       have x2 := (B2_11.kp (Kp.of_below k12)) _ (Kp.refl _ _)
       obtain ⟨ga, oa, rfl, ga1, -, -, -, a3, -, -⟩ := x1.at_ (i := 0) (x := ⟨[97], 0, ⟨1, 1, [], .nil⟩, .nil⟩) rfl
       obtain ⟨ga', oa', ea, -, -, a8, -, -, -, I1, i1, K1, r1, -, a13, -, hK⟩ := x1.at_ (i := 1) (x := ⟨[98], 1, MM.d0, .cons [98] 0 ⟨1, 2, [], .nil⟩ .nil (.cons [98] 0 ⟨1, 3, [], .nil⟩ .nil .nil)⟩) rfl
       simp only [Option.some.injEq, Addr.mk.injEq, and_true] at ea
       obtain ⟨rfl, rfl⟩ := ea
       obtain ⟨gk, ok, rfl, gk1, -, -, -, kk, -⟩ := hK.at_ (i := 1) (x := ⟨[98], 0, ⟨1, 3, [], .nil⟩, .nil⟩) rfl
       obtain ⟨gb, ob, rfl, gb1, -, -, -, -, -, I2, i2, K2, r2, b12, -⟩ := x2.at_ (i := 1) (x := ⟨[114], 0, ⟨6, 0, [], .cons 1 2 [] .nil (.cons 1 3 [] .nil .nil)⟩, .nil⟩) rfl
       clear x1 x2 hK
       unfold aw_l1 aw_l2
       simp only [RM.Dl.len, Bl.len, Nat.zero_mul, Nat.one_mul, Nat.add_zero] at a3 a8 a13 kk b12
       have st12 : True := trivial)
    | (clear st12
       go_at_call 11
       (with_reducible refine (aw_p5_d _).mono ?_)
       rintro e w13 ⟨vz, rfl, cz, k13⟩
       have g13 := g12.trans k13
       have st13 : True := trivial)
    | (clear st13
       go_at_call 13
       have hm := mcheck_any _ aw_p5 _ _ [] dt3 cz aw_p5_b (by decide) (Sn.nil _) (by simp) (by simp) (by unfold maxLen; decide)
       rw [aw_5, if_neg (by decide)] at hm
       refine hm.mono ?_
       clear hm
       rintro e w14 ⟨rfl, k14⟩
       have g14 := g13.trans k14
       have st14 : True := trivial)
    | (clear st14
       go_at_call 12
       refine (is_same 7 _).mono ?_
       rintro e w' ⟨rfl, rfl⟩))
  go_ret
  exact ⟨rfl, g14⟩
end Go.Proofs.YtbomodendobnkaaGreat
