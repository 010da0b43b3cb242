/- Package term: Globals, walked. -/
import Derived.Test.YthbgopmpdkefkaaGreatDoorQ49
import Derived.Test.YthbgopmpdkefkaaGreatDoorQ30
import Derived.Test.YthbgopmpdkefkaaGreatDoorQ38
import Derived.Test.YthbgopmpdkefkaaGreatDoorQ50
import Derived.Test.YthbgopmpdkefkaaGreatDoorQ6
namespace Go.Proofs.YthbgopmpdkefkaaGreatDoor
open Go.ChangeShapes Go.WideShapes Go.ChangeAt Go.RowKit Go.Deep
open TM (Tl Tm)

set_option maxRecDepth 100000 in
set_option maxHeartbeats 1000000 in
theorem globals_no (t : Tm) (w : World) (vp vi vk : Value) (h : TmIn w t vp vi vk) (hB : TmBd t) (hok : TM.okt t = false) :
    Calls Tryz.prog 17 #[tmv t vp vi vk] w fun e w' => e = .returned (.slice none 0 0) ∧ Went w w' := by
  have hC := Lib.hid (fun (w' : World) (hb : Below w.heap.size w w') => tcheck_any t w' vp vi vk (h.below hb) hB)
  rw [hok] at hC
  unfold chv tmv at hC
  unfold tmv
  simp only [Bool.false_eq_true, reduceIte] at hC
  have hba : Below w.heap.size w (w.alloc (.cells #[.int .i64 t.k, .int .i64 t.n, .string ⟨t.s.toArray⟩, vp, .int .i64 t.d.k, .int .i64 t.d.n, .string ⟨t.d.s.toArray⟩, vi, vk] 28)) := (Below.refl _ w).alloc (Nat.le_refl _) _
  have hba' := Lib.hid hba
  clear h hB hok hba
  go_enter Tryz.func17, Tryz.ntmps17
  go_wp2_with (
    go_at_call 9
    refine (hC.out _ hba'.out).mono ?_
    rintro e w1 ⟨rfl, hb1⟩
    have c1 := Lib.hid (hba'.out.trans (Below.mono hb1 hba'.out.size))
    clear hb1)
  go_ret
  exact ⟨rfl, c1.out⟩
set_option maxRecDepth 100000 in
set_option maxHeartbeats 1000000 in
theorem globals_any (t : Tm) (w : World) (vp vi vk : Value) (h : TmIn w t vp vi vk) (hB : TmBd t) (hok : TM.okt t = true) :
    Calls Tryz.prog 17 #[tmv t vp vi vk] w fun e w' => ∃ v, e = .returned v ∧ OwnStr w' w.heap.size v (TM.gset t) ∧ Went w w' := by
  have hC := Lib.hid (fun (w' : World) (hb : Below w.heap.size w w') => tcheck_any t w' vp vi vk (h.below hb) hB)
  have hsz := (TM.okt_parts hok).1
  have hgl : (TM.gl1 t).length ≤ 1000000 := by
    have h1 := TM.gls_len t.ks
    unfold TM.gl1
    rw [List.length_append]
    split <;> simp <;> omega
  have hE := Lib.hid (fun (w' : World) (hb : Below w.heap.size w w') (c : Nat) (hc : w.heap.size ≤ c) (hl : Ns w c [] w') =>
    each_any (Ns w c) (fun l m => l.length + m ≤ 1000000) w TM.nmst 38 #[.pointer (some ⟨c, 0, none⟩)] (enters_of Tryz.func38 (by kernel_rfl) rfl)
      (fun _ _ _ h k => h.below k) (fun s t m _ hq => by unfold TM.nmst; split <;> (try simp) <;> omega) (glob_vis w c hc) t w' [] 0 vp vi vk vp vi vk hb h rfl rfl rfl hl (by simp; omega))
  have e1 := TM.ea1_nm t []
  unfold EachN at hE
  simp only [e1, List.nil_append] at hE
  rw [hok] at hC
  unfold chv at hC
  simp only [if_true] at hC
  unfold tmv at hC hE ⊢
  have hG : TM.gset t = Lib.compact (TM.srt (TM.gl1 t)) := rfl
  rw [hG]
  obtain ⟨G, hGe⟩ : ∃ G, TM.gl1 t = G := ⟨_, rfl⟩
  rw [hGe] at hgl hE ⊢
  have hgl' := Lib.hid hgl
  have hgl2 := Lib.hid (show (TM.srt G).length ≤ 1000000 by rw [TM.srt_len]; exact hgl)
  have hL := Lies.made w 28 #[.int .i64 t.k, .int .i64 t.n, .string ⟨t.s.toArray⟩, vp, .int .i64 t.d.k, .int .i64 t.d.n, .string ⟨t.d.s.toArray⟩, vi, vk]
  have hba : Below w.heap.size w (w.alloc (.cells #[.int .i64 t.k, .int .i64 t.n, .string ⟨t.s.toArray⟩, vp, .int .i64 t.d.k, .int .i64 t.d.n, .string ⟨t.d.s.toArray⟩, vi, vk] 28)) := (Below.refl _ w).alloc (Nat.le_refl _) _
  have hba' := Lib.hid hba
  have hL' := Lib.hid hL
  clear h hB hok hba hL hsz hgl e1 hG hGe
  go_enter Tryz.func17, Tryz.ntmps17
  go_wp2_with (first
    | (go_at_call 9
       refine (hC.out _ hba'.out).mono ?_
       rintro e w1 ⟨rfl, hb1⟩
       have c1 := Lib.hid (hba'.out.trans (Below.mono hb1 hba'.out.size))
       have hM1 := (hL'.out.below hb1 hL'.out.lt).alloc (.cells #[.slice none 0 0] 42)
       have c2 := Lib.hid (c1.out.alloc c1.out.size (.cells #[.slice none 0 0] 42))
       have hN2 := Lib.hid (show Ns w w1.heap.size [] (w1.alloc (.cells #[.slice none 0 0] 42)) from ⟨_, Lies.made w1 _ _, own_none _ _ _ _⟩)
       have hc2 := Lib.hid c1.out.size
       have z0 := hM1.cell 0
       have z1 := hM1.cell 1
       have z2 := hM1.cell 2
       have z3 := hM1.cell 3
       have z4 := hM1.cell 4
       have z5 := hM1.cell 5
       have z6 := hM1.cell 6
       have z7 := hM1.cell 7
       have z8 := hM1.cell 8
       simp only [List.getElem?_cons_succ, List.getElem?_cons_zero] at z0 z1 z2 z3 z4 z5 z6 z7 z8
       clear hb1 hM1)
    | (go_at_call 29
       refine (hE.out _ c2.out _ hc2.out hN2.out).mono ?_
       rintro e w3 ⟨rfl, ⟨v, hl3, hr3⟩, -, hb3, -⟩
       have q3 : w3.cell? ⟨w1.heap.size, 0, none⟩ = some v := hl3.cell 0
       have hl3' := Lib.hid hl3
       have hr3' := Lib.hid hr3
       have hb3' := Lib.hid hb3
       clear z0 z1 z2 z3 z4 z5 z6 z7 z8 hl3 hr3 hb3)
    | (go_at_call 39
       refine (sort_own hr3'.out hgl'.out).mono ?_
       rintro e w4 ⟨rfl, hr4, T4⟩
       have hl4 := hl3'.out.turns T4 (own_ne_lies hr3'.out hl3'.out (by decide))
       have q4 : w4.cell? ⟨w1.heap.size, 0, none⟩ = some v := hl4.cell 0
       have hb4 := Lib.hid (hb3'.out.trans (T4.below hb3'.out.size (fun g hg => (World.ownsRow.lt hr3'.out g hg).1)))
       have hr4' := Lib.hid hr4
       clear q3 hr4 T4 hl4)
    | (go_at_call 40
       refine (compact_own hr4'.out hgl2.out).mono ?_
       rintro e w5 ⟨v5, rfl, hr5, T5⟩
       have hb5 := Lib.hid (hb4.out.trans (T5.below hb4.out.size (fun g hg => (World.ownsRow.lt hr4'.out g hg).1)))
       have hr5' := Lib.hid hr5
       clear q4 hr5 T5))
  go_ret
  exact ⟨_, rfl, hr5'.out, hb5.out⟩
end Go.Proofs.YthbgopmpdkefkaaGreatDoor

/- The law TermAlphas, walked: where a term is too great, and where it is not right. -/
namespace Go.Proofs.YthbgopmpdkefkaaGreatDoor
open Go.ChangeShapes Go.WideShapes Go.ChangeAt Go.RowKit Go.Deep
open TM (Tl Tm)
set_option maxRecDepth 100000 in
set_option maxHeartbeats 4000000 in
theorem termAlphas_small (t : Tm) (w : World) (vp vi vk : Value) (h : TmIn w t vp vi vk) (hT : Tab w) (hst : TM.smt t = false) :
    Calls Tryz.prog 4 #[tmv t vp vi vk] w fun e w' => e = .returned (.bool true) ∧ Below w.heap.size w w' := by
  have hA := Lib.hid (fun (w' : World) (hb : Below w.heap.size w w') => awake10_of same_as w' (hT.on hb))
  have hS := Lib.hid (fun (w' : World) (hb : Below w.heap.size w w') => tsmall_any t w' vp vi vk (h.below hb))
  rw [hst] at hS
  unfold tmv at hS ⊢
  have hM0 := Lib.hid (Lies.made w 28 #[.int .i64 t.k, .int .i64 t.n, .string ⟨t.s.toArray⟩, vp, .int .i64 t.d.k, .int .i64 t.d.n, .string ⟨t.d.s.toArray⟩, vi, vk])
  have c0 := Lib.hid (show Below w.heap.size w (w.alloc (.cells #[.int .i64 t.k, .int .i64 t.n, .string ⟨t.s.toArray⟩, vp, .int .i64 t.d.k, .int .i64 t.d.n, .string ⟨t.d.s.toArray⟩, vi, vk] 28)) from (Below.refl _ w).alloc (Nat.le_refl _) _)
  clear h hT hst
  have st0 : True := trivial
  go_enter Tryz.func4, Tryz.ntmps4
  go_wp2_with (first
    | (clear st0
       go_at_call 7
       with_reducible refine (hA.out _ c0.out).mono ?_
       rintro e w1 ⟨rfl, hb⟩
       have hM1 := Lib.hid (hM0.out.below hb hM0.out.lt)
       have c1 := Lib.hid (c0.out.trans (Below.mono hb c0.out.size))
       have z0 := hM1.out.cell 0
       have z1 := hM1.out.cell 1
       have z2 := hM1.out.cell 2
       have z3 := hM1.out.cell 3
       have z4 := hM1.out.cell 4
       have z5 := hM1.out.cell 5
       have z6 := hM1.out.cell 6
       have z7 := hM1.out.cell 7
       have z8 := hM1.out.cell 8
       simp only [List.getElem?_cons_succ, List.getElem?_cons_zero] at z0 z1 z2 z3 z4 z5 z6 z7 z8
       clear hb 
       have st1 : True := trivial)
    | (clear st1
       go_at_call 8
       with_reducible refine (hS.out _ c1.out).mono ?_
       rintro e w2 ⟨rfl, hb⟩
       have hM2 := Lib.hid (hM1.out.below hb hM1.out.lt)
       have c2 := Lib.hid (c1.out.trans (Below.mono hb c1.out.size))
       clear hb z0 z1 z2 z3 z4 z5 z6 z7 z8
       have st2 : True := trivial)
    | (clear st2
       go_at_call 7
       with_reducible refine (hA.out _ c2.out).mono ?_
       rintro e w3 ⟨rfl, hb⟩
       have hM3 := Lib.hid (hM2.out.below hb hM2.out.lt)
       have c3 := Lib.hid (c2.out.trans (Below.mono hb c2.out.size))
       clear hb 
       have st3 : True := trivial))
  go_ret
  exact ⟨rfl, c3.out⟩
/-- no term -/
def tz : Tm := ⟨0, 0, [], [], ⟨0, 0, [], .nil⟩, .nil⟩
theorem tz_in (w : World) : TmIn w tz (.slice none 0 0) (.slice none 0 0) (.slice none 0 0) := ⟨PIn.nil w, In.nil w, TIn.nil w⟩
set_option maxRecDepth 100000 in
set_option maxHeartbeats 8000000 in
theorem termAlphas_wrong (t : Tm) (w : World) (vp vi vk : Value) (h : TmIn w t vp vi vk) (hB : TmBd t) (hT : Tab w) (hst : TM.smt t = true) (hok : TM.okt t = false) :
    Calls Tryz.prog 4 #[tmv t vp vi vk] w fun e w' => e = .returned (.bool true) ∧ Below w.heap.size w w' := by
  obtain ⟨hsd, hsz, hpl⟩ := smt_facts hst
  have hA := Lib.hid (fun (w' : World) (hb : Below w.heap.size w w') => awake10_of same_as w' (hT.on hb))
  have hS := Lib.hid (fun (w' : World) (hb : Below w.heap.size w w') => tsmall_any t w' vp vi vk (h.below hb))
  have hR := Lib.hid (fun (w' : World) (hb : Below w.heap.size w w') => tright_any t w' vp vi vk (h.below hb) hB hpl)
  have hO := Lib.hid (fun (w' : World) (hb : Below w.heap.size w w') => town_any t w' vp vi vk (h.below hb) hsd (by omega))
  have hAl := Lib.hid (fun (w' : World) (v1 v2 v3 : Value) (hi : TmIn w' t v1 v2 v3) => (alpha_any t w' v1 v2 v3 hi hB).mono (fun e w2 k => (show e = .returned (.tuple #[zerov, .iface 37 (.int .i64 7)]) ∧ Went w' w2 from ⟨k.2.1 hok, k.2.2⟩)))
  have hTx := Lib.hid (fun (w' : World) (v1 v2 v3 : Value) (hi : TmIn w' t v1 v2 v3) (ht : Tab w') => ttext_any t w' v1 v2 v3 hi hB ht)
  have hGl := Lib.hid (fun (w' : World) (v1 v2 v3 : Value) (hi : TmIn w' t v1 v2 v3) => globals_no t w' v1 v2 v3 hi hB hok)
  have hE := Lib.hid (fun (w' : World) => (equal_any tz tz w' _ _ _ _ _ _ (tz_in w') (tz_in w')).mono (fun _ _ k => BoolIff.ret k (d := true) (by simp)))
  have hSa := Lib.hid (fun (w' : World) (hb : Below w.heap.size w w') => (same_as t t w' vp vi vk vp vi vk (h.below hb) (h.below hb) hB hB).mono (fun _ _ k => BoolIff.ret k (d := false) (by rw [hok]; simp)))
  have hTab := Lib.hid (fun (w' : World) (hb : Below w.heap.size w w') => hT.on hb)
  have hI := Lib.hid (fun w' => is_same 7 w')
  rw [hst] at hS
  rw [hok] at hR
  simp only [hok, if_neg (show ¬ (false = true) by simp), chv] at hTx
  unfold tmv tz at hE
  unfold tmv at hS hR hO hAl hTx hGl hSa ⊢
  unfold zerov at hAl
  skip
  have hM0 := Lib.hid (Lies.made w 28 #[.int .i64 t.k, .int .i64 t.n, .string ⟨t.s.toArray⟩, vp, .int .i64 t.d.k, .int .i64 t.d.n, .string ⟨t.d.s.toArray⟩, vi, vk])
  have c0 := Lib.hid (show Below w.heap.size w (w.alloc (.cells #[.int .i64 t.k, .int .i64 t.n, .string ⟨t.s.toArray⟩, vp, .int .i64 t.d.k, .int .i64 t.d.n, .string ⟨t.d.s.toArray⟩, vi, vk] 28)) from (Below.refl _ w).alloc (Nat.le_refl _) _)
  clear h hB hT hst hok hsd hsz hpl
  have st0 : True := trivial
  go_enter Tryz.func4, Tryz.ntmps4
  go_upto_region 4 with (first
    | (clear st0
       go_at_call 7
       with_reducible refine (hA.out _ c0.out).mono ?_
       rintro e w1 ⟨rfl, hb⟩
       have hM1 := Lib.hid (hM0.out.below hb hM0.out.lt)
       have c1 := Lib.hid (c0.out.trans (Below.mono hb c0.out.size))
       have z0 := hM1.out.cell 0
       have z1 := hM1.out.cell 1
       have z2 := hM1.out.cell 2
       have z3 := hM1.out.cell 3
       have z4 := hM1.out.cell 4
       have z5 := hM1.out.cell 5
       have z6 := hM1.out.cell 6
       have z7 := hM1.out.cell 7
       have z8 := hM1.out.cell 8
       simp only [List.getElem?_cons_succ, List.getElem?_cons_zero] at z0 z1 z2 z3 z4 z5 z6 z7 z8
       clear hb
       have st1 : True := trivial)
    | (clear st1
       go_at_call 8
       with_reducible refine (hS.out _ c1.out).mono ?_
       rintro e w2 ⟨rfl, hb⟩
       have hM2 := Lib.hid (hM1.out.below hb hM1.out.lt)
       have c2 := Lib.hid (c1.out.trans (Below.mono hb c1.out.size))
       clear z0 z1 z2 z3 z4 z5 z6 z7 z8
       have z0 := hM2.out.cell 0
       have z1 := hM2.out.cell 1
       have z2 := hM2.out.cell 2
       have z3 := hM2.out.cell 3
       have z4 := hM2.out.cell 4
       have z5 := hM2.out.cell 5
       have z6 := hM2.out.cell 6
       have z7 := hM2.out.cell 7
       have z8 := hM2.out.cell 8
       simp only [List.getElem?_cons_succ, List.getElem?_cons_zero] at z0 z1 z2 z3 z4 z5 z6 z7 z8
       clear hb hM1 c1
       have st2 : True := trivial)
    | (clear st2
       go_at_call 10
       refine (hO.out _ c2.out).mono ?_
       rintro e w3 ⟨v1, v2, v3, rfl, hn, hb⟩
       have hv := Lib.hid hn.tmin
       clear hn
       have hM3 := Lib.hid (hM2.out.below hb hM2.out.lt)
       have c3 := Lib.hid (c2.out.trans (Below.mono hb c2.out.size))
       clear z0 z1 z2 z3 z4 z5 z6 z7 z8
       clear hb hM2 c2
       have st3 : True := trivial)
    | (clear st3
       go_at_call 15
       refine (hAl.out _ _ _ _ hv.out).mono ?_
       rintro e w4 ⟨rfl, hb⟩
       have hM4 := Lib.hid (hM3.out.below hb hM3.out.lt)
       have c4 := Lib.hid (c3.out.trans (Below.mono hb c3.out.size))
       clear hv
       clear hb hM3 c3
       have st4 : True := trivial))
  have hlx := Lies.made w4 28 #[.int .i64 0, .int .i64 0, .string ⟨#[]⟩, .slice none 0 0, .int .i64 0, .int .i64 0, .string ⟨#[]⟩, .slice none 0 0, .slice none 0 0]
  have hbx : Below w4.heap.size w4 (w4.alloc (.cells #[.int .i64 0, .int .i64 0, .string ⟨#[]⟩, .slice none 0 0, .int .i64 0, .int .i64 0, .string ⟨#[]⟩, .slice none 0 0, .slice none 0 0] 28)) := (Below.refl _ w4).alloc (Nat.le_refl _) _
  obtain ⟨w5, hwx⟩ : ∃ W, w4.alloc (.cells #[.int .i64 0, .int .i64 0, .string ⟨#[]⟩, .slice none 0 0, .int .i64 0, .int .i64 0, .string ⟨#[]⟩, .slice none 0 0, .slice none 0 0] 28) = W := ⟨_, rfl⟩
  rw [hwx] at hlx hbx ⊢
  have hM5 := Lib.hid (hM4.out.below hbx hM4.out.lt)
  have c5 := Lib.hid (c4.out.trans (Below.mono hbx c4.out.size))
  have hK5 := Lib.hid hlx
  clear hwx hlx hbx hM4 c4
  obtain ⟨g3, hgx⟩ : ∃ g, w4.heap.size = g := ⟨_, rfl⟩
  rw [hgx] at hK5 ⊢
  clear hgx
  have z0 := hM5.out.cell 0
  have z1 := hM5.out.cell 1
  have z2 := hM5.out.cell 2
  have z3 := hM5.out.cell 3
  have z4 := hM5.out.cell 4
  have z5 := hM5.out.cell 5
  have z6 := hM5.out.cell 6
  have z7 := hM5.out.cell 7
  have z8 := hM5.out.cell 8
  simp only [List.getElem?_cons_succ, List.getElem?_cons_zero] at z0 z1 z2 z3 z4 z5 z6 z7 z8
  have st0 : True := trivial
  go_wp2_with (first
    | (go_at_call 14
       refine (hI.out _).mono ?_
       rintro e w' ⟨rfl, rfl⟩)
    | (clear st0
       go_at_call 10
       refine (hO.out _ c5.out).mono ?_
       rintro e w6 ⟨v1, v2, v3, rfl, hn, hb⟩
       have hv := Lib.hid hn.tmin
       clear hn
       have hM6 := Lib.hid (hM5.out.below hb hM5.out.lt)
       have hK6 := Lib.hid (hK5.out.below hb hK5.out.lt)
       have c6 := Lib.hid (c5.out.trans (Below.mono hb c5.out.size))
       clear z0 z1 z2 z3 z4 z5 z6 z7 z8
       clear hb hM5 hK5 c5
       have st1 : True := trivial)
    | (clear st1
       go_at_call 16
       refine (hTx.out _ _ _ _ hv.out (hTab.out _ c6.out)).mono ?_
       rintro e w7 ⟨rfl, hb⟩
       have hM7 := Lib.hid (hM6.out.below hb hM6.out.lt)
       have hK7 := Lib.hid (hK6.out.below hb hK6.out.lt)
       have c7 := Lib.hid (c6.out.trans (Below.mono hb c6.out.size))
       clear hv
       have z0 := hM7.out.cell 0
       have z1 := hM7.out.cell 1
       have z2 := hM7.out.cell 2
       have z3 := hM7.out.cell 3
       have z4 := hM7.out.cell 4
       have z5 := hM7.out.cell 5
       have z6 := hM7.out.cell 6
       have z7 := hM7.out.cell 7
       have z8 := hM7.out.cell 8
       simp only [List.getElem?_cons_succ, List.getElem?_cons_zero] at z0 z1 z2 z3 z4 z5 z6 z7 z8
       clear hb hM6 hK6 c6
       have st2 : True := trivial)
    | (clear st2
       go_at_call 10
       refine (hO.out _ c7.out).mono ?_
       rintro e w8 ⟨v1, v2, v3, rfl, hn, hb⟩
       have hv := Lib.hid hn.tmin
       clear hn
       have hM8 := Lib.hid (hM7.out.below hb hM7.out.lt)
       have hK8 := Lib.hid (hK7.out.below hb hK7.out.lt)
       have c8 := Lib.hid (c7.out.trans (Below.mono hb c7.out.size))
       clear z0 z1 z2 z3 z4 z5 z6 z7 z8
       clear hb hM7 hK7 c7
       have st3 : True := trivial)
    | (clear st3
       go_at_call 17
       refine (hGl.out _ _ _ _ hv.out).mono ?_
       rintro e w9 ⟨rfl, hb⟩
       have hM9 := Lib.hid (hM8.out.below hb hM8.out.lt)
       have hK9 := Lib.hid (hK8.out.below hb hK8.out.lt)
       have c9 := Lib.hid (c8.out.trans (Below.mono hb c8.out.size))
       clear hv
       have z0 := hM9.out.cell 0
       have z1 := hM9.out.cell 1
       have z2 := hM9.out.cell 2
       have z3 := hM9.out.cell 3
       have z4 := hM9.out.cell 4
       have z5 := hM9.out.cell 5
       have z6 := hM9.out.cell 6
       have z7 := hM9.out.cell 7
       have z8 := hM9.out.cell 8
       simp only [List.getElem?_cons_succ, List.getElem?_cons_zero] at z0 z1 z2 z3 z4 z5 z6 z7 z8
       clear hb hM8 hK8 c8
       have st4 : True := trivial)
    | (clear st4
       go_at_call 13
       refine (hR.out _ c9.out).mono ?_
       rintro e w10 ⟨rfl, hb⟩
       have hM10 := Lib.hid (hM9.out.below hb hM9.out.lt)
       have hK10 := Lib.hid (hK9.out.below hb hK9.out.lt)
       have c10 := Lib.hid (c9.out.trans (Below.mono hb c9.out.size))
       clear z0 z1 z2 z3 z4 z5 z6 z7 z8
       have y0 := hK10.out.cell 0
       have y1 := hK10.out.cell 1
       have y2 := hK10.out.cell 2
       have y3 := hK10.out.cell 3
       have y4 := hK10.out.cell 4
       have y5 := hK10.out.cell 5
       have y6 := hK10.out.cell 6
       have y7 := hK10.out.cell 7
       have y8 := hK10.out.cell 8
       simp only [List.getElem?_cons_succ, List.getElem?_cons_zero] at y0 y1 y2 y3 y4 y5 y6 y7 y8
       clear hb hM9 hK9 c9
       have st5 : True := trivial)
    | (clear st5
       go_at_call 18
       refine (hE.out _).mono ?_
       rintro e w11 ⟨rfl, hb⟩
       have hM11 := Lib.hid (hM10.out.below hb hM10.out.lt)
       have hK11 := Lib.hid (hK10.out.below hb hK10.out.lt)
       have c11 := Lib.hid (c10.out.trans (Below.mono hb c10.out.size))
       clear y0 y1 y2 y3 y4 y5 y6 y7 y8
       have z0 := hM11.out.cell 0
       have z1 := hM11.out.cell 1
       have z2 := hM11.out.cell 2
       have z3 := hM11.out.cell 3
       have z4 := hM11.out.cell 4
       have z5 := hM11.out.cell 5
       have z6 := hM11.out.cell 6
       have z7 := hM11.out.cell 7
       have z8 := hM11.out.cell 8
       simp only [List.getElem?_cons_succ, List.getElem?_cons_zero] at z0 z1 z2 z3 z4 z5 z6 z7 z8
       clear hb hM10 hK10 c10
       have st6 : True := trivial)
    | (clear st6
       go_at_call 19
       refine (hSa.out _ c11.out).mono ?_
       rintro e w12 ⟨rfl, hb⟩
       have hM12 := Lib.hid (hM11.out.below hb hM11.out.lt)
       have hK12 := Lib.hid (hK11.out.below hb hK11.out.lt)
       have c12 := Lib.hid (c11.out.trans (Below.mono hb c11.out.size))
       clear z0 z1 z2 z3 z4 z5 z6 z7 z8
       clear hb hM11 hK11 c11
       have st7 : True := trivial))
  go_ret
  exact ⟨rfl, c12.out⟩
end Go.Proofs.YthbgopmpdkefkaaGreatDoor

namespace Go.Proofs.YthbgopmpdkefkaaGreatDoor
open Go.ChangeShapes Go.WideShapes Go.ChangeAt Go.RowKit Go.Deep
open TM (Tl Tm)
theorem bytes_eq {l : List UInt8} {T : ByteArray} (h : T.data.toList = l) : (⟨l.toArray⟩ : ByteArray) = T := by
  cases T
  subst h
  simp
set_option maxRecDepth 100000 in
theorem rText_any (t : Tm) (w : World) (vp vi vk : Value) (h : TmIn w t vp vi vk) (hB : TmBd t) (hsd : TM.sd1 t = true) (hsz : TM.sz t.ks ≤ 5000) (hpl : (t.ps ++ TM.prs t.ks).length ≤ 1000000) (hok : TM.okt t = true) :
    Calls Tryz.prog 22 #[tmv t vp vi vk] w fun e w' => e = .returned (.string ⟨(TM.ttx (TM.alpha t)).toArray⟩) ∧ Went w w' := by
  obtain ⟨-, -, -, h4, -, -, -⟩ := TM.okt_parts hok
  have h4' := h4
  unfold TM.ok1 at h4'
  rw [Bool.and_eq_true] at h4'
  have hw1 : TM.Rw1 (TM.alpha t) := TM.nm1_rw h4'.1 hB.n hpl
  have hwf : TM.Rwf (TM.alpha t).ks := TM.nmt_rw hpl h4'.2 hB.ks
  have haz : TM.sz (TM.alpha t).ks ≤ 5000 := by
    show TM.sz (TM.nmt _ t.ks) ≤ 5000
    rw [TM.nmt_sz]; omega
  have hAt := Lib.hid (fun (w' : World) (hb : Below w.heap.size w w') => ralpha_any t w' vp vi vk (h.below hb) hsd hsz hpl)
  have hRx := Lib.hid (fun (w' : World) (v1 v2 v3 : Value) (hi : TmIn w' (TM.alpha t) v1 v2 v3) => rtx_any (TM.alpha t) w' v1 v2 v3 hi hw1 hwf haz)
  unfold StrN at hRx
  obtain ⟨X, hX⟩ : ∃ X, TM.ttx (TM.alpha t) = X := ⟨_, rfl⟩
  rw [hX] at hRx ⊢
  obtain ⟨a, ha⟩ : ∃ a, TM.alpha t = a := ⟨_, rfl⟩
  rw [ha] at hAt hRx
  unfold tmv at hAt hRx ⊢
  have c0 : Below w.heap.size w (w.alloc (.cells #[.int .i64 t.k, .int .i64 t.n, .string ⟨t.s.toArray⟩, vp, .int .i64 t.d.k, .int .i64 t.d.n, .string ⟨t.d.s.toArray⟩, vi, vk] 28)) := (Below.refl _ w).alloc (Nat.le_refl _) _
  clear h hB hsd hsz hpl hok h4 h4' hw1 hwf haz hX ha
  go_enter Tryz.func22, Tryz.ntmps22
  go_wp2_with (first
    | (go_at_call 21
       refine (hAt.out _ c0).mono ?_
       rintro e w1 ⟨v1, v2, v3, rfl, hi, hb⟩
       obtain ⟨P9, p9, rfl⟩ := hi.p.read
       obtain ⟨I9, q9, rfl⟩ := hi.d.read
       obtain ⟨K9, r9, rfl⟩ := hi.k.read
       have hi' := Lib.hid hi
       have c1 := Lib.hid (c0.trans (Below.mono hb c0.size))
       clear hi hb)
    | (go_at_call 44
       refine (hRx.out _ _ _ _ hi'.out).mono ?_
       rintro e w2 ⟨⟨T, rfl, hT⟩, hb2⟩
       have hT' := Lib.hid hT
       clear hT))
  go_ret
  exact ⟨by rw [bytes_eq hT'.out]; rfl, c1.out.trans (Below.mono hb2 c1.out.size)⟩
/-- what lies there in the last region: the two boxes, and the term in one of them -/
structure Fa (w : World) (t a : Tm) (vp vi vk p8 i8 k8 : Value) (g8 : Nat) (w' : World) : Prop where
  bl : Below w.heap.size w w'
  lt : Lies w' w.heap.size 28 (tcells t vp vi vk)
  l8 : Lies w' g8 28 (tcells a p8 i8 k8)
  i8 : TmIn w' a p8 i8 k8
theorem Fa.below {w : World} {t a : Tm} {vp vi vk p8 i8 k8 : Value} {g8 : Nat} {w' w2 : World} (h : Fa w t a vp vi vk p8 i8 k8 g8 w') (k : Below w'.heap.size w' w2) : Fa w t a vp vi vk p8 i8 k8 g8 w2 :=
  ⟨h.bl.trans (Below.mono k h.bl.size), h.lt.below k h.lt.lt, h.l8.below k h.l8.lt, h.i8.below k⟩
theorem Fa.drew {w : World} {t a : Tm} {vp vi vk p8 i8 k8 : Value} {g8 : Nat} {w' : World} (h : Fa w t a vp vi vk p8 i8 k8 g8 w') : Fa w t a vp vi vk p8 i8 k8 g8 w'.drew := h.below (below_of_drew (w := w') (w' := w'.drew) (Below.refl _ _))
set_option maxRecDepth 100000 in
set_option maxHeartbeats 8000000 in
theorem termAlphas_yes (t : Tm) (w : World) (vp vi vk : Value) (h : TmIn w t vp vi vk) (hB : TmBd t) (hT : Tab w) (hst : TM.smt t = true) (hok : TM.okt t = true) :
    Calls Tryz.prog 4 #[tmv t vp vi vk] w fun e w' => e = .returned (.bool true) ∧ Below w.heap.size w w' := by
  obtain ⟨hsd, hsz, hpl⟩ := smt_facts hst
  have hA := Lib.hid (fun (w' : World) (hb : Below w.heap.size w w') => awake10_of same_as w' (hT.on hb))
  have hS := Lib.hid (fun (w' : World) (hb : Below w.heap.size w w') => tsmall_any t w' vp vi vk (h.below hb))
  have hR := Lib.hid (fun (w' : World) (hb : Below w.heap.size w w') => tright_any t w' vp vi vk (h.below hb) hB hpl)
  have hO := Lib.hid (fun (w' : World) (hb : Below w.heap.size w w') => town_any t w' vp vi vk (h.below hb) hsd (by omega))
  have hAl := Lib.hid (fun (w' : World) (v1 v2 v3 : Value) (hi : TmIn w' t v1 v2 v3) => alpha_ok hi hB hok)
  have hTx := Lib.hid (fun (w' : World) (v1 v2 v3 : Value) (hi : TmIn w' t v1 v2 v3) (ht : Tab w') => ttext_any t w' v1 v2 v3 hi hB ht)
  have hGl := Lib.hid (fun (w' : World) (v1 v2 v3 : Value) (hi : TmIn w' t v1 v2 v3) => globals_any t w' v1 v2 v3 hi hB hok)
  have hGr := Lib.hid (fun (w' : World) (hb : Below w.heap.size w w') => rglobals_any t w' vp vi vk (h.below hb) (by omega))
  have hAt := Lib.hid (fun (w' : World) (hb : Below w.heap.size w w') => ralpha_any t w' vp vi vk (h.below hb) hsd (by omega) hpl)
  have hRt := Lib.hid (fun (w' : World) (hb : Below w.heap.size w w') => rText_any t w' vp vi vk (h.below hb) hB hsd (by omega) hpl hok)
  have hE := Lib.hid (fun (w' : World) (a1 a2 a3 b1 b2 b3 : Value) (hi : TmIn w' (TM.alpha t) a1 a2 a3) (hj : TmIn w' (TM.alpha t) b1 b2 b3) => (equal_any _ _ w' a1 a2 a3 b1 b2 b3 hi hj).mono (fun _ _ k => BoolIff.ret k (d := true) (by simp)))
  have hTab := Lib.hid (fun (w' : World) (hb : Below w.heap.size w w') => hT.on hb)
  rw [hst] at hS
  rw [hok] at hR
  simp only [hok, if_true, chv] at hTx
  obtain ⟨TX, hTX⟩ : ∃ T : ByteArray, (⟨(TM.ttx (TM.alpha t)).toArray⟩ : ByteArray) = T := ⟨_, rfl⟩
  obtain ⟨a, ha⟩ : ∃ a, TM.alpha t = a := ⟨_, rfl⟩
  rw [hTX] at hTx hRt
  rw [ha] at hAl hAt hE
  obtain ⟨gl, hgl⟩ : ∃ g, TM.gset t = g := ⟨_, rfl⟩
  rw [hgl] at hGl hGr
  obtain ⟨N, hN⟩ : ∃ N, gl.length = N := ⟨_, rfl⟩
  have hN' := Lib.hid hN
  have hNs : N ≤ 5001 := by
    rw [← hN, ← hgl]
    have := TM.gset_len t
    omega
  unfold tmv at hS hR hO hAl hTx hGl hGr hAt hRt hE ⊢
  have hM0 := Lib.hid (Lies.made w 28 #[.int .i64 t.k, .int .i64 t.n, .string ⟨t.s.toArray⟩, vp, .int .i64 t.d.k, .int .i64 t.d.n, .string ⟨t.d.s.toArray⟩, vi, vk])
  have c0 := Lib.hid (show Below w.heap.size w (w.alloc (.cells #[.int .i64 t.k, .int .i64 t.n, .string ⟨t.s.toArray⟩, vp, .int .i64 t.d.k, .int .i64 t.d.n, .string ⟨t.d.s.toArray⟩, vi, vk] 28)) from (Below.refl _ w).alloc (Nat.le_refl _) _)
  clear h hB hT hst hok hsd hsz hpl hTX ha hgl hN
  have st0 : True := trivial
  go_enter Tryz.func4, Tryz.ntmps4
  go_upto_region 4 with (first
    | (clear st0
       go_at_call 7
       with_reducible refine (hA.out _ c0.out).mono ?_
       rintro e w1 ⟨rfl, hb⟩
       have hM1 := Lib.hid (hM0.out.below hb hM0.out.lt)
       have c1 := Lib.hid (c0.out.trans (Below.mono hb c0.out.size))
       have z0 := hM1.out.cell 0
       have z1 := hM1.out.cell 1
       have z2 := hM1.out.cell 2
       have z3 := hM1.out.cell 3
       have z4 := hM1.out.cell 4
       have z5 := hM1.out.cell 5
       have z6 := hM1.out.cell 6
       have z7 := hM1.out.cell 7
       have z8 := hM1.out.cell 8
       simp only [List.getElem?_cons_succ, List.getElem?_cons_zero] at z0 z1 z2 z3 z4 z5 z6 z7 z8
       clear hb
       have st1 : True := trivial)
    | (clear st1
       go_at_call 8
       with_reducible refine (hS.out _ c1.out).mono ?_
       rintro e w2 ⟨rfl, hb⟩
       have hM2 := Lib.hid (hM1.out.below hb hM1.out.lt)
       have c2 := Lib.hid (c1.out.trans (Below.mono hb c1.out.size))
       clear z0 z1 z2 z3 z4 z5 z6 z7 z8
       have z0 := hM2.out.cell 0
       have z1 := hM2.out.cell 1
       have z2 := hM2.out.cell 2
       have z3 := hM2.out.cell 3
       have z4 := hM2.out.cell 4
       have z5 := hM2.out.cell 5
       have z6 := hM2.out.cell 6
       have z7 := hM2.out.cell 7
       have z8 := hM2.out.cell 8
       simp only [List.getElem?_cons_succ, List.getElem?_cons_zero] at z0 z1 z2 z3 z4 z5 z6 z7 z8
       clear hb hM1 c1
       have st2 : True := trivial)
    | (clear st2
       go_at_call 10
       refine (hO.out _ c2.out).mono ?_
       rintro e w3 ⟨v1, v2, v3, rfl, hn, hb⟩
       have hv := Lib.hid hn.tmin
       clear hn
       have hM3 := Lib.hid (hM2.out.below hb hM2.out.lt)
       have c3 := Lib.hid (c2.out.trans (Below.mono hb c2.out.size))
       clear z0 z1 z2 z3 z4 z5 z6 z7 z8
       clear hb hM2 c2
       have st3 : True := trivial)
    | (clear st3
       go_at_call 15
       refine (hAl.out _ _ _ _ hv.out).mono ?_
       rintro e w4 ⟨v7, v8, v9, rfl, hi, hb⟩
       obtain ⟨P9, p9, rfl⟩ := hi.p.read
       obtain ⟨I9, q9, rfl⟩ := hi.d.read
       obtain ⟨K9, r9, rfl⟩ := hi.k.read
       have hi4 := Lib.hid hi
       clear hi
       have hM4 := Lib.hid (hM3.out.below hb hM3.out.lt)
       have c4 := Lib.hid (c3.out.trans (Below.mono hb c3.out.size))
       clear hv
       clear hb hM3 c3
       have st4 : True := trivial))
  have hi5' := Lib.hid (hi4.out.below ((Below.refl _ w4).alloc (Nat.le_refl _) (.cells #[.int .i64 a.k, .int .i64 a.n, .string ⟨a.s.toArray⟩, .slice P9 a.ps.length p9, .int .i64 a.d.k, .int .i64 a.d.n, .string ⟨a.d.s.toArray⟩, .slice I9 a.d.is.len q9, .slice K9 a.ks.len r9] 28)))
  clear hi4
  have hlx := Lies.made w4 28 #[.int .i64 a.k, .int .i64 a.n, .string ⟨a.s.toArray⟩, .slice P9 a.ps.length p9, .int .i64 a.d.k, .int .i64 a.d.n, .string ⟨a.d.s.toArray⟩, .slice I9 a.d.is.len q9, .slice K9 a.ks.len r9]
  have hbx : Below w4.heap.size w4 (w4.alloc (.cells #[.int .i64 a.k, .int .i64 a.n, .string ⟨a.s.toArray⟩, .slice P9 a.ps.length p9, .int .i64 a.d.k, .int .i64 a.d.n, .string ⟨a.d.s.toArray⟩, .slice I9 a.d.is.len q9, .slice K9 a.ks.len r9] 28)) := (Below.refl _ w4).alloc (Nat.le_refl _) _
  obtain ⟨w5, hwx⟩ : ∃ W, w4.alloc (.cells #[.int .i64 a.k, .int .i64 a.n, .string ⟨a.s.toArray⟩, .slice P9 a.ps.length p9, .int .i64 a.d.k, .int .i64 a.d.n, .string ⟨a.d.s.toArray⟩, .slice I9 a.d.is.len q9, .slice K9 a.ks.len r9] 28) = W := ⟨_, rfl⟩
  rw [hwx] at hlx hbx hi5' ⊢
  have hM5 := Lib.hid (hM4.out.below hbx hM4.out.lt)
  have c5 := Lib.hid (c4.out.trans (Below.mono hbx c4.out.size))
  have hK5 := Lib.hid hlx
  clear hwx hlx hbx hM4 c4
  obtain ⟨g3, hgx⟩ : ∃ g, w4.heap.size = g := ⟨_, rfl⟩
  rw [hgx] at hK5 ⊢
  clear hgx
  have hi5 := hi5'
  clear hi5'
  have z0 := hM5.out.cell 0
  have z1 := hM5.out.cell 1
  have z2 := hM5.out.cell 2
  have z3 := hM5.out.cell 3
  have z4 := hM5.out.cell 4
  have z5 := hM5.out.cell 5
  have z6 := hM5.out.cell 6
  have z7 := hM5.out.cell 7
  have z8 := hM5.out.cell 8
  simp only [List.getElem?_cons_succ, List.getElem?_cons_zero] at z0 z1 z2 z3 z4 z5 z6 z7 z8
  have st0 : True := trivial
  go_upto_region 9 with (first
    | (clear st0
       go_at_call 10
       refine (hO.out _ c5.out).mono ?_
       rintro e w6 ⟨v1, v2, v3, rfl, hn, hb⟩
       have hv := Lib.hid hn.tmin
       clear hn
       have hi6 := Lib.hid (hi5.out.below hb)
       clear hi5
       have hM6 := Lib.hid (hM5.out.below hb hM5.out.lt)
       have hK6 := Lib.hid (hK5.out.below hb hK5.out.lt)
       have c6 := Lib.hid (c5.out.trans (Below.mono hb c5.out.size))
       clear z0 z1 z2 z3 z4 z5 z6 z7 z8
       clear hb hM5 hK5 c5
       have st1 : True := trivial)
    | (clear st1
       go_at_call 16
       refine (hTx.out _ _ _ _ hv.out (hTab.out _ c6.out)).mono ?_
       rintro e w7 ⟨rfl, hb⟩
       have hi7 := Lib.hid (hi6.out.below hb)
       clear hi6
       have hM7 := Lib.hid (hM6.out.below hb hM6.out.lt)
       have hK7 := Lib.hid (hK6.out.below hb hK6.out.lt)
       have c7 := Lib.hid (c6.out.trans (Below.mono hb c6.out.size))
       clear hv
       have z0 := hM7.out.cell 0
       have z1 := hM7.out.cell 1
       have z2 := hM7.out.cell 2
       have z3 := hM7.out.cell 3
       have z4 := hM7.out.cell 4
       have z5 := hM7.out.cell 5
       have z6 := hM7.out.cell 6
       have z7 := hM7.out.cell 7
       have z8 := hM7.out.cell 8
       simp only [List.getElem?_cons_succ, List.getElem?_cons_zero] at z0 z1 z2 z3 z4 z5 z6 z7 z8
       clear hb hM6 hK6 c6
       have st2 : True := trivial)
    | (clear st2
       go_at_call 10
       refine (hO.out _ c7.out).mono ?_
       rintro e w8 ⟨v1, v2, v3, rfl, hn, hb⟩
       have hv := Lib.hid hn.tmin
       clear hn
       have hi8 := Lib.hid (hi7.out.below hb)
       clear hi7
       have hM8 := Lib.hid (hM7.out.below hb hM7.out.lt)
       have hK8 := Lib.hid (hK7.out.below hb hK7.out.lt)
       have c8 := Lib.hid (c7.out.trans (Below.mono hb c7.out.size))
       clear z0 z1 z2 z3 z4 z5 z6 z7 z8
       clear hb hM7 hK7 c7
       have st3 : True := trivial)
    | (clear st3
       go_at_call 17
       refine (hGl.out _ _ _ _ hv.out).mono ?_
       rintro e w9 ⟨vl, rfl, hr, hb⟩
       have hi9 := Lib.hid (hi8.out.below hb)
       clear hi8
       obtain ⟨A7, c7x, rfl, -⟩ := own_read hr
       have hr9 := Lib.hid (show OwnStr w9 0 (.slice A7 gl.length c7x) gl from own_base hr (Nat.zero_le _))
       clear hr
       have hM9 := Lib.hid (hM8.out.below hb hM8.out.lt)
       have hK9 := Lib.hid (hK8.out.below hb hK8.out.lt)
       have c9 := Lib.hid (c8.out.trans (Below.mono hb c8.out.size))
       clear hv
       have z0 := hM9.out.cell 0
       have z1 := hM9.out.cell 1
       have z2 := hM9.out.cell 2
       have z3 := hM9.out.cell 3
       have z4 := hM9.out.cell 4
       have z5 := hM9.out.cell 5
       have z6 := hM9.out.cell 6
       have z7 := hM9.out.cell 7
       have z8 := hM9.out.cell 8
       simp only [List.getElem?_cons_succ, List.getElem?_cons_zero] at z0 z1 z2 z3 z4 z5 z6 z7 z8
       clear hb hM8 hK8 c8
       have st4 : True := trivial)
    | (clear st4
       go_at_call 13
       refine (hR.out _ c9.out).mono ?_
       rintro e w10 ⟨rfl, hb⟩
       have hi10 := Lib.hid (hi9.out.below hb)
       clear hi9
       have hr10 := Lib.hid (show OwnStr w10 0 (.slice A7 gl.length c7x) gl from own_below hr9.out hb)
       clear hr9
       have hM10 := Lib.hid (hM9.out.below hb hM9.out.lt)
       have hK10 := Lib.hid (hK9.out.below hb hK9.out.lt)
       have c10 := Lib.hid (c9.out.trans (Below.mono hb c9.out.size))
       clear z0 z1 z2 z3 z4 z5 z6 z7 z8
       have z0 := hM10.out.cell 0
       have z1 := hM10.out.cell 1
       have z2 := hM10.out.cell 2
       have z3 := hM10.out.cell 3
       have z4 := hM10.out.cell 4
       have z5 := hM10.out.cell 5
       have z6 := hM10.out.cell 6
       have z7 := hM10.out.cell 7
       have z8 := hM10.out.cell 8
       simp only [List.getElem?_cons_succ, List.getElem?_cons_zero] at z0 z1 z2 z3 z4 z5 z6 z7 z8
       clear hb hM9 hK9 c9
       have st5 : True := trivial)
    | (clear st5
       go_at_call 20
       refine (hGr.out _ c10.out).mono ?_
       rintro e w11 ⟨vm, rfl, hs, hb⟩
       have hi11 := Lib.hid (hi10.out.below hb)
       clear hi10
       obtain ⟨A8, c8x, rfl, -⟩ := own_read hs
       have hs11 := Lib.hid (show OwnStr w11 0 (.slice A8 gl.length c8x) gl from own_base hs (Nat.zero_le _))
       have hr11 := Lib.hid (show OwnStr w11 0 (.slice A7 gl.length c7x) gl from own_below hr10.out hb)
       clear hr10 hs
       have hM11 := Lib.hid (hM10.out.below hb hM10.out.lt)
       have hK11 := Lib.hid (hK10.out.below hb hK10.out.lt)
       have c11 := Lib.hid (c10.out.trans (Below.mono hb c10.out.size))
       clear z0 z1 z2 z3 z4 z5 z6 z7 z8
       clear hb hM10 hK10 c10
       have st6 : True := trivial))
  have hF : Fa w t a vp vi vk (.slice P9 a.ps.length p9) (.slice I9 a.d.is.len q9) (.slice K9 a.ks.len r9) g3 w11 := ⟨c11.out, hM11.out, hK11.out, hi11.out⟩
  rw [hN'.out] at hr11 hs11 ⊢
  have hF' := Lib.hid (And.intro hF (And.intro hr11.out hs11.out))
  clear hM11 hK11 hi11 c11 hF hr11 hs11 hA hS hR hO hAl hTx hGl hGr hTab
  go_wp2_with fail
  go_loopw [73] (fun i wr => ∃ j : Nat, j ≤ N ∧ i = .int .i64 j ∧ Hid (Fa w t a vp vi vk (.slice P9 a.ps.length p9) (.slice I9 a.d.is.len q9) (.slice K9 a.ks.len r9) g3 wr ∧ OwnStr wr 0 (.slice A7 N c7x) gl ∧ OwnStr wr 0 (.slice A8 N c8x) gl)) (fun i _ => N - (intOf i).toNat)
  case atStart => exact ⟨0, Nat.zero_le _, rfl, hF'⟩
  case round =>
    clear hF'
    obtain ⟨j, hj, rfl, hF'⟩ := hrel
    by_cases hlt : j < N
    · obtain ⟨x, hx⟩ : ∃ x, gl[j]? = some x := ⟨_, List.getElem?_eq_getElem (by rw [hN'.out]; exact hlt)⟩
      obtain ⟨ga, ca, ea, hga, l1⟩ := hF'.out.2.1.at_ hx
      obtain ⟨gb, cb, eb, hgb, l2⟩ := hF'.out.2.2.at_ hx
      injection ea with ea1 ea2 ea3
      injection eb with eb1 eb2 eb3
      subst ea1 eb1
      unfold encStr at l1 l2
      obtain ⟨X, hX⟩ : ∃ X : ByteArray, (⟨x.toArray⟩ : ByteArray) = X := ⟨_, rfl⟩
      rw [hX] at l1 l2
      have hxx : (X.toList == X.toList) = true := by simp
      clear hx hX ea2 ea3 eb2 eb3
      go_wp2_with fail
      go_region
      go_wp2_with fail
      go_roundw
      case rel => exact ⟨j + 1, by omega, by go_num, Lib.hid ⟨hF'.out.1.drew, hF'.out.2.1, hF'.out.2.2⟩⟩
      case measure => simp [intOf]; omega
    · obtain rfl : j = N := by omega
      go_wp2_with fail
      have hF := hF'.out.1
      clear hF'
      refine wp_region_held_drew (S := (fun w' => Fa w t a vp vi vk (.slice P9 a.ps.length p9) (.slice I9 a.d.is.len q9) (.slice K9 a.ks.len r9) g3 w')) rfl hF.drew (fun hHeld => ?_)
      clear hF
      refine wpAnyH_take (i := 0) (oi := { dst := some 86, op := Go.Op.move (Go.Operand.tmp 4), type := 32, pos := "law.go:50", after := #[], guard := none }) (v := ?_) rfl (by kernel_rfl) (by kernel_rfl) (by kernel_rfl) (fun _ _ _ h => h) (Or.inl ⟨by rfl, ?_⟩) (by assumption) ?_
      rotate_left
      · intro w hSw; clear hSw; go_simp; try with_reducible rfl
      try simp only [Act.put, List.setIfInBounds_toArray, List.set_cons_zero, List.set_cons_succ]
      refine wpAnyH_take (i := 1) (oi := { dst := some 87, op := Go.Op.binOp Go.BinOp.eql 32 (Go.Operand.tmp 86) (Go.Operand.const Go.Value.nilIface) 32, type := 4, pos := "law.go:50", after := #[{ on := 0, ground := Go.Ground.data }], guard := none }) (v := ?_) rfl (by kernel_rfl) (by kernel_rfl) (by kernel_rfl) (fun _ _ _ h => h) (Or.inl ⟨by rfl, ?_⟩) (by assumption) ?_
      rotate_left
      · intro w hSw; clear hSw; go_simp; try with_reducible rfl
      try simp only [Act.put, List.setIfInBounds_toArray, List.set_cons_zero, List.set_cons_succ]
      refine wpAnyH_take (i := 2) (oi := { dst := some 88, op := Go.Op.move (Go.Operand.tmp 87), type := 4, pos := "law.go:50", after := #[{ on := 1, ground := Go.Ground.data }], guard := none }) (v := ?_) rfl (by kernel_rfl) (by kernel_rfl) (by kernel_rfl) (fun _ _ _ h => h) (Or.inl ⟨by rfl, ?_⟩) (by assumption) ?_
      rotate_left
      · intro w hSw; clear hSw; go_simp; try with_reducible rfl
      try simp only [Act.put, List.setIfInBounds_toArray, List.set_cons_zero, List.set_cons_succ]
      refine wpAnyH_take (i := 3) (oi := { dst := some 89, op := Go.Op.move (Go.Operand.tmp 6), type := 32, pos := "law.go:50", after := #[{ on := 2, ground := Go.Ground.guard }], guard := some (2, true) }) (v := ?_) rfl (by kernel_rfl) (by kernel_rfl) (by kernel_rfl) (fun _ _ _ h => h) (Or.inl ⟨by rfl, ?_⟩) (by assumption) ?_
      rotate_left
      · intro w hSw; clear hSw; go_simp; try with_reducible rfl
      try simp only [Act.put, List.setIfInBounds_toArray, List.set_cons_zero, List.set_cons_succ]
      refine wpAnyH_take (i := 4) (oi := { dst := some 90, op := Go.Op.binOp Go.BinOp.eql 32 (Go.Operand.tmp 89) (Go.Operand.const Go.Value.nilIface) 32, type := 4, pos := "law.go:50", after := #[{ on := 3, ground := Go.Ground.data }, { on := 2, ground := Go.Ground.guard }], guard := some (2, true) }) (v := ?_) rfl (by kernel_rfl) (by kernel_rfl) (by kernel_rfl) (fun _ _ _ h => h) (Or.inl ⟨by rfl, ?_⟩) (by assumption) ?_
      rotate_left
      · intro w hSw; clear hSw; go_simp; try with_reducible rfl
      try simp only [Act.put, List.setIfInBounds_toArray, List.set_cons_zero, List.set_cons_succ]
      refine wpAnyH_take (i := 5) (oi := { dst := some 91, op := Go.Op.pick (Go.Operand.tmp 88) (Go.Operand.tmp 90) (Go.Operand.const (Go.Value.bool false)), type := 4, pos := "law.go:50", after := #[{ on := 2, ground := Go.Ground.data }, { on := 4, ground := Go.Ground.data }], guard := none }) (v := ?_) rfl (by kernel_rfl) (by kernel_rfl) (by kernel_rfl) (fun _ _ _ h => h) (Or.inl ⟨by rfl, ?_⟩) (by assumption) ?_
      rotate_left
      · intro w hSw; clear hSw; go_simp; try with_reducible rfl
      try simp only [Act.put, List.setIfInBounds_toArray, List.set_cons_zero, List.set_cons_succ]
      refine wpAnyH_take (i := 6) (oi := { dst := some 92, op := Go.Op.move (Go.Operand.tmp 91), type := 4, pos := "law.go:50", after := #[{ on := 5, ground := Go.Ground.data }, { on := 2, ground := Go.Ground.chain }], guard := none }) (v := ?_) rfl (by kernel_rfl) (by kernel_rfl) (by kernel_rfl) (fun _ _ _ h => h) (Or.inl ⟨by rfl, ?_⟩) (by assumption) ?_
      rotate_left
      · intro w hSw; clear hSw; go_simp; try with_reducible rfl
      try simp only [Act.put, List.setIfInBounds_toArray, List.set_cons_zero, List.set_cons_succ]
      refine wpAnyH_take (i := 7) (oi := { dst := some 93, op := Go.Op.load 28 (Go.Operand.tmp 3), type := 28, pos := "law.go:50", after := #[{ on := 6, ground := Go.Ground.guard }], guard := some (6, true) }) (v := _) rfl (by kernel_rfl) (by kernel_rfl) (by kernel_rfl) (fun _ _ _ h => h) (Or.inl ⟨by rfl, fun w' hS => load_term w' _ _ _ _ _ _ _ _ _ _ _ _ _ rfl rfl hS.l8⟩) (by assumption) ?_
      try simp only [Act.put, List.setIfInBounds_toArray, List.set_cons_zero, List.set_cons_succ]
      refine wpAnyH_take (i := 8) (oi := { dst := some 94, op := Go.Op.load 28 (Go.Operand.tmp 1), type := 28, pos := "law.go:50", after := #[{ on := 6, ground := Go.Ground.guard }], guard := some (6, true) }) (v := _) rfl (by kernel_rfl) (by kernel_rfl) (by kernel_rfl) (fun _ _ _ h => h) (Or.inl ⟨by rfl, fun w' hS => load_term w' _ _ _ _ _ _ _ _ _ _ _ _ _ rfl rfl hS.lt⟩) (by assumption) ?_
      try simp only [Act.put, List.setIfInBounds_toArray, List.set_cons_zero, List.set_cons_succ]
      refine wpAnyH_ready (rs := [9]) (by kernel_rfl) (by simp) ?_
      refine AllReadyH.cons (o := { dst := some 95, op := Go.Op.call { callee := Go.Callee.value (Go.Operand.func 21), args := #[Go.Operand.tmp 94], argTypes := #[28] }, type := 28, pos := "law.go:50", after := #[{ on := 8, ground := Go.Ground.data }, { on := 6, ground := Go.Ground.chain }, { on := 6, ground := Go.Ground.guard }], guard := some (6, true) }) rfl (fun K hK => ?_) AllReadyH.nil
      rw [if_pos (by rfl)]
      go_simp
      refine (hAt.out _ hHeld.bl).mono ?_
      rintro e w9 ⟨v1, v2, v3, rfl, hia, hb⟩
      have hia1 := Lib.hid hia
      have hMM := hHeld.below hb
      clear hb hHeld hia
      refine hK.out _ _ hMM (fun hHeld => ?_)
      clear hK K
      try simp only [Act.put, List.setIfInBounds_toArray, List.set_cons_zero, List.set_cons_succ]
      refine wpAnyH_ready (rs := [10]) (by kernel_rfl) (by simp) ?_
      refine AllReadyH.cons (o := { dst := some 96, op := Go.Op.call { callee := Go.Callee.value (Go.Operand.func 18), args := #[Go.Operand.tmp 93, Go.Operand.tmp 95], argTypes := #[28, 28] }, type := 4, pos := "law.go:50", after := #[{ on := 7, ground := Go.Ground.data }, { on := 9, ground := Go.Ground.data }, { on := 9, ground := Go.Ground.chain }, { on := 6, ground := Go.Ground.guard }], guard := some (6, true) }) rfl (fun K hK => ?_) AllReadyH.nil
      rw [if_pos (by rfl)]
      go_simp
      refine (hE.out _ _ _ _ _ _ _ hHeld.i8 hia1.out).mono ?_
      rintro e w9 ⟨rfl, hb⟩
      have hMM := hHeld.below hb
      clear hb hHeld hia1
      refine hK.out _ _ hMM (fun hHeld => ?_)
      clear hK K
      try simp only [Act.put, List.setIfInBounds_toArray, List.set_cons_zero, List.set_cons_succ]
      refine wpAnyH_take (i := 11) (oi := { dst := some 97, op := Go.Op.pick (Go.Operand.tmp 92) (Go.Operand.tmp 96) (Go.Operand.const (Go.Value.bool false)), type := 4, pos := "law.go:50", after := #[{ on := 6, ground := Go.Ground.data }, { on := 10, ground := Go.Ground.data }], guard := none }) (v := ?_) rfl (by kernel_rfl) (by kernel_rfl) (by kernel_rfl) (fun _ _ _ h => h) (Or.inl ⟨by rfl, ?_⟩) (by assumption) ?_
      rotate_left
      · intro w hSw; clear hSw; go_simp; try with_reducible rfl
      try simp only [Act.put, List.setIfInBounds_toArray, List.set_cons_zero, List.set_cons_succ]
      refine wpAnyH_take (i := 12) (oi := { dst := some 98, op := Go.Op.move (Go.Operand.tmp 97), type := 4, pos := "law.go:50", after := #[{ on := 11, ground := Go.Ground.data }, { on := 10, ground := Go.Ground.chain }], guard := none }) (v := ?_) rfl (by kernel_rfl) (by kernel_rfl) (by kernel_rfl) (fun _ _ _ h => h) (Or.inl ⟨by rfl, ?_⟩) (by assumption) ?_
      rotate_left
      · intro w hSw; clear hSw; go_simp; try with_reducible rfl
      try simp only [Act.put, List.setIfInBounds_toArray, List.set_cons_zero, List.set_cons_succ]
      refine wpAnyH_take (i := 13) (oi := { dst := some 99, op := Go.Op.move (Go.Operand.tmp 5), type := 9, pos := "law.go:50", after := #[{ on := 12, ground := Go.Ground.guard }], guard := some (12, true) }) (v := ?_) rfl (by kernel_rfl) (by kernel_rfl) (by kernel_rfl) (fun _ _ _ h => h) (Or.inl ⟨by rfl, ?_⟩) (by assumption) ?_
      rotate_left
      · intro w hSw; clear hSw; go_simp; try with_reducible rfl
      try simp only [Act.put, List.setIfInBounds_toArray, List.set_cons_zero, List.set_cons_succ]
      refine wpAnyH_take (i := 14) (oi := { dst := some 100, op := Go.Op.load 28 (Go.Operand.tmp 1), type := 28, pos := "law.go:50", after := #[{ on := 12, ground := Go.Ground.guard }], guard := some (12, true) }) (v := _) rfl (by kernel_rfl) (by kernel_rfl) (by kernel_rfl) (fun _ _ _ h => h) (Or.inl ⟨by rfl, fun w' hS => load_term w' _ _ _ _ _ _ _ _ _ _ _ _ _ rfl rfl hS.lt⟩) (by assumption) ?_
      try simp only [Act.put, List.setIfInBounds_toArray, List.set_cons_zero, List.set_cons_succ]
      refine wpAnyH_ready (rs := [15]) (by kernel_rfl) (by simp) ?_
      refine AllReadyH.cons (o := { dst := some 101, op := Go.Op.call { callee := Go.Callee.value (Go.Operand.func 22), args := #[Go.Operand.tmp 100], argTypes := #[28] }, type := 9, pos := "law.go:50", after := #[{ on := 14, ground := Go.Ground.data }, { on := 12, ground := Go.Ground.chain }, { on := 12, ground := Go.Ground.guard }], guard := some (12, true) }) rfl (fun K hK => ?_) AllReadyH.nil
      rw [if_pos (by rfl)]
      go_simp
      refine (hRt.out _ hHeld.bl).mono ?_
      rintro e w9 ⟨rfl, hb⟩
      have hMM := hHeld.below hb
      clear hb hHeld 
      refine hK.out _ _ hMM (fun hHeld => ?_)
      clear hK K
      try simp only [Act.put, List.setIfInBounds_toArray, List.set_cons_zero, List.set_cons_succ]
      refine wpAnyH_take (i := 16) (oi := { dst := some 102, op := Go.Op.binOp Go.BinOp.eql 9 (Go.Operand.tmp 99) (Go.Operand.tmp 101) 9, type := 4, pos := "law.go:50", after := #[{ on := 13, ground := Go.Ground.data }, { on := 15, ground := Go.Ground.data }, { on := 12, ground := Go.Ground.guard }], guard := some (12, true) }) (v := ?_) rfl (by kernel_rfl) (by kernel_rfl) (by kernel_rfl) (fun _ _ _ h => h) (Or.inl ⟨by rfl, ?_⟩) (by assumption) ?_
      rotate_left
      · intro w hSw; clear hSw; go_simp; try with_reducible rfl
      try simp only [Act.put, List.setIfInBounds_toArray, List.set_cons_zero, List.set_cons_succ]
      refine wpAnyH_take (i := 17) (oi := { dst := some 103, op := Go.Op.pick (Go.Operand.tmp 98) (Go.Operand.tmp 102) (Go.Operand.const (Go.Value.bool false)), type := 4, pos := "law.go:50", after := #[{ on := 12, ground := Go.Ground.data }, { on := 16, ground := Go.Ground.data }], guard := none }) (v := ?_) rfl (by kernel_rfl) (by kernel_rfl) (by kernel_rfl) (fun _ _ _ h => h) (Or.inl ⟨by rfl, ?_⟩) (by assumption) ?_
      rotate_left
      · intro w hSw; clear hSw; go_simp; try with_reducible rfl
      try simp only [Act.put, List.setIfInBounds_toArray, List.set_cons_zero, List.set_cons_succ]
      refine wpAnyH_take (i := 18) (oi := { dst := some 2, op := Go.Op.assign (Go.Operand.tmp 103), type := 4, pos := "law.go:50", after := #[{ on := 17, ground := Go.Ground.data }, { on := 15, ground := Go.Ground.chain }, { on := 0, ground := Go.Ground.phase }, { on := 1, ground := Go.Ground.phase }, { on := 2, ground := Go.Ground.phase }, { on := 3, ground := Go.Ground.phase }, { on := 4, ground := Go.Ground.phase }, { on := 5, ground := Go.Ground.phase }, { on := 6, ground := Go.Ground.phase }, { on := 7, ground := Go.Ground.phase }, { on := 8, ground := Go.Ground.phase }, { on := 9, ground := Go.Ground.phase }, { on := 10, ground := Go.Ground.phase }, { on := 11, ground := Go.Ground.phase }, { on := 12, ground := Go.Ground.phase }, { on := 13, ground := Go.Ground.phase }, { on := 14, ground := Go.Ground.phase }, { on := 15, ground := Go.Ground.phase }, { on := 16, ground := Go.Ground.phase }, { on := 17, ground := Go.Ground.phase }], guard := none }) (v := ?_) rfl (by kernel_rfl) (by kernel_rfl) (by kernel_rfl) (fun _ _ _ h => h) (Or.inl ⟨by rfl, ?_⟩) (by assumption) ?_
      rotate_left
      · intro w hSw; clear hSw; go_simp; try with_reducible rfl
      try simp only [Act.put, List.setIfInBounds_toArray, List.set_cons_zero, List.set_cons_succ]
      refine wpAnyH_done (by kernel_rfl) ?_ _
      have hF := hHeld
      clear hHeld
      go_wp2_with fail
      go_ret
      exact ⟨rfl, hF.bl⟩
theorem termAlphas_walk (t : Tm) (w : World) (vp vi vk : Value) (h : TmIn w t vp vi vk) (hB : TmBd t) (hT : Tab w) :
    Calls Tryz.prog 4 #[tmv t vp vi vk] w fun e w' => e = .returned (.bool true) ∧ Below w.heap.size w w' := by
  cases hst : TM.smt t
  · exact termAlphas_small t w vp vi vk h hT hst
  · cases hok : TM.okt t
    · exact termAlphas_wrong t w vp vi vk h hB hT hst hok
    · exact termAlphas_yes t w vp vi vk h hB hT hst hok
end Go.Proofs.YthbgopmpdkefkaaGreatDoor

/- Terms that came in: an argument of a law, as what can be read. -/
namespace Go.Proofs.YthbgopmpdkefkaaGreatDoor
open Go.ChangeShapes Go.WideShapes Go.ChangeAt Go.RowKit Go.Deep
open TM (Tl Tm)

section
variable {H : Type} {enc : TypeId × Value → H} {W : World}
theorem fieldsTerm : ∃ fs : Array Field, Tryz.prog.underlying 28 = some (.struct fs)
    ∧ (fs[0]?).map (fun f => (f.type, f.offset)) = some (3, 0) ∧ (fs[1]?).map (fun f => (f.type, f.offset)) = some (3, 1) ∧ (fs[2]?).map (fun f => (f.type, f.offset)) = some (9, 2) ∧ (fs[3]?).map (fun f => (f.type, f.offset)) = some (22, 3) ∧ (fs[4]?).map (fun f => (f.type, f.offset)) = some (25, 4) ∧ (fs[5]?).map (fun f => (f.type, f.offset)) = some (26, 8) :=
  ⟨_, Tryz.underlying28, by kernel_rfl, by kernel_rfl, by kernel_rfl, by kernel_rfl, by kernel_rfl, by kernel_rfl⟩
theorem oneInts : Tryz.prog.cellsOf 22 = 1 := by kernel_rfl
theorem oneTerms : Tryz.prog.cellsOf 26 = 1 := by kernel_rfl
theorem nineTerm : Tryz.prog.cellsOf 28 = 9 := by kernel_rfl
/-- ints that came in -/
theorem ints_cells (fuel : Nat) {cs : List Value} {x : DataW H × List MemPlace} (h : DataW.trod enc Tryz.prog W 0 (fun _ => true) true fuel 22 cs = some x) :
    ∃ v l, cs = [v] ∧ PIn W v l ∧ ∀ p ∈ l, b64 p := by
  rcases DataW.trod_slice Tryz.underlying22 h with ⟨rfl, -⟩ | ⟨a, len, cap, elems, rest, n, hn, rfl, -, -, hl, hm, hlen, hel, -, -⟩
  · exact ⟨_, [], rfl, PIn.nil W, by simp⟩
  · have each : ∀ i, ∃ x : Int, i < len → (W.cell? (a.add i) = some (.int .i64 x) ∧ b64 x) := by
      intro i
      by_cases hi : i < len
      · have key := hel i hi
        rw [List.getElem?_eq_getElem (by omega)] at key
        obtain ⟨cs', h1, h2⟩ := Option.bind_eq_some_iff.1 key
        rw [oneInt] at h1
        obtain ⟨k, ek, -, wk⟩ := DataW.trod_int Tryz.underlying3 h2
        subst ek
        obtain ⟨_, _, hat⟩ := World.cells?_some h1
        have c0 := hat 0 (by omega)
        rw [Go.Deep.add_add] at c0
        exact ⟨k, fun _ => ⟨by simpa using c0, bounds64 wk⟩⟩
      · exact ⟨0, fun h => absurd h hi⟩
    obtain ⟨D, hD⟩ := Classical.axiomOfChoice each
    obtain ⟨b, off, spot⟩ := a
    have hlen2 : ((List.range len).map D).length = len := by simp
    have hbd : ∀ p ∈ (List.range len).map D, b64 p := by
      intro p hp
      simp only [List.mem_map, List.mem_range] at hp
      obtain ⟨i, hi, rfl⟩ := hp
      exact (hD i hi).2
    by_cases h0 : 0 < len
    · have hspot : spot = none := by simpa [Addr.add] using World.cell?_spot (hD 0 h0).1
      subst hspot
      have hlt : b < W.heap.size := by
        have := World.block_lt_of_cell? W _ (hD 0 h0).1
        rwa [add_plain] at this
      refine ⟨_, (List.range len).map D, rfl, ⟨some ⟨b, off, none⟩, cap, by rw [hlen2], by rw [hlen2]; unfold maxLen at hm; omega, b, off, fun _ => ⟨rfl, hlt⟩, fun j x hx => ?_⟩, hbd⟩
      have hj : j < len := by have := (List.getElem?_eq_some_iff.1 hx).1; omega
      rw [List.getElem?_map, List.getElem?_range hj] at hx
      simp only [Option.map_some, Option.some.injEq] at hx
      subst hx
      have := (hD j hj).1
      rwa [add_plain] at this
    · obtain rfl : len = 0 := by omega
      exact ⟨_, [], rfl, ⟨some ⟨b, off, spot⟩, cap, rfl, by simp, 0, 0, fun h => absurd h (by simp), fun j x hx => by simp at hx⟩, by simp⟩
set_option maxRecDepth 100000 in
/-- one term's nine cells -/
theorem term_cells {fuel : Nat} {cs : List Value} {x : DataW H × List MemPlace} (h : DataW.trod enc Tryz.prog W 0 (fun _ => true) true fuel 28 cs = some x) :
    ∃ (k n : Int) (s : ByteArray) (vp : Value) (ps : List Int) (dk dn : Int) (ds : ByteArray) (vi : Value) (is : RM.Dl) (u : Value) (m : Nat) (y : DataW H × List MemPlace), fuel = m + 1 ∧ cs = [.int .i64 k, .int .i64 n, .string s, vp, .int .i64 dk, .int .i64 dn, .string ds, vi, u]
      ∧ b64 k ∧ b64 n ∧ PIn W vp ps ∧ (∀ p ∈ ps, b64 p) ∧ b64 dk ∧ b64 dn ∧ In W vi is ∧ Bd is
      ∧ DataW.trod enc Tryz.prog W 0 (fun _ => true) true m 26 [u] = some y := by
  obtain ⟨fs, hu, f0, f1, f2, f3, f4, f5⟩ := fieldsTerm
  obtain ⟨xs, m, hm, -, hl, hxl, hx⟩ := DataW.trod_struct hu h
  rw [nineTerm] at hl
  simp only [Option.map_eq_some_iff, Prod.mk.injEq] at f0 f1 f2 f3 f4 f5
  obtain ⟨q0, e0, t0, o0⟩ := f0
  obtain ⟨q1, e1, t1, o1⟩ := f1
  obtain ⟨q2, e2, t2, o2⟩ := f2
  obtain ⟨q3, e3, t3, o3⟩ := f3
  obtain ⟨q4, e4, t4, o4⟩ := f4
  obtain ⟨q5, e5, t5, o5⟩ := f5
  have hsz : 6 ≤ fs.size := by
    have := (Array.getElem?_eq_some_iff.1 e5).1; omega
  have g := fun i (hi : i < 6) => List.getElem?_eq_getElem (l := xs) (i := i) (by omega)
  have h0 := (hx 0 q0 e0).trans (g 0 (by omega))
  have h1 := (hx 1 q1 e1).trans (g 1 (by omega))
  have h2 := (hx 2 q2 e2).trans (g 2 (by omega))
  have h3 := (hx 3 q3 e3).trans (g 3 (by omega))
  have h4 := (hx 4 q4 e4).trans (g 4 (by omega))
  have h5 := (hx 5 q5 e5).trans (g 5 (by omega))
  obtain ⟨c0, c1, c2, c3, c4, c5, c6, c7, c8, rfl⟩ : ∃ c0 c1 c2 c3 c4 c5 c6 c7 c8, cs = [c0, c1, c2, c3, c4, c5, c6, c7, c8] := by
    match cs, hl with
    | [c0, c1, c2, c3, c4, c5, c6, c7, c8], _ => exact ⟨_, _, _, _, _, _, _, _, _, rfl⟩
  rw [t0, o0, oneInt] at h0
  rw [t1, o1, oneInt] at h1
  rw [t2, o2, oneString] at h2
  rw [t3, o3, oneInts] at h3
  rw [t4, o4, fourDatum] at h4
  rw [t5, o5, oneTerms] at h5
  simp only [List.drop, List.take_succ_cons, List.take_zero] at h0 h1 h2 h3 h4 h5
  obtain ⟨k, ek, -, wk⟩ := DataW.trod_int Tryz.underlying3 h0
  obtain ⟨n, en, -, wn⟩ := DataW.trod_int Tryz.underlying3 h1
  obtain ⟨s, es, -, _⟩ := DataW.trod_string Tryz.underlying9 h2
  obtain ⟨vp, ps, ep, hp, bp⟩ := ints_cells m h3
  obtain ⟨dk, dn, ds, vi, m4, y4, -, ed, bdk, bdn, hd⟩ := datum_cells h4
  obtain ⟨vi', is, ei, hi, bi⟩ := data_cells m4 hd
  simp only [List.cons.injEq, and_true] at ek en es ep ed ei
  obtain ⟨rfl, rfl, rfl, rfl⟩ := ed
  subst ek en es ep ei
  exact ⟨k, n, s, _, ps, dk, dn, ds, _, is, c8, m, _, hm, rfl, bounds64 wk, bounds64 wn, hp, bp, bdk, bdn, hi, bi, h5⟩
theorem terms_row {b off len : Nat} (D : Nat → Tm) (hb : 0 < len → b < W.heap.size)
    (hD : ∀ i, i < len → (W.cell? ⟨b, off + i * 9, none⟩ = some (.int .i64 (D i).k) ∧ W.cell? ⟨b, off + i * 9 + 1, none⟩ = some (.int .i64 (D i).n) ∧ W.cell? ⟨b, off + i * 9 + 2, none⟩ = some (.string ⟨(D i).s.toArray⟩)
      ∧ (∃ u, W.cell? ⟨b, off + i * 9 + 3, none⟩ = some u ∧ PIn W u (D i).ps) ∧ W.cell? ⟨b, off + i * 9 + 4, none⟩ = some (.int .i64 (D i).d.k) ∧ W.cell? ⟨b, off + i * 9 + 5, none⟩ = some (.int .i64 (D i).d.n) ∧ W.cell? ⟨b, off + i * 9 + 6, none⟩ = some (.string ⟨(D i).d.s.toArray⟩)
      ∧ (∃ u, W.cell? ⟨b, off + i * 9 + 7, none⟩ = some u ∧ In W u (D i).d.is) ∧ (∃ u, W.cell? ⟨b, off + i * 9 + 8, none⟩ = some u ∧ TIn W u (D i).ks)) ∧ TmBd (D i)) :
    ∀ m, m ≤ len → ∃ t : Tl, t.len = m ∧ TInAt W t b (off + (len - m) * 9) ∧ TBd t
  | 0, _ => ⟨.nil, rfl, trivial, trivial⟩
  | m + 1, hm => by
    obtain ⟨t, h1, h2, h3⟩ := terms_row D hb hD m (by omega)
    obtain ⟨⟨c0, c1, c2, c3, c4, c5, c6, c7, u, c8, hu⟩, hB⟩ := hD (len - (m + 1)) (by omega)
    obtain ⟨A, c, rfl, hl, b', o', hA, hI⟩ := hu
    refine ⟨.cons (D (len - (m + 1))).k (D (len - (m + 1))).n (D (len - (m + 1))).s (D (len - (m + 1))).ps (D (len - (m + 1))).d (D (len - (m + 1))).ks t, by rw [Tl.len, h1], ⟨hb (by omega), c0, c1, c2, c3, c4, c5, c6, c7, ⟨A, c, c8, hl, b', o', hA, hI⟩, ?_⟩, hB.k, hB.n, hB.p, hB.dk, hB.dn, hB.d, hB.ks, h3⟩
    rw [show off + (len - (m + 1)) * 9 + 9 = off + (len - m) * 9 by omega]
    exact h2
/-- terms that came in -/
theorem terms_cells : ∀ (fuel : Nat) {cs : List Value} {x : DataW H × List MemPlace}, DataW.trod enc Tryz.prog W 0 (fun _ => true) true fuel 26 cs = some x →
    ∃ v t, cs = [v] ∧ TIn W v t ∧ TBd t := by
  intro fuel
  induction fuel using Nat.strongRecOn with
  | _ fuel ih =>
    intro cs x h
    rcases DataW.trod_slice Tryz.underlying26 h with ⟨rfl, -⟩ | ⟨a, len, cap, elems, rest, n, hn, rfl, -, -, hl, hm, hlen, hel, -, -⟩
    · exact ⟨_, .nil, rfl, TIn.nil W, trivial⟩
    · have each : ∀ i, ∃ x : Tm, i < len → (W.cell? (a.add (i * 9)) = some (.int .i64 x.k) ∧ W.cell? (a.add (i * 9 + 1)) = some (.int .i64 x.n) ∧ W.cell? (a.add (i * 9 + 2)) = some (.string ⟨x.s.toArray⟩)
          ∧ (∃ u, W.cell? (a.add (i * 9 + 3)) = some u ∧ PIn W u x.ps) ∧ W.cell? (a.add (i * 9 + 4)) = some (.int .i64 x.d.k) ∧ W.cell? (a.add (i * 9 + 5)) = some (.int .i64 x.d.n) ∧ W.cell? (a.add (i * 9 + 6)) = some (.string ⟨x.d.s.toArray⟩)
          ∧ (∃ u, W.cell? (a.add (i * 9 + 7)) = some u ∧ In W u x.d.is) ∧ (∃ u, W.cell? (a.add (i * 9 + 8)) = some u ∧ TIn W u x.ks)) ∧ TmBd x := by
        intro i
        by_cases hi : i < len
        · have key := hel i hi
          rw [List.getElem?_eq_getElem (by omega)] at key
          obtain ⟨cs', h1, h2⟩ := Option.bind_eq_some_iff.1 key
          rw [nineTerm] at h1
          obtain ⟨k, n', s, vp, ps, dk, dn, ds, vi, is, u, m, y, hm', rfl, bk, bn, hp, bp, bdk, bdn, hi', bi, hu⟩ := term_cells h2
          obtain ⟨v, t, e, hI, hB⟩ := ih m (by omega) hu
          simp only [List.cons.injEq, and_true] at e
          subst e
          obtain ⟨_, _, hat⟩ := World.cells?_some h1
          have c0 := hat 0 (by omega)
          have c1 := hat 1 (by omega)
          have c2 := hat 2 (by omega)
          have c3 := hat 3 (by omega)
          have c4 := hat 4 (by omega)
          have c5 := hat 5 (by omega)
          have c6 := hat 6 (by omega)
          have c7 := hat 7 (by omega)
          have c8 := hat 8 (by omega)
          rw [Go.Deep.add_add] at c0 c1 c2 c3 c4 c5 c6 c7 c8
          exact ⟨⟨k, n', s.data.toList, ps, ⟨dk, dn, ds.data.toList, is⟩, t⟩, fun _ => ⟨⟨by simpa using c0, by simpa using c1, by simpa using c2, ⟨vp, by simpa using c3, hp⟩, by simpa using c4, by simpa using c5, by simpa using c6, ⟨vi, by simpa using c7, hi'⟩, u, by simpa using c8, hI⟩, ⟨bk, bn, bp, bdk, bdn, bi, hB⟩⟩⟩
        · exact ⟨⟨0, 0, [], [], ⟨0, 0, [], .nil⟩, .nil⟩, fun h => absurd h hi⟩
      obtain ⟨D, hD⟩ := Classical.axiomOfChoice each
      obtain ⟨b, off, spot⟩ := a
      by_cases h0 : 0 < len
      · have hspot : spot = none := by simpa [Addr.add] using World.cell?_spot (hD 0 h0).1.1
        subst hspot
        have hlt : b < W.heap.size := by
          have := World.block_lt_of_cell? W _ (hD 0 h0).1.1
          rwa [add_plain] at this
        obtain ⟨t, h1, h2, h3⟩ := terms_row (W := W) (b := b) (off := off) D (fun _ => hlt) (fun i hi => by
          have hr := hD i hi
          simp only [add_plain] at hr
          exact hr) len (Nat.le_refl _)
        rw [Nat.sub_self, Nat.zero_mul, Nat.add_zero] at h2
        exact ⟨_, t, rfl, ⟨some ⟨b, off, none⟩, cap, by rw [h1], by rw [h1]; unfold maxLen at hm; omega, b, off, fun _ => rfl, h2⟩, h3⟩
      · obtain rfl : len = 0 := by omega
        exact ⟨_, .nil, rfl, ⟨some ⟨b, off, spot⟩, cap, rfl, by simp [Tl.len], 0, 0, fun h => absurd h (by simp [Tl.len]), trivial⟩, trivial⟩
set_option maxRecDepth 100000 in
theorem term_open {base : Nat} {v : Value} {d : DataW H} {ps : List MemPlace} (hv : Value.okWide Tryz.prog W .any base 28 v) (h : DataW.Trod enc Tryz.prog W 0 (fun _ => true) true 28 v d ps) :
    ∃ (t : Tm) (vp vi vk : Value), v = tmv t vp vi vk ∧ TmIn W t vp vi vk ∧ TmBd t := by
  obtain ⟨cs, rfl, hs⟩ := okWide_struct (Tryz.underlying28) hv
  obtain ⟨fuel, hf⟩ := h
  obtain ⟨k, n, s, vp, ps, dk, dn, ds, vi, is, u, m, y, -, e, bk, bn, hp, bp, bdk, bdn, hi, bi, hu⟩ := term_cells hf
  obtain ⟨v, t, e', hI, hB⟩ := terms_cells m hu
  simp only [List.cons.injEq, and_true] at e'
  subst e'
  refine ⟨⟨k, n, s.data.toList, ps, ⟨dk, dn, ds.data.toList, is⟩, t⟩, vp, vi, _, ?_, ⟨hp, hi, hI⟩, ⟨bk, bn, bp, bdk, bdn, bi, hB⟩⟩
  unfold tmv
  congr 1
  obtain ⟨l⟩ := cs
  simp [Value.cells] at e
  subst e
  simp
end
end Go.Proofs.YthbgopmpdkefkaaGreatDoor
