/- The law ScopeUp, walked. -/
import Derived.Test.YtpiekdcbjkgipaaQ47
import Derived.Test.YtpiekdcbjkgipaaLaw
import Derived.Test.YtpiekdcbjkgipaaQ1
import Derived.Laws.Bits64
namespace Go.Proofs.Ytpiekdcbjkgipaa
open Go.ChangeShapes Go.WideShapes Go.ChangeAt Go.RowKit Go.Deep
open TM (Tl Tm)

/-- a word by a number, as the law writes it -/
theorem uw_mod (x : Int) {n : Nat} (h : 0 < n) : ∃ m : Nat, (IntKind.u64.wrap x).tmod (n : Int) = (m : Int) ∧ m < n ∧ wrap64 (m : Int) = (m : Int) ∨ (9223372036854775808 ≤ n) := by
  by_cases hn : 9223372036854775808 ≤ n
  · exact ⟨0, .inr hn⟩
  obtain ⟨u, hu⟩ : ∃ u : Nat, IntKind.u64.wrap x = (u : Int) := ⟨(x % 18446744073709551616).toNat, by rw [IntKind.wrap_u64]; omega⟩
  refine ⟨u % n, .inl ⟨?_, Nat.mod_lt _ h, ?_⟩⟩
  · rw [hu]; rfl
  · have := Nat.mod_lt u h
    unfold wrap64
    omega
theorem pss_snoc (w : Nat) : ∀ (a : Int) (ws : List Nat), SC.pss a (ws ++ [w]) = SC.pss a ws ++ [SC.cnt (a + (ws.sum : Nat)) w]
  | a, [] => by simp [SC.pss]
  | a, v :: ws => by
    rw [List.cons_append, SC.pss, SC.pss, pss_snoc w (a + v) ws, List.sum_cons, List.cons_append]
    congr 3
    push_cast
    rw [Int.add_assoc]
/-- rows of ints of one's own, in a row of one's own from B on -/
def Ro (w : World) (B : Nat) (v : Value) (l : List (List Int)) : Prop := ∃ us : List Value, w.ownsRow B 26 1 v l.length us ∧ ∀ (j : Nat) (p : List Int), l[j]? = some p → ∃ u, us[j]? = some u ∧ Own w 0 u p
theorem Try.infoInts : (Try.prog.info? 26).map (fun i => (i.zero, i.size, i.bytes)) = some (some (.slice none 0 0), 1, 24) := by kernel_rfl
theorem Ro.nil (w : World) (B : Nat) : Ro w B (.slice none 0 0) [] := ⟨[], own_none w B _ 1, fun j p h => by simp at h⟩
theorem Ro.turns {w w' : World} {B : Nat} {v : Value} {l : List (List Int)} {X : Nat → Prop} (h : Ro w B v l) (k : Turns X w w') (hx : ∀ g, v.ownBlock = some g → ¬ X g) (hy : ∀ (u : Value) (p : List Int) (g : Nat), Own w 0 u p → u.ownBlock = some g → ¬ X g) : Ro w' B v l := by
  obtain ⟨us, h1, h2⟩ := h
  refine ⟨us, own_turns h1 k hx, fun j p hj => ?_⟩
  obtain ⟨u, hu, hp⟩ := h2 j p hj
  exact ⟨u, hu, hp.turns k (fun g hg => hy u p g hp hg)⟩
theorem Ro.below {w w' : World} {B : Nat} {v : Value} {l : List (List Int)} (h : Ro w B v l) (k : Below w.heap.size w w') : Ro w' B v l := h.turns (Turns.of_below k (fun _ => False)) (fun _ _ h => h) (fun _ _ _ _ _ h => h)
theorem Ro.read {w : World} {B : Nat} {v : Value} {l : List (List Int)} (h : Ro w B v l) : ∃ A c, v = .slice A l.length c := by
  obtain ⟨us, h1, _⟩ := h
  obtain ⟨A, c, e, _⟩ := own_read h1
  exact ⟨A, c, e⟩
/-- a term that can be read whatever lies in the block b -/
def TmD (w : World) (b : Nat) (t : Tm) (vp vi vk : Value) : Prop := ∀ w', Agr (fun g => g ≠ b) w w' → TmIn w' t vp vi vk
theorem TmD.agr {w w' : World} {b : Nat} {t : Tm} {vp vi vk : Value} (h : TmD w b t vp vi vk) (k : Agr (fun g => g ≠ b) w w') : TmD w' b t vp vi vk := fun w2 k2 => h w2 (k.trans k2)
theorem own_agr {w w' : World} {D : Nat → Prop} {v : Value} {l : List Int} (h : Own w 0 v l) (k : Agr D w w') (hd : ∀ g, v.ownBlock = some g → D g) : Own w' 0 v l := by
  have hlt := h.lt
  obtain ⟨h1, h2⟩ := h
  refine ⟨h1, ?_⟩
  rcases h2 with h2 | ⟨g, cap, cur, hv, hg, hh, r⟩
  · exact .inl h2
  · have ho : v.ownBlock = some g := by rw [hv]; rfl
    exact .inr ⟨g, cap, cur, hv, hg, (k.block g (hlt g ho).2 (hd g ho)).trans hh, r⟩
theorem TmD.lam {w w3 : World} {b g : Nat} {x : Tm} {p : List Int} {vp vi vk vq : Value} (hx : TmD w b x vp vi vk) (hp : Own w 0 vq p) (hpb : ∀ g, vq.ownBlock = some g → g ≠ b) (hg : Lies w3 g 32 (tcells x vp vi vk)) (hgb : g ≠ b) (hk : Agr (fun g => g ≠ b) w w3) :
    TmD w3 b ⟨8, 0, [], p, nd0, .one x⟩ vq (.slice none 0 0) (.slice (some ⟨g, 0, none⟩) 1 1) := fun w' k => by
  have hg' : Lies w' g 32 (tcells x vp vi vk) := (k.block g hg.lt hgb).trans hg
  exact ⟨(own_agr hp (hk.trans k) hpb).pin, In.nil _, tin_one hg' (hx w' (hk.trans k))⟩
theorem tbd_one {t : Tm} (h : TmBd t) : TBd (.one t) := ⟨h.k, h.n, h.p, h.dk, h.dn, h.d, h.ks, trivial⟩
theorem nst_bd {t : Tm} (h : TmBd t) : ∀ ps : List (List Int), (∀ p ∈ ps, ∀ x ∈ p, b64 x) → TmBd (SC.nst ps t)
  | [], _ => h
  | p :: ps, hp => ⟨by show b64 8; unfold b64; omega, by show b64 0; unfold b64; omega, hp p (by simp), by show b64 0; unfold b64; omega, by show b64 0; unfold b64; omega, trivial, tbd_one (nst_bd h ps (fun q hq => hp q (by simp [hq])))⟩
set_option maxRecDepth 100000 in
set_option maxHeartbeats 8000000 in
theorem scopeUp_walk (A : Option Addr) (N c : Nat) (zs : List Int) (wi ix : Int) (W : World) (hN : N ≤ maxLen) (hz : Came W .u8 A N zs) (hb : ∀ i, 0 ≤ zs.getD i 0 ∧ zs.getD i 0 < 256) (_hw : b64 wi) (_hx : b64 ix) :
    Calls Try.prog 3 #[.slice A N c, .int .i64 wi, .int .i64 ix] W fun e w' => e = .returned (.bool true) ∧ Below W.heap.size W w' := by
  have hAw := Lib.hid (fun w => awake15_any w)
  unfold maxLen at hN
  rcases Nat.eq_zero_or_pos N with rfl | hN0
  · have st0 : True := trivial
    go_enter Try.func3, Try.ntmps3
    go_wp2_with (first
      | (clear st0
         go_at_call 4
         refine (hAw.out _).mono ?_
         rintro e w1 ⟨rfl, hq⟩
         have hb1 := Lib.hid hq
         have st1 : True := trivial
         clear hq)
      | (clear st1
         go_at_call 4
         refine (hAw.out _).mono ?_
         rintro e w2 ⟨rfl, hq⟩
         have hb2 := Lib.hid (Below.trans hb1.out (Below.mono hq (Below.size hb1.out)))
         have st2 : True := trivial
         clear hq))
    go_ret
    exact ⟨rfl, hb2.out⟩
  by_cases h60 : 60 < N
  · have e1 : ((N : Int) == 0) = false := by rw [beq_eq_false_iff_ne]; omega
    have st0 : True := trivial
    go_enter Try.func3, Try.ntmps3
    go_wp2_with (first
      | (clear st0
         go_at_call 4
         refine (hAw.out _).mono ?_
         rintro e w1 ⟨rfl, hq⟩
         have hb1 := Lib.hid hq
         have st1 : True := trivial
         clear hq)
      | (clear st1
         go_at_call 4
         refine (hAw.out _).mono ?_
         rintro e w2 ⟨rfl, hq⟩
         have hb2 := Lib.hid (Below.trans hb1.out (Below.mono hq (Below.size hb1.out)))
         have st2 : True := trivial
         clear hq))
    go_ret
    exact ⟨rfl, hb2.out⟩
  have e1 : ((N : Int) == 0) = false := by rw [beq_eq_false_iff_ne]; omega
  have e2 : decide ((60 : Int) < (N : Int)) = false := by rw [decide_eq_false_iff_not]; omega
  obtain ⟨h, hh⟩ := uw_mod wi hN0
  obtain ⟨hh1, hh2, hh3⟩ : (IntKind.u64.wrap wi).tmod (N : Int) = (h : Int) ∧ h < N ∧ wrap64 (h : Int) = (h : Int) := by
    rcases hh with h | h
    · exact h
    · omega
  clear hh
  go_enter Try.func3, Try.ntmps3
  go_upto_region 6 with (
    go_at_call 4
    refine (hAw.out _).mono ?_
    rintro e w1 ⟨rfl, hq⟩
    have hb1 := Lib.hid hq
    clear hq)
  obtain ⟨ws, hws⟩ : ∃ ws : List Nat, zs.map (fun z => 1 + z.toNat % 20) = ws := ⟨_, rfl⟩
  have hwl : ws.length = N := by rw [← hws, List.length_map]; exact hz.1
  have hwi : ∀ i, i < N → ws[i]? = some (1 + (zs.getD i 0).toNat % 20) := fun i hi => by
    have hl := hz.1
    rw [← hws, List.getElem?_map, List.getElem?_eq_getElem (by omega), List.getD_eq_getElem?_getD, List.getElem?_eq_getElem (by omega)]
    rfl
  obtain ⟨kk, hkk⟩ := uw_mod ix (n := 1 + (zs.getD h 0).toNat % 20) (by omega)
  obtain ⟨hk1, hk2, hk3⟩ : (IntKind.u64.wrap ix).tmod ((1 + (zs.getD h 0).toNat % 20 : Nat) : Int) = (kk : Int) ∧ kk < 1 + (zs.getD h 0).toNat % 20 ∧ wrap64 (kk : Int) = (kk : Int) := by
    rcases hkk with h | h
    · exact h
    · omega
  obtain ⟨idv, hidv⟩ : ∃ x : Nat, 1 + (ws.take h).sum + kk = x := ⟨_, rfl⟩
  have hk1' := Lib.hid hk1
  have hk2' := Lib.hid hk2
  have hk3' := Lib.hid hk3
  have hidv' := Lib.hid hidv
  have hwl' := Lib.hid hwl
  have hwi' := Lib.hid hwi
  have hz' := Lib.hid hz
  have hb' := Lib.hid hb
  have hsum : ∀ i, i ≤ N → (ws.take i).sum ≤ i * 20 := fun i hi => by
    induction i with
    | zero => simp
    | succ i ih =>
      have h1 := ih (by omega)
      rw [List.take_add_one, hwi i (by omega), List.sum_append]
      simp; omega
  have hsum' := Lib.hid hsum
  clear hk1 hk2 hk3 hkk hidv hwl hwi hws hz hb hsum hh1
  go_wp2_with fail
  go_loopw [7, 8, 9, 43] (fun s7 s8 s9 i wr => ∃ (j nx dd : Nat) (B : Option Addr) (m b : Nat), j ≤ N ∧ i = .int .i64 j ∧ s7 = .int .i64 nx ∧ s8 = .int .i64 dd ∧ s9 = .slice B m b ∧ Hid (nx = 1 + (ws.take j).sum) ∧ Hid (dd = if h < j then idv else 0) ∧ Hid (Ro wr W.heap.size (.slice B m b) (SC.pss 1 (ws.take j))) ∧ Hid (Below W.heap.size W wr)) (fun _ _ _ i _ => N - (RowKit.intOf i).toNat)
  case atStart => exact ⟨0, 1, 0, _, _, _, Nat.zero_le _, rfl, rfl, rfl, rfl, Lib.hid (by simp), Lib.hid (by simp), Lib.hid (Ro.nil _ _), hb1⟩
  case round =>
    obtain ⟨j, nx, dd, B, m, b, hj, rfl, rfl, rfl, rfl, hnx, hdd, hRo, hbr⟩ := hrel
    by_cases hlt : j < N
    · obtain ⟨gb, go, rfl, hgb, hcell⟩ := hz'.out.at_ hbr.out hlt
      obtain ⟨z, hze⟩ : ∃ z, zs.getD j 0 = z := ⟨_, rfl⟩
      have hzb := hb'.out j
      rw [hze] at hcell hzb
      have hwj := hwi'.out j hlt
      rw [hze] at hwj
      obtain ⟨z0, rfl⟩ : ∃ z0 : Nat, z = (z0 : Int) := ⟨z.toNat, by omega⟩
      obtain ⟨r, hr⟩ : ∃ r : Nat, z0 % 20 = r := ⟨_, rfl⟩
      have hrm : ((z0 : Int)).tmod 20 = (r : Int) := by rw [← hr]; rfl
      have hr20 : r < 20 := by omega
      have hz256 : z0 < 256 := by omega
      rw [Int.toNat_natCast, hr] at hwj
      obtain ⟨mm, hmm⟩ : ∃ mm : Nat, 1 + r = mm := ⟨_, rfl⟩
      have hm1 : (1 : Int) + (r : Int) = (mm : Int) := by omega
      have hmm20 : mm ≤ 20 := by omega
      rw [hmm] at hwj
      have hwj' := Lib.hid hwj
      have hnb : nx ≤ 1201 := by have h1 := hnx.out; have h2 := hsum'.out j hj; omega
      have hkm : j = h → (IntKind.u64.wrap ix).tmod (mm : Int) = (kk : Int) ∧ kk < mm := fun e => by
        have h1 := hk1'.out
        have h2 := hk2'.out
        rw [← e, hze, Int.toNat_natCast, hr, hmm] at h1 h2
        exact ⟨h1, h2⟩
      have hkm' := Lib.hid hkm
      have hddb : dd ≤ 2000 := by
        have h1 := hdd.out
        rw [h1]
        split
        · have h2 := hidv'.out
          have h3 := hsum'.out h (by omega)
          have h4 := hk2'.out
          omega
        · omega
      clear hwj hze hr hzb hmm hkm
      obtain ⟨wo, hwo⟩ : ∃ x, x = wr := ⟨_, rfl⟩
      subst hwo
      go_wp2_with fail
      go_loopw [7, 8, 13, 53] (fun t7 t8 t13 i wr2 => ∃ (q nx2 dd2 : Nat) (B2 : Option Addr) (m2 b2 : Nat), q ≤ mm ∧ i = .int .i64 q ∧ t7 = .int .i64 nx2 ∧ t8 = .int .i64 dd2 ∧ t13 = .slice B2 m2 b2 ∧ Hid (nx2 = nx + q) ∧ Hid (dd2 = if j = h ∧ kk < q then nx + kk else dd) ∧ Hid (Own wr2 wo.heap.size (.slice B2 m2 b2) (SC.cnt nx q)) ∧ Hid (Below wo.heap.size wo wr2)) (fun _ _ _ i _ => mm - (RowKit.intOf i).toNat)
      case atStart => exact ⟨0, nx, dd, _, _, _, Nat.zero_le _, rfl, rfl, rfl, rfl, Lib.hid rfl, Lib.hid (by simp), Lib.hid (by simpa [SC.cnt] using Own.none_ _ _), Lib.hid (Below.refl _ _)⟩
      case round =>
        obtain ⟨q, nx2, dd2, B2, m2, b2, hq, hq1, hq2, hq3, hq4, hnx2, hdd2, hO2, hb2⟩ := hrel
        subst hq1 hq2 hq3 hq4
        have hnb2 : nx2 ≤ 1221 := by have := hnx2.out; omega
        by_cases hqm : q < mm
        · by_cases hjh : j = h
          · have f1 : ((j : Int) == (h : Int)) = true := by simp [hjh]
            obtain ⟨f2, f3⟩ := hkm'.out hjh
            have hjh' := Lib.hid hjh
            clear hjh
            by_cases hqk : q = kk
            · have f4 : ((q : Int) == (kk : Int)) = true := by simp [hqk]
              have hqk' := Lib.hid hqk
              clear hqk
              go_wp2_with (
                at_builtin
                refine wpList_append_ints (B := wo.heap.size) (v := .slice B2 m2 b2) (x := .slice (some ⟨wr.heap.size, 0, none⟩) 1 1) (B' := 0) rfl _ _ 26 rfl Try.underlying26 rfl rfl (hO2.out.turns ((Turns.refl (fun _ => False) _).alloc _) (fun _ _ h => h)) (Own.one wr (nx2 : Int) (Nat.zero_le _)) (by rw [SC.cnt_len]; simp; omega) (by have := hb2.out.size; simp; omega) ?_
                intro v9 w9 hown9 hg9 hat9
                obtain ⟨B9, m9, b9, rfl⟩ : ∃ B m c, v9 = .slice B m c := by obtain ⟨A, c, e, -⟩ := hown9.read; exact ⟨_, _, _, e⟩
                have T1 := ((Turns.refl (fun g => (Value.slice B2 m2 b2).ownBlock = some g) wr).alloc (.cells #[.int .i64 (nx2 : Int)] 3)).then (Turns.appended hg9) (fun _ _ h => h)
                have R9 := Lib.hid (And.intro hown9 (hb2.out.trans (T1.below hb2.out.size (fun g hg => (hO2.out.lt g hg).1))))
                clear hown9 hg9 hat9 T1)
              go_roundw
              case rel => exact ⟨q + 1, nx2 + 1, _, B9, m9, b9, by omega, by go_num, by go_num, rfl, rfl, Lib.hid (by rw [hnx2.out]; omega), Lib.hid (by
                rw [if_pos ⟨hjh'.out, by have := hqk'.out; omega⟩, hnx2.out, hqk'.out]), Lib.hid (by
                have e : (nx2 : Int) = (nx : Int) + q := by rw [hnx2.out]; push_cast; rfl
                rw [SC.cnt_succ, ← e]
                exact R9.out.1), Lib.hid R9.out.2⟩
              case measure => simp [RowKit.intOf]; omega
            · have f4 : ((q : Int) == (kk : Int)) = false := by rw [beq_eq_false_iff_ne]; omega
              have hqk' := Lib.hid hqk
              clear hqk
              go_wp2_with (
                at_builtin
                refine wpList_append_ints (B := wo.heap.size) (v := .slice B2 m2 b2) (x := .slice (some ⟨wr.heap.size, 0, none⟩) 1 1) (B' := 0) rfl _ _ 26 rfl Try.underlying26 rfl rfl (hO2.out.turns ((Turns.refl (fun _ => False) _).alloc _) (fun _ _ h => h)) (Own.one wr (nx2 : Int) (Nat.zero_le _)) (by rw [SC.cnt_len]; simp; omega) (by have := hb2.out.size; simp; omega) ?_
                intro v9 w9 hown9 hg9 hat9
                obtain ⟨B9, m9, b9, rfl⟩ : ∃ B m c, v9 = .slice B m c := by obtain ⟨A, c, e, -⟩ := hown9.read; exact ⟨_, _, _, e⟩
                have T1 := ((Turns.refl (fun g => (Value.slice B2 m2 b2).ownBlock = some g) wr).alloc (.cells #[.int .i64 (nx2 : Int)] 3)).then (Turns.appended hg9) (fun _ _ h => h)
                have R9 := Lib.hid (And.intro hown9 (hb2.out.trans (T1.below hb2.out.size (fun g hg => (hO2.out.lt g hg).1))))
                clear hown9 hg9 hat9 T1)
              go_roundw
              case rel => exact ⟨q + 1, nx2 + 1, _, B9, m9, b9, by omega, by go_num, by go_num, rfl, rfl, Lib.hid (by rw [hnx2.out]; omega), Lib.hid (by
                rw [hdd2.out]
                by_cases hc : kk < q
                · rw [if_pos ⟨hjh'.out, hc⟩, if_pos ⟨hjh'.out, by omega⟩]
                · rw [if_neg (fun h => hc h.2), if_neg (fun h => hc (by have h1 := h.2; have h2 := hqk'.out; omega))]), Lib.hid (by
                have e : (nx2 : Int) = (nx : Int) + q := by rw [hnx2.out]; push_cast; rfl
                rw [SC.cnt_succ, ← e]
                exact R9.out.1), Lib.hid R9.out.2⟩
              case measure => simp [RowKit.intOf]; omega
          · have f1 : ((j : Int) == (h : Int)) = false := by rw [beq_eq_false_iff_ne]; omega
            have hjh' := Lib.hid hjh
            clear hjh
            go_wp2_with (
              at_builtin
              refine wpList_append_ints (B := wo.heap.size) (v := .slice B2 m2 b2) (x := .slice (some ⟨wr.heap.size, 0, none⟩) 1 1) (B' := 0) rfl _ _ 26 rfl Try.underlying26 rfl rfl (hO2.out.turns ((Turns.refl (fun _ => False) _).alloc _) (fun _ _ h => h)) (Own.one wr (nx2 : Int) (Nat.zero_le _)) (by rw [SC.cnt_len]; simp; omega) (by have := hb2.out.size; simp; omega) ?_
              intro v9 w9 hown9 hg9 hat9
              obtain ⟨B9, m9, b9, rfl⟩ : ∃ B m c, v9 = .slice B m c := by obtain ⟨A, c, e, -⟩ := hown9.read; exact ⟨_, _, _, e⟩
              have T1 := ((Turns.refl (fun g => (Value.slice B2 m2 b2).ownBlock = some g) wr).alloc (.cells #[.int .i64 (nx2 : Int)] 3)).then (Turns.appended hg9) (fun _ _ h => h)
              have R9 := Lib.hid (And.intro hown9 (hb2.out.trans (T1.below hb2.out.size (fun g hg => (hO2.out.lt g hg).1))))
              clear hown9 hg9 hat9 T1)
            go_roundw
            case rel => exact ⟨q + 1, nx2 + 1, _, B9, m9, b9, by omega, by go_num, by go_num, rfl, rfl, Lib.hid (by rw [hnx2.out]; omega), Lib.hid (by rw [hdd2.out, if_neg (fun h => hjh'.out h.1), if_neg (fun h => hjh'.out h.1)]), Lib.hid (by
              have e : (nx2 : Int) = (nx : Int) + q := by rw [hnx2.out]; push_cast; rfl
              rw [SC.cnt_succ, ← e]
              exact R9.out.1), Lib.hid R9.out.2⟩
            case measure => simp [RowKit.intOf]; omega
        · obtain rfl : q = mm := by omega
          have hRo1 := hRo.out.below hb2.out
          have hbr1 := hbr.out.trans (Below.mono hb2.out hbr.out.size)
          have hO3 := Lib.hid hO2.out
          have hRo1' := Lib.hid hRo1
          have hbr1' := Lib.hid hbr1
          have hwlen : (SC.pss 1 (ws.take j)).length = j := by rw [SC.pss_len, List.length_take, hwl'.out]; omega
          have hRo2 := hRo1
          obtain ⟨us, hus, hur⟩ := hRo2
          rw [hwlen] at hus
          obtain ⟨B', b', eB, -⟩ := own_read hus
          injection eB with eB1 eB2 eB3
          subst eB1 eB2 eB3
          have hus' := Lib.hid hus
          have hur' := Lib.hid hur
          have hwlen' := Lib.hid hwlen
          have hwo := Lib.hid hbr.out.size
          clear hRo1 hbr1 hus hur hwlen
          go_wp2_with (
            at_builtin
            refine wpList_append_own (B := W.heap.size) (v := .slice B m b) (x := .slice (some ⟨wr.heap.size, 0, none⟩) 1 1) (B' := 0) (.slice none 0 0) 24 Try.infoInts rfl (by decide) rfl _ _ 25 rfl Try.underlying25 rfl rfl (own_turns hus'.out ((Turns.refl (fun _ => False) _).alloc _) (fun _ _ h => h)) (own_one (e := 26) (sz := 1) (B := 0) wr #[.slice B2 m2 b2] rfl (Nat.zero_le _)) (by intro u hu; simp at hu; subst hu; rfl) (by omega) (by decide) (by have := hbr1'.out.size; simp; omega) ?_
            intro v9 w9 hown9 hg9 hat9
            obtain ⟨B9, b9, rfl, -⟩ := own_read hown9
            have T1 := ((Turns.refl (fun g => (Value.slice B m b).ownBlock = some g) wr).alloc (.cells #[.slice B2 m2 b2] 26)).then (Turns.appendedS hg9) (fun _ _ h => h)
            have R9 := Lib.hid (And.intro hown9 T1)
            clear hown9 hg9 hat9 T1)
          go_roundw
          case rel =>
            have hT1 := R9.out.2
            have hts : ws.take (m + 1) = ws.take m ++ [q] := by rw [List.take_add_one, hwj'.out]; rfl
            have hsm : (ws.take (m + 1)).sum = (ws.take m).sum + q := by rw [hts, List.sum_append]; simp
            refine ⟨m + 1, nx2, dd2, B9, m + 1, b9, by omega, by go_num, rfl, rfl, rfl, Lib.hid ?_, Lib.hid ?_, Lib.hid ?_, Lib.hid ?_⟩
            · rw [hsm, hnx2.out, hnx.out]; omega
            · rw [hdd2.out]
              by_cases hmh : m = h
              · obtain ⟨-, f3⟩ := hkm'.out hmh
                rw [if_pos ⟨hmh, f3⟩, if_pos (by omega), hnx.out, ← hidv'.out, hmh]
              · rw [if_neg (fun e => hmh e.1), hdd.out]
                by_cases h1 : h < m
                · rw [if_pos h1, if_pos (by omega)]
                · rw [if_neg h1, if_neg (by omega)]
            · have hpl : SC.pss 1 (ws.take (m + 1)) = SC.pss 1 (ws.take m) ++ [SC.cnt nx q] := by
                rw [hts, pss_snoc]
                congr 3
                rw [hnx.out]; push_cast; rfl
              refine ⟨us ++ [.slice B2 m2 b2], ?_, fun k p hp => ?_⟩
              · rw [hpl, List.length_append, hwlen'.out]
                exact R9.out.1
              · rw [hpl] at hp
                have hul : us.length = m := by have h1 := hus'.out.1; omega
                by_cases hk : k < m
                · rw [List.getElem?_append_left (by rw [hwlen'.out]; exact hk)] at hp
                  obtain ⟨u, hu, hou⟩ := hur'.out k p hp
                  exact ⟨u, by rw [List.getElem?_append_left (by omega)]; exact hu, hou.turns hT1 (fun g hg hh => row_apart hou hus'.out (by decide) g hg hh)⟩
                · have hk2 := (List.getElem?_eq_some_iff.1 hp).1
                  rw [List.length_append, hwlen'.out] at hk2
                  simp at hk2
                  obtain rfl : k = m := by omega
                  rw [List.getElem?_append_right (by rw [hwlen'.out]; exact Nat.le_refl _), hwlen'.out, Nat.sub_self] at hp
                  simp at hp
                  subst hp
                  refine ⟨_, by rw [List.getElem?_append_right (by omega), hul, Nat.sub_self]; rfl, ?_⟩
                  have hO4 := hO3.out.base (B' := 0) (Nat.zero_le _)
                  exact hO4.turns hT1 (fun g hg hh => row_apart hO4 hus'.out (by decide) g hg hh)
            · exact hbr1'.out.trans (hT1.below hbr1'.out.size (fun g hg => (World.ownsRow.lt hus'.out g hg).1))
          case measure => simp [RowKit.intOf]; omega
    · obtain rfl : j = N := by omega
      have hwall : ws.take j = ws := by rw [← hwl'.out]; exact List.take_length
      have hddv : dd = idv := by rw [hdd.out, if_pos hh2]
      subst hddv
      have hRo1 := hRo.out
      rw [hwall] at hRo1
      have hRo1' := Lib.hid hRo1
      clear hRo1 hwall hdd hRo
      go_upto_region 21 with fail
      obtain ⟨us, hus, hur⟩ := hRo1'.out
      have hpl : (SC.pss 1 ws).length = j := by rw [SC.pss_len]; exact hwl'.out
      rw [hpl] at hus
      obtain ⟨B', b', eB, hrd⟩ := own_read hus
      injection eB with eB1 eB2 eB3
      subst eB1 eB3
      obtain ⟨gB, rfl, hgB1, hgB2, -⟩ := hrd 0 (by omega)
      have hus' := Lib.hid hus
      have hur' := Lib.hid hur
      have hpl' := Lib.hid hpl
      have eB2' := Lib.hid eB2
      obtain ⟨wq, hwq⟩ : ∃ x, x = wr := ⟨_, rfl⟩
      subst hwq
      clear hus hrd hpl
      subst eB2
      go_upto_region 22 with fail
      have hus := hus'.out
      have hM0 := Lies.made wq 32 #[.int .i64 2, .int .i64 (dd : Int), .string ⟨#[]⟩, .slice none 0 0, .int .i64 0, .int .i64 0, .string ⟨#[]⟩, .slice none 0 0, .slice none 0 0]
      obtain ⟨W2, hW2⟩ : ∃ W2, wq.alloc (.cells #[.int .i64 2, .int .i64 (dd : Int), .string ⟨#[]⟩, .slice none 0 0, .int .i64 0, .int .i64 0, .string ⟨#[]⟩, .slice none 0 0, .slice none 0 0] 32) = W2 := ⟨_, rfl⟩
      have hb02 : Below wq.heap.size wq W2 := by rw [← hW2]; exact (Below.refl _ wq).alloc (Nat.le_refl _) _
      rw [hW2] at hM0 ⊢
      have hbW2 := Lib.hid (Below.trans hbr.out (Below.mono hb02 hbr.out.size))
      have hRo2 := Lib.hid (own_below hus hb02)
      have hur2 : ∀ (k : Nat) (p : List Int), (SC.pss 1 ws)[k]? = some p → ∃ u, us[k]? = some u ∧ Own W2 0 u p := fun k p hp => by
        obtain ⟨u, h1, h2⟩ := hur k p hp
        exact ⟨u, h1, h2.below hb02⟩
      have hur2' := Lib.hid hur2
      obtain ⟨bx, hbx⟩ : ∃ x, wq.heap.size = x := ⟨_, rfl⟩
      rw [hbx] at hM0 ⊢
      have hM0' := Lib.hid hM0
      have hgx : gB < bx := by omega
      have hz2 : W2.heap.size = bx + 1 := by rw [← hW2, ← hbx]; simp
      clear hus hur hb02 hur2 hM0 hbr hRo1' hW2
      have hbx' := Lib.hid hbx
      clear hbx
      go_wp2_with fail
      go_loopw [16] (fun i wr2 => ∃ (e : Nat) (x : Tm) (xP : Option Addr) (xl xp : Nat) (xI : Option Addr) (xm xq : Nat) (xK : Option Addr) (xn xr : Nat), e ≤ m ∧ i = .int .i64 ((e : Int) - 1) ∧ Hid (x = SC.nst ((SC.pss 1 ws).drop e) (SC.loc1 (dd : Int))) ∧ Lies wr2 bx 32 [.int .i64 x.k, .int .i64 x.n, .string ⟨x.s.toArray⟩, .slice xP xl xp, .int .i64 x.d.k, .int .i64 x.d.n, .string ⟨x.d.s.toArray⟩, .slice xI xm xq, .slice xK xn xr] ∧ Hid (TmD wr2 bx x (.slice xP xl xp) (.slice xI xm xq) (.slice xK xn xr)) ∧ Hid (Turns (fun g => g = bx) W2 wr2)) (fun i _ => (RowKit.intOf i + 1).toNat)
      case atStart =>
        refine ⟨m, SC.loc1 (dd : Int), none, 0, 0, none, 0, 0, none, 0, 0, Nat.le_refl _, rfl, Lib.hid ?_, hM0'.out, Lib.hid (fun w' _ => ⟨PIn.nil _, In.nil _, TIn.nil _⟩), Lib.hid (Turns.refl _ _)⟩
        rw [List.drop_of_length_le (by rw [hpl'.out]; exact Nat.le_refl _)]
        rfl
      case round =>
        obtain ⟨e, x, xP, xl, xp, xI, xm, xq, xK, xn, xr, he, rfl, hxe, hMx, hTx, hTu⟩ := hrel
        have hMx' := Lib.hid hMx
        by_cases he0 : 1 ≤ e
        · obtain ⟨e', rfl⟩ : ∃ e', e = e' + 1 := ⟨e - 1, by omega⟩
          have en : (((e' + 1 : Nat) : Int) - 1) = (e' : Int) := by omega
          have hpp : (SC.pss 1 ws)[e']? = some ((SC.pss 1 ws)[e']'(by rw [hpl'.out]; omega)) := List.getElem?_eq_getElem _
          obtain ⟨pe, hpe⟩ : ∃ p, (SC.pss 1 ws)[e']'(by rw [hpl'.out]; omega) = p := ⟨_, rfl⟩
          rw [hpe] at hpp
          obtain ⟨ue, hue, hoe⟩ := hur2'.out e' pe hpp
          obtain ⟨uA, uc, rfl, -⟩ := hoe.read
          obtain ⟨ul, hul⟩ : ∃ n, pe.length = n := ⟨_, rfl⟩
          rw [hul] at hue hoe
          have hRor := own_turns hRo2.out hTu.out (fun g hg hh => by have h1 : gB = g := by simpa [Value.ownBlock] using hg
                                                                     omega)
          have p1 : wr.cell? ⟨gB, e', none⟩ = some (.slice uA ul uc) := (World.ownsRow.cellAt hRor e' (by omega)).trans hue
          have hgw : gB < wr.heap.size := by have := hTu.out.size; omega
          have hdr : (SC.pss 1 ws).drop e' = pe :: (SC.pss 1 ws).drop (e' + 1) := by rw [List.drop_eq_getElem_cons (by rw [hpl'.out]; omega), hpe]
          have hdr' := Lib.hid hdr
          have hoe' := Lib.hid hoe
          have hlt := hMx.lt
          have y0 := hMx.cell 0
          have y1 := hMx.cell 1
          have y2 := hMx.cell 2
          have y3 := hMx.cell 3
          have y4 := hMx.cell 4
          have y5 := hMx.cell 5
          have y6 := hMx.cell 6
          have y7 := hMx.cell 7
          have y8 := hMx.cell 8
          simp only [List.getElem?_cons_succ, List.getElem?_cons_zero] at y0 y1 y2 y3 y4 y5 y6 y7 y8
          have f0 := hMx.free 0
          have f1 := hMx.free 1
          have f2 := hMx.free 2
          have f3 := hMx.free 3
          have f4 := hMx.free 4
          have f5 := hMx.free 5
          have f6 := hMx.free 6
          have f7 := hMx.free 7
          have f8 := hMx.free 8
          clear hMx hpp hpe hue hoe hul hRor hdr
          rw [en]
          have hR9 : Lies (((((((((((wr.setCell ⟨bx, 0, none⟩ (.int .i64 8)).setCell ⟨bx, 1, none⟩ (.int .i64 0)).setCell ⟨bx, 2, none⟩ (.string ⟨#[]⟩)).setCell ⟨bx, 3, none⟩ (.slice uA ul uc)).setCell ⟨bx, 4, none⟩ (.int .i64 0)).setCell ⟨bx, 5, none⟩ (.int .i64 0)).setCell ⟨bx, 6, none⟩ (.string ⟨#[]⟩)).setCell ⟨bx, 7, none⟩ (.slice none 0 0)).setCell ⟨bx, 8, none⟩ (.slice (some ⟨wr.heap.size, 0, none⟩) 1 1)).alloc (.cells #[.int .i64 x.k, .int .i64 x.n, .string ⟨x.s.toArray⟩, .slice xP xl xp, .int .i64 x.d.k, .int .i64 x.d.n, .string ⟨x.d.s.toArray⟩, .slice xI xm xq, .slice xK xn xr] 32)).drew) bx 32 [.int .i64 8, .int .i64 0, .string ⟨#[]⟩, .slice uA ul uc, .int .i64 0, .int .i64 0, .string ⟨#[]⟩, .slice none 0 0, .slice (some ⟨wr.heap.size, 0, none⟩) 1 1] :=
            ((nine_res hMx'.out bx rfl (.int .i64 8) (.int .i64 0) (.string ⟨#[]⟩) (.slice uA ul uc) (.int .i64 0) (.int .i64 0) (.string ⟨#[]⟩) (.slice none 0 0) (.slice (some ⟨wr.heap.size, 0, none⟩) 1 1)).alloc _).drew
          have hT9 : Turns (fun g => g = bx) wr (((((((((((wr.setCell ⟨bx, 0, none⟩ (.int .i64 8)).setCell ⟨bx, 1, none⟩ (.int .i64 0)).setCell ⟨bx, 2, none⟩ (.string ⟨#[]⟩)).setCell ⟨bx, 3, none⟩ (.slice uA ul uc)).setCell ⟨bx, 4, none⟩ (.int .i64 0)).setCell ⟨bx, 5, none⟩ (.int .i64 0)).setCell ⟨bx, 6, none⟩ (.string ⟨#[]⟩)).setCell ⟨bx, 7, none⟩ (.slice none 0 0)).setCell ⟨bx, 8, none⟩ (.slice (some ⟨wr.heap.size, 0, none⟩) 1 1)).alloc (.cells #[.int .i64 x.k, .int .i64 x.n, .string ⟨x.s.toArray⟩, .slice xP xl xp, .int .i64 x.d.k, .int .i64 x.d.n, .string ⟨x.d.s.toArray⟩, .slice xI xm xq, .slice xK xn xr] 32)).drew) :=
            ((nine_turns (Turns.refl (fun g => g = bx) wr) (g := bx) (fun _ => rfl) 0 (.int .i64 8) (.int .i64 0) (.string ⟨#[]⟩) (.slice uA ul uc) (.int .i64 0) (.int .i64 0) (.string ⟨#[]⟩) (.slice none 0 0) (.slice (some ⟨wr.heap.size, 0, none⟩) 1 1)).alloc _).drew
          have hG9 : Lies (((((((((((wr.setCell ⟨bx, 0, none⟩ (.int .i64 8)).setCell ⟨bx, 1, none⟩ (.int .i64 0)).setCell ⟨bx, 2, none⟩ (.string ⟨#[]⟩)).setCell ⟨bx, 3, none⟩ (.slice uA ul uc)).setCell ⟨bx, 4, none⟩ (.int .i64 0)).setCell ⟨bx, 5, none⟩ (.int .i64 0)).setCell ⟨bx, 6, none⟩ (.string ⟨#[]⟩)).setCell ⟨bx, 7, none⟩ (.slice none 0 0)).setCell ⟨bx, 8, none⟩ (.slice (some ⟨wr.heap.size, 0, none⟩) 1 1)).alloc (.cells #[.int .i64 x.k, .int .i64 x.n, .string ⟨x.s.toArray⟩, .slice xP xl xp, .int .i64 x.d.k, .int .i64 x.d.n, .string ⟨x.d.s.toArray⟩, .slice xI xm xq, .slice xK xn xr] 32)).drew) wr.heap.size 32 [.int .i64 x.k, .int .i64 x.n, .string ⟨x.s.toArray⟩, .slice xP xl xp, .int .i64 x.d.k, .int .i64 x.d.n, .string ⟨x.d.s.toArray⟩, .slice xI xm xq, .slice xK xn xr] := by
            have h0 := Lies.made ((((((((((wr.setCell ⟨bx, 0, none⟩ (.int .i64 8)).setCell ⟨bx, 1, none⟩ (.int .i64 0)).setCell ⟨bx, 2, none⟩ (.string ⟨#[]⟩)).setCell ⟨bx, 3, none⟩ (.slice uA ul uc)).setCell ⟨bx, 4, none⟩ (.int .i64 0)).setCell ⟨bx, 5, none⟩ (.int .i64 0)).setCell ⟨bx, 6, none⟩ (.string ⟨#[]⟩)).setCell ⟨bx, 7, none⟩ (.slice none 0 0)).setCell ⟨bx, 8, none⟩ (.slice (some ⟨wr.heap.size, 0, none⟩) 1 1))) 32 #[.int .i64 x.k, .int .i64 x.n, .string ⟨x.s.toArray⟩, .slice xP xl xp, .int .i64 x.d.k, .int .i64 x.d.n, .string ⟨x.d.s.toArray⟩, .slice xI xm xq, .slice xK xn xr]
            simp only [World.size_setCell] at h0
            exact h0.drew
          obtain ⟨W9, hW9⟩ : ∃ W9, ((((((((((wr.setCell ⟨bx, 0, none⟩ (.int .i64 8)).setCell ⟨bx, 1, none⟩ (.int .i64 0)).setCell ⟨bx, 2, none⟩ (.string ⟨#[]⟩)).setCell ⟨bx, 3, none⟩ (.slice uA ul uc)).setCell ⟨bx, 4, none⟩ (.int .i64 0)).setCell ⟨bx, 5, none⟩ (.int .i64 0)).setCell ⟨bx, 6, none⟩ (.string ⟨#[]⟩)).setCell ⟨bx, 7, none⟩ (.slice none 0 0)).setCell ⟨bx, 8, none⟩ (.slice (some ⟨wr.heap.size, 0, none⟩) 1 1)).alloc (.cells #[.int .i64 x.k, .int .i64 x.n, .string ⟨x.s.toArray⟩, .slice xP xl xp, .int .i64 x.d.k, .int .i64 x.d.n, .string ⟨x.d.s.toArray⟩, .slice xI xm xq, .slice xK xn xr] 32)).drew = W9 := ⟨_, rfl⟩
          rw [hW9] at hR9 hT9 hG9
          have R9 := Lib.hid (And.intro hR9 (And.intro hT9 hG9))
          clear hR9 hT9 hG9
          go_upto_region 25 with fail
          go_region_with (fail)
          all_goals
            try rw [hW9]
            clear hW9 y0 f0 y1 f1 y2 f2 y3 f3 y4 f4 y5 f5 y6 f6 y7 f7 y8 f8 p1
            go_wp2_with fail
            go_roundw
            case rel =>
              obtain ⟨hR9, hT9, hG9⟩ := R9.out
              refine ⟨e', ⟨8, 0, [], pe, nd0, .one x⟩, uA, ul, uc, none, 0, 0, some ⟨wr.heap.size, 0, none⟩, 1, 1, by omega, rfl, Lib.hid ?_, hR9, Lib.hid ?_, Lib.hid (hTu.out.then hT9 (fun _ _ h => h))⟩
              · rw [hxe.out, hdr'.out]; rfl
              · refine TmD.lam hTx.out (hoe'.out.turns hTu.out (fun g hg hh => ?_)) (fun g hg e => ?_) hG9 (by omega) ⟨hT9.size, fun g hg hne => hT9.block g hg hne⟩
                · exact row_lies hoe'.out hM0'.out (by decide) (by rw [hg, hh])
                · exact row_lies hoe'.out hM0'.out (by decide) (by rw [hg, e])
            case measure => simp [RowKit.intOf] <;> omega
        · obtain rfl : e = 0 := by omega
          have hx0 : x = SC.nst (SC.pss 1 ws) (SC.loc1 (dd : Int)) := by rw [hxe.out, List.drop_zero]
          have hTm := hTx.out wr ⟨Nat.le_refl _, fun _ _ _ => rfl⟩
          have hfd := SC.pss_found (ws := ws) (i := h) (k := kk) (hwi'.out h hh2) hk2'.out
          have hdv : 1 + (((ws.take h).sum : Nat) : Int) + (kk : Int) = (dd : Int) := by rw [← hidv'.out]; push_cast; rfl
          rw [hdv] at hfd
          have hw24 : ∀ v ∈ ws, v ≤ 24 := fun v hv => by
            obtain ⟨k, hk, hkv⟩ := List.mem_iff_getElem.1 hv
            have h1 := hwi'.out k (by rw [← hwl'.out]; exact hk)
            rw [List.getElem?_eq_getElem hk, hkv] at h1
            injection h1 with h1
            omega
          have hok : TM.okt x = true := by rw [hx0]; exact SC.pss_right (by rw [hwl'.out]; omega) hw24 hfd.1
          have hbd : TmBd x := by
            rw [hx0]
            have hb1 : TmBd (SC.loc1 (dd : Int)) := ⟨by show b64 2; unfold b64; omega, by show b64 (dd : Int); unfold b64; have := hsum'.out h (by omega); have := hidv'.out; have := hk2'.out; omega, fun p hp => by simp [SC.loc1] at hp, by show b64 0; unfold b64; omega, by show b64 0; unfold b64; omega, trivial, trivial⟩
            refine nst_bd hb1 _ (fun p hp y hy => ?_)
            have h1 : y ∈ (SC.pss 1 ws).flatten := List.mem_flatten.2 ⟨p, hp, hy⟩
            rw [SC.pss_flat, SC.cnt_mem] at h1
            have h2 := hsum'.out m (Nat.le_refl _)
            have h3 : ws.take m = ws := by rw [← hwl'.out]; exact List.take_length
            rw [h3] at h2
            unfold b64
            omega
          have hC0 := sresolve_any x wr _ _ _ hTm hbd
          have hres : SC.res x = SC.nrs [] (SC.pss 1 ws) (SC.loc1 (dd : Int)) 0 := by rw [hx0, SC.nrs_zero]; rfl
          unfold RsO at hC0
          rw [hres] at hC0
          obtain ⟨r0, hr0⟩ : ∃ r0, SC.nrs [] (SC.pss 1 ws) (SC.loc1 (dd : Int)) 0 = r0 := ⟨_, rfl⟩
          rw [hr0] at hC0
          unfold tmv at hC0
          have hC := Lib.hid hC0
          have hok' := Lib.hid hok
          have hfd' := Lib.hid hfd
          have hr0' := Lib.hid hr0
          have hdv' := Lib.hid hdv
          have y0 := hMx.cell 0
          have y1 := hMx.cell 1
          have y2 := hMx.cell 2
          have y3 := hMx.cell 3
          have y4 := hMx.cell 4
          have y5 := hMx.cell 5
          have y6 := hMx.cell 6
          have y7 := hMx.cell 7
          have y8 := hMx.cell 8
          simp only [List.getElem?_cons_succ, List.getElem?_cons_zero] at y0 y1 y2 y3 y4 y5 y6 y7 y8
          clear hMx hx0 hTm hfd hdv hw24 hok hbd hC0 hres hr0
          obtain ⟨wl, hwl2⟩ : ∃ x, x = wr := ⟨_, rfl⟩
          subst hwl2
          go_upto_region 27 with (
            go_at_call 5
            refine hC.out.mono ?_
            rintro e w6 ⟨hyes, -, hb6⟩
            obtain ⟨vp6, vi6, vk6, rfl, hT6⟩ := hyes hok'.out
            obtain ⟨P6, m6, p6, rfl⟩ : ∃ A m c, vp6 = .slice A m c := by obtain ⟨A, c, e⟩ := hT6.p.read; exact ⟨_, _, _, e⟩
            obtain ⟨I6, l7, q6, rfl⟩ : ∃ A m c, vi6 = .slice A m c := by obtain ⟨A, c, e⟩ := hT6.d.read; exact ⟨_, _, _, e⟩
            obtain ⟨K6, n6, r6, rfl⟩ : ∃ A m c, vk6 = .slice A m c := by obtain ⟨A, c, e⟩ := hT6.k.read; exact ⟨_, _, _, e⟩
            have R6 := Lib.hid (And.intro hb6 hT6)
            clear hb6 hT6 hyes)
          have hM7 := Lies.made w6 32 #[.int .i64 r0.k, .int .i64 r0.n, .string ⟨r0.s.toArray⟩, .slice P6 m6 p6, .int .i64 r0.d.k, .int .i64 r0.d.n, .string ⟨r0.d.s.toArray⟩, .slice I6 l7 q6, .slice K6 n6 r6]
          obtain ⟨W7, hW7⟩ : ∃ W7, w6.alloc (.cells #[.int .i64 r0.k, .int .i64 r0.n, .string ⟨r0.s.toArray⟩, .slice P6 m6 p6, .int .i64 r0.d.k, .int .i64 r0.d.n, .string ⟨r0.d.s.toArray⟩, .slice I6 l7 q6, .slice K6 n6 r6] 32) = W7 := ⟨_, rfl⟩
          have hb67 : Below w6.heap.size w6 W7 := by rw [← hW7]; exact (Below.refl _ w6).alloc (Nat.le_refl _) _
          rw [hW7] at hM7 ⊢
          have hM7' := Lib.hid hM7
          have hb67' := Lib.hid hb67
          clear hW7 hM7 hb67 y0 y1 y2 y3 y4 y5 y6 y7 y8
          go_wp2_with fail
          go_loopw [107] (fun i wr2 => ∃ (q : Nat) (y : Tm) (yP : Option Addr) (yl yp : Nat) (yI : Option Addr) (ym yq : Nat) (yK : Option Addr) (yn yr : Nat), q ≤ m ∧ i = .int .i64 q ∧ Hid (SC.nrs [] (SC.pss 1 ws) (SC.loc1 (dd : Int)) q = y) ∧ Lies wr2 w6.heap.size 32 [.int .i64 y.k, .int .i64 y.n, .string ⟨y.s.toArray⟩, .slice yP yl yp, .int .i64 y.d.k, .int .i64 y.d.n, .string ⟨y.d.s.toArray⟩, .slice yI ym yq, .slice yK yn yr] ∧ Hid (TmIn w6 y (.slice yP yl yp) (.slice yI ym yq) (.slice yK yn yr)) ∧ Hid (Turns (fun g => g = w6.heap.size) W7 wr2)) (fun i _ => m - (RowKit.intOf i).toNat)
          case atStart => exact ⟨0, r0, _, _, _, _, _, _, _, _, _, Nat.zero_le _, rfl, hr0', hM7'.out, Lib.hid R6.out.2, Lib.hid (Turns.refl _ _)⟩
          case round =>
            obtain ⟨q, y, yP, yl, yp, yI, ym, yq, yK, yn, yr, hq, rfl, hy, hMy, hTy, hTv⟩ := hrel
            have hMy' := Lib.hid hMy
            by_cases hqm : q < m
            · obtain ⟨z, hz0⟩ : ∃ z, SC.nrs [] (SC.pss 1 ws) (SC.loc1 (dd : Int)) (q + 1) = z := ⟨_, rfl⟩
              have hat := SC.nrs_at (R := []) (t := SC.loc1 (dd : Int)) (show q < (SC.pss 1 ws).length by rw [hpl'.out]; exact hqm)
              have hln := SC.nrs_len (R := []) (t := SC.loc1 (dd : Int)) (show q < (SC.pss 1 ws).length by rw [hpl'.out]; exact hqm)
              rw [hy.out] at hat hln
              rw [hz0] at hat
              have hyn : yn = 1 := by
                obtain ⟨A', c', e'⟩ := hTy.out.k.read
                injection e' with _ e2 _
                rw [e2, hln]
              subst hyn
              obtain ⟨b, o, Pk, pk, Ik, qk, Kk, rk, rfl, hb0, c10, c11, c12, c13, c14, c15, c16, c17, c18, hTz⟩ := hTy.out.k.at_ hat
              have hbw : Below w6.heap.size w6 wr := hb67'.out.trans (hTv.out.below hb67'.out.size (fun g hg => by omega))
              have ce : ∀ o, wr.cell? ⟨b, o, none⟩ = w6.cell? ⟨b, o, none⟩ := fun o => hbw.cell (p := ⟨b, o, none⟩) hb0
              rw [← ce] at c10 c11 c12 c13 c14 c15 c16 c17 c18
              simp only [Nat.zero_mul, Nat.add_zero] at c10 c11 c12 c13 c14 c15 c16 c17 c18
              have hlt := hMy.lt
              have hTz' := Lib.hid hTz
              have hz0' := Lib.hid hz0
              have y0 := hMy.cell 0
              have y1 := hMy.cell 1
              have y2 := hMy.cell 2
              have y3 := hMy.cell 3
              have y4 := hMy.cell 4
              have y5 := hMy.cell 5
              have y6 := hMy.cell 6
              have y7 := hMy.cell 7
              have y8 := hMy.cell 8
              simp only [List.getElem?_cons_succ, List.getElem?_cons_zero] at y0 y1 y2 y3 y4 y5 y6 y7 y8
              have f0 := hMy.free 0
              have f1 := hMy.free 1
              have f2 := hMy.free 2
              have f3 := hMy.free 3
              have f4 := hMy.free 4
              have f5 := hMy.free 5
              have f6 := hMy.free 6
              have f7 := hMy.free 7
              have f8 := hMy.free 8
              clear hMy hat hln hbw ce hTz hz0
              go_wp2_with fail
              have hM9 := nine_res hMy'.out w6.heap.size rfl (.int .i64 z.k) (.int .i64 z.n) (.string ⟨z.s.toArray⟩) (.slice Pk z.ps.length pk) (.int .i64 z.d.k) (.int .i64 z.d.n) (.string ⟨z.d.s.toArray⟩) (.slice Ik z.d.is.len qk) (.slice Kk z.ks.len rk)
              have hT9 := hTv.out.then (nine_turns (Turns.refl (fun g => g = w6.heap.size) wr) (g := w6.heap.size) (fun _ => rfl) 0 (.int .i64 z.k) (.int .i64 z.n) (.string ⟨z.s.toArray⟩) (.slice Pk z.ps.length pk) (.int .i64 z.d.k) (.int .i64 z.d.n) (.string ⟨z.d.s.toArray⟩) (.slice Ik z.d.is.len qk) (.slice Kk z.ks.len rk)) (fun _ _ h => h)
              have R9 := Lib.hid (And.intro hM9 hT9)
              clear hM9 hT9
              go_roundw
              case rel => exact ⟨q + 1, z, _, _, _, _, _, _, _, _, _, by omega, by go_num, hz0', R9.out.1, hTz', Lib.hid R9.out.2⟩
              case measure => simp [RowKit.intOf] <;> omega
            · obtain rfl : q = m := by omega
              have hend := SC.nrs_end [] (SC.pss 1 ws) (dd : Int)
              rw [hpl'.out, hy.out, hfd'.out.2, hwl'.out] at hend
              obtain ⟨uu, huu⟩ : ∃ uu : Nat, q - 1 - h = uu := ⟨_, rfl⟩
              have hyn : y.n = ((32 * uu + kk : Nat) : Int) := by rw [hend]; push_cast; omega
              have hkk := hk2'.out
              have hkk20 : kk < 32 := by omega
              have hPl := place_yes wr y.n (by rw [hyn]; exact Int.natCast_nonneg _) (by rw [hyn]; unfold b64; omega)
              have hd1 : y.n / 32 = (uu : Int) := by rw [hyn]; omega
              have hd2 : y.n % 32 = (kk : Int) := by rw [hyn]; omega
              rw [hd1, hd2] at hPl
              have hPl' := Lib.hid hPl
              have en : (q : Int) - 1 - (h : Int) = (uu : Int) := by omega
              have hpp : (SC.pss 1 ws)[h]? = some ((SC.pss 1 ws)[h]'(by rw [hpl'.out]; exact hh2)) := List.getElem?_eq_getElem _
              have hph := SC.pss_at 1 ws h _ (hwi'.out h hh2)
              obtain ⟨ue, hue, hoe⟩ := hur2'.out h _ hph
              obtain ⟨uA, uc, rfl, -⟩ := hoe.read
              rw [SC.cnt_len] at hue
              obtain ⟨ul, hul⟩ : ∃ n, 1 + (zs.getD h 0).toNat % 20 = n := ⟨_, rfl⟩
              have f2 := hk1'.out
              rw [hul] at hue f2
              have hul20 : ul ≤ 20 := by omega
              have hul0 : kk < ul := by omega
              have hbz := hb67'.out.trans (hTv.out.below hb67'.out.size (fun g hg => by omega))
              have hgb2 : ∀ g, (Value.slice (some ⟨gB, 0, none⟩) q b).ownBlock = some g → ¬ g = bx := fun g hg hh => by
                have h1 : gB = g := by simpa [Value.ownBlock] using hg
                omega
              have hRo3 := own_turns hRo2.out hTu.out hgb2
              have hcx := (World.ownsRow.cellAt hRo3 h (by omega)).trans hue
              have hlw := hTu.out.size
              have hl6 := Below.size R6.out.1
              have p1 : wr.cell? ⟨gB, h, none⟩ = some (.slice uA ul uc) := (hbz.cell (p := ⟨gB, h, none⟩) (by show gB < w6.heap.size; omega)).trans ((Below.cell R6.out.1 (p := ⟨gB, h, none⟩) (by show gB < wl.heap.size; omega)).trans hcx)
              have hFin := Lib.hid (Below.trans (Below.trans (hbW2.out.trans (hTu.out.below hbW2.out.size (fun g hg => by have := hbx'.out; omega))) (Below.mono R6.out.1 (Below.size (hbW2.out.trans (hTu.out.below hbW2.out.size (fun g hg => by have := hbx'.out; omega)))))) (Below.mono hbz (by have h1 := hbW2.out.size; omega)))
              have y1 : wr.cell? ⟨w6.heap.size, 1, none⟩ = some (.int .i64 y.n) := hMy.cell 1
              have e5 : ((ul : Nat) : Int) ≠ 0 := by omega
              clear hend hyn hPl hd1 hd2 hpp hph hue hoe hul hbz hgb2 hRo3 hcx hlw hl6 hMy huu
              go_wp2_with (
                go_at_call 6
                refine hPl'.out.mono ?_
                rintro e w9 ⟨rfl, rfl⟩)
              go_ret
              exact ⟨rfl, hFin.out⟩
end Go.Proofs.Ytpiekdcbjkgipaa
