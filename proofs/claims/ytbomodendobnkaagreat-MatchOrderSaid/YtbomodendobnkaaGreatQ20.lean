/- Package match: inRow, walked. -/
import Derived.Test.YtbomodendobnkaaGreatQ19
namespace Go.Proofs.YtbomodendobnkaaGreat
open Go.ChangeShapes Go.WideShapes Go.ChangeAt Go.RowKit Go.Deep
open MM (Bl Bm Var)

theorem look_at (w0 w : World) (r : MM.Row) (a b c d : Value) (k : Int) (part : Nat) (hp : part < 4) (g6 gp g8 : Nat) (x1 x2 x3 : Value) (hb : Below w0.heap.size w0 w) (hR : RowAt w0 r a b c d)
    (hr : Lies w g6 78 [a, b, c, d]) (hpb : Lies w gp 24 [.int .i64 k, x1, x2, x3]) (hq : Lies w g8 3 [.int .i64 part]) :
    LookAt w (fun g => g < w0.heap.size ∨ g = g6 ∨ g = gp ∨ g = g8) (.func (.func 68) #[] #[.pointer (some ⟨g6, 0, none⟩), .pointer (some ⟨gp, 0, none⟩), .pointer (some ⟨g8, 0, none⟩)]) (MM.lookAt r k part) :=
  ⟨_, _, rfl, enters_of Tryz.func68 (by kernel_rfl) rfl, fun w2 x v k2 hv => look_call w2 r a b c d k part hp g6 gp g8 x1 x2 x3 x v (hR.kp (Kp.from_ hb k2 (fun _ hg => .inl hg))) (k2.lies hr (.inr (.inl rfl))) (k2.lies hpb (.inr (.inr (.inl rfl)))) (k2.lies hq (.inr (.inr (.inr rfl)))) hv⟩
theorem own_ne {w : World} {v : Value} {e t : TypeId} {B sz n g : Nat} {xs cs : List Value} (h : w.ownsRow B e sz v n xs) (hl : Lies w g t cs) (hne : e ≠ t) : v.ownBlock ≠ some g := by
  intro hh
  rcases h.2 with ⟨rfl, _⟩ | ⟨g', cap, cur, rfl, _, hb, _⟩
  · cases hh
  · have : g' = g := by simpa [Value.ownBlock] using hh
    subst this
    unfold Lies at hl
    rw [hb] at hl
    simp at hl
    exact hne hl.2
/-- what is still to come of a row's variables, behind those that there are: of the part's items from i on -/
def rem (V : RM.Dm → Option (List Var)) (r : MM.Row) (k : Int) (j i : Nat) (acc : List Var) : Option (List Var) :=
  match MM.rowVars V (MM.kAt r k j) i (SM.dr (r.part j) i) with
  | none => none
  | some l => (MM.parts V r k (3 - j) (j + 1)).map fun l2 => acc ++ (l ++ l2)
theorem rem_start (V : RM.Dm → Option (List Var)) (r : MM.Row) (k : Int) {j : Nat} (hj : j < 4) (acc : List Var) : (MM.parts V r k (4 - j) j).map (fun l => acc ++ l) = rem V r k j 0 acc := by
  unfold rem
  have e : MM.parts V r k ((3 - j) + 1) j = match MM.rowVars V (MM.kAt r k j) 0 (r.part j) with
    | none => none
    | some a => (MM.parts V r k (3 - j) (j + 1)).map fun l => a ++ l := rfl
  rw [SM.dr_zero, show 4 - j = (3 - j) + 1 by omega, e]
  cases MM.rowVars V (MM.kAt r k j) 0 (r.part j) with
  | none => rfl
  | some l => simp only [Option.map_map]; rfl
theorem rem_end (V : RM.Dm → Option (List Var)) (r : MM.Row) (k : Int) {j i : Nat} (hi : (r.part j).len ≤ i) (acc : List Var) : rem V r k j i acc = (MM.parts V r k (3 - j) (j + 1)).map (fun l => acc ++ l) := by
  unfold rem
  rw [SM.dr_end _ _ hi]
  simp [MM.rowVars]
theorem rem_step (V : RM.Dm → Option (List Var)) (r : MM.Row) (k : Int) {j i : Nat} {y : RM.Dm} (hy : (r.part j).at_ i = some y) (acc : List Var) :
    rem V r k j i acc = match V y with | none => none | some vs => rem V r k j (i + 1) (acc ++ vs.map (MM.kAt r k j i)) := by
  unfold rem
  rw [SM.dr_at _ _ _ hy, MM.rowVars]
  cases h : V ⟨y.k, y.n, y.s, y.is⟩ with
  | none =>
    have : V y = none := h
    simp only
  | some vs =>
    have : V y = some vs := h
    simp only
    cases MM.rowVars V (MM.kAt r k j) (i + 1) (SM.dr (r.part j) (i + 1)) with
    | none => rfl
    | some l =>
      simp only [Option.map_some]
      congr 1
      funext l2
      simp [List.append_assoc]
theorem VarN.none_ {B0 : Nat} {w w' : World} {e : Ending} (h : VarN B0 w none e w') : e = .returned (.tuple #[.slice none 0 0, .bool false]) ∧ Went w w' := by
  obtain ⟨hw, ⟨_, he⟩ | ⟨vs, A, c, hR, _⟩⟩ := h
  · exact ⟨he, hw⟩
  · cases hR
theorem VarN.some_ {B0 : Nat} {w w' : World} {e : Ending} {vs : List Var} (h : VarN B0 w (some vs) e w') : ∃ A c, e = .returned (.tuple #[.slice A vs.length c, .bool true]) ∧ VOwn w' (fun g => g < B0 ∨ (w.heap.size ≤ g ∧ g < w'.heap.size)) (.slice A vs.length c) vs ∧ (∀ g, (Value.slice A vs.length c).ownBlock = some g → w.heap.size ≤ g) ∧ Went w w' := by
  obtain ⟨hw, ⟨hR, _⟩ | ⟨vs', A, c, hR, he, h1, h2⟩⟩ := h
  · cases hR
  · simp only [Option.some.injEq] at hR
    subst hR
    exact ⟨A, c, he, h1, h2, hw⟩
theorem VOwn.ne {w : World} {S : Nat → Prop} {v : Value} {l : List Var} {g : Nat} {t : TypeId} {cs : List Value} (h : VOwn w S v l) (hl : Lies w g t cs) (hne : 60 ≠ t) : v.ownBlock ≠ some g := by
  obtain ⟨_, h1, _⟩ := h
  exact own_ne h1 hl hne
set_option maxRecDepth 100000 in
set_option maxHeartbeats 8000000 in
theorem inRow_any (w0 : World) (q m : Nat) (n : MM.NM) (hN : Nm w0 q m n) (f : Nat) (hf : f ≤ 1000) (hV : VarsOk w0 q n f) (w : World) (x : RM.Dm) (v : Value) (hb : Below w0.heap.size w0 w) (hp : Pt w0 (f + 1) x v) :
    Calls Tryz.prog 47 #[.map (some q), dtv x v] w (VarN w0.heap.size w (MM.parts (MM.vars n f) (MM.rowp n x) x.k 4 0)) := by
  obtain ⟨A, cc, rfl⟩ := hp.v.read
  have hRow := Lib.hid (fun (w' : World) (hb' : Below w0.heap.size w0 w') => row_any w0 w' hb' q m n x _ (hN.below hb') hp.v hp.b)
  obtain ⟨R, hR⟩ : ∃ R, MM.parts (MM.vars n f) (MM.rowp n x) x.k 4 0 = R := ⟨_, rfl⟩
  rw [hR]
  have hpi := Lib.hid (fun (j i : Nat) (y : RM.Dm) (u : Value) (hy : ((MM.rowp n x).part j).at_ i = some y) (hu : Cn w0 u y.is) => (show Pt w0 f y u from by
    obtain ⟨k, hk⟩ := part_in n x hy
    exact hp.in_ hk hu))
  have hsz : szp (MM.rowp n x) 0 ≤ 5000 := by
    have h1 := MM.row_sz n x
    have h2 := hp.z
    simp [szp]
    omega
  obtain ⟨r, hr⟩ : ∃ r, MM.rowp n x = r := ⟨_, rfl⟩
  rw [hr] at hRow hR hpi hsz
  have hR' := Lib.hid hR
  have hsz' := Lib.hid hsz
  have hV' := Lib.hid hV
  have hvl := Lib.hid (MM.vars_len n f)
  have hvd := Lib.hid (MM.vars_dp n f)
  obtain ⟨V, hVV⟩ : ∃ V, MM.vars n f = V := ⟨_, rfl⟩
  unfold VarsOk at hV'
  rw [hVV] at hR' hvl hvd
  simp only [hVV] at hV'
  unfold dtv at hRow ⊢
  have hb1 := m_box w #[.int .i64 x.k, .int .i64 x.n, .string ⟨x.s.toArray⟩, .slice A x.is.len cc] 24
  have hL1 := Lies.made w 24 #[.int .i64 x.k, .int .i64 x.n, .string ⟨x.s.toArray⟩, .slice A x.is.len cc]
  have hw0 := hb.size
  clear hR hr hV hVV hp hsz hN
  go_enter Tryz.func47, Tryz.ntmps47
  go_wp2_with (
    go_at_call 33
    refine (hRow.out _ (hb.trans (hb1.mono hb.size))).mono ?_
    rintro e w3 ⟨a, b, c, d, rfl, hRA, hb3⟩
    obtain ⟨Fa, ca, rfl⟩ := hRA.f.read
    obtain ⟨Ma, cm, rfl⟩ := hRA.m.read
    obtain ⟨Ba, cb, rfl⟩ := hRA.b.read
    obtain ⟨Ta, ct, rfl⟩ := hRA.t.read
    unfold rwv
    have hbw3 := Lib.hid (hb1.trans (hb3.mono hb1.size))
    have M3 := Lib.hid (hL1.below hb3 hL1.lt)
    have hRA' := Lib.hid hRA
    clear hRA hb3)
  have hbg := Lib.hid (hbw3.out.alloc hbw3.out.size (.cells #[.slice Fa r.f.len ca, .slice Ma r.m.len cm, .slice Ba r.b.len cb, .slice Ta r.t.len ct] 78))
  have L6 := Lies.made w3 78 #[.slice Fa r.f.len ca, .slice Ma r.m.len cm, .slice Ba r.b.len cb, .slice Ta r.t.len ct]
  have M6 := M3.out.alloc (.cells #[.slice Fa r.f.len ca, .slice Ma r.m.len cm, .slice Ba r.b.len cb, .slice Ta r.t.len ct] 78)
  have hg6 : w.heap.size < w3.heap.size := M3.out.lt
  go_loopw [21, 7] (fun v21 v7 wr => ∃ (j : Nat) (A8 : Option Addr) (c8 : Nat) (acc : List Var), j ≤ 4 ∧ v21 = .int .i64 j ∧ v7 = .slice A8 acc.length c8 ∧ VOwn wr (fun g => g < w0.heap.size ∨ w.heap.size ≤ g) (.slice A8 acc.length c8) acc ∧ (∀ g, (Value.slice A8 acc.length c8).ownBlock = some g → w.heap.size ≤ g)
    ∧ Hid ((MM.parts V r x.k (4 - j) j).map (fun l => acc ++ l) = R) ∧ acc.length + szp r j ≤ 5000 ∧ Lies wr w.heap.size 24 [.int .i64 x.k, .int .i64 x.n, .string ⟨x.s.toArray⟩, .slice A x.is.len cc] ∧ Lies wr w3.heap.size 78 [.slice Fa r.f.len ca, .slice Ma r.m.len cm, .slice Ba r.b.len cb, .slice Ta r.t.len ct] ∧ Below w.heap.size w wr) (fun v21 _ _ => 4 - (intOf v21).toNat)
  case atStart =>
    refine ⟨0, none, 0, [], by omega, rfl, rfl, VOwn.nil _ _, (fun g hg => by cases hg), Lib.hid ?_, (by have := hsz'.out; simpa using this), M6, L6, hbg.out⟩
    rw [← hR'.out]
    cases MM.parts V r x.k 4 0 <;> simp
  case round =>
    obtain ⟨j, A8, c8, acc, hj, rfl, rfl, hO, hOb, hre, hpo, hMp, hM6, hbr⟩ := hrel
    clear L6 M6
    by_cases hj4 : j < 4
    · obtain ⟨P, pc, hix, hCP⟩ := hRA'.out.part hj4
      have hjlt : (j : Int) < 4 := by omega
      have hst := szp_step r hj4
      have hre0 := Lib.hid ((rem_start V r x.k hj4 acc).symm.trans hre.out)
      obtain ⟨PN, hPN⟩ : ∃ PN, (r.part j).len = PN := ⟨_, rfl⟩
      rw [hPN] at hix hCP
      have hPN' := Lib.hid hPN
      have hPNl : PN ≤ 9223372036854775807 := by rw [← hPN]; exact hCP.len
      have hCP' := Lib.hid hCP
      have g8b := m_box wr #[.int .i64 (j : Int)] 3
      have L8 := Lies.made wr 3 #[.int .i64 (j : Int)]
      have hg8 : w.heap.size ≤ wr.heap.size := hbr.size
      have hOx := hO.below g8b
      have hMx := hMp.below g8b hMp.lt
      have hM6x := hM6.below g8b hM6.lt
      have hbx := Lib.hid (hbr.trans (g8b.mono hbr.size))
      clear hPN hCP hre
      go_wp2_with fail
      obtain ⟨wo, hwo⟩ : ∃ y, y = wr := ⟨_, rfl⟩
      subst hwo
      go_loopw [28, 7] (fun v28 v7 wr => ∃ (i : Nat) (A8 : Option Addr) (c8 : Nat) (acc : List Var), i ≤ PN ∧ v28 = .int .i64 i ∧ v7 = .slice A8 acc.length c8 ∧ VOwn wr (fun g => g < w0.heap.size ∨ w.heap.size ≤ g) (.slice A8 acc.length c8) acc ∧ (∀ g, (Value.slice A8 acc.length c8).ownBlock = some g → w.heap.size ≤ g)
        ∧ Hid (rem V r x.k j i acc = R) ∧ acc.length + SM.sz (SM.dr (r.part j) i) + szp r (j + 1) ≤ 5000 ∧ Lies wr w.heap.size 24 [.int .i64 x.k, .int .i64 x.n, .string ⟨x.s.toArray⟩, .slice A x.is.len cc] ∧ Lies wr w3.heap.size 78 [.slice Fa r.f.len ca, .slice Ma r.m.len cm, .slice Ba r.b.len cb, .slice Ta r.t.len ct] ∧ Lies wr wo.heap.size 3 [.int .i64 (j : Int)] ∧ Below w.heap.size w wr) (fun v28 _ _ => PN - (intOf v28).toNat)
      case atStart => exact ⟨0, A8, c8, acc, Nat.zero_le _, rfl, rfl, hOx, hOb, hre0, (by rw [SM.dr_zero]; omega), hMx, hM6x, L8, hbx.out⟩
      case round =>
        clear hO hOb hpo hMp hM6 hbr hOx hMx hM6x L8 hre0 g8b
        obtain ⟨i, A8, c8, acc, hi, rfl, rfl, hO, hOb, hre, hpo, hMp, hM6, hM8, hbr⟩ := hrel
        by_cases hip : i < PN
        · obtain ⟨y, hy⟩ := (r.part j).at_some i (by rw [hPN'.out]; exact hip)
          obtain ⟨yb, yo, Y, yc, rfl, hyl, p0, p1, p2, p3, hCy⟩ := hCP'.out.at_ hy
          have hb0r : Below w0.heap.size w0 wr := hb.trans (hbr.mono hb.size)
          have q0 := (hb0r.cell (p := ⟨yb, yo + i * 4, none⟩) hyl).trans p0
          have q1 := (hb0r.cell (p := ⟨yb, yo + i * 4 + 1, none⟩) hyl).trans p1
          have q2 := (hb0r.cell (p := ⟨yb, yo + i * 4 + 2, none⟩) hyl).trans p2
          have q3 := (hb0r.cell (p := ⟨yb, yo + i * 4 + 3, none⟩) hyl).trans p3
          have hrs := rem_step V r x.k hy acc
          rw [hre.out] at hrs
          have hby := m_box wr #[.int .i64 y.k, .int .i64 y.n, .string ⟨y.s.toArray⟩, .slice Y y.is.len yc] 24
          have hCV := Lib.hid (hV'.out _ y _ (hb0r.trans (hby.mono hb0r.size)) (hpi.out j i y _ hy hCy))
          have hszy := SM.sz_at hy
          have hvl' := Lib.hid (fun vs h => hvl.out y vs h)
          have hvd' := Lib.hid (fun vs h => hvd.out y vs h)
          unfold dtv at hCV
          have hO1 := hO.below hby
          have hMp1 := hMp.below hby hMp.lt
          have hM61 := hM6.below hby hM6.lt
          have hM81 := hM8.below hby hM8.lt
          have hbr1 := Lib.hid (hbr.trans (hby.mono hbr.size))
          have hOl := Lib.hid hO.lt
          clear hy hCy p0 p1 p2 p3 hre
          cases hvy : V y with
          | none =>
            rw [hvy] at hCV hrs
            have hRn : R = none := hrs
            subst hRn
            clear hvy hrs
            go_wp2_with (
              go_at_call 29
              refine hCV.out.mono ?_
              intro e w5 h5
              obtain ⟨rfl, hb5⟩ := h5.none_
              clear h5)
            go_ret2
            exact ⟨hbr1.out.trans (hb5.mono hbr1.out.size), .inl ⟨rfl, rfl⟩⟩
          | some vs =>
            rw [hvy] at hCV hrs
            have hlv := hvl'.out vs hvy
            have hvsl : vs.length ≤ 5000 := by omega
            have hdv := Lib.hid (hvd'.out vs hvy)
            have hrs' := Lib.hid hrs.symm
            clear hvy hrs
            go_wp2_with (
              go_at_call 29
              refine hCV.out.mono ?_
              intro e w4 h5
              obtain ⟨IA, ic, rfl, hI, hIb, hb4⟩ := h5.some_
              have hI' := Lib.hid hI
              have hIb' := Lib.hid hIb
              have hO4 := hO1.below hb4
              have hMp4 := hMp1.below hb4 hMp1.lt
              have hM64 := hM61.below hb4 hM61.lt
              have hM84 := hM81.below hb4 hM81.lt
              have hbr4 := Lib.hid (hbr1.out.trans (hb4.mono hbr1.out.size))
              have hsz4 : wr.heap.size + 1 ≤ w4.heap.size := by have := hb4.size; simpa using this
              clear h5 hI hIb hb4)
            obtain ⟨w2, hw2⟩ : ∃ y, y = wr := ⟨_, rfl⟩
            subst hw2
            have hOl4 := Lib.hid hO4.lt
            have hws2 := Lib.hid hbr.size
            go_loopw [43, 7] (fun v43 v7 wr => ∃ (k2 : Nat) (A8 : Option Addr) (c8 : Nat) (acc2 : List Var), k2 ≤ vs.length ∧ v43 = .int .i64 k2 ∧ v7 = .slice A8 acc2.length c8 ∧ VOwn wr (fun g => g < w0.heap.size ∨ w.heap.size ≤ g) (.slice A8 acc2.length c8) acc2
              ∧ (∀ g, (Value.slice A8 acc2.length c8).ownBlock = some g → w.heap.size ≤ g ∧ (g < w2.heap.size ∨ w4.heap.size ≤ g)) ∧ Hid (acc2 = acc ++ (vs.take k2).map (MM.kAt r x.k j i)) ∧ Kp (fun g => g < w0.heap.size ∨ g = w3.heap.size ∨ g = w.heap.size ∨ g = wo.heap.size ∨ (w2.heap.size + 1 ≤ g ∧ g < w4.heap.size)) w4 wr ∧ acc2.length + (vs.length - k2) + SM.sz (SM.dr (r.part j) (i + 1)) + szp r (j + 1) ≤ 5000
              ∧ Lies wr w.heap.size 24 [.int .i64 x.k, .int .i64 x.n, .string ⟨x.s.toArray⟩, .slice A x.is.len cc] ∧ Lies wr w3.heap.size 78 [.slice Fa r.f.len ca, .slice Ma r.m.len cm, .slice Ba r.b.len cb, .slice Ta r.t.len ct] ∧ Lies wr wo.heap.size 3 [.int .i64 (j : Int)] ∧ Below w.heap.size w wr) (fun v43 _ _ => vs.length - (intOf v43).toNat)
            case atStart => exact ⟨0, A8, c8, acc, Nat.zero_le _, rfl, rfl, hO4, (fun g hg => ⟨hOb g hg, .inl (hOl.out g hg).2⟩), Lib.hid (by simp), Kp.refl _ _, (by omega), hMp4, hM64, hM84, hbr4.out⟩
            case round =>
              clear hO hOb hpo hMp hM6 hM8 hbr hO1 hMp1 hM61 hM81 hO4 hMp4 hM64 hM84 q0 q1 q2 q3 hby
              obtain ⟨k2, A9, c9, acc2, hk2, rfl, rfl, hO, hOb, hac, hKp, hpo, hMp, hM6, hM8, hbr⟩ := hrel
              by_cases hlt : k2 < vs.length
              · obtain ⟨xv, hxv⟩ : ∃ xv, vs[k2]? = some xv := ⟨_, List.getElem?_eq_getElem hlt⟩
                have hIw := hI'.out.kp (hKp.mono (fun g hg hs => by
                  rcases hs with h | h
                  · exact .inl h
                  · exact .inr (.inr (.inr (.inr (by simpa using h))))))
                obtain ⟨gi, ui, rfl, hgi, hSi, e0, e1, e2, hF⟩ := hIw.at_ hxv
                have hF' := Lib.hid hF
                obtain ⟨kf, lf, rfl, -⟩ := hF
                have hdpx : xv.dp ≤ 1000000 := by
                  have := hdv.out xv (List.mem_of_getElem? hxv)
                  omega
                have hxv := Lib.hid hxv
                obtain ⟨wq, hwqe⟩ : ∃ y, y = wr.alloc (.cells #[.string ⟨xv.nm.toArray⟩, .int .i64 (xv.dp : Int), .func (.func kf) #[] lf] 60) := ⟨_, rfl⟩
                have hbq1 := Lib.hid (show Below wr.heap.size wr wq from by rw [hwqe]; exact m_box wr _ _)
                have hMq := Lib.hid (show Lies wq wr.heap.size 60 [.string ⟨xv.nm.toArray⟩, .int .i64 (xv.dp : Int), .func (.func kf) #[] lf] from by rw [hwqe]; exact Lies.made _ _ _)
                have hbq := Lib.hid (hbr.trans (hbq1.out.mono hbr.size))
                have hOq := Lib.hid (hO.below hbq1.out)
                have hMpq := Lib.hid (hMp.below hbq1.out hMp.lt)
                have hM6q := Lib.hid (hM6.below hbq1.out hM6.lt)
                have hM8q := Lib.hid (hM8.below hbq1.out hM8.lt)
                have hO9 := Lib.hid hO
                have hOl2 := Lib.hid hOb
                have hpo2 := Lib.hid hpo
                have hFq := ((hF'.out.kp (Kp.of_below hbq1.out)).mono (S' := (fun g => g < w0.heap.size ∨ g = w3.heap.size ∨ g = w.heap.size ∨ g = wo.heap.size ∨ (w2.heap.size + 1 ≤ g ∧ g < w4.heap.size))) (fun g hg hs => by
                  rcases hs.1 with h | h
                  · exact .inl h
                  · exact .inr (.inr (.inr (.inr (by simpa using h))))))
                have hb0q : Below w0.heap.size w0 wq := hb.trans (hbq.out.mono hb.size)
                have hLq := ((look_at w0 wq r _ _ _ _ x.k j hj4 w3.heap.size w.heap.size wo.heap.size _ _ _ hb0q hRA'.out hM6q.out hMpq.out hM8q.out).mono (S' := (fun g => g < w0.heap.size ∨ g = w3.heap.size ∨ g = w.heap.size ∨ g = wo.heap.size ∨ (w2.heap.size + 1 ≤ g ∧ g < w4.heap.size))) (fun g _ hs => by
                  rcases hs with h | h | h | h
                  · exact .inl h
                  · exact .inr (.inl h)
                  · exact .inr (.inr (.inl h))
                  · exact .inr (.inr (.inr (.inl h)))))
                have hq8 := hM8q.out.cell 0
                simp only [List.getElem?_cons_zero] at hq8
                have hwq := Lib.hid (show w.heap.size ≤ wq.heap.size ∧ w4.heap.size ≤ wq.heap.size ∧ wr.heap.size < wq.heap.size ∧ w.heap.size ≤ w2.heap.size from ⟨hbq.out.size, Nat.le_trans hKp.size hbq1.out.size, hMq.out.lt, hws2.out⟩)
                by_cases hj1 : j = 1
                · have hj1b : ((j : Int) == 1) = true := by simp [hj1]
                  have hj1' := Lib.hid hj1
                  clear hj1
                  have hCq := Lib.hid (inAll_any wq (fun g => g < w0.heap.size ∨ g = w3.heap.size ∨ g = w.heap.size ∨ g = wo.heap.size ∨ (w2.heap.size + 1 ≤ g ∧ g < w4.heap.size)) _ _ xv.fd (MM.lookAt r x.k j) xv.nm xv.dp hdpx hFq hLq (fun d j' y' h1 h2 => Nat.le_trans (sz_look r x.k j d j' y' h2) h1) (fun d h1 => by rw [hj1'.out]; exact Nat.le_trans (look_len r x.k d) h1))
                  unfold vrv at hCq
                  subst hwqe
                  have hx' : ∀ kn ln, vcs (MM.kAt r x.k j i xv) (.func (.func kn) #[] ln) = [.string ⟨xv.nm.toArray⟩, .int .i64 ((xv.dp : Int) + 1), .func (.func kn) #[] ln] := by unfold vcs MM.kAt; intro kn ln; rw [if_pos hj1'.out]; rfl
                  have hfd : MM.allF (MM.lookAt r x.k j) xv.nm ((xv.dp : Int) + 1) xv.fd = (MM.kAt r x.k j i xv).fd := by unfold MM.kAt; rw [if_pos hj1'.out]; rfl
                  have hx2 := Lib.hid hx'
                  have hfd2 := Lib.hid hfd
                  clear hx' hfd
                  go_wp2_with (first
                    | (go_at_call 69
                       refine hCq.out.mono ?_
                       rintro e w5 ⟨u5, rfl, hF5, hb5⟩
                       have hF5' := Lib.hid hF5
                       obtain ⟨kn, ln, rfl, -⟩ := hF5
                       have hb5' := Lib.hid hb5
                       have hO5 := hOq.out.below hb5
                       have hMp5 := hMpq.out.below hb5 hMpq.out.lt
                       have hM65 := hM6q.out.below hb5 hM6q.out.lt
                       have hM85 := hM8q.out.below hb5 hM8q.out.lt
                       have hs5 := hb5.size
                       clear hb5)
                    | (at_builtin
                       obtain ⟨cs, r1, r2, r3⟩ := vown_push (x := MM.kAt r x.k j i xv) (u := .func (.func kn) #[] ln) rfl hO5 (by rw [← hfd2.out]; exact hF5'.out) (.inr (by have := hwq.out; omega)) (fun g hg hs => by
                         have e1 := hOl2.out g
                         have n1 := hO5.ne hMp5 (by decide)
                         have n2 := hO5.ne hM65 (by decide)
                         have n3 := hO5.ne hM85 (by decide)
                         have := hwq.out
                         refine ⟨?_, fun hh => ?_⟩
                         · rcases hs with (h | h | h | h | h) | h <;> first | (left; exact h) | (right; omega)
                         · have e2 := e1 hh
                           have e3 := (hO9.out.lt g hh).2
                           rcases hs with (h | h | h | h | h) | h
                           · omega
                           · subst h; exact n2 hh
                           · subst h; exact n1 hh
                           · subst h; exact n3 hh
                           · omega
                           · omega)
                       rw [hx2.out] at r1 r2 r3
                       have r3' := Lib.hid r3
                       clear r3
                       refine wpList_append_row (v := .slice A9 acc2.length c9) (x := .slice (some ⟨w5.heap.size, 0, none⟩) 1 1) (.agg #[.string ⟨#[]⟩, .int .i64 0, .nilFunc]) 32 Tryz.infoVar rfl (by decide) rfl _ _ 52 rfl Tryz.underlying52 rfl rfl r1 (own_one (e := 60) (sz := 3) (B := 0) w5 #[.string ⟨xv.nm.toArray⟩, .int .i64 ((xv.dp : Int) + 1), .func (.func kn) #[] ln] rfl (Nat.zero_le _)) r2 (by have := hpo2.out; omega) (by omega) (by simp) ?_
                       intro v9 w9 hown9 hg9 hat9
                       have hR9 := Lib.hid (r3'.out v9 w9 hown9 hg9 hat9)
                       have T1 := Turns.appendedS hg9
                       have n1 := hO5.ne hMp5 (by decide)
                       have n2 := hO5.ne hM65 (by decide)
                       have n3 := hO5.ne hM85 (by decide)
                       obtain ⟨A7, c7, rfl⟩ : ∃ A7 c7, v9 = .slice A7 (acc2.length + 1) c7 := by obtain ⟨A7, c7, e, _⟩ := own_read hown9; exact ⟨A7, c7, e⟩
                       have L9p := Lib.hid ((hMp5.alloc (.cells #[.string ⟨xv.nm.toArray⟩, .int .i64 ((xv.dp : Int) + 1), .func (.func kn) #[] ln] 60)).turns T1 n1)
                       have L96 := Lib.hid ((hM65.alloc (.cells #[.string ⟨xv.nm.toArray⟩, .int .i64 ((xv.dp : Int) + 1), .func (.func kn) #[] ln] 60)).turns T1 n2)
                       have L98 := Lib.hid ((hM85.alloc (.cells #[.string ⟨xv.nm.toArray⟩, .int .i64 ((xv.dp : Int) + 1), .func (.func kn) #[] ln] 60)).turns T1 n3)
                       have hat := Lib.hid hat9
                       have hT1 := Lib.hid T1
                       clear hown9 hg9 hat9 T1 r1 r2 r3' n1 n2 n3))
                  go_roundw
                  case rel =>
                    have h5' := hwq.out
                    have hbq5 := hbq.out.trans (hb5'.out.mono hbq.out.size)
                    refine ⟨k2 + 1, A7, c7, acc2 ++ [MM.kAt r x.k j i xv], by omega, by go_num, by rw [List.length_append]; rfl, by rw [List.length_append]; exact hR9.out, fun g hg => ?_, Lib.hid ?_, ?_, ?_, L9p.out, L96.out, L98.out, ?_⟩
                    · rw [List.length_append] at hg
                      rcases hat.out with e1 | e1
                      · exact hOl2.out g (by rw [← e1]; exact hg)
                      · rw [show (Value.slice A7 (acc2.length + [MM.kAt r x.k j i xv].length) c7).ownBlock = some (w5.alloc (.cells #[.string ⟨xv.nm.toArray⟩, .int .i64 ((xv.dp : Int) + 1), .func (.func kn) #[] ln] 60)).heap.size from e1] at hg
                        injection hg with hg
                        simp at hg
                        omega
                    · rw [hac.out, List.append_assoc]
                      congr 1
                      rw [List.take_add_one, hxv.out]
                      simp
                    · refine hKp.trans (Kp.mono (D := fun g => (Value.slice A9 acc2.length c9).ownBlock ≠ some g) ?_ ?_)
                      · exact (Kp.of_below hbq1.out).trans ((Kp.of_below hb5'.out).trans ((Kp.of_below ((Below.refl _ w5).alloc (Nat.le_refl _) _)).trans (Kp.of_turns hT1.out (fun g _ hs => hs))))
                      · intro g hg hs hh
                        have e2 := hOl2.out g hh
                        have n1 := hO9.out.ne hMp (by decide)
                        have n2 := hO9.out.ne hM6 (by decide)
                        have n3 := hO9.out.ne hM8 (by decide)
                        rcases hs with h | h | h | h | h
                        · omega
                        · subst h; exact n2 hh
                        · subst h; exact n1 hh
                        · subst h; exact n3 hh
                        · omega
                    · have := hpo2.out
                      rw [List.length_append, List.length_singleton]
                      omega
                    · exact (((Turns.of_below hbq5 (fun _ => False)).alloc _).then hT1.out (fun k hk hh => by have := hOl2.out k hh; omega)).below (Nat.le_refl _) (fun _ h => h.elim)
                  case measure => simp [intOf]; omega
                · have hj1b : ((j : Int) == 1) = false := by
                    have : ¬ (j : Int) = 1 := by omega
                    simp [this]
                  have hj1' := Lib.hid hj1
                  clear hj1
                  have hCq := Lib.hid (inOne_any wq (fun g => g < w0.heap.size ∨ g = w3.heap.size ∨ g = w.heap.size ∨ g = wo.heap.size ∨ (w2.heap.size + 1 ≤ g ∧ g < w4.heap.size)) _ _ xv.fd (MM.lookAt r x.k j) i xv.nm xv.dp hFq hLq (fun d j' y' h1 h2 => Nat.le_trans (sz_look r x.k j d j' y' h2) h1))
                  unfold vrv at hCq
                  subst hwqe
                  have hx' : ∀ kn ln, vcs (MM.kAt r x.k j i xv) (.func (.func kn) #[] ln) = [.string ⟨xv.nm.toArray⟩, .int .i64 (xv.dp : Int), .func (.func kn) #[] ln] := by unfold vcs MM.kAt; intro kn ln; rw [if_neg hj1'.out]; rfl
                  have hfd : MM.oneF (MM.lookAt r x.k j) i xv.fd = (MM.kAt r x.k j i xv).fd := by unfold MM.kAt; rw [if_neg hj1'.out]; rfl
                  have hx2 := Lib.hid hx'
                  have hfd2 := Lib.hid hfd
                  clear hx' hfd
                  go_wp2_with (first
                    | (go_at_call 70
                       refine hCq.out.mono ?_
                       rintro e w5 ⟨u5, rfl, hF5, hb5⟩
                       have hF5' := Lib.hid hF5
                       obtain ⟨kn, ln, rfl, -⟩ := hF5
                       have hb5' := Lib.hid hb5
                       have hO5 := hOq.out.below hb5
                       have hMp5 := hMpq.out.below hb5 hMpq.out.lt
                       have hM65 := hM6q.out.below hb5 hM6q.out.lt
                       have hM85 := hM8q.out.below hb5 hM8q.out.lt
                       have hs5 := hb5.size
                       clear hb5)
                    | (at_builtin
                       obtain ⟨cs, r1, r2, r3⟩ := vown_push (x := MM.kAt r x.k j i xv) (u := .func (.func kn) #[] ln) rfl hO5 (by rw [← hfd2.out]; exact hF5'.out) (.inr (by have := hwq.out; omega)) (fun g hg hs => by
                         have e1 := hOl2.out g
                         have n1 := hO5.ne hMp5 (by decide)
                         have n2 := hO5.ne hM65 (by decide)
                         have n3 := hO5.ne hM85 (by decide)
                         have := hwq.out
                         refine ⟨?_, fun hh => ?_⟩
                         · rcases hs with (h | h | h | h | h) | h <;> first | (left; exact h) | (right; omega)
                         · have e2 := e1 hh
                           have e3 := (hO9.out.lt g hh).2
                           rcases hs with (h | h | h | h | h) | h
                           · omega
                           · subst h; exact n2 hh
                           · subst h; exact n1 hh
                           · subst h; exact n3 hh
                           · omega
                           · omega)
                       rw [hx2.out] at r1 r2 r3
                       have r3' := Lib.hid r3
                       clear r3
                       refine wpList_append_row (v := .slice A9 acc2.length c9) (x := .slice (some ⟨w5.heap.size, 0, none⟩) 1 1) (.agg #[.string ⟨#[]⟩, .int .i64 0, .nilFunc]) 32 Tryz.infoVar rfl (by decide) rfl _ _ 52 rfl Tryz.underlying52 rfl rfl r1 (own_one (e := 60) (sz := 3) (B := 0) w5 #[.string ⟨xv.nm.toArray⟩, .int .i64 (xv.dp : Int), .func (.func kn) #[] ln] rfl (Nat.zero_le _)) r2 (by have := hpo2.out; omega) (by omega) (by simp) ?_
                       intro v9 w9 hown9 hg9 hat9
                       have hR9 := Lib.hid (r3'.out v9 w9 hown9 hg9 hat9)
                       have T1 := Turns.appendedS hg9
                       have n1 := hO5.ne hMp5 (by decide)
                       have n2 := hO5.ne hM65 (by decide)
                       have n3 := hO5.ne hM85 (by decide)
                       obtain ⟨A7, c7, rfl⟩ : ∃ A7 c7, v9 = .slice A7 (acc2.length + 1) c7 := by obtain ⟨A7, c7, e, _⟩ := own_read hown9; exact ⟨A7, c7, e⟩
                       have L9p := Lib.hid ((hMp5.alloc (.cells #[.string ⟨xv.nm.toArray⟩, .int .i64 (xv.dp : Int), .func (.func kn) #[] ln] 60)).turns T1 n1)
                       have L96 := Lib.hid ((hM65.alloc (.cells #[.string ⟨xv.nm.toArray⟩, .int .i64 (xv.dp : Int), .func (.func kn) #[] ln] 60)).turns T1 n2)
                       have L98 := Lib.hid ((hM85.alloc (.cells #[.string ⟨xv.nm.toArray⟩, .int .i64 (xv.dp : Int), .func (.func kn) #[] ln] 60)).turns T1 n3)
                       have hat := Lib.hid hat9
                       have hT1 := Lib.hid T1
                       clear hown9 hg9 hat9 T1 r1 r2 r3' n1 n2 n3))
                  go_roundw
                  case rel =>
                    have h5' := hwq.out
                    have hbq5 := hbq.out.trans (hb5'.out.mono hbq.out.size)
                    refine ⟨k2 + 1, A7, c7, acc2 ++ [MM.kAt r x.k j i xv], by omega, by go_num, by rw [List.length_append]; rfl, by rw [List.length_append]; exact hR9.out, fun g hg => ?_, Lib.hid ?_, ?_, ?_, L9p.out, L96.out, L98.out, ?_⟩
                    · rw [List.length_append] at hg
                      rcases hat.out with e1 | e1
                      · exact hOl2.out g (by rw [← e1]; exact hg)
                      · rw [show (Value.slice A7 (acc2.length + [MM.kAt r x.k j i xv].length) c7).ownBlock = some (w5.alloc (.cells #[.string ⟨xv.nm.toArray⟩, .int .i64 (xv.dp : Int), .func (.func kn) #[] ln] 60)).heap.size from e1] at hg
                        injection hg with hg
                        simp at hg
                        omega
                    · rw [hac.out, List.append_assoc]
                      congr 1
                      rw [List.take_add_one, hxv.out]
                      simp
                    · refine hKp.trans (Kp.mono (D := fun g => (Value.slice A9 acc2.length c9).ownBlock ≠ some g) ?_ ?_)
                      · exact (Kp.of_below hbq1.out).trans ((Kp.of_below hb5'.out).trans ((Kp.of_below ((Below.refl _ w5).alloc (Nat.le_refl _) _)).trans (Kp.of_turns hT1.out (fun g _ hs => hs))))
                      · intro g hg hs hh
                        have e2 := hOl2.out g hh
                        have n1 := hO9.out.ne hMp (by decide)
                        have n2 := hO9.out.ne hM6 (by decide)
                        have n3 := hO9.out.ne hM8 (by decide)
                        rcases hs with h | h | h | h | h
                        · omega
                        · subst h; exact n2 hh
                        · subst h; exact n1 hh
                        · subst h; exact n3 hh
                        · omega
                    · have := hpo2.out
                      rw [List.length_append, List.length_singleton]
                      omega
                    · exact (((Turns.of_below hbq5 (fun _ => False)).alloc _).then hT1.out (fun k hk hh => by have := hOl2.out k hh; omega)).below (Nat.le_refl _) (fun _ h => h.elim)
                  case measure => simp [intOf]; omega
              · obtain rfl : k2 = vs.length := by omega
                have hac2 := hac.out
                rw [List.take_length] at hac2
                have hac3 := Lib.hid hac2
                clear hac2
                go_wp2_with fail
                go_roundw
                case rel => exact ⟨i + 1, A9, c9, acc2, by omega, by go_num, rfl, hO, (fun g hg => (hOb g hg).1), Lib.hid (by rw [hac3.out]; exact hrs'.out), (by omega), hMp, hM6, hM8, hbr⟩
                case measure => simp [intOf]; omega
        · obtain rfl : i = PN := by omega
          have hre2 := Lib.hid ((rem_end V r x.k (by rw [hPN'.out]; exact Nat.le_refl _) acc).symm.trans hre.out)
          rw [SM.dr_end _ _ (by rw [hPN'.out]; exact Nat.le_refl _)] at hpo
          go_wp2_with fail
          go_roundw
          case rel => exact ⟨j + 1, A8, c8, acc, by omega, by go_num, rfl, hO, hOb, Lib.hid (by rw [show 4 - (j + 1) = 3 - j by omega]; exact hre2.out), (by simp [SM.sz] at hpo; omega), hMp, hM6, hbr⟩
          case measure => simp [intOf]; omega
    · obtain rfl : j = 4 := by omega
      have hRs : R = some acc := by
        rw [← hre.out]
        simp [MM.parts]
      subst hRs
      go_wp2_with fail
      go_ret2
      exact ⟨hbr, .inr ⟨acc, A8, c8, rfl, rfl, hO.mono (fun g hg hs => hs.imp id (fun h => ⟨h, hg⟩)), hOb⟩⟩
end Go.Proofs.YtbomodendobnkaaGreat
