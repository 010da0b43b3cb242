/- The plain mathematics of words: a word's number, its kind, its value, and what a word is made of. No dump is read here. -/
import Derived.WalkKit
import Derived.ProofKit
import Derived.Test.YtclcnepkgjcmcaaDoorTRing
namespace Go.Proofs.YtclcnepkgjcmcaaDoor.WM
open Go.RowKit

/-- the number above the lowest three bits, with its sign -/
def nm (a : Int) : Int := wrap64 a / 8
def most (t : Int) : Int :=
  if t = 0 then 1152921504606846975 else if t = 1 then 1099511627776 else if t = 2 then 255 else if t = 3 then 1
  else if t = 4 then 2 else if t = 5 then 4095 else if t = 6 then 255 else -1
def least (t : Int) : Int := if t = 0 then -1152921504606846976 else 0
def hd (t n : Int) : Bool := decide (least t ≤ n ∧ n ≤ most t)
def kt (t n : Int) : Int :=
  if t = 0 then 1 else if t = 1 then 2 else if t = 2 then 3 else if t = 3 then 4 else if t = 4 then 5 + n else if t = 5 then 8 else 9
def kd (a : Int) : Int := if hd (a % 8) (nm a) then kt (a % 8) (nm a) else 0
def vl (a : Int) : Int := if kd a = 0 then 0 else nm a
def mk (t n : Int) : Int := (n * 8) % 18446744073709551616 + t
def tru (a : Int) : Bool := !(a == 3)

theorem and7 (a : Int) (h0 : 0 ≤ a) (h1 : a < 18446744073709551616) : bits .and .u64 a 7 = a % 8 :=
  bits_mask .u64 64 (by decide) (fun n g0 g1 => by rw [IntKind.wrap_u64]; omega) 3 (by decide) a h0 h1
theorem or_low (x t : Int) (h0 : 0 ≤ x) (h1 : x < 18446744073709551616) (h2 : x % 8 = 0) (t0 : 0 ≤ t) (t1 : t < 8) : bits .or .u64 x t = x + t :=
  bits_join .u64 64 (by decide) (fun n g0 g1 => by rw [IntKind.wrap_u64]; omega) 3 x t h0 h2 h1 t0 t1 (by omega)
theorem nm_bd (a : Int) : -1152921504606846976 ≤ nm a ∧ nm a ≤ 1152921504606846975 := by unfold nm wrap64; omega
theorem mk_bd (t n : Int) (t0 : 0 ≤ t) (t1 : t < 8) : 0 ≤ mk t n ∧ mk t n < 18446744073709551616 := by unfold mk; omega
theorem hd0 (a : Int) : hd 0 (nm a) = true := by have := nm_bd a; simp [hd, least, most]; omega
theorem nm_mk (t n : Int) (t0 : 0 ≤ t) (t1 : t < 8) (h : -1152921504606846976 ≤ n ∧ n ≤ 1152921504606846975) : nm (mk t n) = n := by
  unfold nm mk wrap64; omega
theorem tg_mk (t n : Int) (t0 : 0 ≤ t) (t1 : t < 8) : mk t n % 8 = t := by unfold mk; omega
theorem mk_nm (a : Int) (h0 : 0 ≤ a) (h1 : a < 18446744073709551616) : mk (a % 8) (nm a) = a := by unfold mk nm wrap64; omega
theorem kd7 (a : Int) (h : kd a ≠ 0) : a % 8 < 7 := by
  have : 0 ≤ a % 8 ∧ a % 8 < 8 := by omega
  by_cases e : a % 8 = 7
  · exfalso; apply h; simp [kd, hd, e, least, most]; omega
  · omega
/-- what is of a kind is made of its tag and its value -/
theorem kd_cases (a : Int) (h0 : 0 ≤ a) (h1 : a < 18446744073709551616) :
    kd a = 0 ∧ vl a = 0 ∨ kd a = 1 ∧ hd 0 (vl a) = true ∧ mk 0 (vl a) = a ∨ kd a = 2 ∧ hd 1 (vl a) = true ∧ mk 1 (vl a) = a ∨ kd a = 3 ∧ hd 2 (vl a) = true ∧ mk 2 (vl a) = a
    ∨ kd a = 4 ∧ (vl a = 0 ∧ a = 3 ∨ vl a = 1 ∧ a = 11) ∨ kd a = 5 ∧ vl a = 0 ∧ a = 4 ∨ kd a = 6 ∧ vl a = 1 ∧ a = 12 ∨ kd a = 7 ∧ vl a = 2 ∧ a = 20
    ∨ kd a = 8 ∧ hd 5 (vl a) = true ∧ mk 5 (vl a) = a ∨ kd a = 9 ∧ hd 6 (vl a) = true ∧ mk 6 (vl a) = a := by
  by_cases hh : hd (a % 8) (nm a) = true
  · have hm := mk_nm a h0 h1
    have ht : a % 8 = 0 ∨ a % 8 = 1 ∨ a % 8 = 2 ∨ a % 8 = 3 ∨ a % 8 = 4 ∨ a % 8 = 5 ∨ a % 8 = 6 ∨ a % 8 = 7 := by omega
    have hk : kd a = kt (a % 8) (nm a) := by simp [kd, hh]
    have hb := hh
    simp only [hd, decide_eq_true_eq] at hb
    generalize hn : nm a = n at *
    have hz : kt (a % 8) n ≠ 0 := by
      rcases ht with e | e | e | e | e | e | e | e <;> rw [e] at hb ⊢ <;> simp [kt, least, most] at hb ⊢
      omega
    have hv : vl a = n := by simp [vl, hk, hz, hn]
    rw [hk, hv]
    rcases ht with e | e | e | e | e | e | e | e <;> rw [e] at hb hh hm ⊢ <;> simp [kt, hh, hm]
    · simp [least, most] at hb
      have : n = 0 ∨ n = 1 := by omega
      rcases this with rfl | rfl
      · left; simp [mk] at hm; omega
      · right; simp [mk] at hm; omega
    · simp [least, most] at hb
      have : n = 0 ∨ n = 1 ∨ n = 2 := by omega
      rcases this with rfl | rfl | rfl <;> simp [mk] at hm ⊢ <;> omega
    · exfalso; simp [least, most] at hb; omega
  · left
    have : kd a = 0 := by simp [kd, hh]
    exact ⟨this, by simp [vl, this]⟩
theorem same_of (a b : Int) (h0 : 0 ≤ a) (h1 : a < 18446744073709551616) (g0 : 0 ≤ b) (g1 : b < 18446744073709551616) (ha : kd a ≠ 0) (hk : kd a = kd b) (hv : vl a = vl b) : a = b := by
  rcases kd_cases a h0 h1 with h | h | h | h | h | h | h | h | h | h <;> rcases kd_cases b g0 g1 with g | g | g | g | g | g | g | g | g | g <;> first
    | (exfalso; omega)
    | (rw [← h.2.2, ← g.2.2, hv])
    | omega
end Go.Proofs.YtclcnepkgjcmcaaDoor.WM

/- The heap as numbers: what each step of the collector, and each call, makes of its words. Plain mathematics. -/
namespace Go.Proofs.YtclcnepkgjcmcaaDoor

/-- four numbers, one for each size -/
structure Q4 where
  a : Int
  b : Int
  c : Int
  d : Int
def Q4.at_ (q : Q4) (i : Nat) : Int := if i = 0 then q.a else if i = 1 then q.b else if i = 2 then q.c else q.d
def Q4.put (q : Q4) (i : Nat) (v : Int) : Q4 := if i = 0 then { q with a := v } else if i = 1 then { q with b := v } else if i = 2 then { q with c := v } else { q with d := v }
theorem lt4 {i : Nat} (h : i < 4) : i = 0 ∨ i = 1 ∨ i = 2 ∨ i = 3 := by omega
theorem Q4.at_put (q : Q4) {i j : Nat} (hi : i < 4) (hj : j < 4) (v : Int) : (q.put i v).at_ j = if j = i then v else q.at_ j := by
  rcases lt4 hi with rfl | rfl | rfl | rfl <;> rcases lt4 hj with rfl | rfl | rfl | rfl <;> rfl

/-- the words that a cell of each size takes -/
def ln (c : Nat) : Int := if c = 0 then 6 else if c = 1 then 10 else if c = 2 then 34 else 130
/-- what never changes: how many cells of each size, and how many increments for each allocation -/
structure Geo where
  n : Q4
  k : Int
def Geo.b1 (G : Geo) : Int := 51 + 6 * G.n.a
def Geo.b2 (G : Geo) : Int := G.b1 + 10 * G.n.b
def Geo.b3 (G : Geo) : Int := G.b2 + 34 * G.n.c
def Geo.top (G : Geo) : Int := G.b3 + 130 * G.n.d
def Geo.bas (G : Geo) : Q4 := ⟨51, G.b1, G.b2, G.b3⟩
/-- the place of a cell -/
def Geo.cell (G : Geo) (b : Int) : Bool := decide ((51 ≤ b ∧ b < G.b1 ∧ (b - 51) % 6 = 0) ∨ (G.b1 ≤ b ∧ b < G.b2 ∧ (b - G.b1) % 10 = 0) ∨ (G.b2 ≤ b ∧ b < G.b3 ∧ (b - G.b2) % 34 = 0) ∨ (G.b3 ≤ b ∧ b < G.top ∧ (b - G.b3) % 130 = 0))
def Geo.cls (G : Geo) (b : Int) : Nat := if b < G.b1 then 0 else if b < G.b2 then 1 else if b < G.b3 then 2 else 3
/-- counts that may be -/
def Geo.ok (G : Geo) : Prop := 0 ≤ G.n.a ∧ 0 ≤ G.n.b ∧ 0 ≤ G.n.c ∧ 0 ≤ G.n.d ∧ G.n.a ≤ 4000 ∧ G.n.b ≤ 4000 ∧ G.n.c ≤ 4000 ∧ G.n.d ≤ 4000 ∧ 1 ≤ G.k ∧ G.k ≤ 64 ∧ G.top ≤ 1048576

section
variable {G : Geo} {u v b : Int}
theorem Geo.ok.lines (g : G.ok) : 51 ≤ G.b1 ∧ G.b1 ≤ G.b2 ∧ G.b2 ≤ G.b3 ∧ G.b3 ≤ G.top ∧ G.top ≤ 1048576 := by
  obtain ⟨h0, h1, h2, h3, -, -, -, -, -, -, ht⟩ := g
  unfold Geo.top Geo.b3 Geo.b2 Geo.b1 at *
  omega
theorem Geo.cell_iff : G.cell b = true ↔ ((51 ≤ b ∧ b < G.b1 ∧ (b - 51) % 6 = 0) ∨ (G.b1 ≤ b ∧ b < G.b2 ∧ (b - G.b1) % 10 = 0) ∨ (G.b2 ≤ b ∧ b < G.b3 ∧ (b - G.b2) % 34 = 0) ∨ (G.b3 ≤ b ∧ b < G.top ∧ (b - G.b3) % 130 = 0)) := by
  unfold Geo.cell
  exact decide_eq_true_iff
theorem Geo.cls_lt (G : Geo) (b : Int) : G.cls b < 4 := by unfold Geo.cls; (repeat' split) <;> omega
/-- a cell's words end where the next ones begin -/
theorem Geo.extent (g : G.ok) (hb : G.cell b = true) : 51 ≤ b ∧ b + ln (G.cls b) ≤ G.top := by
  obtain ⟨l1, l2, l3, l4, -⟩ := g.lines
  have e1 : G.b1 = 51 + 6 * G.n.a := rfl
  have e2 : G.b2 = G.b1 + 10 * G.n.b := rfl
  have e3 : G.b3 = G.b2 + 34 * G.n.c := rfl
  have e4 : G.top = G.b3 + 130 * G.n.d := rfl
  have h := Geo.cell_iff.1 hb
  rcases h with ⟨a, c, d⟩ | ⟨a, c, d⟩ | ⟨a, c, d⟩ | ⟨a, c, d⟩
  · rw [Geo.cls, if_pos c]; simp only [ln]; exact ⟨by omega, by simp; omega⟩
  · rw [Geo.cls, if_neg (by omega), if_pos c]; simp only [ln]; exact ⟨by omega, by simp; omega⟩
  · rw [Geo.cls, if_neg (by omega), if_neg (by omega), if_pos c]; simp only [ln]; exact ⟨by omega, by simp; omega⟩
  · rw [Geo.cls, if_neg (by omega), if_neg (by omega), if_neg (by omega)]; simp only [ln]; exact ⟨by omega, by simp; omega⟩
theorem Geo.far (g : G.ok) (hu : G.cell u = true) (hv : G.cell v = true) (hne : u ≠ v) : u + ln (G.cls u) ≤ v ∨ v + ln (G.cls v) ≤ u := by
  obtain ⟨l1, l2, l3, l4, -⟩ := g.lines
  have e1 : G.b1 = 51 + 6 * G.n.a := rfl
  have e2 : G.b2 = G.b1 + 10 * G.n.b := rfl
  have e3 : G.b3 = G.b2 + 34 * G.n.c := rfl
  have e4 : G.top = G.b3 + 130 * G.n.d := rfl
  have C : ∀ b, G.cell b = true → (51 ≤ b ∧ b < G.b1 ∧ (b - 51) % 6 = 0 ∧ ln (G.cls b) = 6) ∨ (G.b1 ≤ b ∧ b < G.b2 ∧ (b - G.b1) % 10 = 0 ∧ ln (G.cls b) = 10) ∨ (G.b2 ≤ b ∧ b < G.b3 ∧ (b - G.b2) % 34 = 0 ∧ ln (G.cls b) = 34) ∨ (G.b3 ≤ b ∧ b < G.top ∧ (b - G.b3) % 130 = 0 ∧ ln (G.cls b) = 130) := by
    intro b hb
    rcases Geo.cell_iff.1 hb with ⟨a, c, d⟩ | ⟨a, c, d⟩ | ⟨a, c, d⟩ | ⟨a, c, d⟩
    · exact .inl ⟨a, c, d, by rw [Geo.cls, if_pos c]; rfl⟩
    · exact .inr (.inl ⟨a, c, d, by rw [Geo.cls, if_neg (by omega), if_pos c]; rfl⟩)
    · exact .inr (.inr (.inl ⟨a, c, d, by rw [Geo.cls, if_neg (by omega), if_neg (by omega), if_pos c]; rfl⟩))
    · exact .inr (.inr (.inr ⟨a, c, d, by rw [Geo.cls, if_neg (by omega), if_neg (by omega), if_neg (by omega)]; rfl⟩))
  rcases C u hu with ⟨a1, a2, a3, a4⟩ | ⟨a1, a2, a3, a4⟩ | ⟨a1, a2, a3, a4⟩ | ⟨a1, a2, a3, a4⟩ <;> rcases C v hv with ⟨c1, c2, c3, c4⟩ | ⟨c1, c2, c3, c4⟩ | ⟨c1, c2, c3, c4⟩ | ⟨c1, c2, c3, c4⟩ <;> rw [a4, c4] <;> omega
theorem ln_lo (c : Nat) : 6 ≤ ln c := by unfold ln; (repeat' split) <;> omega
theorem ln_hi (c : Nat) : ln c ≤ 130 := by unfold ln; (repeat' split) <;> omega
end

/-- The heap, as numbers. -/
structure Hp where
  ws : List Int
  fre : Q4
  whi : Q4
  wai : Int
  mis : Int
  mrk : Bool
  cyc : Int

/-! marks -/
def mform (m : Int) : Int := m % 4
def mtag (m : Int) : Int := m / 4 % 16
def msize (m : Int) : Int := m / 64 % 128
def mtask (m : Int) : Int := m / 8192 % 4
def mlast (m : Int) : Int := m / 32768
def mwith (m task last : Int) : Int := m % 8192 + task * 8192 + last * 32768
def mshape (form tag n : Int) : Int := form + tag * 4 + n * 64
/-- the size for so many fields -/
def cln (n : Int) : Nat := if n ≤ 3 then 0 else if n ≤ 7 then 1 else if n ≤ 31 then 2 else 3
def cl1 (n : Int) : Int := if n < 0 then -1 else if n ≤ 127 then cln n else -1

theorem cln_lt (n : Int) : cln n < 4 := by unfold cln; (repeat' split) <;> omega
theorem mform_with (m t l : Int) : mform (mwith m t l) = mform m := by unfold mform mwith; omega
theorem mtag_with (m t l : Int) : mtag (mwith m t l) = mtag m := by unfold mtag mwith; omega
theorem msize_with (m t l : Int) : msize (mwith m t l) = msize m := by unfold msize mwith; omega
theorem mtask_with (m t l : Int) (t0 : 0 ≤ t) (t1 : t < 4) : mtask (mwith m t l) = t := by unfold mtask mwith; omega
theorem mlast_with (m t l : Int) (t0 : 0 ≤ t) (t1 : t < 4) : mlast (mwith m t l) = l := by unfold mlast mwith; omega
theorem mwith_bd (m t l : Int) (t0 : 0 ≤ t) (t1 : t < 4) (l0 : 0 ≤ l) (l1 : l ≤ 4000000000) : 0 ≤ mwith m t l ∧ mwith m t l < 18446744073709551616 := by unfold mwith; omega
theorem msize_bd (m : Int) : 0 ≤ msize m ∧ msize m < 128 := by unfold msize; omega

/-! the collector's questions -/
def Geo.inCl (G : Geo) (c : Nat) (b : Int) : Bool := decide (0 ≤ b - G.bas.at_ c ∧ b - G.bas.at_ c < G.n.at_ c * ln c)
/-- where the cell stands that w names, if it names one -/
def Geo.plc (G : Geo) (w : Int) : Int × Bool :=
  if WM.kd w = 2 then
    if G.inCl 0 (WM.vl w) then (WM.vl w, (WM.vl w - G.bas.at_ 0) % ln 0 == 0)
    else if G.inCl 1 (WM.vl w) then (WM.vl w, (WM.vl w - G.bas.at_ 1) % ln 1 == 0)
    else if G.inCl 2 (WM.vl w) then (WM.vl w, (WM.vl w - G.bas.at_ 2) % ln 2 == 0)
    else if G.inCl 3 (WM.vl w) then (WM.vl w, (WM.vl w - G.bas.at_ 3) % ln 3 == 0)
    else (0, false)
  else (0, false)
def Hp.next (H : Hp) : Int := if H.mrk then H.cyc + 2 else H.cyc + 1
def Hp.isWhite (H : Hp) (m : Int) : Bool := H.mrk && mlast m == H.cyc + 1
def Hp.isBlack (H : Hp) (m : Int) : Bool := mlast m == H.next && mtask m == 0

/-! the collector's doings -/
def Hp.setMark (H : Hp) (b m task : Int) : Hp := { H with ws := sv H.ws b (mwith m task H.next) }
def Hp.move (H : Hp) (b at_ : Int) : Hp := { H with ws := ins (rem H.ws b) at_ b }
def Hp.wait (H : Hp) (b : Int) : Hp := { H with ws := ins (rem H.ws b) (gv (rem H.ws b) (hd 12 + 1)) b }
def Hp.whiter (H : Hp) (c : Nat) : Hp := { H with whi := H.whi.put c (H.whi.at_ c - 1), mis := 0 }
def Hp.shade (G : Geo) (H : Hp) (w : Int) : Hp :=
  if (G.plc w).2 && H.mrk && H.isWhite (gv H.ws (G.plc w).1) then
    (((H.whiter (cln (msize (gv H.ws (G.plc w).1)))).setMark (G.plc w).1 (gv H.ws (G.plc w).1) 1).move (G.plc w).1 (hd 12))
  else H
def Hp.finish (H : Hp) (b m : Int) : Hp := (H.setMark b m 0).move b (hd (8 + cln (msize m)))
def Hp.shadeUp (G : Geo) (H : Hp) (b : Int) : Nat → Hp
  | 0 => H
  | n + 1 => (H.shadeUp G b n).shade G (gv (H.shadeUp G b n).ws (b + 3 + n))
def Hp.scan (G : Geo) (H : Hp) (b m : Int) : Hp :=
  if mform m = 3 then (({ H with wai := H.wai + 1 } : Hp).setMark b m 2).wait b
  else if mform m = 1 then (H.shadeUp G b (msize m).toNat).finish b m
  else if mform m = 2 then H.finish b m
  else H
def Hp.namesWhite (G : Geo) (H : Hp) (w : Int) : Bool := (G.plc w).2 && H.isWhite (gv H.ws (G.plc w).1)
def Hp.look (G : Geo) (H : Hp) (b m : Int) : Hp :=
  if H.namesWhite G (gv H.ws (b + 3)) then
    if H.mis + 1 ≥ H.wai then ({ H with mis := H.mis + 1, wai := H.wai - 1, ws := sv (sv H.ws (b + 3) 3) (b + 4) 3 } : Hp).finish b m
    else ({ H with mis := H.mis + 1 } : Hp).wait b
  else
    let H1 := ({ H with mis := 0 } : Hp).shade G (gv H.ws (b + 4))
    ({ H1 with wai := H1.wai - 1 } : Hp).finish b m
/-- the black rings' members go among the white -/
def Hp.flips (G : Geo) (H : Hp) : Nat → Hp
  | 0 => H
  | c + 1 => let H1 := H.flips G c; { H1 with ws := joi H1.ws (hd (4 + c)) (hd (8 + c)), whi := H1.whi.put c (G.n.at_ c - H1.fre.at_ c) }
def Hp.shadeRegs (G : Geo) (H : Hp) : Nat → Hp
  | 0 => H
  | i + 1 => (H.shadeRegs G i).shade G (gv (H.shadeRegs G i).ws i)
def Hp.flip (G : Geo) (H : Hp) : Hp := ({ H.flips G 4 with mrk := true } : Hp).shadeRegs G 12
def Hp.ends (H : Hp) : Nat → Hp
  | 0 => H
  | c + 1 => let H1 := H.ends c; { H1 with ws := joi H1.ws (hd c) (hd (4 + c)), fre := H1.fre.put c (H1.fre.at_ c + H1.whi.at_ c) }
def Hp.end_ (H : Hp) : Hp := { H.ends 4 with mrk := false, cyc := H.cyc + 1 }
def Hp.inc (G : Geo) (H : Hp) : Hp :=
  if H.mrk then
    if gv H.ws (hd 12 + 2) = hd 12 then H.end_
    else if mtask (gv H.ws (gv H.ws (hd 12 + 2))) = 1 then H.scan G (gv H.ws (hd 12 + 2)) (gv H.ws (gv H.ws (hd 12 + 2)))
    else if mtask (gv H.ws (gv H.ws (hd 12 + 2))) = 2 then H.look G (gv H.ws (hd 12 + 2)) (gv H.ws (gv H.ws (hd 12 + 2)))
    else H
  else H.flip G
def Hp.incs (G : Geo) (H : Hp) : Nat → Hp
  | 0 => H
  | n + 1 => (H.incs G n).inc G
end Go.Proofs.YtclcnepkgjcmcaaDoor
