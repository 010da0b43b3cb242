/- The plain mathematics of layer 15: procedures within one another, their locals numbered from 1 on. No dump is read here. -/
import Derived.Test.YtpiekdcbjkgipaaGreatQ23
import Derived.Test.YtpiekdcbjkgipaaGreatQ7
import Derived.Deep.CutRange
import Derived.Test.YtpiekdcbjkgipaaGreatQ3
import Derived.Test.YtpiekdcbjkgipaaGreatQ6
import Derived.Shelf.Spec.SlicesGrow
namespace Go.Proofs.YtpiekdcbjkgipaaGreat.SC
open Go.RowKit TM

/-- a procedure within the other, these Params each -/
def nst : List (List Int) → Tm → Tm
  | [], t => t
  | p :: ps, t => ⟨8, 0, [], p, ⟨0, 0, [], .nil⟩, .one (nst ps t)⟩
theorem sz_one (t : Tm) : sz (.one t) = sz t.ks + 1 := by simp [Tl.one, sz]
theorem hi_one (t : Tm) : hi (.one t) = hi t.ks + 1 := by simp [Tl.one, hi]
theorem nst_sz (t : Tm) : ∀ ps : List (List Int), sz (nst ps t).ks = ps.length + sz t.ks
  | [] => by simp [nst]
  | p :: ps => by
    show sz (.one (nst ps t)) = _
    rw [sz_one, nst_sz t ps, List.length_cons]; omega
theorem nst_hi (t : Tm) : ∀ ps : List (List Int), hi (nst ps t).ks = ps.length + hi t.ks
  | [] => by simp [nst]
  | p :: ps => by
    show hi (.one (nst ps t)) = _
    rw [hi_one, nst_hi t ps, List.length_cons]; omega
theorem prs_one (t : Tm) : prs (.one t) = t.ps ++ prs t.ks := by simp [Tl.one, prs]
theorem nst_prs (t : Tm) : ∀ ps : List (List Int), (nst ps t).ps ++ prs (nst ps t).ks = ps.flatten ++ (t.ps ++ prs t.ks)
  | [] => by simp [nst]
  | p :: ps => by
    show p ++ prs (.one (nst ps t)) = _
    rw [prs_one, nst_prs t ps, List.flatten_cons, List.append_assoc]
theorem rtl_one (bd : List Int) (t : Tm) : rtl bd (.one t) = ok1 bd t := by
  obtain ⟨k, n, s, ps, d, ks⟩ := t
  simp [Tl.one, rtl, ok1]
theorem fit_lam (bd : List Int) (p : List Int) (x : Tm) (hp : p.length ≤ 24) : fit bd ⟨8, 0, [], p, ⟨0, 0, [], .nil⟩, .one x⟩ = true := by
  unfold fit
  simp [Tl.len_one, nod, RM.Dl.len, hp]
theorem nst_ok {t : Tm} : ∀ (ps : List (List Int)) (bd : List Int), (∀ p ∈ ps, p.length ≤ 24) → ok1 (bd ++ ps.flatten) t = true → ok1 bd (nst ps t) = true
  | [], bd, _, h => by simpa [nst] using h
  | p :: ps, bd, hp, h => by
    have h1 := fit_lam bd p (nst ps t) (hp p (by simp))
    have h2 : ok1 (bd ++ p) (nst ps t) = true := nst_ok ps (bd ++ p) (fun q hq => hp q (by simp [hq])) (by rw [List.append_assoc]; exact h)
    show (fit bd ⟨8, 0, [], p, ⟨0, 0, [], .nil⟩, .one (nst ps t)⟩ && rtl (bd ++ p) (.one (nst ps t))) = true
    rw [h1, rtl_one, h2]; rfl
/-- a local by itself, where it is bound -/
def loc1 (n : Int) : Tm := ⟨2, n, [], [], ⟨0, 0, [], .nil⟩, .nil⟩
theorem loc_ok {bd : List Int} {n : Int} (h : n ∈ bd) : ok1 bd (loc1 n) = true := by
  unfold ok1 fit loc1
  simp [Tl.len, nod, RM.Dl.len, rtl, h]
theorem nst_okt {n : Int} {ps : List (List Int)} (hl : ps.length ≤ 190) (hp : ∀ p ∈ ps, p.length ≤ 24) (hn : n ∈ ps.flatten) (h1 : ∀ x ∈ ps.flatten, 1 ≤ x) (hd : ps.flatten.Nodup) : okt (nst ps (loc1 n)) = true := by
  have hf : frs [] ((nst ps (loc1 n)).ps ++ prs (nst ps (loc1 n)).ks) = true := by
    rw [nst_prs, frs_iff]
    simp only [loc1, prs, List.append_nil]
    exact ⟨h1, hd, by simp⟩
  have ho : ok1 [] (nst ps (loc1 n)) = true := nst_ok ps [] hp (by rw [List.nil_append]; exact loc_ok hn)
  unfold okt
  rw [hf, ho, nst_sz, nst_hi]
  simp [loc1, sz, hi]; omega
/-- so many procedures further in, resolved -/
def nrs (R ps : List (List Int)) (t : Tm) (i : Nat) : Tm := rs1 ((ps.take i).reverse ++ R) (nst (ps.drop i) t)
theorem nrs_zero (R ps : List (List Int)) (t : Tm) : nrs R ps t 0 = rs1 R (nst ps t) := by simp [nrs]
theorem rs1_lam (R : List (List Int)) (p : List Int) (x : Tm) (d : RM.Dm) : (rs1 R ⟨8, 0, [], p, d, .one x⟩).ks = .one (rs1 (p :: R) x) := by
  obtain ⟨k, n, s, ps, d2, ks⟩ := x
  simp [rs1, rsl, Tl.one]
theorem nrs_at {R ps : List (List Int)} {t : Tm} {i : Nat} (hi : i < ps.length) : (nrs R ps t i).ks.at_ 0 = some (nrs R ps t (i + 1)) := by
  have h1 : ps.drop i = ps[i] :: ps.drop (i + 1) := by simp
  have h2 : ps.take (i + 1) = ps.take i ++ [ps[i]] := by simp
  unfold nrs
  rw [h1, h2, nst, rs1_lam, List.reverse_append]
  show Tl.at_ (.one _) 0 = some _
  simp [Tl.one, Tl.at_]
theorem nrs_len {R ps : List (List Int)} {t : Tm} {i : Nat} (hi : i < ps.length) : (nrs R ps t i).ks.len = 1 := by
  have h1 : ps.drop i = ps[i] :: ps.drop (i + 1) := by simp
  unfold nrs
  rw [h1, nst, rs1_lam, Tl.len_one]
theorem nrs_end (R ps : List (List Int)) (n : Int) : (nrs R ps (loc1 n) ps.length).n = plu 0 (ps.reverse ++ R) n := by
  simp [nrs, nst, rs1, loc1]
/-! ### numbers in a row -/
def cnt (a : Int) (n : Nat) : List Int := (List.range n).map fun (i : Nat) => a + (i : Int)
theorem cnt_len (a : Int) (n : Nat) : (cnt a n).length = n := by simp [cnt]
theorem cnt_mem (a x : Int) (n : Nat) : x ∈ cnt a n ↔ a ≤ x ∧ x < a + n := by
  simp only [cnt, List.mem_map, List.mem_range]
  constructor
  · rintro ⟨i, h, rfl⟩; omega
  · rintro ⟨h1, h2⟩
    exact ⟨(x - a).toNat, by omega, by omega⟩
theorem cnt_succ (a : Int) (n : Nat) : cnt a (n + 1) = cnt a n ++ [a + n] := by simp [cnt, List.range_succ]
theorem cnt_app (a : Int) (m : Nat) : ∀ n : Nat, cnt a m ++ cnt (a + m) n = cnt a (m + n)
  | 0 => by simp [cnt]
  | n + 1 => by
    rw [cnt_succ, ← List.append_assoc, cnt_app a m n, show m + (n + 1) = (m + n) + 1 from rfl, cnt_succ]
    congr 2
    omega
theorem cnt_nodup (a : Int) (n : Nat) : (cnt a n).Nodup := by
  unfold cnt List.Nodup
  rw [List.pairwise_map]
  exact List.nodup_range.imp (fun {i j} h e => h (by omega))
theorem cnt_idx (a : Int) {n k : Nat} (h : k < n) : (cnt a n).idxOf (a + k) = k := by
  have h1 : (cnt a n)[k]? = some (a + (k : Int)) := by simp [cnt, h]
  have h2 : k < (cnt a n).length := by rw [cnt_len]; exact h
  have h3 : (cnt a n)[k] = a + (k : Int) := by
    rw [List.getElem?_eq_getElem h2] at h1; simpa using h1
  rw [← h3]
  exact (cnt_nodup a n).idxOf_getElem k h2
/-- the Params of procedures of these widths, numbered on -/
def pss : Int → List Nat → List (List Int)
  | _, [] => []
  | a, w :: ws => cnt a w :: pss (a + w) ws
theorem pss_len : ∀ (a : Int) (ws : List Nat), (pss a ws).length = ws.length
  | _, [] => rfl
  | a, w :: ws => by rw [pss, List.length_cons, pss_len, List.length_cons]
theorem pss_flat : ∀ (a : Int) (ws : List Nat), (pss a ws).flatten = cnt a ws.sum
  | a, [] => by simp [pss, cnt]
  | a, w :: ws => by rw [pss, List.flatten_cons, pss_flat, List.sum_cons, cnt_app]
theorem pss_at : ∀ (a : Int) (ws : List Nat) (i : Nat) (w : Nat), ws[i]? = some w → (pss a ws)[i]? = some (cnt (a + ((ws.take i).sum : Nat)) w)
  | _, [], i, w, h => by simp at h
  | a, v :: ws, 0, w, h => by simp at h; subst h; simp [pss]
  | a, v :: ws, i + 1, w, h => by
    rw [pss, List.getElem?_cons_succ, pss_at (a + v) ws i w (by simpa using h)]
    simp only [List.take_succ_cons, List.sum_cons, Option.some.injEq]
    congr 1
    push_cast
    omega
theorem pss_ws (P : Nat → Prop) : ∀ (a : Int) (ws : List Nat), (∀ w ∈ ws, P w) → ∀ p ∈ pss a ws, P p.length
  | _, [], _, p, hp => by simp [pss] at hp
  | a, w :: ws, h, p, hp => by
    rw [pss, List.mem_cons] at hp
    rcases hp with e | e
    · subst e; rw [cnt_len]; exact h w (by simp)
    · exact pss_ws P _ ws (fun v hv => h v (by simp [hv])) p e
theorem sum_take_le (ws : List Nat) : ∀ {i j : Nat} {w : Nat}, i < j → ws[i]? = some w → (ws.take i).sum + w ≤ (ws.take j).sum := by
  induction ws with
  | nil => intro i j w _ h; simp at h
  | cons v ws ih =>
    intro i j w hij h
    obtain ⟨j, rfl⟩ : ∃ q, j = q + 1 := ⟨j - 1, by omega⟩
    rw [List.take_succ_cons, List.sum_cons]
    cases i with
    | zero => simp at h; subst h; simp
    | succ i =>
      rw [List.take_succ_cons, List.sum_cons]
      have := ih (i := i) (j := j) (by omega) (by simpa using h)
      omega
theorem pss_right {ws : List Nat} {n : Int} (hl : ws.length ≤ 190) (hw : ∀ w ∈ ws, w ≤ 24) (hn : n ∈ (pss 1 ws).flatten) : okt (nst (pss 1 ws) (loc1 n)) = true := by
  refine nst_okt (by rw [pss_len]; exact hl) (pss_ws (fun w => w ≤ 24) 1 ws hw) hn (fun x hx => ?_) ?_
  · rw [pss_flat, cnt_mem] at hx; exact hx.1
  · rw [pss_flat]; exact cnt_nodup 1 _
/-- the law's own: where the local k of the procedure i is found from the innermost place -/
theorem pss_found {ws : List Nat} {i k w : Nat} (hi : ws[i]? = some w) (hk : k < w) :
    (1 + ((ws.take i).sum : Nat) + k : Int) ∈ (pss 1 ws).flatten ∧ plu 0 ((pss 1 ws).reverse ++ []) (1 + ((ws.take i).sum : Nat) + k : Int) = 32 * ((ws.length : Int) - 1 - i) + k := by
  have hil : i < ws.length := by
    rw [List.getElem?_eq_some_iff] at hi; exact hi.1
  have hpi := pss_at 1 ws i w hi
  have hlen := pss_len 1 ws
  have hmem : (1 + ((ws.take i).sum : Nat) + k : Int) ∈ cnt (1 + ((ws.take i).sum : Nat)) w := by rw [cnt_mem]; omega
  refine ⟨List.mem_flatten.2 ⟨_, List.mem_of_getElem? hpi, hmem⟩, ?_⟩
  rw [List.append_nil, plu_at _ 0 _ (ws.length - 1 - i) _ (by rw [List.getElem?_reverse (by omega), hlen, show ws.length - 1 - (ws.length - 1 - i) = i by omega]; exact hpi) hmem ?_, cnt_idx _ hk]
  · omega
  · intro j hj r hr hin
    rw [List.getElem?_reverse (by omega), hlen] at hr
    obtain ⟨v, hv⟩ : ∃ v, ws[ws.length - 1 - j]? = some v := ⟨ws[ws.length - 1 - j]'(by omega), by rw [List.getElem?_eq_getElem]⟩
    rw [pss_at 1 ws _ v hv] at hr
    simp only [Option.some.injEq] at hr
    subst hr
    rw [cnt_mem] at hin
    have := sum_take_le ws (i := i) (j := ws.length - 1 - j) (by omega) hi
    omega
end Go.Proofs.YtpiekdcbjkgipaaGreat.SC

/- The reference's Own: a datum in new memory. -/
namespace Go.Proofs.YtpiekdcbjkgipaaGreat
open Go.ChangeShapes Go.WideShapes Go.ChangeAt Go.RowKit

namespace SM
/-- the first data -/
def tk : RM.Dl → Nat → RM.Dl
  | _, 0 => .nil
  | .nil, _ + 1 => .nil
  | .cons k n s is r, i + 1 => .cons k n s is (tk r i)
theorem tk_all : ∀ d : RM.Dl, tk d d.len = d
  | .nil => rfl
  | .cons k n s is r => by rw [RM.Dl.len, tk, tk_all r]
theorem tk_len : ∀ (d : RM.Dl) (i : Nat), i ≤ d.len → (tk d i).len = i
  | .nil, 0, _ => rfl
  | .nil, i + 1, h => by simp [RM.Dl.len] at h
  | .cons k n s is r, 0, _ => rfl
  | .cons k n s is r, i + 1, h => by rw [tk, RM.Dl.len, tk_len r i (by simp only [RM.Dl.len] at h; omega)]
theorem tk_snoc : ∀ (d : RM.Dl) (i : Nat) (x : RM.Dm), d.at_ i = some x → tk d (i + 1) = (tk d i).snoc x
  | .nil, i, x, h => by simp [RM.Dl.at_] at h
  | .cons k n s is r, 0, x, h => by
    simp only [RM.Dl.at_, Option.some.injEq] at h
    subst h
    cases r <;> rfl
  | .cons k n s is r, i + 1, x, h => by
    show RM.Dl.cons k n s is (tk r (i + 1)) = _
    rw [tk_snoc r i x h]; rfl
theorem sz_in {d : RM.Dl} {i : Nat} {x : RM.Dm} (h : d.at_ i = some x) : sz x.is + 1 ≤ sz d := by
  have h2 : ∀ (d : RM.Dl) (i : Nat), sz (dr d i) ≤ sz d := by
    intro d
    induction d with
    | nil => intro i; cases i <;> exact Nat.le_refl _
    | cons k n s is r _ ih =>
      intro i
      cases i with
      | zero => exact Nat.le_refl _
      | succ i => have := ih i; show sz (dr r i) ≤ sz is + 1 + sz r; omega
  have := h2 d i
  rw [sz_at h] at this
  omega
theorem len_sz : ∀ d : RM.Dl, d.len ≤ sz d
  | .nil => Nat.le_refl _
  | .cons k n s is r => by have := len_sz r; simp only [RM.Dl.len, sz]; omega
end SM
theorem went_box' (w : World) (vs : Array Value) (t : TypeId) : Went w (w.alloc (.cells vs t)) := (Below.refl _ w).alloc (Nat.le_refl _) _
def OwnOk (x : RM.Dm) : Prop := ∀ (w : World) (v : Value), In w v x.is → SM.sz x.is ≤ 5000 →
  Calls Tryz.prog 23 #[dtv x v] w fun e w' => ∃ v', e = .returned (dtv x v') ∧ Dat w' (fun g => w.heap.size ≤ g) v' x.is ∧ Went w w'
set_option maxRecDepth 100000 in
set_option maxHeartbeats 8000000 in
theorem own_step (k n : Int) (s : List UInt8) (is : RM.Dl) (hP : ∀ i x, is.at_ i = some x → OwnOk x) : OwnOk ⟨k, n, s, is⟩ := by
  intro w v h1 hsz
  obtain ⟨A1, c1, rfl⟩ := h1.read
  have hlen := h1.len
  simp only at h1 hlen hsz ⊢
  unfold dtv
  simp only
  obtain ⟨N, hN⟩ : ∃ N, is.len = N := ⟨_, rfl⟩
  obtain ⟨Z, hZ⟩ : ∃ Z, SM.sz is = Z := ⟨_, rfl⟩
  rw [hN] at h1 hlen ⊢
  rw [hZ] at hsz
  have hN' := Lib.hid hN
  have hZ' := Lib.hid hZ
  have hP' := Lib.hid hP
  have hL := (Lies.made w 25 #[.int .i64 k, .int .i64 n, .string ⟨s.toArray⟩, .slice A1 N c1]).alloc (.cells #[.int .i64 0, .int .i64 0, .string ⟨#[]⟩, .slice none 0 0] 25)
  have hL2 : Lies ((w.alloc (.cells #[.int .i64 k, .int .i64 n, .string ⟨s.toArray⟩, .slice A1 N c1] 25)).alloc (.cells #[.int .i64 0, .int .i64 0, .string ⟨#[]⟩, .slice none 0 0] 25)) (w.heap.size + 1) 25 [.int .i64 0, .int .i64 0, .string ⟨#[]⟩, .slice none 0 0] := by
    have := Lies.made (w.alloc (.cells #[.int .i64 k, .int .i64 n, .string ⟨s.toArray⟩, .slice A1 N c1] 25)) 25 #[.int .i64 0, .int .i64 0, .string ⟨#[]⟩, .slice none 0 0]
    rwa [show (w.alloc (.cells #[.int .i64 k, .int .i64 n, .string ⟨s.toArray⟩, .slice A1 N c1] 25)).heap.size = w.heap.size + 1 by simp] at this
  have hb0 : Below w.heap.size w ((w.alloc (.cells #[.int .i64 k, .int .i64 n, .string ⟨s.toArray⟩, .slice A1 N c1] 25)).alloc (.cells #[.int .i64 0, .int .i64 0, .string ⟨#[]⟩, .slice none 0 0] 25)) := (went_box' _ _ _).alloc (by simp) _
  clear hN hP hZ
  go_enter Tryz.func23, Tryz.ntmps23
  go_wp2_with fail
  go_loopw [3, 4] (fun v8 i wr => ∃ (j : Nat), j ≤ N ∧ i = .int .i64 j ∧ Its wr (fun g => w.heap.size + 1 < g) v8 (SM.tk is j) ∧ Lies wr w.heap.size 25 [.int .i64 k, .int .i64 n, .string ⟨s.toArray⟩, .slice A1 N c1] ∧ Lies wr (w.heap.size + 1) 25 [.int .i64 0, .int .i64 0, .string ⟨#[]⟩, .slice none 0 0] ∧ Below w.heap.size w wr) (fun _ i _ => N - (intOf i).toNat)
  case atStart => exact ⟨0, by omega, rfl, by rw [show SM.tk is 0 = .nil by cases is <;> rfl]; exact Its.nil _ _, hL, hL2, hb0⟩
  case round =>
    obtain ⟨j, hj, rfl, hI, hM1, hM2, hb⟩ := hrel
    clear hL hL2 hb0
    have y3 : wr.cell? ⟨w.heap.size, 3, none⟩ = some (.slice A1 N c1) := hM1.cell 3
    have hz2 := hM2.lt
    obtain ⟨A8, c8, rfl⟩ := hI.read
    have htl : (SM.tk is j).len = j := SM.tk_len is j (by rw [hN'.out]; exact hj)
    by_cases hlt : j < N
    · obtain ⟨x, hx⟩ := is.at_some j (by rw [hN'.out]; exact hlt)
      obtain ⟨b, o, B, q, rfl, hbl, p0, p1, p2, p3, hd1⟩ := (h1.below hb).at_ hx
      have hup := SM.sz_in hx
      rw [hZ'.out] at hup
      have hjz : j ≤ Z := by
        have := SM.len_sz is
        rw [hN'.out, hZ'.out] at this
        omega
      have hC := Lib.hid (hP'.out j x hx wr (.slice B x.is.len q) hd1 (by omega))
      unfold dtv at hC
      have hsn := SM.tk_snoc is j x hx
      generalize SM.tk is j = out at hI hsn htl ⊢
      have hsn' := Lib.hid hsn
      have hIl2 := Lib.hid hI.lt
      have e8 : Value.slice A8 out.len c8 = .slice A8 j c8 := by rw [htl]
      rw [e8] at hI hIl2
      rw [e8]
      have htl' := Lib.hid htl
      clear hx hup hsn htl e8
      go_wp2_with (first
        | (go_at_call 23
           refine hC.out.mono ?_
           rintro e w3 ⟨v3, rfl, hd3, hb3⟩
           obtain ⟨A3, c3, rfl⟩ := hd3.read
           have hM3 := hM1.below hb3 hM1.lt
           have hM4 := hM2.below hb3 hM2.lt
           have hb4 : Below w.heap.size w w3 := hb.trans (hb3.mono hb.size)
           have hI3 := hI.below hb3
           have hs3 := hb3.size
           have hone : DatAt w3 (fun g => w.heap.size + 1 < g ∧ (Value.slice A8 j c8).ownBlock ≠ some g) (.one x) [.int .i64 x.k, .int .i64 x.n, .string ⟨x.s.toArray⟩, .slice A3 x.is.len c3] :=
             DatAt.cell1 (hd3.mono (fun g _ hs => ⟨by omega, fun hh => by have := (hIl2.out _ hh).2; omega⟩))
           clear hb3 hd3 p0 p1 p2 p3 y3)
        | (at_builtin
           have hIl3 := hI3.lt
           obtain ⟨cs, h1', -, h3⟩ := hI3
           rw [htl'.out] at h1'
           refine wpList_append_row (v := .slice A8 j c8) (x := .slice (some ⟨w3.heap.size, 0, none⟩) 1 1) (.agg #[.int .i64 0, .int .i64 0, .string ⟨#[]⟩, .slice none 0 0]) 56 Tryz.infoDatum rfl (by decide) rfl _ _ 23 rfl Tryz.underlying23 rfl rfl (own_turns h1' ((Turns.refl (fun _ => False) _).alloc _) (fun _ _ h => h)) (own_one (e := 25) (sz := 4) (B := 0) w3 #[.int .i64 x.k, .int .i64 x.n, .string ⟨x.s.toArray⟩, .slice A3 x.is.len c3] rfl (Nat.zero_le _)) (DatAt.one hone) (by omega) (by omega) (by simp) ?_
           intro v9 w9 hown9 hg9 hat9
           have T1 := Turns.appendedS hg9
           have hown9' : w9.ownsRow 0 25 4 v9 (out.len + (RM.Dl.one x).len) (cs ++ [.int .i64 x.k, .int .i64 x.n, .string ⟨x.s.toArray⟩, .slice A3 x.is.len c3]) := by rw [htl'.out]; exact hown9
           have hI9 : Its w9 (fun g => w.heap.size + 1 < g) v9 (out.snoc x) := Its.grew (e := .one x) hIl3 h3 hone ((Turns.refl (fun _ => False) _).alloc _) hown9' hg9 hat9 (fun g _ hs => hs) (by simp; omega)
           have hM5 := (Lies.alloc hM3 _).turns T1 (fun hh => by have := (hIl3 _ hh).1; omega)
           have hM6 := (Lies.alloc hM4 _).turns T1 (fun hh => by have := (hIl3 _ hh).1; omega)
           have hb9 : Below w.heap.size w w9 := (((Turns.of_below hb4 (fun _ => False)).alloc _).then T1 (fun k hk hh => by have := (hIl3 _ hh).1; omega)).below (Nat.le_refl _) (fun _ h => h.elim)
           clear hg9 hat9 hown9 hown9' T1 h1' h3 hone))
      go_roundw
      case rel => exact ⟨j + 1, by omega, by go_num, by rw [hsn'.out]; exact hI9, hM5, hM6, hb9⟩
      case measure => simp [intOf]; omega
    · obtain rfl : j = N := by omega
      have hall : SM.tk is j = is := by rw [← hN'.out]; exact SM.tk_all is
      rw [hall] at hI htl ⊢
      rw [htl] at hI ⊢
      have hL9 := (hM1.stored 3 (.slice A8 j c8))
      have hI9 := hI.dat.turns ((Turns.refl (fun k => k = w.heap.size) wr).setCell (p := ⟨w.heap.size, 3, none⟩) (fun _ => rfl) (.slice A8 j c8)) (fun g _ hs hh => by omega)
      have hM9 := hM2.far (p := ⟨w.heap.size, 3, none⟩) (by simp) (.slice A8 j c8)
      have hb9 : Below w.heap.size w (wr.setCell ⟨w.heap.size, 3, none⟩ (.slice A8 j c8)) := hb.setCell (p := ⟨w.heap.size, 3, none⟩) (Nat.le_refl _) _
      have q0 := hL9.cell 0
      have q1 := hL9.cell 1
      have q2 := hL9.cell 2
      have q3 := hL9.cell 3
      have f1 := hM1.free
      have f2 := hM9.free
      have m0 := hM9.cell 0
      have m1 := hM9.cell 1
      have m2 := hM9.cell 2
      have m3 := hM9.cell 3
      simp only [List.getElem?_cons_zero, List.getElem?_cons_succ, List.set_cons_zero, List.set_cons_succ] at q0 q1 q2 q3 m0 m1 m2 m3
      go_wp2_with fail
      have hF := four_lies hM9 (.int .i64 k) (.int .i64 n) (.string ⟨s.toArray⟩) (.slice A8 j c8)
      have r0 := hF.cell 0
      have r1 := hF.cell 1
      have r2 := hF.cell 2
      have r3 := hF.cell 3
      have hd9 := hI9.turns (four_one (wr.setCell ⟨w.heap.size, 3, none⟩ (.slice A8 j c8)) (w.heap.size + 1) (.int .i64 k) (.int .i64 n) (.string ⟨s.toArray⟩) (.slice A8 j c8)) (fun g _ hs hh => by omega)
      have hb10 := four_below hb9 (g := w.heap.size + 1) (by omega) (.int .i64 k) (.int .i64 n) (.string ⟨s.toArray⟩) (.slice A8 j c8)
      unfold four at r0 r1 r2 r3 hd9 hb10
      simp only [List.getElem?_cons_zero, List.getElem?_cons_succ] at r0 r1 r2 r3
      exact bodyPost_ret (v := .agg #[.int .i64 k, .int .i64 n, .string ⟨s.toArray⟩, .slice A8 j c8]) (by simp [results, Tryz.results23, go_sem, r0, r1, r2, r3]) rfl ⟨_, rfl, hd9.mono (fun g _ hs => by omega), hb10⟩
theorem own_any (x : RM.Dm) : OwnOk x := RM.Dl.all_of OwnOk own_step (.one x) 0 x (by cases x; rfl)
end Go.Proofs.YtpiekdcbjkgipaaGreat

/- slices.Grow of nothing, over data and over bounds: a row of one's own that has no elements yet. -/
namespace Go.Proofs
open Go.Shelf
def Tryz.growD_ren : Go.Shelf.Ren := ⟨fun | 4 => 84 | n => n, fun | 0 => 0 | 3 => 3 | 4 => 4 | 9 => 9 | 20 => 20 | 22 => 23 | 25 => 25 | n => n, fun | n => n⟩
theorem Tryz.growD : Go.Proofs.Lays8.n4 Tryz.prog Tryz.growD_ren := {
  mixed := by kernel_rfl
  f4 := ⟨"slices.Grow[[]spindle/api.Datum,spindle/api.Datum]", by decide, Tryz.func84.trans (congrArg some (by kernel_rfl))⟩
  t0 := Tryz.underlying0
  a0 := Tryz.isAgg0
  z0 := Tryz.sizeOf0
  v0 := Tryz.zeroValue0
  t3 := Tryz.underlying3
  a3 := Tryz.isAgg3
  z3 := Tryz.sizeOf3
  v3 := Tryz.zeroValue3
  t4 := Tryz.underlying4
  a4 := Tryz.isAgg4
  z4 := Tryz.sizeOf4
  v4 := Tryz.zeroValue4
  t9 := Tryz.underlying9
  a9 := Tryz.isAgg9
  z9 := Tryz.sizeOf9
  v9 := Tryz.zeroValue9
  t20 := Tryz.underlying20
  a20 := Tryz.isAgg20
  z20 := Tryz.sizeOf20
  v20 := Tryz.zeroValue20
  t22 := Tryz.underlying23
  a22 := Tryz.isAgg23
  z22 := Tryz.sizeOf23
  v22 := Tryz.zeroValue23 }
end Go.Proofs
namespace Go.Proofs.YtpiekdcbjkgipaaGreat
open Go.RowKit

theorem m_box (w : World) (vs : Array Value) (t : TypeId) : Below w.heap.size w (w.alloc (.cells vs t)) := (Below.refl _ w).alloc (Nat.le_refl _) _

theorem info_parts' {t : TypeId} {z : Value} {n b : Nat} (h : (Tryz.prog.info? t).map (fun i => (i.zero, i.size, i.bytes)) = some (some z, n, b)) : ∃ i0 : TypeInfo, Tryz.prog.info? t = some i0 ∧ i0.zero = some z ∧ i0.size = n ∧ i0.bytes = b := by
  cases hi : Tryz.prog.info? t with
  | none => rw [hi] at h; cases h
  | some i0 =>
    rw [hi] at h
    simp only [Option.map_some, Option.some.injEq, Prod.mk.injEq] at h
    exact ⟨i0, rfl, h.1, h.2.1, h.2.2⟩
/-- a row of no elements, with room -/
theorem grown_own (w : World) (e : TypeId) (sz _ G : Nat) (cs : Array Value) (hs : cs.size = G * sz) (hG : G ≤ maxLen) : (w.drew.alloc (.cells cs e)).ownsRow w.heap.size e sz (.slice (some ⟨w.heap.size, 0, none⟩) 0 G) 0 [] := by
  refine ⟨by simp, .inr ⟨w.heap.size, G, cs, rfl, Nat.le_refl _, ?_, Nat.zero_le _, hG, hs, by simp⟩⟩
  exact heap_alloc_new w.drew _
theorem growD_any (n : Nat) (hn : n ≤ 1000000) (w : World) :
    Calls Tryz.prog 84 #[.slice none 0 0, .int .i64 (n : Int)] w fun e w' => ∃ v, e = .returned v ∧ w'.ownsRow w.heap.size 25 4 v 0 [] ∧ Went w w' := by
  obtain ⟨i0, hi, hz, hs, hb⟩ := info_parts' Tryz.infoDatum
  by_cases h0 : n = 0
  · subst h0
    refine (Any8.slices_Grow_room Tryz.growD none 0 0 0 w (Nat.le_refl _) (by omega) (by omega) (Nat.le_refl _)).mono ?_
    rintro e w' ⟨rfl, rfl⟩
    exact ⟨_, rfl, own_none _ _ _ _, Below.refl _ _⟩
  · refine (Any8.slices_Grow_grow Tryz.growD i0 _ hi hz (by omega) none 0 0 n [] w (Nat.le_refl _) (by omega) (by rw [hb]; omega) (by omega) (by simp) (fun _ => rfl) (fun a h => by cases h)).mono ?_
    rintro e w' ⟨he, hw⟩
    rw [show Tryz.growD_ren.t 25 = 25 from rfl] at he hw
    subst he hw
    refine ⟨_, rfl, ?_, below_of_drew ((Below.refl _ w.drew).alloc (Nat.le_refl _) _)⟩
    have hge : 0 + n ≤ grownCap w (0 + n) 0 25 := grownCap_ge w _ _ _
    have hle : grownCap w (0 + n) 0 25 ≤ maxLen := grownCap_le_maxLen w (0 + n) 0 25 (by unfold maxLen; omega)
    show (w.drew.alloc (.cells _ 25)).ownsRow w.heap.size 25 4 (.slice _ 0 (grownCap w (0 + n) 0 25)) 0 []
    generalize grownCap w (0 + n) 0 25 = G at hge hle
    refine grown_own w _ _ n G _ ?_ hle
    rw [Array.size_append, Array.size_append, size_zeroCells, size_zeroCells]
    show 0 + (0 + n - 0) * 4 + (G - (0 + n)) * 4 = G * 4
    omega
end Go.Proofs.YtpiekdcbjkgipaaGreat
