/- The reference of layer 10: a term's global names. -/
import Derived.Test.YtpiekdcbjkgipaaGreatDoorQ42
import Derived.Test.YtpiekdcbjkgipaaGreatDoorQ38
import Derived.Sort.Walk0
namespace Go.Proofs.YtpiekdcbjkgipaaGreatDoor
open Go.ChangeShapes Go.WideShapes Go.ChangeAt Go.RowKit Go.Deep
open TM (Tl Tm)

namespace TM
theorem gset_le (t : Tm) : (gset t).length ≤ (gl1 t).length := by
  have h1 := Lib.compact_length_le (srt (gl1 t))
  rw [srt_len] at h1
  exact h1
theorem gset_len (t : Tm) : (gset t).length ≤ sz t.ks + 1 := by
  have h1 := Lib.compact_length_le (srt (gl1 t))
  have h2 := gls_len t.ks
  rw [srt_len] at h1
  have h3 : (gl1 t).length ≤ sz t.ks + 1 := by
    unfold gl1
    rw [List.length_append]
    split <;> (try simp) <;> omega
  unfold gset
  omega
/-- what is so of the names gathered, of a term, so far: they rise; they and those still to come are the term's -/
def Gat (t : Tm) (out rest : List Str) : Prop := Rise out ∧ (∀ x, x ∈ gl1 t ↔ x ∈ out ∨ x ∈ rest) ∧ out.length + rest.length ≤ (gl1 t).length
theorem put_rise {l : List Str} {s : Str} {a : Nat} (hr : Rise l) (ha : a ≤ l.length) (h1 : ∀ x, x ∈ l.take a → x < s) (h2 : ∀ x, l[a]? = some x → s < x) : Rise (l.take a ++ s :: l.drop a) := by
  unfold Rise at hr ⊢
  have hr' := hr
  rw [← List.take_append_drop a l, List.pairwise_append] at hr
  have hsd : ∀ x, x ∈ l.drop a → s < x := by
    intro x hx
    obtain ⟨i, hi, rfl⟩ := List.mem_iff_getElem.1 hx
    rw [List.length_drop] at hi
    rw [List.getElem_drop]
    have h3 := h2 _ (List.getElem?_eq_getElem (show a < l.length by omega))
    by_cases h0 : i = 0
    · subst h0; exact h3
    · exact str_lt_trans h3 (List.pairwise_iff_getElem.1 hr' a (a + i) (by omega) (by omega) (by omega))
  rw [List.pairwise_append, List.pairwise_cons]
  refine ⟨hr.1, ⟨hsd, hr.2.1⟩, fun x hx y hy => ?_⟩
  rcases List.mem_cons.1 hy with rfl | hy
  · exact h1 x hx
  · exact str_lt_trans (h1 x hx) (hsd y hy)
theorem Gat.put {t : Tm} {l rest : List Str} {s : Str} {a : Nat} (h : Gat t l (s :: rest)) (ha : a ≤ l.length) (h1 : ∀ x, x ∈ l.take a → x < s) (h2 : ∀ x, l[a]? = some x → s < x) : Gat t (l.take a ++ s :: l.drop a) rest := by
  obtain ⟨g1, g2, g3⟩ := h
  refine ⟨put_rise g1 ha h1 h2, fun x => ?_, ?_⟩
  · rw [g2 x, List.mem_append, List.mem_cons, List.mem_cons]
    have hm : x ∈ l ↔ x ∈ l.take a ∨ x ∈ l.drop a := by
      conv => lhs; rw [← List.take_append_drop a l]
      exact List.mem_append
    rw [hm]
    constructor
    · rintro ((h | h) | (h | h))
      · exact .inl (.inl h)
      · exact .inl (.inr (.inr h))
      · exact .inl (.inr (.inl h))
      · exact .inr h
    · rintro ((h | h | h) | h)
      · exact .inl (.inl h)
      · exact .inr (.inl h)
      · exact .inl (.inr h)
      · exact .inr (.inr h)
  · simp only [List.length_append, List.length_cons, List.length_take, List.length_drop] at g3 ⊢
    omega
theorem Gat.skip {t : Tm} {l rest : List Str} {s : Str} (h : Gat t l (s :: rest)) (hs : s ∈ l) : Gat t l rest := by
  obtain ⟨g1, g2, g3⟩ := h
  refine ⟨g1, fun x => ?_, by simp only [List.length_cons] at g3; omega⟩
  rw [g2 x, List.mem_cons]
  constructor
  · rintro (h | rfl | h)
    · exact .inl h
    · exact .inl hs
    · exact .inr h
  · rintro (h | h)
    · exact .inl h
    · exact .inr (.inr h)
theorem Gat.set {t x : Tm} {l rest : List Str} (h : Gat t l (gl1 x ++ rest)) : Gat t l (gset x ++ rest) := by
  obtain ⟨g1, g2, g3⟩ := h
  refine ⟨g1, fun y => by rw [g2 y, List.mem_append, List.mem_append, gset_mem], ?_⟩
  have := gset_le x
  simp only [List.length_append] at g3 ⊢
  omega
end TM
theorem OwnStr.at_ {w : World} {B : Nat} {v : Value} {l : List (List UInt8)} (h : OwnStr w B v l) {i : Nat} {x : List UInt8} (hx : l[i]? = some x) : ∃ g c, v = .slice (some ⟨g, 0, none⟩) l.length c ∧ g < w.heap.size ∧ w.cell? ⟨g, i, none⟩ = some (encStr x) := by
  have hi := (List.getElem?_eq_some_iff.1 hx).1
  obtain ⟨A, c, rfl, hr⟩ := own_read h
  obtain ⟨g, rfl, _, hg, hc⟩ := hr i (by omega)
  refine ⟨g, c, rfl, hg, ?_⟩
  rw [hc, List.getElem?_map, hx]; rfl
theorem OwnStr.len_le {w : World} {B : Nat} {A : Option Addr} {n c : Nat} {l : List (List UInt8)} (h : OwnStr w B (.slice A n c) l) : n = l.length ∧ n ≤ c ∧ c ≤ maxLen := by
  rcases h.2 with ⟨hv, h0⟩ | ⟨g, cap, cur, hv, _, _, h1, h2, _⟩
  · cases hv; exact ⟨h0.symm, Nat.le_refl _, Nat.zero_le _⟩
  · cases hv; exact ⟨rfl, h1, h2⟩
theorem bytes_of {x : List UInt8} {X : ByteArray} (h : (⟨x.toArray⟩ : ByteArray) = X) : X.toList = x := by rw [ByteArray.toList_eq, ← h]
theorem less_of {x y : List UInt8} {X Y : ByteArray} (hx : (⟨x.toArray⟩ : ByteArray) = X) (hy : (⟨y.toArray⟩ : ByteArray) = Y) : Op.bytesLess X.toList Y.toList = decide (x < y) := by
  rw [bytes_of hx, bytes_of hy, bytesLess_eq]
theorem same_of {x y : List UInt8} {X Y : ByteArray} (hx : (⟨x.toArray⟩ : ByteArray) = X) (hy : (⟨y.toArray⟩ : ByteArray) = Y) : (X.toList == Y.toList) = decide (x = y) := by
  rw [bytes_of hx, bytes_of hy]
  by_cases h : x = y <;> simp [h]
theorem SIn.nil_ (w : World) (A : Option Addr) (c : Nat) : SIn w (.slice A 0 c) [] := ⟨A, c, rfl, 0, 0, fun h => by simp at h, fun j x h => by simp at h⟩
theorem OwnStr.behind {w : World} {B g n c a : Nat} {l : List (List UInt8)} (h : OwnStr w B (.slice (some ⟨g, 0, none⟩) n c) l) (hn : l.length = n) (hc : n ≤ c) (c' : Nat) :
    SIn w (.slice (if c = a then some ⟨g, 0, none⟩ else some ⟨g, a, none⟩) (n - a) c') (l.drop a) := by
  by_cases he : c = a
  · have hl : l.drop a = [] := List.drop_eq_nil_of_le (by omega)
    have h0 : n - a = 0 := by omega
    rw [hl, h0]
    exact SIn.nil_ _ _ _
  · rw [if_neg he, ← hn]
    exact h.from_ rfl c'
theorem OwnStr.put {w : World} {B a : Nat} {v : Value} {l : List (List UInt8)} {s : List UInt8} {S : ByteArray} (hs : (⟨s.toArray⟩ : ByteArray) = S) (ha : a ≤ l.length)
    (h : w.ownsRow B 9 1 v (a + 1 + (l.drop a).length) (((l.take a).map encStr ++ [.string S]) ++ (l.drop a).map encStr)) : OwnStr w B v (l.take a ++ s :: l.drop a) := by
  unfold OwnStr
  have h1 : (l.take a ++ s :: l.drop a).length = a + 1 + (l.drop a).length := by
    rw [List.length_append, List.length_cons, List.length_take]; omega
  have h2 : (l.take a ++ s :: l.drop a).map encStr = ((l.take a).map encStr ++ [.string S]) ++ (l.drop a).map encStr := by
    rw [List.map_append, List.map_cons, List.append_assoc, ← hs]; rfl
  rw [h1, h2]
  exact h
def GnOk (t : Tm) : Prop := ∀ (w : World) (vp vi vk : Value), TmIn w t vp vi vk → TM.sz t.ks ≤ 5000 →
  Calls Tryz.prog 20 #[tmv t vp vi vk] w fun e w' => ∃ v, e = .returned v ∧ OwnStr w' w.heap.size v (TM.gset t) ∧ Went w w'
set_option maxRecDepth 100000 in
set_option maxHeartbeats 4000000 in
theorem rgs_step (k n : Int) (s : List UInt8) (ps : List Int) (d : RM.Dm) (ks : Tl) (hR : ∀ i x, ks.at_ i = some x → GnOk x) : GnOk ⟨k, n, s, ps, d, ks⟩ := by
  intro w vp vi vk h hsz
  obtain ⟨P3, p3, rfl⟩ := h.p.read
  obtain ⟨I7, q7, rfl⟩ := h.d.read
  obtain ⟨A1, c1, rfl⟩ := h.k.read
  have hlen := h.k.len
  have hTk := h.k
  simp only at hlen hTk hsz ⊢
  obtain ⟨t, ht⟩ : ∃ t : Tm, (⟨k, n, s, ps, d, ks⟩ : Tm) = t := ⟨_, rfl⟩
  obtain ⟨N, hN⟩ : ∃ N, ks.len = N := ⟨_, rfl⟩
  obtain ⟨L3, hL3⟩ : ∃ x, ps.length = x := ⟨_, rfl⟩
  obtain ⟨L7, hL7⟩ : ∃ x, d.is.len = x := ⟨_, rfl⟩
  unfold tmv
  simp only
  rw [hN] at hlen hTk ⊢
  rw [hL3, hL7, ht]
  have hS := bytes_nil s
  obtain ⟨S, hSe⟩ : ∃ S : ByteArray, (⟨s.toArray⟩ : ByteArray) = S := ⟨_, rfl⟩
  rw [hSe]
  have hSd : S.data.toList = s := by rw [← hSe]
  obtain ⟨b, hb⟩ : ∃ b, S.toList.isEmpty = b := ⟨_, rfl⟩
  have hbs : b = true ↔ s = [] := by rw [← hb, ByteArray.toList_eq, hSd, List.isEmpty_iff]
  obtain ⟨o0, ho0⟩ : ∃ o0, (if s = [] then ([] : List (List UInt8)) else [s]) = o0 := ⟨_, rfl⟩
  have hyes : b = true → o0 = [] := fun h => by rw [← ho0, if_pos (hbs.1 h)]
  have hno : b = false → o0 = [s] := fun h => by rw [← ho0, if_neg (fun e => by rw [hbs.2 e] at h; cases h)]
  have hg1 : TM.gl1 t = o0 ++ TM.gls ks := by rw [← ht, ← ho0]; rfl
  have hG0 : TM.Gat t o0 (TM.gls (ks.dr 0)) := by
    rw [Tl.dr_zero]
    refine ⟨?_, fun x => by rw [hg1, List.mem_append], by rw [hg1, List.length_append]; exact Nat.le_refl _⟩
    rw [← ho0]
    split <;> simp [TM.Rise]
  have hGl : (TM.gl1 t).length ≤ 5001 := by
    have h1 := TM.gls_len ks
    rw [hg1, List.length_append, ← ho0]
    split <;> (try simp) <;> omega
  have hGf : ∀ out, TM.Gat t out [] → out = TM.gset t := fun out hg => TM.rise_ext hg.1 (TM.gset_rise t) (fun x => by rw [TM.gset_mem, hg.2.1]; simp)
  have hsS : s = [] ∨ encStr s = .string S := .inr (by rw [← hSe])
  have hSs : encStr s = .string S := by rw [← hSe]
  have hszk : ∀ i x, ks.at_ i = some x → TM.sz x.ks ≤ 5000 := fun i x hx => by
    have h1 := TM.sz_at hx
    have h2 : TM.sz (ks.dr i) ≤ TM.sz ks := TM.sz_dr ks i
    omega
  have hR' := Lib.hid (fun i x hx w' v1 v2 v3 hi => hR i x hx w' v1 v2 v3 hi (hszk i x hx))
  have hN' := Lib.hid hN
  have hG0' := Lib.hid hG0
  have hGl' := Lib.hid hGl
  have hGf' := Lib.hid hGf
  have hyes' := Lib.hid hyes
  have hno' := Lib.hid hno
  have hSs' := Lib.hid hSs
  have hL := Lies.made w 28 #[.int .i64 k, .int .i64 n, .string S, .slice P3 L3 p3, .int .i64 d.k, .int .i64 d.n, .string ⟨d.s.toArray⟩, .slice I7 L7 q7, .slice A1 N c1]
  have hba : Below w.heap.size w (w.alloc (.cells #[.int .i64 k, .int .i64 n, .string S, .slice P3 L3 p3, .int .i64 d.k, .int .i64 d.n, .string ⟨d.s.toArray⟩, .slice I7 L7 q7, .slice A1 N c1] 28)) := (Below.refl _ w).alloc (Nat.le_refl _) _
  have hL' := Lib.hid hL
  have hba' := Lib.hid hba
  clear hN hR hszk hL3 hL7 h ht hS hSe hSd hbs ho0 hyes hno hg1 hG0 hGl hGf hsS hSs hL hba hsz
  go_enter Tryz.func20, Tryz.ntmps20
  go_upto_if 11 with (fail)
  go_cut [3] from 9 to 16 (fun s3 wx => OwnStr wx w.heap.size s3 o0 ∧ Lies wx w.heap.size 28 [.int .i64 k, .int .i64 n, .string S, .slice P3 L3 p3, .int .i64 d.k, .int .i64 d.n, .string ⟨d.s.toArray⟩, .slice I7 L7 q7, .slice A1 N c1] ∧ Below w.heap.size w wx)
  case first =>
    cases b
    · have ho := hno'.out rfl
      subst ho
      have hown1 := own_one (B := 0) (e := 9) (sz := 1) (w.alloc (.cells #[.int .i64 k, .int .i64 n, .string S, .slice P3 L3 p3, .int .i64 d.k, .int .i64 d.n, .string ⟨d.s.toArray⟩, .slice I7 L7 q7, .slice A1 N c1] 28)) #[.string S] rfl (Nat.zero_le _)
      have hz : (w.alloc (.cells #[.int .i64 k, .int .i64 n, .string S, .slice P3 L3 p3, .int .i64 d.k, .int .i64 d.n, .string ⟨d.s.toArray⟩, .slice I7 L7 q7, .slice A1 N c1] 28)).heap.size = w.heap.size + 1 := by simp
      rw [hz] at hown1
      have hown1' := Lib.hid hown1
      clear hown1 hz
      go_wp2_with (
        at_builtin
        refine wpList_append_own (v := .slice none 0 0) (x := .slice (some ⟨w.heap.size + 1, 0, none⟩) 1 1) (B := w.heap.size) (B' := 0) (n := 0) (xs := []) (cs := [.string S]) (.string ⟨#[]⟩) 16 Tryz.infoString rfl (by decide) rfl _ _ 42 rfl Tryz.underlying42 rfl rfl (own_none _ _ _ _) hown1'.out (by intro u hu; simp at hu; subst hu; rfl) (by omega) (by omega) (by simp; omega) ?_
        intro v9 w9 hown9 hg9 hat9
        have T9 : Turns (fun _ => False) (w.alloc (.cells #[.int .i64 k, .int .i64 n, .string S, .slice P3 L3 p3, .int .i64 d.k, .int .i64 d.n, .string ⟨d.s.toArray⟩, .slice I7 L7 q7, .slice A1 N c1] 28)) w9 := ((Turns.refl (fun _ => False) _).alloc (.cells #[.string S] 9)).grown hg9 (fun _ h _ => by cases h)
        have hM9 := Lib.hid (hL'.out.turns T9 (fun h => h))
        have hb9 := Lib.hid (hba'.out.trans (T9.below hba'.out.size (fun _ h => h.elim)))
        have hown9' := Lib.hid hown9
        clear hown9 hg9 hat9 T9)
      go_meet
      case rel =>
        refine ⟨?_, hM9.out, hb9.out⟩
        unfold OwnStr
        rw [List.map_singleton, hSs'.out]
        exact hown9'.out
    · have ho := hyes'.out rfl
      subst ho
      go_wp2_with fail
      go_meet
      case rel => exact ⟨own_none _ _ _ _, hL'.out, hba'.out⟩
  case rest =>
    obtain ⟨hown, hM, hbc⟩ := hcut
    have hOG0 := Lib.hid (And.intro hown hG0'.out)
    clear hL' hba' hyes' hno' hSs' hG0' hown
    go_wp2_with fail
    go_loopw [3, 4] (fun v i wr => ∃ (j : Nat) (out : List (List UInt8)), j ≤ N ∧ i = .int .i64 j ∧ Hid (OwnStr wr w.heap.size v out ∧ TM.Gat t out (TM.gls (ks.dr j))) ∧ Below w.heap.size w wr ∧ Lies wr w.heap.size 28 [.int .i64 k, .int .i64 n, .string S, .slice P3 L3 p3, .int .i64 d.k, .int .i64 d.n, .string ⟨d.s.toArray⟩, .slice I7 L7 q7, .slice A1 N c1]) (fun _ i _ => N - (intOf i).toNat)
    case atStart => exact ⟨0, o0, by omega, rfl, hOG0, hbc, hM⟩
    case round =>
      obtain ⟨w1, hw1⟩ : ∃ x, x = wr := ⟨_, rfl⟩
      subst hw1
      obtain ⟨j, out, hj, rfl, hOG, hb, hM1⟩ := hrel
      clear hOG0 hbc hM
      have y8 : w1.cell? ⟨w.heap.size, 8, none⟩ = some (.slice A1 N c1) := hM1.cell 8
      by_cases hlt : j < N
      · obtain ⟨x, hx⟩ := ks.at_some j (by rw [hN'.out]; exact hlt)
        obtain ⟨b, o, P5, p5, I5, q5, K5, r5, rfl, hb0, p0, p1, p2, pp, p4, p55, p6, pi, pk, hT5⟩ := (hTk.below hb).at_ hx
        have hC := Lib.hid (hR'.out j x hx w1 _ _ _ hT5)
        unfold tmv at hC
        have hgx := Lib.hid (TM.gls_at hx)
        have hxl := Lib.hid (show (TM.gset x).length ≤ (TM.gl1 x).length from TM.gset_le x)
        clear hx hT5
        obtain ⟨G, hGx⟩ : ∃ G, TM.gset x = G := ⟨_, rfl⟩
        obtain ⟨R, hRx⟩ : ∃ R, TM.gls (ks.dr (j + 1)) = R := ⟨_, rfl⟩
        have hG0 := hOG.out.2
        rw [hgx.out, hRx] at hG0
        have hG1 := hG0.set
        rw [hGx] at hG1 hC hxl
        obtain ⟨M, hM⟩ : ∃ M, G.length = M := ⟨_, rfl⟩
        have hM' := Lib.hid hM
        have hRx' := Lib.hid hRx
        have hOG1 := Lib.hid (And.intro hOG.out.1 hG1)
        have hMl := Lib.hid (show M ≤ 5001 by
          have h1 := hG1.2.2
          rw [List.length_append, hM] at h1
          have := hGl'.out
          omega)
        have hbw := Lib.hid hb
        have hM1' := Lib.hid hM1
        clear hG0 hG1 hgx hxl hGx hRx hM hOG
        go_upto_block 1 with fail
        go_cut [3, 5, 6, 7, 8] from 24 to 84 (fun s3 _ _ _ _ wx => ∃ out', Hid (OwnStr wx w.heap.size s3 out' ∧ TM.Gat t out' R) ∧ Below w.heap.size w wx ∧ Lies wx w.heap.size 28 [.int .i64 k, .int .i64 n, .string S, .slice P3 L3 p3, .int .i64 d.k, .int .i64 d.n, .string ⟨d.s.toArray⟩, .slice I7 L7 q7, .slice (some ⟨b, o, none⟩) N c1])
        case first =>
          go_wp2_with (
            go_at_call 20
            refine hC.out.mono ?_
            rintro e w5 ⟨v5, rfl, hr5, hb5⟩
            have hO5 := Lib.hid (own_below hOG1.out.1 hb5)
            have hM5 := Lib.hid (hM1'.out.below hb5 hM1'.out.lt)
            have hb6 := Lib.hid (hbw.out.trans (Below.mono hb5 hbw.out.size))
            have hr5' := Lib.hid hr5
            have hs5 := Lib.hid hb5.size
            clear p0 p1 p2 pp p4 p55 p6 pi pk y8 hr5 hb5)
          go_loopw [3, 6] (fun v i wr2 => ∃ (kk : Nat) (out2 : List (List UInt8)), kk ≤ M ∧ i = .int .i64 kk ∧ Hid (OwnStr wr2 w.heap.size v out2 ∧ TM.Gat t out2 (G.drop kk ++ R)) ∧ Below w5.heap.size w5 wr2) (fun _ i _ => M - (intOf i).toNat)
          case atStart => exact ⟨0, out, Nat.zero_le _, rfl, ⟨hO5.out, by simpa using hOG1.out.2⟩, Below.refl _ _⟩
          case round =>
            obtain ⟨wr2, hw2⟩ : ∃ x, x = wr := ⟨_, rfl⟩
            subst hw2
            obtain ⟨kk, out2, hkk, rfl, hOG2, hb2⟩ := hrel
            have hml := hMl.out
            by_cases hlt2 : kk < M
            · obtain ⟨s2, hs2⟩ : ∃ s2, G[kk]? = some s2 := ⟨_, List.getElem?_eq_getElem (by rw [hM'.out]; exact hlt2)⟩
              have hr2 : OwnStr wr2 w1.heap.size v5 G := own_below hr5'.out hb2
              obtain ⟨g5, c5, hv5, hg5, q5'⟩ := hr2.at_ hs2
              rw [hM'.out] at hv5
              subst hv5
              have hdr : G.drop kk = s2 :: G.drop (kk + 1) := by
                rw [List.drop_eq_getElem_cons (by rw [hM'.out]; exact hlt2)]
                congr 1
                have := List.getElem?_eq_some_iff.1 hs2
                exact this.2
              have hG3 := Lib.hid (show TM.Gat t out2 (s2 :: (G.drop (kk + 1) ++ R)) by have := hOG2.out.2; rwa [hdr] at this)
              obtain ⟨Ao, co, hvo, -⟩ := own_read hOG2.out.1
              have hO2 := hOG2.out.1
              rw [hvo] at hO2
              obtain ⟨no, hno⟩ : ∃ no, out2.length = no := ⟨_, rfl⟩
              rw [hno] at hO2 hvo
              have hno' := Lib.hid hno
              obtain ⟨-, hnc, hcm⟩ := hO2.len_le
              have hnb : no ≤ 5001 := by
                have h1 := hG3.out.2.2
                rw [hno] at h1
                have := hGl'.out
                omega
              obtain ⟨S2, hS2⟩ : ∃ S2 : ByteArray, (⟨s2.toArray⟩ : ByteArray) = S2 := ⟨_, rfl⟩
              have q5 : wr2.cell? ⟨g5, kk, none⟩ = some (.string S2) := by rw [← hS2]; exact q5'
              have hS2' := Lib.hid hS2
              have hO2' := Lib.hid hO2
              have hr2' := Lib.hid hr2
              have hg5' := Lib.hid hg5
              subst hvo
              clear hs2 hdr hOG2 hno hS2 hO2 hr2 hg5 q5'
              go_upto_block 4 with fail
              go_cut [7] from 36 to 52 (fun s7 wx => ∃ a : Nat, s7 = .int .i64 a ∧ a ≤ no ∧ Hid ((∀ x, x ∈ out2.take a → x < s2) ∧ (∀ x, out2[a]? = some x → ¬ x < s2)) ∧ Below wr2.heap.size wr2 wx)
              case first =>
                go_wp2_with fail
                go_loopw [7] (fun i wr3 => ∃ a : Nat, i = .int .i64 a ∧ a ≤ no ∧ Hid (∀ x, x ∈ out2.take a → x < s2) ∧ Below wr2.heap.size wr2 wr3) (fun i _ => no - (intOf i).toNat)
                case atStart => exact ⟨0, rfl, Nat.zero_le _, Lib.hid (by simp), Below.refl _ _⟩
                case round =>
                  obtain ⟨wr3, hw3⟩ : ∃ x, x = wr := ⟨_, rfl⟩
                  subst hw3
                  obtain ⟨a, rfl, ha, hlo, hb3⟩ := hrel
                  have q3 : wr3.cell? ⟨g5, kk, none⟩ = some (.string S2) := (Below.cell hb3 (p := ⟨g5, kk, none⟩) hg5'.out).trans q5
                  by_cases hlt3 : a < no
                  · obtain ⟨x3, hx3⟩ : ∃ x3, out2[a]? = some x3 := ⟨_, List.getElem?_eq_getElem (by rw [hno'.out]; exact hlt3)⟩
                    obtain ⟨g3, c3, hv3, hg3, r3'⟩ := (show OwnStr wr3 _ _ out2 from own_below hO2'.out hb3).at_ hx3
                    rw [hno'.out] at hv3
                    cases hv3
                    obtain ⟨X3, hX3⟩ : ∃ X3 : ByteArray, (⟨x3.toArray⟩ : ByteArray) = X3 := ⟨_, rfl⟩
                    have r3 : wr3.cell? ⟨g3, a, none⟩ = some (.string X3) := by rw [← hX3]; exact r3'
                    have hX3' := Lib.hid hX3
                    clear r3' hX3
                    by_cases hl : x3 < s2
                    · have hcmp : Op.bytesLess X3.toList S2.toList = true := by rw [less_of hX3'.out hS2'.out]; simp [hl]
                      have hlo2 := Lib.hid (show ∀ x, x ∈ out2.take (a + 1) → x < s2 from fun x hx => by
                        rw [List.take_add_one, hx3] at hx
                        rcases List.mem_append.1 hx with hx | hx
                        · exact hlo.out x hx
                        · simp at hx; rw [hx]; exact hl)
                      clear hl hx3 hlo
                      go_upto_region 12 with (fail)
                      go_quiet (fail)
                      go_wp2_with fail
                      go_roundw
                      case rel => exact ⟨a + 1, by go_num, by omega, hlo2, below_drewN hb3 _⟩
                      case measure => simp [intOf]; omega
                    · have hcmp : Op.bytesLess X3.toList S2.toList = false := by rw [less_of hX3'.out hS2'.out]; simp [hl]
                      have hlo2 := Lib.hid (And.intro hlo.out (show ∀ x, out2[a]? = some x → ¬ x < s2 from fun x hx => by rw [hx3] at hx; cases hx; exact hl))
                      clear hl hx3 hlo
                      go_upto_region 12 with (fail)
                      go_quiet (fail)
                      go_wp2_with fail
                      go_meet
                      case rel => exact ⟨a, rfl, ha, hlo2, below_drewN hb3 _⟩
                  · obtain rfl : a = no := by omega
                    have hlo2 := Lib.hid (And.intro hlo.out (show ∀ x, out2[a]? = some x → ¬ x < s2 from fun x hx => by rw [List.getElem?_eq_none (by rw [hno'.out]; exact Nat.le_refl _)] at hx; cases hx))
                    clear hlo
                    go_upto_region 12 with (fail)
                    go_quiet (fail)
                    go_wp2_with fail
                    go_meet
                    case rel => exact ⟨a, rfl, ha, hlo2, below_drewN hb3 _⟩
              case rest =>
                obtain ⟨wq, hwq⟩ : ∃ x, x = wc := ⟨_, rfl⟩
                subst hwq
                obtain ⟨a, rfl, ha, hlo, hbc3⟩ := hcut
                have q5c : wq.cell? ⟨g5, kk, none⟩ = some (.string S2) := (Below.cell hbc3 (p := ⟨g5, kk, none⟩) hg5'.out).trans q5
                have hOc := Lib.hid (show OwnStr wq w.heap.size (.slice Ao no co) out2 from own_below hO2'.out hbc3)
                have hrc := Lib.hid (show OwnStr wq w1.heap.size (.slice (some ⟨g5, 0, none⟩) M c5) G from own_below hr2'.out hbc3)
                have hbc5 := Lib.hid (hb2.trans (Below.mono hbc3 hb2.size))
                have hgc := Lib.hid (show g5 < wq.heap.size from Nat.lt_of_lt_of_le hg5'.out hbc3.size)
                clear q5 hO2' hr2' hg5' hb2 hbc3
                by_cases hin : a < no ∧ out2[a]? = some s2
                · have hG4 := Lib.hid (hG3.out.skip (List.mem_of_getElem? hin.2))
                  obtain ⟨g3, c3, hv3, hg3, r3'⟩ := hOc.out.at_ hin.2
                  rw [hno'.out] at hv3
                  cases hv3
                  have hlt3 := hin.1
                  have hne3 : ¬ a = no := by omega
                  have hne4 : (((a : Nat) : Int) == ((no : Nat) : Int)) = false := by rw [beq_eq_false_iff_ne]; omega
                  have r3 : wq.cell? ⟨g3, a, none⟩ = some (.string S2) := by rw [← hS2'.out]; exact r3'
                  clear hin r3'
                  go_upto_region 14 with (fail)
                  go_quiet (fail)
                  go_wp2_with fail
                  go_roundw
                  case rel => exact ⟨kk + 1, out2, by omega, by go_num, ⟨own_below hOc.out (below_drewN (Below.refl _ _) _), hG4.out⟩, below_drewN hbc5.out _⟩
                  case measure => simp [intOf]; omega
                · have hG4 := Lib.hid (hG3.out.put (a := a) (by rw [hno'.out]; exact ha) hlo.out.1 (fun x hx => by
                    have h1 := hlo.out.2 x hx
                    have hal : a < no := by
                      rw [← hno'.out]; exact (List.getElem?_eq_some_iff.1 hx).1
                    rcases TM.str_tri x s2 with h | h | h
                    · exact absurd h h1
                    · exact absurd ⟨hal, by rw [hx, h]⟩ hin
                    · exact h))
                  rcases hOc.out.2 with ⟨hv3, hn0⟩ | ⟨g3, cap3, cur3, hv3, hg3, -⟩
                  · cases hv3
                    obtain rfl : a = 0 := by omega
                    have h00 : (((0 : Nat) : Int) == ((0 : Nat) : Int)) = true := by decide
                    clear hin hlo
                    go_upto_region 14 with (fail)
                    go_cut [67] from 53 to 66 (fun s67 wx => s67 = .bool true ∧ Below wq.heap.size wq wx)
                    case first =>
                      go_quiet (fail)
                      go_wp2_with fail
                      go_meet
                      case rel => exact ⟨rfl, below_drewN (Below.refl _ _) _⟩
                    case rest =>
                      obtain ⟨rfl, hb14⟩ := hcut
                      have hOd := Lib.hid (show OwnStr wc w.heap.size (.slice none 0 0) out2 from own_below hOc.out hb14)
                      have q5d : wc.cell? ⟨g5, kk, none⟩ = some (.string S2) := (Below.cell hb14 (p := ⟨g5, kk, none⟩) hgc.out).trans q5c
                      have hb15 := Lib.hid (hbc5.out.trans (Below.mono hb14 hbc5.out.size))
                      have hlit := Lib.hid (show OwnStr (wc.alloc (.cells #[] 9)) wc.heap.size (.slice (some ⟨wc.heap.size, 0, none⟩) 0 0) [] from World.ownsRow_lit (base := wc.heap.size) (e := 9) (size := 1) wc #[] 0 (Nat.le_refl _) (by decide) rfl)
                      have hgd := Lib.hid (show g5 < wc.heap.size from Nat.lt_of_lt_of_le hgc.out hb14.size)
                      clear q5c hOc hrc hbc5 hgc hb14
                      have hsin := Lib.hid (show SIn (wc.alloc (.cells #[] 9)) (.slice none 0 0) (out2.drop 0) from by rw [List.eq_nil_of_length_eq_zero hno'.out]; exact SIn.nil_ _ _ _)
                      go_wp2_with (
                        at_builtin
                        refine wpList_append_strs (v := .slice (some ⟨wc.heap.size, 0, none⟩) 0 0) (l := []) (lx := out2.drop 0) (B := wc.heap.size) rfl _ _ 42 rfl Tryz.underlying42 rfl rfl hlit.out hsin.out (by have := hno'.out; simp; omega) (by simp) ?_
                        intro v9 w9 hr9 hg9 hat9
                        have T9 : Turns (fun _ => False) wc w9 := ((Turns.refl (fun _ => False) wc).alloc (.cells #[] 9)).grown hg9 (fun j hj hlt => by simp [Value.ownBlock] at hj; omega)
                        have hb9 := Lib.hid (show Below wc.heap.size wc w9 from T9.below (Nat.le_refl _) (fun _ h => h.elim))
                        have hrest := Lib.hid (show OwnStr w9 wc.heap.size v9 (out2.drop 0) by simpa using hr9)
                        clear hr9 hg9 hat9 T9)
                      all_goals
                        have hOe := Lib.hid (show OwnStr w9 w.heap.size (.slice none 0 0) out2 from own_below hOd.out hb9.out)
                        have q5e : w9.cell? ⟨g5, kk, none⟩ = some (.string S2) := (Below.cell hb9.out (p := ⟨g5, kk, none⟩) hgd.out).trans q5d
                        have hgE := Lib.hid (show g5 < w9.heap.size from Nat.lt_of_lt_of_le hgd.out hb9.out.size)
                        have hbE := Lib.hid (hb15.out.trans (Below.mono hb9.out hb15.out.size))
                        have hsE := Lib.hid (Nat.le_trans hb6.out.size hbE.out.size)
                        clear q5d hOd hlit hsin hgd hb15 hb9
                        refine wp_region_held_drew (S := fun w' => Below w9.heap.size w9 w') rfl (below_drew1 (Below.refl _ w9)) (fun hHeld => ?_)
                        refine wpAnyH_take (i := 0) (oi := { dst := some 73, op := Go.Op.move (Go.Operand.tmp 3), type := 42, pos := "ref.go:180", after := #[], guard := none }) (v := ?_) rfl (by kernel_rfl) (by kernel_rfl) (by kernel_rfl) (fun _ _ _ h => h) (Or.inl ⟨by rfl, ?_⟩) (by assumption) ?_
                        rotate_left
                        · intro w hSw; clear hSw; go_simp; try with_reducible rfl
                        try simp only [Act.put, List.setIfInBounds_toArray, List.set_cons_zero, List.set_cons_succ]
                        refine wpAnyH_take (i := 1) (oi := { dst := some 74, op := Go.Op.move (Go.Operand.tmp 7), type := 3, pos := "ref.go:180", after := #[], guard := none }) (v := ?_) rfl (by kernel_rfl) (by kernel_rfl) (by kernel_rfl) (fun _ _ _ h => h) (Or.inl ⟨by rfl, ?_⟩) (by assumption) ?_
                        rotate_left
                        · intro w hSw; clear hSw; go_simp; try with_reducible rfl
                        try simp only [Act.put, List.setIfInBounds_toArray, List.set_cons_zero, List.set_cons_succ]
                        refine wpAnyH_take (i := 2) (oi := { dst := some 75, op := Go.Op.move (Go.Operand.tmp 7), type := 3, pos := "ref.go:180", after := #[], guard := none }) (v := ?_) rfl (by kernel_rfl) (by kernel_rfl) (by kernel_rfl) (fun _ _ _ h => h) (Or.inl ⟨by rfl, ?_⟩) (by assumption) ?_
                        rotate_left
                        · intro w hSw; clear hSw; go_simp; try with_reducible rfl
                        try simp only [Act.put, List.setIfInBounds_toArray, List.set_cons_zero, List.set_cons_succ]
                        refine wpAnyH_take (i := 3) (oi := { dst := some 76, op := Go.Op.slice 42 (Go.Operand.tmp 73) none (some (Go.Operand.tmp 74)) (some (Go.Operand.tmp 75)), type := 42, pos := "ref.go:180", after := #[{ on := 0, ground := Go.Ground.data }, { on := 1, ground := Go.Ground.data }, { on := 2, ground := Go.Ground.data }], guard := none }) (v := ?_) rfl (by kernel_rfl) (by kernel_rfl) (by kernel_rfl) (fun _ _ _ h => h) (Or.inl ⟨by rfl, ?_⟩) (by assumption) ?_
                        rotate_left
                        · intro w hSw; clear hSw; go_simp; try with_reducible rfl
                        try simp only [Act.put, List.setIfInBounds_toArray, List.set_cons_zero, List.set_cons_succ]
                        refine wpAnyH_take (i := 4) (oi := { dst := some 77, op := Go.Op.move (Go.Operand.tmp 5), type := 42, pos := "ref.go:180", after := #[], guard := none }) (v := ?_) rfl (by kernel_rfl) (by kernel_rfl) (by kernel_rfl) (fun _ _ _ h => h) (Or.inl ⟨by rfl, ?_⟩) (by assumption) ?_
                        rotate_left
                        · intro w hSw; clear hSw; go_simp; try with_reducible rfl
                        try simp only [Act.put, List.setIfInBounds_toArray, List.set_cons_zero, List.set_cons_succ]
                        refine wpAnyH_take (i := 5) (oi := { dst := some 78, op := Go.Op.move (Go.Operand.tmp 6), type := 3, pos := "ref.go:180", after := #[], guard := none }) (v := ?_) rfl (by kernel_rfl) (by kernel_rfl) (by kernel_rfl) (fun _ _ _ h => h) (Or.inl ⟨by rfl, ?_⟩) (by assumption) ?_
                        rotate_left
                        · intro w hSw; clear hSw; go_simp; try with_reducible rfl
                        try simp only [Act.put, List.setIfInBounds_toArray, List.set_cons_zero, List.set_cons_succ]
                        refine wpAnyH_take (i := 6) (oi := { dst := some 79, op := Go.Op.indexAddr 42 (Go.Operand.tmp 77) (Go.Operand.tmp 78), type := 0, pos := "ref.go:180", after := #[{ on := 4, ground := Go.Ground.data }, { on := 5, ground := Go.Ground.data }], guard := none }) (v := ?_) rfl (by kernel_rfl) (by kernel_rfl) (by kernel_rfl) (fun _ _ _ h => h) (Or.inl ⟨by rfl, ?_⟩) (by assumption) ?_
                        rotate_left
                        · intro w hSw; clear hSw; go_simp; try with_reducible rfl
                        try simp only [Act.put, List.setIfInBounds_toArray, List.set_cons_zero, List.set_cons_succ]
                        refine wpAnyH_take (i := 7) (oi := { dst := some 80, op := Go.Op.load 9 (Go.Operand.tmp 79), type := 9, pos := "ref.go:180", after := #[{ on := 6, ground := Go.Ground.data }], guard := none }) (v := ?_) rfl (by kernel_rfl) (by kernel_rfl) (by kernel_rfl) (fun _ _ _ h => h) (Or.inl ⟨by rfl, ?_⟩) (by assumption) ?_
                        rotate_left
                        · intro w7 hS7
                          have q7 := (Below.cell hS7 (p := ⟨g5, kk, none⟩) hgE.out).trans q5e
                          clear hS7
                          go_simp
                          try with_reducible rfl
                        try simp only [Act.put, List.setIfInBounds_toArray, List.set_cons_zero, List.set_cons_succ]
                        refine wpAnyH_take (i := 10) (oi := { dst := some 83, op := Go.Op.move (Go.Operand.tmp 8), type := 42, pos := "ref.go:180", after := #[], guard := none }) (v := ?_) rfl (by kernel_rfl) (by kernel_rfl) (by kernel_rfl) (fun _ _ _ h => h) (Or.inl ⟨by rfl, ?_⟩) (by assumption) ?_
                        rotate_left
                        · intro w hSw; clear hSw; go_simp; try with_reducible rfl
                        try simp only [Act.put, List.setIfInBounds_toArray, List.set_cons_zero, List.set_cons_succ]
                        refine wpAnyH_ready (rs := [8]) (by kernel_rfl) (by simp) ?_
                        refine AllReadyH.cons (o := { dst := some 81, op := Go.Op.buildSlice 42 1 #[(0, Go.Operand.tmp 80)], type := 42, pos := "ref.go:180", after := #[{ on := 7, ground := Go.Ground.data }], guard := none }) rfl (fun K hK => ?_) AllReadyH.nil
                        rw [if_pos (by rfl)]
                        go_simp
                        have hn1 := Lib.hid (own_one (B := 0) (e := 9) (sz := 1) w9.drew #[.string S2] rfl (Nat.zero_le _))
                        refine hK.out _ _ (hHeld.alloc hHeld.size _) (fun hHeld => ?_)
                        clear hK K
                        try simp only [Act.put, List.setIfInBounds_toArray, List.set_cons_zero, List.set_cons_succ]
                        refine wpAnyH_ready (rs := [9]) (by kernel_rfl) (by simp) ?_
                        refine AllReadyH.cons (o := { dst := some 82, op := Go.Op.call { callee := Go.Callee.builtin Go.Builtin.append, args := #[Go.Operand.tmp 76, Go.Operand.tmp 81], argTypes := #[42, 42] }, type := 42, pos := "ref.go:180", after := #[{ on := 3, ground := Go.Ground.data }, { on := 8, ground := Go.Ground.data }], guard := none }) rfl (fun K hK => ?_) AllReadyH.nil
                        rw [if_pos (by rfl)]
                        refine wp_append_cut (w := (w9.drew.alloc (.cells #[.string S2] 9))) (A := none) (m := 0) _ _ 42 rfl Tryz.underlying42 rfl rfl (own_below hOe.out hHeld) (by have := hno'.out; omega) hn1.out (by have := hno'.out; omega) (Nat.le_trans hsE.out hHeld.size) ?_
                        intro v10 w10 hr10 hg10 hv10
                        have hr10' := Lib.hid hr10
                        have hb10 : Below (w9.drew.alloc (.cells #[.string S2] 9)).heap.size (w9.drew.alloc (.cells #[.string S2] 9)) w10 := ((Turns.refl (fun _ => False) _).grown hg10 (fun _ h _ => by cases h)).below (Nat.le_refl _) (fun _ h => h.elim)
                        have hv10' := Lib.hid (show ∀ g, v10.ownBlock = some g → w9.heap.size ≤ g from fun g hg => by
                          rw [hv10] at hg
                          cases hg
                          exact hHeld.size)
                        refine hK.out _ _ (hHeld.trans (Below.mono hb10 hHeld.size)) (fun hHeld => ?_)
                        clear hK K hr10 hg10 hv10 hb10 hn1
                        try simp only [Act.put, List.setIfInBounds_toArray, List.set_cons_zero, List.set_cons_succ]
                        refine wpAnyH_ready (rs := [11]) (by kernel_rfl) (by simp) ?_
                        refine AllReadyH.cons (o := { dst := some 84, op := Go.Op.call { callee := Go.Callee.builtin Go.Builtin.append, args := #[Go.Operand.tmp 82, Go.Operand.tmp 83], argTypes := #[42, 42] }, type := 42, pos := "ref.go:180", after := #[{ on := 9, ground := Go.Ground.data }, { on := 10, ground := Go.Ground.data }, { on := 9, ground := Go.Ground.chain }], guard := none }) rfl (fun K hK => ?_) AllReadyH.nil
                        rw [if_pos (by rfl)]
                        refine wp_append_row (.string ⟨#[]⟩) 16 Tryz.infoString rfl (by decide) _ _ 42 rfl Tryz.underlying42 rfl rfl hr10'.out (own_below hrest.out hHeld) (fun u hu => by obtain ⟨_, _, rfl⟩ := List.mem_map.1 hu; rfl) (by have := hno'.out; simp; omega) (by omega) (Nat.le_trans hsE.out hHeld.size) ?_
                        intro v11 w11 hr11 hg11 hv11
                        have hr11' := Lib.hid hr11
                        have hb11 : Below w9.heap.size w10 w11 := ((Turns.refl (fun g => v10.ownBlock = some g) w10).grown hg11 (fun k hk _ => hk)).below hHeld.size (fun g hg => hv10'.out g hg)
                        refine hK.out _ _ (hHeld.trans hb11) (fun hHeld => ?_)
                        clear hK K hr11 hg11 hv11 hb11
                        try simp only [Act.put, List.setIfInBounds_toArray, List.set_cons_zero, List.set_cons_succ]
                        refine wpAnyH_take (i := 12) (oi := { dst := some 3, op := Go.Op.assign (Go.Operand.tmp 84), type := 42, pos := "ref.go:180", after := #[{ on := 11, ground := Go.Ground.data }, { on := 11, ground := Go.Ground.chain }, { on := 0, ground := Go.Ground.phase }, { on := 1, ground := Go.Ground.phase }, { on := 2, ground := Go.Ground.phase }, { on := 3, ground := Go.Ground.phase }, { on := 4, ground := Go.Ground.phase }, { on := 5, ground := Go.Ground.phase }, { on := 6, ground := Go.Ground.phase }, { on := 7, ground := Go.Ground.phase }, { on := 8, ground := Go.Ground.phase }, { on := 9, ground := Go.Ground.phase }, { on := 10, ground := Go.Ground.phase }, { on := 11, ground := Go.Ground.phase }], guard := none }) (v := ?_) rfl (by kernel_rfl) (by kernel_rfl) (by kernel_rfl) (fun _ _ _ h => h) (Or.inl ⟨by rfl, ?_⟩) (by assumption) ?_
                        rotate_left
                        · intro w hSw; clear hSw; go_simp; try with_reducible rfl
                        try simp only [Act.put, List.setIfInBounds_toArray, List.set_cons_zero, List.set_cons_succ]
                        refine wpAnyH_done (by kernel_rfl) ?_ _
                        have hb12 := Lib.hid hHeld
                        clear hHeld
                        go_wp2_with fail
                        go_roundw
                        case rel => exact ⟨kk + 1, _, by omega, by go_num, ⟨OwnStr.put hS2'.out (by rw [hno'.out]; exact Nat.zero_le _) hr11'.out, hG4.out⟩, hbE.out.trans (Below.mono hb12.out hbE.out.size)⟩
                        case measure => simp [intOf]; omega
                  · rw [hno'.out] at hv3
                    cases hv3
                    go_upto_region 14 with (fail)
                    go_cut [67] from 53 to 66 (fun s67 wx => s67 = .bool true ∧ Below wq.heap.size wq wx)
                    case first =>
                      by_cases hal : a < no
                      · obtain ⟨x3, hx3⟩ : ∃ x3, out2[a]? = some x3 := ⟨_, List.getElem?_eq_getElem (by rw [hno'.out]; exact hal)⟩
                        have hne : ¬ x3 = s2 := fun e => hin ⟨hal, by rw [hx3, e]⟩
                        obtain ⟨g4, c4, hv4, hg4, r3'⟩ := hOc.out.at_ hx3
                        rw [hno'.out] at hv4
                        cases hv4
                        obtain ⟨X3, hX3⟩ : ∃ X3 : ByteArray, (⟨x3.toArray⟩ : ByteArray) = X3 := ⟨_, rfl⟩
                        have r3 : wq.cell? ⟨g3, a, none⟩ = some (.string X3) := by rw [← hX3]; exact r3'
                        have hcmp : (X3.toList == S2.toList) = false := by rw [same_of hX3 hS2'.out]; simp [hne]
                        have hne4 : (((a : Nat) : Int) == ((no : Nat) : Int)) = false := by rw [beq_eq_false_iff_ne]; omega
                        clear hin hlo hx3 hne hX3 r3'
                        go_quiet (fail)
                        go_wp2_with fail
                        go_meet
                        case rel => exact ⟨rfl, below_drewN (Below.refl _ _) _⟩
                      · obtain rfl : a = no := by omega
                        have hne4 : (((a : Nat) : Int) == ((a : Nat) : Int)) = true := by simp
                        clear hin hlo
                        go_quiet (fail)
                        go_wp2_with fail
                        go_meet
                        case rel => exact ⟨rfl, below_drewN (Below.refl _ _) _⟩
                    case rest =>
                      obtain ⟨rfl, hb14⟩ := hcut
                      have hOd := Lib.hid (show OwnStr wc w.heap.size (.slice (some ⟨g3, 0, none⟩) no co) out2 from own_below hOc.out hb14)
                      have q5d : wc.cell? ⟨g5, kk, none⟩ = some (.string S2) := (Below.cell hb14 (p := ⟨g5, kk, none⟩) hgc.out).trans q5c
                      have hb15 := Lib.hid (hbc5.out.trans (Below.mono hb14 hbc5.out.size))
                      have hlit := Lib.hid (show OwnStr (wc.alloc (.cells #[] 9)) wc.heap.size (.slice (some ⟨wc.heap.size, 0, none⟩) 0 0) [] from World.ownsRow_lit (base := wc.heap.size) (e := 9) (size := 1) wc #[] 0 (Nat.le_refl _) (by decide) rfl)
                      have hgd := Lib.hid (show g5 < wc.heap.size from Nat.lt_of_lt_of_le hgc.out hb14.size)
                      clear q5c hOc hrc hbc5 hgc hb14
                      have hsin := Lib.hid (show SIn (wc.alloc (.cells #[] 9)) (.slice (if co = a then some ⟨g3, 0, none⟩ else some ⟨g3, a, none⟩) (no - a) (co - a)) (out2.drop a) from OwnStr.behind (own_below hOd.out ((Below.refl _ wc).alloc (Nat.le_refl _) _)) hno'.out hnc _)
                      go_wp2_with (
                        at_builtin
                        refine wpList_append_strs (v := .slice (some ⟨wc.heap.size, 0, none⟩) 0 0) (l := []) (lx := out2.drop a) (B := wc.heap.size) rfl _ _ 42 rfl Tryz.underlying42 rfl rfl hlit.out hsin.out (by have := hno'.out; simp; omega) (by simp) ?_
                        intro v9 w9 hr9 hg9 hat9
                        have T9 : Turns (fun _ => False) wc w9 := ((Turns.refl (fun _ => False) wc).alloc (.cells #[] 9)).grown hg9 (fun j hj hlt => by simp [Value.ownBlock] at hj; omega)
                        have hb9 := Lib.hid (show Below wc.heap.size wc w9 from T9.below (Nat.le_refl _) (fun _ h => h.elim))
                        have hrest := Lib.hid (show OwnStr w9 wc.heap.size v9 (out2.drop a) by simpa using hr9)
                        clear hr9 hg9 hat9 T9)
                      all_goals
                        have hOe := Lib.hid (show OwnStr w9 w.heap.size (.slice (some ⟨g3, 0, none⟩) no co) out2 from own_below hOd.out hb9.out)
                        have q5e : w9.cell? ⟨g5, kk, none⟩ = some (.string S2) := (Below.cell hb9.out (p := ⟨g5, kk, none⟩) hgd.out).trans q5d
                        have hgE := Lib.hid (show g5 < w9.heap.size from Nat.lt_of_lt_of_le hgd.out hb9.out.size)
                        have hbE := Lib.hid (hb15.out.trans (Below.mono hb9.out hb15.out.size))
                        have hsE := Lib.hid (Nat.le_trans hb6.out.size hbE.out.size)
                        clear q5d hOd hlit hsin hgd hb15 hb9
                        have hac : a ≤ co := Nat.le_trans ha hnc
                        refine wp_region_held_drew (S := fun w' => Below w9.heap.size w9 w') rfl (below_drew1 (Below.refl _ w9)) (fun hHeld => ?_)
                        refine wpAnyH_take (i := 0) (oi := { dst := some 73, op := Go.Op.move (Go.Operand.tmp 3), type := 42, pos := "ref.go:180", after := #[], guard := none }) (v := ?_) rfl (by kernel_rfl) (by kernel_rfl) (by kernel_rfl) (fun _ _ _ h => h) (Or.inl ⟨by rfl, ?_⟩) (by assumption) ?_
                        rotate_left
                        · intro w hSw; clear hSw; go_simp; try with_reducible rfl
                        try simp only [Act.put, List.setIfInBounds_toArray, List.set_cons_zero, List.set_cons_succ]
                        refine wpAnyH_take (i := 1) (oi := { dst := some 74, op := Go.Op.move (Go.Operand.tmp 7), type := 3, pos := "ref.go:180", after := #[], guard := none }) (v := ?_) rfl (by kernel_rfl) (by kernel_rfl) (by kernel_rfl) (fun _ _ _ h => h) (Or.inl ⟨by rfl, ?_⟩) (by assumption) ?_
                        rotate_left
                        · intro w hSw; clear hSw; go_simp; try with_reducible rfl
                        try simp only [Act.put, List.setIfInBounds_toArray, List.set_cons_zero, List.set_cons_succ]
                        refine wpAnyH_take (i := 2) (oi := { dst := some 75, op := Go.Op.move (Go.Operand.tmp 7), type := 3, pos := "ref.go:180", after := #[], guard := none }) (v := ?_) rfl (by kernel_rfl) (by kernel_rfl) (by kernel_rfl) (fun _ _ _ h => h) (Or.inl ⟨by rfl, ?_⟩) (by assumption) ?_
                        rotate_left
                        · intro w hSw; clear hSw; go_simp; try with_reducible rfl
                        try simp only [Act.put, List.setIfInBounds_toArray, List.set_cons_zero, List.set_cons_succ]
                        refine wpAnyH_take (i := 3) (oi := { dst := some 76, op := Go.Op.slice 42 (Go.Operand.tmp 73) none (some (Go.Operand.tmp 74)) (some (Go.Operand.tmp 75)), type := 42, pos := "ref.go:180", after := #[{ on := 0, ground := Go.Ground.data }, { on := 1, ground := Go.Ground.data }, { on := 2, ground := Go.Ground.data }], guard := none }) (v := ?_) rfl (by kernel_rfl) (by kernel_rfl) (by kernel_rfl) (fun _ _ _ h => h) (Or.inl ⟨by rfl, ?_⟩) (by assumption) ?_
                        rotate_left
                        · intro w hSw; clear hSw; go_simp; try with_reducible rfl
                        try simp only [Act.put, List.setIfInBounds_toArray, List.set_cons_zero, List.set_cons_succ]
                        refine wpAnyH_take (i := 4) (oi := { dst := some 77, op := Go.Op.move (Go.Operand.tmp 5), type := 42, pos := "ref.go:180", after := #[], guard := none }) (v := ?_) rfl (by kernel_rfl) (by kernel_rfl) (by kernel_rfl) (fun _ _ _ h => h) (Or.inl ⟨by rfl, ?_⟩) (by assumption) ?_
                        rotate_left
                        · intro w hSw; clear hSw; go_simp; try with_reducible rfl
                        try simp only [Act.put, List.setIfInBounds_toArray, List.set_cons_zero, List.set_cons_succ]
                        refine wpAnyH_take (i := 5) (oi := { dst := some 78, op := Go.Op.move (Go.Operand.tmp 6), type := 3, pos := "ref.go:180", after := #[], guard := none }) (v := ?_) rfl (by kernel_rfl) (by kernel_rfl) (by kernel_rfl) (fun _ _ _ h => h) (Or.inl ⟨by rfl, ?_⟩) (by assumption) ?_
                        rotate_left
                        · intro w hSw; clear hSw; go_simp; try with_reducible rfl
                        try simp only [Act.put, List.setIfInBounds_toArray, List.set_cons_zero, List.set_cons_succ]
                        refine wpAnyH_take (i := 6) (oi := { dst := some 79, op := Go.Op.indexAddr 42 (Go.Operand.tmp 77) (Go.Operand.tmp 78), type := 0, pos := "ref.go:180", after := #[{ on := 4, ground := Go.Ground.data }, { on := 5, ground := Go.Ground.data }], guard := none }) (v := ?_) rfl (by kernel_rfl) (by kernel_rfl) (by kernel_rfl) (fun _ _ _ h => h) (Or.inl ⟨by rfl, ?_⟩) (by assumption) ?_
                        rotate_left
                        · intro w hSw; clear hSw; go_simp; try with_reducible rfl
                        try simp only [Act.put, List.setIfInBounds_toArray, List.set_cons_zero, List.set_cons_succ]
                        refine wpAnyH_take (i := 7) (oi := { dst := some 80, op := Go.Op.load 9 (Go.Operand.tmp 79), type := 9, pos := "ref.go:180", after := #[{ on := 6, ground := Go.Ground.data }], guard := none }) (v := ?_) rfl (by kernel_rfl) (by kernel_rfl) (by kernel_rfl) (fun _ _ _ h => h) (Or.inl ⟨by rfl, ?_⟩) (by assumption) ?_
                        rotate_left
                        · intro w7 hS7
                          have q7 := (Below.cell hS7 (p := ⟨g5, kk, none⟩) hgE.out).trans q5e
                          clear hS7
                          go_simp
                          try with_reducible rfl
                        try simp only [Act.put, List.setIfInBounds_toArray, List.set_cons_zero, List.set_cons_succ]
                        refine wpAnyH_take (i := 10) (oi := { dst := some 83, op := Go.Op.move (Go.Operand.tmp 8), type := 42, pos := "ref.go:180", after := #[], guard := none }) (v := ?_) rfl (by kernel_rfl) (by kernel_rfl) (by kernel_rfl) (fun _ _ _ h => h) (Or.inl ⟨by rfl, ?_⟩) (by assumption) ?_
                        rotate_left
                        · intro w hSw; clear hSw; go_simp; try with_reducible rfl
                        try simp only [Act.put, List.setIfInBounds_toArray, List.set_cons_zero, List.set_cons_succ]
                        refine wpAnyH_ready (rs := [8]) (by kernel_rfl) (by simp) ?_
                        refine AllReadyH.cons (o := { dst := some 81, op := Go.Op.buildSlice 42 1 #[(0, Go.Operand.tmp 80)], type := 42, pos := "ref.go:180", after := #[{ on := 7, ground := Go.Ground.data }], guard := none }) rfl (fun K hK => ?_) AllReadyH.nil
                        rw [if_pos (by rfl)]
                        go_simp
                        have hn1 := Lib.hid (own_one (B := 0) (e := 9) (sz := 1) w9.drew #[.string S2] rfl (Nat.zero_le _))
                        refine hK.out _ _ (hHeld.alloc hHeld.size _) (fun hHeld => ?_)
                        clear hK K
                        try simp only [Act.put, List.setIfInBounds_toArray, List.set_cons_zero, List.set_cons_succ]
                        refine wpAnyH_ready (rs := [9]) (by kernel_rfl) (by simp) ?_
                        refine AllReadyH.cons (o := { dst := some 82, op := Go.Op.call { callee := Go.Callee.builtin Go.Builtin.append, args := #[Go.Operand.tmp 76, Go.Operand.tmp 81], argTypes := #[42, 42] }, type := 42, pos := "ref.go:180", after := #[{ on := 3, ground := Go.Ground.data }, { on := 8, ground := Go.Ground.data }], guard := none }) rfl (fun K hK => ?_) AllReadyH.nil
                        rw [if_pos (by rfl)]
                        refine wp_append_cut (w := (w9.drew.alloc (.cells #[.string S2] 9))) (A := some ⟨g3, 0, none⟩) (m := a) _ _ 42 rfl Tryz.underlying42 rfl rfl (own_below hOe.out hHeld) (by have := hno'.out; omega) hn1.out (by have := hno'.out; omega) (Nat.le_trans hsE.out hHeld.size) ?_
                        intro v10 w10 hr10 hg10 hv10
                        have hr10' := Lib.hid hr10
                        have hb10 : Below (w9.drew.alloc (.cells #[.string S2] 9)).heap.size (w9.drew.alloc (.cells #[.string S2] 9)) w10 := ((Turns.refl (fun _ => False) _).grown hg10 (fun _ h _ => by cases h)).below (Nat.le_refl _) (fun _ h => h.elim)
                        have hv10' := Lib.hid (show ∀ g, v10.ownBlock = some g → w9.heap.size ≤ g from fun g hg => by
                          rw [hv10] at hg
                          cases hg
                          exact hHeld.size)
                        refine hK.out _ _ (hHeld.trans (Below.mono hb10 hHeld.size)) (fun hHeld => ?_)
                        clear hK K hr10 hg10 hv10 hb10 hn1
                        try simp only [Act.put, List.setIfInBounds_toArray, List.set_cons_zero, List.set_cons_succ]
                        refine wpAnyH_ready (rs := [11]) (by kernel_rfl) (by simp) ?_
                        refine AllReadyH.cons (o := { dst := some 84, op := Go.Op.call { callee := Go.Callee.builtin Go.Builtin.append, args := #[Go.Operand.tmp 82, Go.Operand.tmp 83], argTypes := #[42, 42] }, type := 42, pos := "ref.go:180", after := #[{ on := 9, ground := Go.Ground.data }, { on := 10, ground := Go.Ground.data }, { on := 9, ground := Go.Ground.chain }], guard := none }) rfl (fun K hK => ?_) AllReadyH.nil
                        rw [if_pos (by rfl)]
                        refine wp_append_row (.string ⟨#[]⟩) 16 Tryz.infoString rfl (by decide) _ _ 42 rfl Tryz.underlying42 rfl rfl hr10'.out (own_below hrest.out hHeld) (fun u hu => by obtain ⟨_, _, rfl⟩ := List.mem_map.1 hu; rfl) (by have := hno'.out; simp; omega) (by omega) (Nat.le_trans hsE.out hHeld.size) ?_
                        intro v11 w11 hr11 hg11 hv11
                        have hr11' := Lib.hid hr11
                        have hb11 : Below w9.heap.size w10 w11 := ((Turns.refl (fun g => v10.ownBlock = some g) w10).grown hg11 (fun k hk _ => hk)).below hHeld.size (fun g hg => hv10'.out g hg)
                        refine hK.out _ _ (hHeld.trans hb11) (fun hHeld => ?_)
                        clear hK K hr11 hg11 hv11 hb11
                        try simp only [Act.put, List.setIfInBounds_toArray, List.set_cons_zero, List.set_cons_succ]
                        refine wpAnyH_take (i := 12) (oi := { dst := some 3, op := Go.Op.assign (Go.Operand.tmp 84), type := 42, pos := "ref.go:180", after := #[{ on := 11, ground := Go.Ground.data }, { on := 11, ground := Go.Ground.chain }, { on := 0, ground := Go.Ground.phase }, { on := 1, ground := Go.Ground.phase }, { on := 2, ground := Go.Ground.phase }, { on := 3, ground := Go.Ground.phase }, { on := 4, ground := Go.Ground.phase }, { on := 5, ground := Go.Ground.phase }, { on := 6, ground := Go.Ground.phase }, { on := 7, ground := Go.Ground.phase }, { on := 8, ground := Go.Ground.phase }, { on := 9, ground := Go.Ground.phase }, { on := 10, ground := Go.Ground.phase }, { on := 11, ground := Go.Ground.phase }], guard := none }) (v := ?_) rfl (by kernel_rfl) (by kernel_rfl) (by kernel_rfl) (fun _ _ _ h => h) (Or.inl ⟨by rfl, ?_⟩) (by assumption) ?_
                        rotate_left
                        · intro w hSw; clear hSw; go_simp; try with_reducible rfl
                        try simp only [Act.put, List.setIfInBounds_toArray, List.set_cons_zero, List.set_cons_succ]
                        refine wpAnyH_done (by kernel_rfl) ?_ _
                        have hb12 := Lib.hid hHeld
                        clear hHeld
                        go_wp2_with fail
                        go_roundw
                        case rel => exact ⟨kk + 1, _, by omega, by go_num, ⟨OwnStr.put hS2'.out (by rw [hno'.out]; exact ha) hr11'.out, hG4.out⟩, hbE.out.trans (Below.mono hb12.out hbE.out.size)⟩
                        case measure => simp [intOf]; omega
            · obtain rfl : kk = M := by omega
              have hO2 := hOG2.out.1
              have hG2 := hOG2.out.2
              rw [← hM'.out, List.drop_length, List.nil_append] at hG2
              have hOG3 := Lib.hid (And.intro hO2 hG2)
              have hM2 := Lib.hid (hM5.out.below hb2 hM5.out.lt)
              have hb7 := Lib.hid (hb6.out.trans (Below.mono hb2 hb6.out.size))
              clear hO2 hG2 hOG2
              obtain ⟨A5, c5, hv5, -⟩ := own_read hr5'.out
              rw [hM'.out] at hv5
              subst hv5
              go_wp2_with fail
              go_meet
              case rel => exact ⟨_, hOG3, hb7.out, hM2.out⟩
        case rest =>
          obtain ⟨out', hOG', hb', hM'⟩ := hcut
          have hOG2 := Lib.hid (show OwnStr wc w.heap.size u3 out' ∧ TM.Gat t out' (TM.gls (ks.dr (j + 1))) by rw [hRx'.out]; exact hOG'.out)
          clear hOG'
          go_wp2_with fail
          go_roundw
          case rel => exact ⟨j + 1, out', by omega, by go_num, hOG2, hb', hM'⟩
          case measure => simp [intOf]; omega
      · obtain rfl : j = N := by omega
        have hG2 := hOG.out.2
        rw [Tl.dr_end ks j (by rw [hN'.out]; exact Nat.le_refl _), show TM.gls Tl.nil = [] from rfl] at hG2
        have he := hGf'.out _ hG2
        have hO2 := Lib.hid (show OwnStr w1 w.heap.size u3 (TM.gset t) by rw [← he]; exact hOG.out.1)
        clear hG2 he
        go_wp2_with fail
        go_ret
        exact ⟨_, rfl, hO2.out, hb⟩
theorem rglobals_any (t : Tm) : GnOk t := Tl.all_one GnOk rgs_step t
end Go.Proofs.YtpiekdcbjkgipaaGreatDoor
