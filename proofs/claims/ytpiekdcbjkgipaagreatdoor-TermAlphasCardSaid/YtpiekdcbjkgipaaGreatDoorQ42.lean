/- The plain mathematics of a term's global names: each once, rising. -/
import Derived.Test.YtpiekdcbjkgipaaGreatDoorQ4
import Derived.Test.YtpiekdcbjkgipaaGreatDoorQ6
import Derived.Test.YtpiekdcbjkgipaaGreatDoorQ16
import Derived.Test.YtpiekdcbjkgipaaGreatDoorQ3
import Derived.Sort.OwnSorted
import Derived.Test.YtpiekdcbjkgipaaGreatDoorShelf
import Derived.Lib.SlicesCompact
import Derived.Lib.RowBridge
import Derived.Test.YtpiekdcbjkgipaaGreatDoorQ31
import Derived.Test.YtpiekdcbjkgipaaGreatDoorQ33
namespace Go.Proofs.YtpiekdcbjkgipaaGreatDoor.TM
open Go.RowKit RM

abbrev Str := List UInt8
/-- the names that stand in some terms, from the front -/
def gls : Tl → List Str
  | .nil => []
  | .cons _ _ s _ _ ks r => (if s = [] then [] else [s]) ++ (gls ks ++ gls r)
def gl1 (t : Tm) : List Str := (if t.s = [] then [] else [t.s]) ++ gls t.ks
theorem gls_at {d : Tl} {i : Nat} {x : Tm} (h : d.at_ i = some x) : gls (d.dr i) = gl1 x ++ gls (d.dr (i + 1)) := by
  rw [Tl.dr_at d i x h, gls, gl1, List.append_assoc]
theorem gls_len : ∀ d : Tl, (gls d).length ≤ sz d
  | .nil => Nat.le_refl _
  | .cons k n s ps d ks r => by
    have h1 := gls_len ks
    have h2 := gls_len r
    simp only [gls, sz, List.length_append]
    split <;> simp <;> omega
/-- what the visitor makes of the names that were met -/
def nmst (l : List Str) (t : Tm) : List Str × Bool := (if t.s = [] then l else l ++ [t.s], true)
theorem ea_nm : ∀ (d : Tl) (l : List Str), ea nmst d l = (l ++ gls d, true)
  | .nil, l => by simp [ea, gls]
  | .cons k n s ps d ks r, l => by
    rw [ea]
    simp only [nmst, if_true]
    rw [ea_nm ks, if_pos rfl, ea_nm r, gls]
    by_cases hs : s = []
    · rw [if_pos hs, if_pos hs]; simp
    · rw [if_neg hs, if_neg hs]; simp
theorem ea1_nm (t : Tm) (l : List Str) : ea1 nmst t l = (l ++ gl1 t, true) := by
  rw [ea1]
  simp only [nmst, if_true]
  show ea nmst t.ks _ = _
  rw [ea_nm, gl1]
  by_cases hs : t.s = []
  · rw [if_pos hs, if_pos hs]; simp
  · rw [if_neg hs, if_neg hs]; simp

/-- rising, each once -/
def Rise (l : List Str) : Prop := l.Pairwise (fun a b => a < b)
theorem str_lt_irrefl (a : Str) : ¬ a < a := List.lt_irrefl a
theorem str_lt_trans {a b c : Str} (h : a < b) (k : b < c) : a < c := List.lt_trans h k
theorem str_tri (a b : Str) : a < b ∨ a = b ∨ b < a := by
  by_cases h1 : a < b
  · exact .inl h1
  · by_cases h2 : b < a
    · exact .inr (.inr h2)
    · exact .inr (.inl (List.le_antisymm h2 h1))
theorem rise_ext : ∀ {a b : List Str}, Rise a → Rise b → (∀ x, x ∈ a ↔ x ∈ b) → a = b
  | [], [], _, _, _ => rfl
  | [], y :: b, _, _, h => by have := (h y).2 (by simp); simp at this
  | x :: a, [], _, _, h => by have := (h x).1 (by simp); simp at this
  | x :: a, y :: b, ha, hb, h => by
    unfold Rise at ha hb
    rw [List.pairwise_cons] at ha hb
    have hxy : x = y := by
      have h1 : x ∈ y :: b := (h x).1 (by simp)
      have h2 : y ∈ x :: a := (h y).2 (by simp)
      rcases List.mem_cons.1 h1 with h1 | h1
      · exact h1
      · rcases List.mem_cons.1 h2 with h2 | h2
        · exact h2.symm
        · exact absurd (str_lt_trans (ha.1 y h2) (hb.1 x h1)) (str_lt_irrefl x)
    subst hxy
    rw [rise_ext ha.2 hb.2 fun z => ?_]
    constructor
    · intro hz
      rcases List.mem_cons.1 ((h z).1 (List.mem_cons_of_mem _ hz)) with e | e
      · exact absurd (e ▸ ha.1 z hz) (str_lt_irrefl _)
      · exact e
    · intro hz
      rcases List.mem_cons.1 ((h z).2 (List.mem_cons_of_mem _ hz)) with e | e
      · exact absurd (e ▸ hb.1 z hz) (str_lt_irrefl _)
      · exact e
end Go.Proofs.YtpiekdcbjkgipaaGreatDoor.TM

/- Package term: the visitor of Globals, and the names that it meets. -/
namespace Go.Proofs.YtpiekdcbjkgipaaGreatDoor
open Go.ChangeShapes Go.WideShapes Go.ChangeAt Go.RowKit Go.Deep
open TM (Tl Tm)

theorem Tryz.infoString : (Tryz.prog.info? 9).map (fun i => (i.zero, i.size, i.bytes)) = some (some (.string ⟨#[]⟩), 1, 16) := by kernel_rfl
/-- a row of strings of one's own -/
def OwnStr (w : World) (B : Nat) (v : Value) (l : List (List UInt8)) : Prop := w.ownsRow B 9 1 v l.length (l.map encStr)
/-- the names met so far: box c holds a row of them -/
def Ns (w0 : World) (c : Nat) (l : List (List UInt8)) (w : World) : Prop := ∃ v, Lies w c 42 [v] ∧ OwnStr w w0.heap.size v l
theorem own_block_cells {w : World} {B sz n : Nat} {e : TypeId} {v : Value} {xs : List Value} (h : w.ownsRow B e sz v n xs) {g : Nat} (hg : v.ownBlock = some g) : ∃ cur, w.heap[g]? = some (.cells cur e (0, 0)) := by
  rcases h.2 with ⟨rfl, _⟩ | ⟨g', cap, cur, rfl, _, hb, _⟩
  · cases hg
  · cases hg
    exact ⟨cur, hb⟩
/-- a box of another type is no row's block -/
theorem own_ne_lies {w : World} {B sz n : Nat} {e t : TypeId} {v : Value} {xs cs : List Value} {b : Nat} (h : w.ownsRow B e sz v n xs) (k : Lies w b t cs) (ht : e ≠ t) : v.ownBlock ≠ some b := by
  intro hg
  obtain ⟨cur, hc⟩ := own_block_cells h hg
  unfold Lies at k
  rw [hc] at k
  cases k
  exact ht rfl
theorem Ns.below {w0 w w' : World} {c : Nat} {l : List (List UInt8)} (h : Ns w0 c l w) (k : Below w.heap.size w w') : Ns w0 c l w' := by
  obtain ⟨v, h1, h2⟩ := h
  exact ⟨v, h1.below k h1.lt, own_below h2 k⟩
theorem bytes_nil (s : List UInt8) : (⟨s.toArray⟩ : ByteArray) = ⟨#[]⟩ ↔ s = [] := by
  constructor
  · intro h
    have h2 : s.toArray = #[] := congrArg ByteArray.data h
    simpa using h2
  · rintro rfl; rfl
set_option maxRecDepth 100000 in
set_option maxHeartbeats 1000000 in
theorem glob_vis (w0 : World) (c : Nat) (hc : w0.heap.size ≤ c) :
    VisOk (Ns w0 c) (fun l m => l.length + m ≤ 1000000) w0 TM.nmst 38 #[.pointer (some ⟨c, 0, none⟩)] := by
  intro t vp vi vk l m w hb _ hP hn
  obtain ⟨v, hl, hr⟩ := hP
  obtain ⟨A, q, rfl, -⟩ := own_read hr
  unfold tmv
  have hS := bytes_nil t.s
  have hS' : ∀ (h : t.s ≠ []), TM.nmst l t = (l ++ [t.s], true) := fun h => by unfold TM.nmst; rw [if_neg h]
  have hS0 : ∀ (h : t.s = []), TM.nmst l t = (l, true) := fun h => by unfold TM.nmst; rw [if_pos h]
  obtain ⟨S, hSe⟩ : ∃ S : ByteArray, (⟨t.s.toArray⟩ : ByteArray) = S := ⟨_, rfl⟩
  have hSe' := Lib.hid hSe
  have hSd : S.data.toList = t.s := by rw [← hSe]
  rw [hSe] at hS ⊢
  obtain ⟨n, hn0⟩ : ∃ n, l.length = n := ⟨_, rfl⟩
  unfold OwnStr at hr
  rw [hn0] at hr hn hl
  have hn' := Lib.hid hn0
  have hsz := hb.size
  have hwb : Below w.heap.size w (w.alloc (.cells #[.int .i64 t.k, .int .i64 t.n, .string S, vp, .int .i64 t.d.k, .int .i64 t.d.n, .string ⟨t.d.s.toArray⟩, vi, vk] 28)) := (Below.refl _ w).alloc (Nat.le_refl _) _
  have hk : ∀ b cs, Lies w b 28 cs → b ≠ c ∧ (Value.slice A n q).ownBlock ≠ some b := fun b cs h => ⟨h.apart hl (by decide), own_ne_lies hr h (by decide)⟩
  have hk' := Lib.hid hk
  have hvc := Lib.hid (own_ne_lies hr hl (by decide))
  have hr' := Lib.hid hr
  have hl' := Lib.hid hl
  have hb' := Lib.hid hb
  have hwb' := Lib.hid hwb
  have hL := hl.alloc (.cells #[.int .i64 t.k, .int .i64 t.n, .string S, vp, .int .i64 t.d.k, .int .i64 t.d.n, .string ⟨t.d.s.toArray⟩, vi, vk] 28)
  have q0 : (w.alloc (.cells #[.int .i64 t.k, .int .i64 t.n, .string S, vp, .int .i64 t.d.k, .int .i64 t.d.n, .string ⟨t.d.s.toArray⟩, vi, vk] 28)).cell? ⟨c, 0, none⟩ = some (.slice A n q) := hL.cell 0
  have hn1 : n ≤ 1000000000 := by omega
  clear hSe hn0 hr hl hb hwb hk
  by_cases hs : t.s = []
  · have hSn := hS.2 hs
    have e0 := Lib.hid (hS0 hs)
    subst hSn
    clear hS hS' hS0 q0 hL hs hSd
    go_enter Tryz.func38, Tryz.ntmps38
    go_wp2_with fail
    go_ret
    rw [e0.out]
    exact ⟨rfl, ⟨_, hl'.out.alloc _, by unfold OwnStr; rw [hn'.out]; exact own_below hr'.out hwb'.out⟩, hb'.out.trans (Below.mono hwb'.out hb'.out.size), KeepsT.of_below hwb'.out⟩
  · have hSn : S.toList.isEmpty = false := by rw [ByteArray.toList_eq, hSd, List.isEmpty_eq_false_iff]; exact hs
    have e0 := Lib.hid (hS' hs)
    clear hS hS' hS0 hs hSd
    have hz : (w.alloc (.cells #[.int .i64 t.k, .int .i64 t.n, .string S, vp, .int .i64 t.d.k, .int .i64 t.d.n, .string ⟨t.d.s.toArray⟩, vi, vk] 28)).heap.size = w.heap.size + 1 := by simp
    have hown1 := own_one (B := 0) (e := 9) (sz := 1) (w.alloc (.cells #[.int .i64 t.k, .int .i64 t.n, .string S, vp, .int .i64 t.d.k, .int .i64 t.d.n, .string ⟨t.d.s.toArray⟩, vi, vk] 28)) #[.string S] rfl (Nat.zero_le _)
    rw [hz] at hown1
    have hal : Below w.heap.size w ((w.alloc (.cells #[.int .i64 t.k, .int .i64 t.n, .string S, vp, .int .i64 t.d.k, .int .i64 t.d.n, .string ⟨t.d.s.toArray⟩, vi, vk] 28)).alloc (.cells #[.string S] 9)) := hwb'.out.alloc (by simp) _
    have hrA := own_below hr'.out hal
    have hown1' := Lib.hid hown1
    have hal' := Lib.hid hal
    have hrA' := Lib.hid hrA
    have hBs := Lib.hid (Nat.le_trans hsz hal.size)
    clear hown1 hal hrA hz hL
    go_enter Tryz.func38, Tryz.ntmps38
    go_wp2_with (
      at_builtin
      refine wpList_append_own (v := .slice A n q) (x := .slice (some ⟨w.heap.size + 1, 0, none⟩) 1 1) (B := w0.heap.size) (B' := 0) (n := n) (xs := l.map encStr) (cs := [.string S]) (.string ⟨#[]⟩) 16 Tryz.infoString rfl (by decide) rfl _ _ 42 rfl Tryz.underlying42 rfl rfl hrA'.out hown1'.out (by intro u hu; simp at hu; subst hu; rfl) hn1 (by omega) hBs.out ?_
      intro v9 w9 hown9 hg9 hat9
      have T9 : Turns (fun g => (Value.slice A n q).ownBlock = some g) w w9 := (Turns.of_below hal'.out _).then (Turns.appendedS hg9) (fun _ _ h => h)
      have hl9 := hl'.out.turns T9 hvc.out
      have c9 : w9.cell? ⟨c, 0, none⟩ = some (.slice A n q) := hl9.cell 0
      have f9 := hl9.free 0
      have T9' := Lib.hid T9
      have hl9' := Lib.hid hl9
      obtain ⟨A9, q9, rfl, -⟩ := own_read hown9
      have hown9' := Lib.hid hown9
      clear hown9 hg9 hat9 T9 hl9)
    go_ret
    rw [e0.out]
    have T2 : Turns (fun g => g = c ∨ (Value.slice A n q).ownBlock = some g) w (w9.setCell ⟨c, 0, none⟩ (.slice A9 (n + 1) q9)) := (T9'.out.mono (fun _ _ h => .inr h)).setCell (fun _ => .inl rfl) _
    have hb2 : Below w0.heap.size w (w9.setCell ⟨c, 0, none⟩ (.slice A9 (n + 1) q9)) := T2.below hsz (fun g hg => by
      rcases hg with rfl | hg
      · exact hc
      · exact (World.ownsRow.lt hr'.out g hg).1)
    refine ⟨rfl, ⟨_, hl9'.out.stored 0 _, ?_⟩, hb'.out.trans hb2, T2.size, fun b cs hl => ?_⟩
    · have hne := own_ne_lies hown9'.out hl9'.out (by decide)
      have hfin := own_turns hown9'.out ((Turns.refl (fun g => g = c) w9).setCell (p := ⟨c, 0, none⟩) (fun _ => rfl) (.slice A9 (n + 1) q9)) (fun g hg e => hne (by rw [hg, e]))
      unfold OwnStr
      rw [List.length_append, List.length_singleton, hn'.out, List.map_append, List.map_singleton]
      have hS9 : encStr t.s = .string S := by rw [← hSe'.out]
      rw [hS9]
      exact hfin
    · refine hl.turns T2 ?_
      rintro (rfl | hg)
      · exact (hk'.out _ _ hl).1 rfl
      · exact (hk'.out _ _ hl).2 hg
end Go.Proofs.YtpiekdcbjkgipaaGreatDoor

/- Package term: Globals: names sorted, each once. -/
namespace Go.Proofs.YtpiekdcbjkgipaaGreatDoor
open Go.ChangeShapes Go.WideShapes Go.ChangeAt Go.RowKit Go.Deep
open TM (Tl Tm)

namespace TM
/-- sorted -/
def srt (l : List Str) : List Str := l.mergeSort (fun x y => decide (x ≤ y))
theorem srt_mem (l : List Str) (x : Str) : x ∈ srt l ↔ x ∈ l := (List.mergeSort_perm l _).mem_iff
theorem srt_up (l : List Str) : (srt l).Pairwise (fun a b => a ≤ b) := by
  have h := List.pairwise_mergeSort (le := fun (x y : Str) => decide (x ≤ y)) (fun a b c h1 h2 => by
    simp only [decide_eq_true_eq] at *
    exact List.le_trans h1 h2) (fun a b => by
    simp only [Bool.or_eq_true, decide_eq_true_eq]
    exact List.le_total a b) l
  exact h.imp (fun h => by simpa using h)
theorem le_lt_of_ne {a b : Str} (h : a ≤ b) (hn : b ≠ a) : a < b := by
  rcases str_tri a b with h1 | h1 | h1
  · exact h1
  · exact absurd h1.symm hn
  · exact absurd h1 h
/-- of a list that doesn't fall, each once: it rises, and has the same members -/
theorem compact_up (z : List Str) (h : z.Pairwise (fun a b => a ≤ b)) : ∀ m, m ≤ z.length → Rise (Lib.compactUpTo z.toArray m) ∧ (∀ x, x ∈ Lib.compactUpTo z.toArray m ↔ x ∈ z.take m) := by
  intro m
  induction m with
  | zero => intro _; exact ⟨by simp [Lib.compactUpTo, Rise], by simp [Lib.compactUpTo]⟩
  | succ m ih =>
    intro hm
    obtain ⟨i1, i2⟩ := ih (by omega)
    have hgm : z.toArray[m]! = z[m]'(by omega) := by
      rw [getElem!_pos _ m (by simp; omega)]; simp
    have htk : z.take (m + 1) = z.take m ++ [z[m]'(by omega)] := by
      rw [List.take_add_one, List.getElem?_eq_getElem (by omega)]; rfl
    rw [Lib.compactUpTo_succ, hgm, htk]
    by_cases hk : Lib.keeps z.toArray m = true
    · rw [if_pos hk]
      refine ⟨?_, fun x => by rw [List.mem_append, List.mem_append, i2]⟩
      unfold Rise
      rw [List.pairwise_append]
      refine ⟨i1, by simp, fun a ha b hb => ?_⟩
      simp only [List.mem_singleton] at hb
      subst hb
      obtain ⟨j, hj, rfl⟩ := List.mem_iff_getElem.1 ((i2 a).1 ha)
      have hj' : j < m := by simp at hj; omega
      rw [List.getElem_take]
      have hle : ∀ p (hp : p < m), z[p]'(by omega) ≤ z[m]'(by omega) := fun p hp => List.pairwise_iff_getElem.1 h p m (by omega) (by omega) hp
      have hlast : z[m - 1]'(by omega) < z[m]'(by omega) := by
        refine le_lt_of_ne (hle (m - 1) (by omega)) ?_
        simp only [Lib.keeps, decide_eq_true_eq] at hk
        rcases hk with hk | hk
        · omega
        · rw [hgm, getElem!_pos _ (m - 1) (by simp; omega)] at hk
          simpa using hk
      by_cases hjl : j = m - 1
      · subst hjl; exact hlast
      · have h1 : z[j]'(by omega) ≤ z[m - 1]'(by omega) := List.pairwise_iff_getElem.1 h j (m - 1) (by omega) (by omega) (by omega)
        rcases str_tri (z[j]'(by omega)) (z[m - 1]'(by omega)) with h2 | h2 | h2
        · exact str_lt_trans h2 hlast
        · rw [h2]; exact hlast
        · exact absurd h2 h1
    · rw [if_neg hk, List.append_nil]
      refine ⟨i1, fun x => ?_⟩
      rw [i2, List.mem_append, List.mem_singleton]
      refine ⟨.inl, fun hx => ?_⟩
      rcases hx with hx | rfl
      · exact hx
      · simp only [Lib.keeps, decide_eq_true_eq, not_or, Decidable.not_not] at hk
        rw [hgm, getElem!_pos _ (m - 1) (by simp; omega)] at hk
        have he : z[m]'(by omega) = z[m - 1]'(by omega) := by simpa using hk.2
        rw [he]
        exact List.mem_iff_getElem.2 ⟨m - 1, by simp; omega, by rw [List.getElem_take]⟩
/-- a term's global names: each once, rising -/
def gset (t : Tm) : List Str := Lib.compact (srt (gl1 t))
theorem gset_rise (t : Tm) : Rise (gset t) := (compact_up _ (srt_up _) _ (Nat.le_refl _)).1
theorem gset_mem (t : Tm) (x : Str) : x ∈ gset t ↔ x ∈ gl1 t := by
  unfold gset Lib.compact
  rw [(compact_up _ (srt_up _) _ (Nat.le_refl _)).2, List.take_length, srt_mem]
theorem srt_len (l : List Str) : (srt l).length = l.length := (List.mergeSort_perm l _).length_eq
end TM

theorem sort_own {w : World} {B : Nat} {v : Value} {l : List (List UInt8)} (h : OwnStr w B v l) (hl : l.length ≤ 1000000) :
    Calls Tryz.prog 39 #[v] w fun e w' => e = .returned (.tuple #[]) ∧ OwnStr w' B v (TM.srt l) ∧ Turns (fun g => v.ownBlock = some g) w w' := by
  rcases h.2 with ⟨rfl, h0⟩ | ⟨g, cap, cur, rfl, hbase, hb, h1, h2, h3, h4⟩
  · have hl0 : l = [] := List.eq_nil_of_length_eq_zero (by omega)
    subst hl0
    refine (Tryz.slices_Sort_string_none none 0 w).mono ?_
    rintro e w' ⟨rfl, rfl⟩
    exact ⟨rfl, by unfold OwnStr; rw [TM.srt_len, List.eq_nil_of_length_eq_zero (TM.srt_len [])]; exact h, Turns.refl _ _⟩
  · refine (Tryz.slices_Sort_string g 0 cap l w (holds_of_block hb (by simpa using h4)) (Array.getElem?_eq_some_iff.1 hb).1 (by omega)).mono ?_
    rintro e w' ⟨rfl, n, os, rfl⟩
    refine ⟨rfl, ?_, (Turns.refl _ w).grown (grownBy_sorted _) (fun k hk _ => hk)⟩
    unfold OwnStr
    rw [TM.srt_len]
    exact ownsRow_sorted (by simp) hbase hb h1 h2 h3
theorem ownsRow_compacted {w : World} {base g cap q : Nat} {e : TypeId} {cur : Array Value} {ss cs : List (List UInt8)} (hc : cs.length ≤ ss.length) (hbase : base ≤ g) (hb : w.heap[g]? = some (.cells cur e (0, 0)))
    (h1 : ss.length ≤ cap) (h2 : cap ≤ maxLen) (h3 : cur.size = cap * 1) :
    (Go.Sort.putRow encStr (Go.Sort.ahead w q) g 0 (cs ++ List.replicate (ss.length - cs.length) []).toArray).ownsRow base e 1 (.slice (some ⟨g, 0, none⟩) cs.length cap) cs.length (cs.map encStr) := by
  have hh := heap_sorted (n := q) (os := #[]) (cs ++ List.replicate (ss.length - cs.length) []).toArray hb
  rw [Go.Sort.grow_empty] at hh
  refine ⟨by simp, .inr ⟨g, cap, _, rfl, hbase, hh, by omega, h2, by simp [Go.Sort.putCells, h3], ?_⟩⟩
  have ht := take_putCells cur (cs ++ List.replicate (ss.length - cs.length) []) (by simp; omega)
  have hlen : (cs ++ List.replicate (ss.length - cs.length) ([] : List UInt8)).length = ss.length := by simp; omega
  rw [hlen] at ht
  have ht2 := congrArg (List.take cs.length) ht
  rw [List.take_take, Nat.min_eq_left hc, List.map_append, show List.take cs.length (cs.map encStr ++ (List.replicate (ss.length - cs.length) []).map encStr) = cs.map encStr from List.take_left' (by simp)] at ht2
  rw [Nat.mul_one]
  exact ht2
theorem compact_own {w : World} {B : Nat} {v : Value} {l : List (List UInt8)} (h : OwnStr w B v l) (hl : l.length ≤ 1000000) :
    Calls Tryz.prog 40 #[v] w fun e w' => ∃ v', e = .returned v' ∧ OwnStr w' B v' (Lib.compact l) ∧ Turns (fun g => v.ownBlock = some g) w w' := by
  rcases h.2 with ⟨rfl, h0⟩ | ⟨g, cap, cur, rfl, hbase, hb, h1, h2, h3, h4⟩
  · have hl0 : l = [] := List.eq_nil_of_length_eq_zero (by omega)
    subst hl0
    refine (Tryz.slices_Compact_string_empty none 0 w).mono ?_
    rintro e w' ⟨rfl, rfl⟩
    exact ⟨_, rfl, h, Turns.refl _ _⟩
  · refine (Tryz.slices_Compact_string g 0 cap l w (holds_of_block hb (by simpa using h4)) (by omega) h1).mono ?_
    rintro e w' ⟨rfl, q, rfl⟩
    have hgr : w.grownBy (Go.Sort.putRow encStr (Go.Sort.ahead w q) g 0 (Lib.compact l ++ List.replicate (l.length - (Lib.compact l).length) []).toArray) (some g) := by
      have := grownBy_sorted (w := w) (g := g) (n := q) (os := #[]) (Lib.compact l ++ List.replicate (l.length - (Lib.compact l).length) []).toArray
      rwa [Go.Sort.grow_empty] at this
    exact ⟨_, rfl, ownsRow_compacted (Lib.compact_length_le l) hbase hb h1 h2 h3, (Turns.refl _ w).grown hgr (fun k hk _ => hk)⟩
end Go.Proofs.YtpiekdcbjkgipaaGreatDoor

/- Package term: Globals, walked. -/
namespace Go.Proofs.YtpiekdcbjkgipaaGreatDoor
open Go.ChangeShapes Go.WideShapes Go.ChangeAt Go.RowKit Go.Deep
open TM (Tl Tm)

set_option maxRecDepth 100000 in
set_option maxHeartbeats 1000000 in
theorem globals_no (t : Tm) (w : World) (vp vi vk : Value) (h : TmIn w t vp vi vk) (hB : TmBd t) (hok : TM.okt t = false) :
    Calls Tryz.prog 17 #[tmv t vp vi vk] w fun e w' => e = .returned (.slice none 0 0) ∧ Went w w' := by
  have hC := Lib.hid (fun (w' : World) (hb : Below w.heap.size w w') => tcheck_any t w' vp vi vk (h.below hb) hB)
  rw [hok] at hC
  unfold chv tmv at hC
  unfold tmv
  simp only [Bool.false_eq_true, reduceIte] at hC
  have hba : Below w.heap.size w (w.alloc (.cells #[.int .i64 t.k, .int .i64 t.n, .string ⟨t.s.toArray⟩, vp, .int .i64 t.d.k, .int .i64 t.d.n, .string ⟨t.d.s.toArray⟩, vi, vk] 28)) := (Below.refl _ w).alloc (Nat.le_refl _) _
  have hba' := Lib.hid hba
  clear h hB hok hba
  go_enter Tryz.func17, Tryz.ntmps17
  go_wp2_with (
    go_at_call 9
    refine (hC.out _ hba'.out).mono ?_
    rintro e w1 ⟨rfl, hb1⟩
    have c1 := Lib.hid (hba'.out.trans (Below.mono hb1 hba'.out.size))
    clear hb1)
  go_ret
  exact ⟨rfl, c1.out⟩
set_option maxRecDepth 100000 in
set_option maxHeartbeats 1000000 in
theorem globals_any (t : Tm) (w : World) (vp vi vk : Value) (h : TmIn w t vp vi vk) (hB : TmBd t) (hok : TM.okt t = true) :
    Calls Tryz.prog 17 #[tmv t vp vi vk] w fun e w' => ∃ v, e = .returned v ∧ OwnStr w' w.heap.size v (TM.gset t) ∧ Went w w' := by
  have hC := Lib.hid (fun (w' : World) (hb : Below w.heap.size w w') => tcheck_any t w' vp vi vk (h.below hb) hB)
  have hsz := (TM.okt_parts hok).1
  have hgl : (TM.gl1 t).length ≤ 1000000 := by
    have h1 := TM.gls_len t.ks
    unfold TM.gl1
    rw [List.length_append]
    split <;> simp <;> omega
  have hE := Lib.hid (fun (w' : World) (hb : Below w.heap.size w w') (c : Nat) (hc : w.heap.size ≤ c) (hl : Ns w c [] w') =>
    each_any (Ns w c) (fun l m => l.length + m ≤ 1000000) w TM.nmst 38 #[.pointer (some ⟨c, 0, none⟩)] (enters_of Tryz.func38 (by kernel_rfl) rfl)
      (fun _ _ _ h k => h.below k) (fun s t m _ hq => by unfold TM.nmst; split <;> (try simp) <;> omega) (glob_vis w c hc) t w' [] 0 vp vi vk vp vi vk hb h rfl rfl rfl hl (by simp; omega))
  have e1 := TM.ea1_nm t []
  unfold EachN at hE
  simp only [e1, List.nil_append] at hE
  rw [hok] at hC
  unfold chv at hC
  simp only [if_true] at hC
  unfold tmv at hC hE ⊢
  have hG : TM.gset t = Lib.compact (TM.srt (TM.gl1 t)) := rfl
  rw [hG]
  obtain ⟨G, hGe⟩ : ∃ G, TM.gl1 t = G := ⟨_, rfl⟩
  rw [hGe] at hgl hE ⊢
  have hgl' := Lib.hid hgl
  have hgl2 := Lib.hid (show (TM.srt G).length ≤ 1000000 by rw [TM.srt_len]; exact hgl)
  have hL := Lies.made w 28 #[.int .i64 t.k, .int .i64 t.n, .string ⟨t.s.toArray⟩, vp, .int .i64 t.d.k, .int .i64 t.d.n, .string ⟨t.d.s.toArray⟩, vi, vk]
  have hba : Below w.heap.size w (w.alloc (.cells #[.int .i64 t.k, .int .i64 t.n, .string ⟨t.s.toArray⟩, vp, .int .i64 t.d.k, .int .i64 t.d.n, .string ⟨t.d.s.toArray⟩, vi, vk] 28)) := (Below.refl _ w).alloc (Nat.le_refl _) _
  have hba' := Lib.hid hba
  have hL' := Lib.hid hL
  clear h hB hok hba hL hsz hgl e1 hG hGe
  go_enter Tryz.func17, Tryz.ntmps17
  go_wp2_with (first
    | (go_at_call 9
       refine (hC.out _ hba'.out).mono ?_
       rintro e w1 ⟨rfl, hb1⟩
       have c1 := Lib.hid (hba'.out.trans (Below.mono hb1 hba'.out.size))
       have hM1 := (hL'.out.below hb1 hL'.out.lt).alloc (.cells #[.slice none 0 0] 42)
       have c2 := Lib.hid (c1.out.alloc c1.out.size (.cells #[.slice none 0 0] 42))
       have hN2 := Lib.hid (show Ns w w1.heap.size [] (w1.alloc (.cells #[.slice none 0 0] 42)) from ⟨_, Lies.made w1 _ _, own_none _ _ _ _⟩)
       have hc2 := Lib.hid c1.out.size
       have z0 := hM1.cell 0
       have z1 := hM1.cell 1
       have z2 := hM1.cell 2
       have z3 := hM1.cell 3
       have z4 := hM1.cell 4
       have z5 := hM1.cell 5
       have z6 := hM1.cell 6
       have z7 := hM1.cell 7
       have z8 := hM1.cell 8
       simp only [List.getElem?_cons_succ, List.getElem?_cons_zero] at z0 z1 z2 z3 z4 z5 z6 z7 z8
       clear hb1 hM1)
    | (go_at_call 29
       refine (hE.out _ c2.out _ hc2.out hN2.out).mono ?_
       rintro e w3 ⟨rfl, ⟨v, hl3, hr3⟩, -, hb3, -⟩
       have q3 : w3.cell? ⟨w1.heap.size, 0, none⟩ = some v := hl3.cell 0
       have hl3' := Lib.hid hl3
       have hr3' := Lib.hid hr3
       have hb3' := Lib.hid hb3
       clear z0 z1 z2 z3 z4 z5 z6 z7 z8 hl3 hr3 hb3)
    | (go_at_call 39
       refine (sort_own hr3'.out hgl'.out).mono ?_
       rintro e w4 ⟨rfl, hr4, T4⟩
       have hl4 := hl3'.out.turns T4 (own_ne_lies hr3'.out hl3'.out (by decide))
       have q4 : w4.cell? ⟨w1.heap.size, 0, none⟩ = some v := hl4.cell 0
       have hb4 := Lib.hid (hb3'.out.trans (T4.below hb3'.out.size (fun g hg => (World.ownsRow.lt hr3'.out g hg).1)))
       have hr4' := Lib.hid hr4
       clear q3 hr4 T4 hl4)
    | (go_at_call 40
       refine (compact_own hr4'.out hgl2.out).mono ?_
       rintro e w5 ⟨v5, rfl, hr5, T5⟩
       have hb5 := Lib.hid (hb4.out.trans (T5.below hb4.out.size (fun g hg => (World.ownsRow.lt hr4'.out g hg).1)))
       have hr5' := Lib.hid hr5
       clear q4 hr5 T5))
  go_ret
  exact ⟨_, rfl, hr5'.out, hb5.out⟩
end Go.Proofs.YtpiekdcbjkgipaaGreatDoor

/- Rows of strings: what can be read is put behind one's own; a row cut short is put ahead. -/
namespace Go.Proofs.YtpiekdcbjkgipaaGreatDoor
open Go.ChangeShapes Go.WideShapes Go.ChangeAt Go.RowKit Go.Deep
open TM (Tl Tm)

/-- v is a slice of these strings -/
def SIn (w : World) (v : Value) (l : List (List UInt8)) : Prop :=
  ∃ A c, v = .slice A l.length c ∧ ∃ b o, (0 < l.length → A = some ⟨b, o, none⟩) ∧ ∀ (j : Nat) (x : List UInt8), l[j]? = some x → w.cell? ⟨b, o + j, none⟩ = some (encStr x)
section
variable {w w' : World} {B g : Nat} {v x : Value} {l lx : List (List UInt8)} {X : Nat → Prop}
/-- what lies behind place a of one's own row -/
theorem OwnStr.from_ {A : Option Addr} {n c a : Nat} (h : OwnStr w B (.slice A n c) l) {g : Nat} (hA : A = some ⟨g, 0, none⟩) (c' : Nat) : SIn w (.slice (some ⟨g, a, none⟩) (l.length - a) c') (l.drop a) := by
  subst hA
  refine ⟨_, _, by rw [List.length_drop], g, a, fun _ => rfl, fun j x hx => ?_⟩
  rw [List.getElem?_drop] at hx
  have hj := (List.getElem?_eq_some_iff.1 hx).1
  have := World.ownsRow.cells h (g := g) rfl (a + j) (encStr x) (by rw [List.getElem?_map, hx]; rfl)
  have hadd : (⟨g, 0, none⟩ : Addr).add (a + j) = ⟨g, a + j, none⟩ := by unfold Addr.add; split <;> simp_all
  rwa [hadd] at this
theorem run_append_strs (t ty : TypeId) (ht : Tryz.prog.underlying t = some (.slice 9)) (h : OwnStr w B v l) (k : SIn w x lx) (hlen : l.length + lx.length ≤ 1000000) (hB : B ≤ w.heap.size) :
    ∃ v' w', (Builtin.append_ #[t, t] ty #[v, x]).run Tryz.prog w = .ok v' w' ∧ OwnStr w' B v' (l ++ lx) ∧ w.grownBy w' v.ownBlock ∧ (v'.ownBlock = v.ownBlock ∨ v'.ownBlock = some w.heap.size) := by
  obtain ⟨i0, hi, hz0, hz1, hz2⟩ := info_parts Tryz.infoString
  obtain ⟨A, c, rfl, b, o, h1, h2⟩ := k
  cases A with
  | none =>
    have : lx = [] := List.eq_nil_of_length_eq_zero (by
      rcases Nat.eq_zero_or_pos lx.length with h | h
      · exact h
      · have := h1 h; simp at this)
    subst this
    exact ⟨v, w, run_append_nothing B c t ty 9 i0 1 ht hi v _ _ h, by rw [List.append_nil]; exact h, World.grownBy.refl w _, .inl rfl⟩
  | some a =>
    have hcells : ∀ j u, (lx.map encStr)[j]? = some u → w.cell? (a.add j) = some u := by
      intro j u hu
      have hj : j < lx.length := by have := (List.getElem?_eq_some_iff.1 hu).1; simpa using this
      have ha := h1 (by omega)
      simp only [Option.some.injEq] at ha
      subst ha
      rw [List.getElem?_map, List.getElem?_eq_getElem hj] at hu
      simp only [Option.map_some, Option.some.injEq] at hu
      subst hu
      have := h2 j _ (List.getElem?_eq_getElem hj)
      rwa [add_plain]
    obtain ⟨v', w', hr, h2, h3, _, h5⟩ := run_append_own_at (P := Tryz.prog) (ty := ty) w B t 9 i0 _ 1 16 ht hi hz0 hz1 hz2 rfl (by decide) v _ _ h a lx.length c (lx.map encStr) (by simp) hcells
      (fun u hu => by obtain ⟨_, _, rfl⟩ := List.mem_map.1 hu; rfl) (by unfold maxLen; omega) (by omega) hB
    refine ⟨v', w', hr, ?_, h3, h5⟩
    unfold OwnStr
    rw [List.length_append, List.map_append]
    exact h2
/-- one string put behind the first a of one's own row, whose room is cut off there: always a new row -/
theorem run_append_cut (t ty : TypeId) (ht : Tryz.prog.underlying t = some (.slice 9)) {A : Option Addr} {n c a : Nat} (h : OwnStr w B (.slice A n c) l) (ha : a ≤ l.length) {B' : Nat} {S : ByteArray} (k : w.ownsRow B' 9 1 x 1 [.string S]) (hlen : l.length ≤ 1000000) (hB : B ≤ w.heap.size) :
    ∃ v' w', (Builtin.append_ #[t, t] ty #[.slice A a a, x]).run Tryz.prog w = .ok v' w' ∧ w'.ownsRow B 9 1 v' (a + 1) ((l.take a).map encStr ++ [.string S]) ∧ w.grownBy w' none ∧ v'.ownBlock = some w.heap.size := by
  obtain ⟨i0, hi, hz0, hz1, hz2⟩ := info_parts Tryz.infoString
  rcases k.2 with ⟨_, h0⟩ | ⟨gx, capx, curx, rfl, -, hgx, -, -, -, -⟩
  · cases h0
  have hnews : ∀ j u, ([Value.string S])[j]? = some u → w.cell? ((⟨gx, 0, none⟩ : Addr).add j) = some u := World.ownsRow.cells k rfl
  have mk : ∀ old, old < a + 1 → (w.drew.alloc (.cells (((l.take a).map encStr).toArray ++ [Value.string S].toArray ++ Builtin.zeroCells (Value.string ⟨#[]⟩).cells (grownCap w (a + 1) old 9 - (a + 1))) 9)).ownsRow B 9 1 (.slice (some ⟨w.heap.size, 0, none⟩) (a + 1) (grownCap w (a + 1) old 9)) (a + 1) ((l.take a).map encStr ++ [.string S]) := by
    intro old ho
    have hge := grownCap_ge w (a + 1) old 9
    have hcm : grownCap w (a + 1) old 9 ≤ maxLen := grownCap_le_maxLen w (a + 1) old _ (by unfold maxLen; omega)
    have hl : ((l.take a).map encStr).length = a := by simp; omega
    refine ⟨by rw [List.length_append, hl]; simp, .inr ⟨w.heap.size, _, _, rfl, hB, heap_alloc_new w.drew _, hge, hcm, ?_, ?_⟩⟩
    · simp only [Array.size_append, List.size_toArray, size_zeroCells, hl, List.length_singleton]
      have : (Value.string ⟨#[]⟩).cells.size = 1 := rfl
      rw [this]
      omega
    · have hl2 : ((l.take a).map encStr ++ [Value.string S]).length = (a + 1) * 1 := by rw [List.length_append, hl]; simp
      simp only [Array.toList_append]
      exact List.take_left' hl2
  have hgr : ∀ o, w.grownBy (w.drew.alloc o) none := fun o => ⟨rfl, rfl, rfl, by simp, fun j hj _ => by rw [heap_alloc_old w.drew o hj]; rfl⟩
  rcases h.2 with ⟨hnil, h0⟩ | ⟨g, cap, cur, hv, _, hg, hnc, _⟩
  · cases hnil
    have hl0 : l = [] := List.eq_nil_of_length_eq_zero (by omega)
    subst hl0
    obtain rfl : a = 0 := by simpa using ha
    have hr := run_append_nil (P := Tryz.prog) w t ty 9 i0 _ ht hi hz0 ⟨gx, 0, none⟩ 1 capx [.string S] (by rw [hz1]; rfl) hnews (by omega) (by omega) (by omega)
    have hm := mk 0 (by omega)
    simp only [List.take_nil, List.map_nil, List.nil_append, Array.empty_append, Nat.zero_add] at hm ⊢
    exact ⟨_, _, hr, hm, hgr _, rfl⟩
  · cases hv
    have holds : ∀ j u, ((l.take a).map encStr)[j]? = some u → w.cell? ((⟨g, 0, none⟩ : Addr).add j) = some u := by
      intro j u hu
      refine World.ownsRow.cells h (g := g) rfl j u ?_
      have hj : j < a := by have := (List.getElem?_eq_some_iff.1 hu).1; simp at this; omega
      rw [List.getElem?_map, List.getElem?_take_of_lt hj] at hu
      rw [List.getElem?_map]; exact hu
    have hr := run_append_grow (P := Tryz.prog) w t ty 9 i0 _ ht hi hz0 ⟨g, 0, none⟩ a a ((l.take a).map encStr) (by rw [hz1]; simp; omega) holds ⟨gx, 0, none⟩ 1 capx [.string S] (by rw [hz1]; rfl) hnews (by omega) (by omega) (growslice_fits (by omega) (by rw [hz2]; omega))
    exact ⟨_, _, hr, mk a (by omega), hgr _, rfl⟩
theorem wp_append_strs {o : Oper} {a : Act} {K : Act → World → Prop} {Q : Exit → Act → World → Prop} (s u : Operand) (t : TypeId)
    (ho : o.op = .call { callee := .builtin .append, args := #[s, u], argTypes := #[t, t] }) (ht : Tryz.prog.underlying t = some (.slice 9))
    (hs : a.eval s = v) (hu : a.eval u = x) (h : OwnStr w B v l) (k : SIn w x lx) (hlen : l.length + lx.length ≤ 1000000) (hB : B ≤ w.heap.size)
    (hq : ∀ v' w', OwnStr w' B v' (l ++ lx) → w.grownBy w' v.ownBlock → (v'.ownBlock = v.ownBlock ∨ v'.ownBlock = some w.heap.size) → K (a.put o.dst v') w') : o.wp Tryz.prog a w K Q := by
  obtain ⟨v', w', hr, h2, h3, h4⟩ := run_append_strs t o.type ht h k hlen hB
  unfold Oper.wp execOp
  simp only [ho, resolve, invoke, builtin, Sem.run_bind, Sem.run_pure, Result.andThen_ok, List.map_toArray, List.map_cons, List.map_nil, hs, hu, hr]
  exact hq v' w' h2 h3 h4
theorem wpList_append_strs {ops : Array Oper} {rest : List Oper} {o : Oper} {a : Act} {Q : Exit → Act → World → Prop} (hgd : o.guard = none) (s u : Operand) (t : TypeId)
    (ho : o.op = .call { callee := .builtin .append, args := #[s, u], argTypes := #[t, t] }) (ht : Tryz.prog.underlying t = some (.slice 9))
    (hs : a.eval s = v) (hu : a.eval u = x) (h : OwnStr w B v l) (k : SIn w x lx) (hlen : l.length + lx.length ≤ 1000000) (hB : B ≤ w.heap.size)
    (hq : ∀ v' w', OwnStr w' B v' (l ++ lx) → w.grownBy w' v.ownBlock → (v'.ownBlock = v.ownBlock ∨ v'.ownBlock = some w.heap.size) → wpList Tryz.prog ops Q rest (a.put o.dst v') w') : wpList Tryz.prog ops Q (o :: rest) a w :=
  wpList_plain hgd fun _ hK => wp_append_strs s u t ho ht hs hu h k hlen hB fun v' w' h2 h3 h4 => hK _ _ (hq v' w' h2 h3 h4)
theorem wp_append_cut {o : Oper} {a : Act} {K : Act → World → Prop} {Q : Exit → Act → World → Prop} (s u : Operand) (t : TypeId)
    (ho : o.op = .call { callee := .builtin .append, args := #[s, u], argTypes := #[t, t] }) (ht : Tryz.prog.underlying t = some (.slice 9)) {A : Option Addr} {n c m : Nat} {B' : Nat} {S : ByteArray}
    (hs : a.eval s = .slice A m m) (hu : a.eval u = x) (h : OwnStr w B (.slice A n c) l) (ha : m ≤ l.length) (k : w.ownsRow B' 9 1 x 1 [.string S]) (hlen : l.length ≤ 1000000) (hB : B ≤ w.heap.size)
    (hq : ∀ v' w', w'.ownsRow B 9 1 v' (m + 1) ((l.take m).map encStr ++ [.string S]) → w.grownBy w' none → v'.ownBlock = some w.heap.size → K (a.put o.dst v') w') : o.wp Tryz.prog a w K Q := by
  obtain ⟨v', w', hr, h2, h3, h4⟩ := run_append_cut t o.type ht h ha k hlen hB
  unfold Oper.wp execOp
  simp only [ho, resolve, invoke, builtin, Sem.run_bind, Sem.run_pure, Result.andThen_ok, List.map_toArray, List.map_cons, List.map_nil, hs, hu, hr]
  exact hq v' w' h2 h3 h4
end
end Go.Proofs.YtpiekdcbjkgipaaGreatDoor
