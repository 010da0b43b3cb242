/- Package scope: maps.Copy of a map of locals into another, walked; and remove. -/
import Derived.Test.YtpiekdcbjkgipaaQ44
import Derived.Test.YtpiekdcbjkgipaaQ9
import Derived.Maps.Ext
import Derived.Maps.RangeWalk
import Derived.Laws.IdiomRangeMap
import Derived.Test.YtpiekdcbjkgipaaQ40
import Derived.Test.YtpiekdcbjkgipaaQ10
namespace Go.Proofs.Ytpiekdcbjkgipaa
open Go.RowKit Go.Maps

set_option maxHeartbeats 4000000 in
set_option maxRecDepth 100000 in
theorem lcopy_any (w : World) (bd bs nd ns : Nat) (Fd Fs : Int → Bool) (hd : Ls w bd nd Fd) (hs : Ls w bs ns Fs) (hne : bd ≠ bs) (hn : nd + ns ≤ 1000000) :
    Calls Try.prog 25 #[.map (some bd), .map (some bs)] w fun e w' => e = .returned (.tuple #[]) ∧ Ls w' bd (nd + ns) (fun x => Fd x || Fs x) ∧ Turns (fun g => g = bd) w w' := by
  obtain ⟨Dd, hd, hFd⟩ := hd
  obtain ⟨Ds, hs, hFs⟩ := hs
  have hsz : Maps.size Ds ≤ ns := by
    obtain ⟨es, clock, hb, Fx, hs, e⟩ := hs
    rw [e]
    simpa [Maps.size, length_sorted] using hs
  have hbd := hd.lt
  have hbs := hs.lt
  go_enter Try.func25, Try.ntmps25
  go_wp2_with (first
    | (at_range; refine wpList_range_own _ rfl _ 51 rfl 3 68 Try.keyLawS Try.underlying51 unitR bs ns _ rfl hs ?_; intro w0 hrg0 hg0 hs0)
    | go_in)
  go_frame
  go_loopw [8] (fun _ wr => ∃ (left : Lit → Bool) (cnt : Nat) (Dout : DataW Unit), wr.ranges Try.prog 3 unitR bs w.heap.size ns Ds left cnt ∧ cnt ≤ Maps.size Ds ∧ wr.ownsMap Try.prog 3 unitR bd (nd + (Maps.size Ds - cnt)) Dout ∧ (∀ x, Maps.has Dout (.int .i64 x) = (Fd x || (Fs x && !left (.int .i64 x)))) ∧ w.grownBy wr (some bd))
    (fun _ wr => wr.rangeLeft bs w.heap.size)
  case atStart =>
    exact ⟨_, _, Dd, hrg0, Nat.le_refl _, (hd.kept hg0 (by simp)).mono (by omega), fun x => by rw [hFd x, hFs x]; cases Fd x <;> cases Fs x <;> rfl, hg0.but _⟩
  case round =>
    obtain ⟨left, cnt, Dout, hrg, hcs, hout, hM, hgw⟩ := hrel
    go_wp2_with (first
      | (at_next; refine wpList_next_ranges _ rfl _ rfl 3 Try.keyLawS unitR (Value.int .i64) (fun _ : Unit => .agg #[]) (fun key kl hk => by obtain ⟨x, hx, _⟩ := Maps.keyOf_i64 Try.underlying3 hk; exact ⟨x, hx⟩) (fun v y hv => ⟨(), (unitR_inv hv).1⟩) bs w.heap.size ns _ _ _ rfl hrg ?_ ?_)
      | go_in)
    · intro hc0 hl0
      go_wp2
      go_end0
      subst hc0
      exact ⟨rfl, ⟨Dout, hout.mono (by omega), fun x => by rw [hM x, hl0]; simp⟩, (Turns.refl _ w).grown hgw (fun g e _ => by injection e with e; exact e.symm)⟩
    · intro x c kl y w1 cnt1 hkey hlx hv hat hrg1 hlt hg1 hs1 hen
      have hout1 := hout.kept hg1 (fun e => by have := Option.some.inj e; omega)
      obtain ⟨x', ex, rfl, hwf⟩ := Maps.keyOf_i64 Try.underlying3 hkey
      have hxx : x = x' := by injection ex
      subst hxx
      have hg1' := hg1
      have hout2 : (w1.alloc (.cells #[] 68)).ownsMap Try.prog 3 unitR bd (nd + (Maps.size Ds - cnt)) Dout := by
        have hl1 := hout1.lt
        obtain ⟨es, clock, hb, r⟩ := hout1
        exact ⟨es, clock, (heap_alloc_old w1 _ bd hl1).trans hb, r⟩
      obtain ⟨w2, hrun, hout3, hg2⟩ := hout2.update Try.keyLawS Try.underlying51 (by unfold maxLen; omega) hkey unitR_mk
      have hg3 : w1.grownBy w2 (some bd) := (World.grownBy_alloc w1 (.cells #[] 68) (some bd)).trans hg2
      go_wp2_with go_in
      have hrg2 := hrg1.kept hg3 (fun e => hne (Option.some.inj e).symm) (fun e => by have := Option.some.inj e; omega)
      have hFx : Fs x = true := by rw [← hFs x]; exact has_true_of_atKey hat
      refine ⟨⟨_, cnt1, _, hrg2, by omega, hout3.mono (by omega), fun z => ?_, (hgw.andThen hg1 (fun j hj => .inl (by cases hj; exact Nat.le_refl _))).andThen hg3 (fun j hj => .inr hj)⟩, ?_⟩
      · by_cases e : z = x
        · subst e
          rw [has_put_same hout2.isMap (k := .int .i64 z) trivial]
          simp [hFx, Lit.sameKey]
        · rw [has_put_other (ikey_ne e), hM z]
          simp [Lit.sameKey, e]
      · rw [hrg2.left_eq, hrg.left_eq]; exact hlt
set_option maxRecDepth 100000 in
theorem lremove_any (w0 w : World) (q n : Nat) (F : Int → Bool) (ps : List Int) (v : Value) (h : Ls w q n F) (hp : PIn w0 v ps) (hw : Below w0.heap.size w0 w) (hq0 : w0.heap.size ≤ q) (hb : ∀ p ∈ ps, b64 p) :
    Calls Try.prog 26 #[.map (some q), v] w fun e w' => e = .returned (.tuple #[]) ∧ Ls w' q n (fun x => F x && !ps.contains x) ∧ Turns (fun g => g = q) w w' := by
  obtain ⟨A, c, rfl⟩ := hp.read
  have hlen := hp.len
  obtain ⟨L, hL⟩ : ∃ x, ps.length = x := ⟨_, rfl⟩
  have hL' := Lib.hid hL
  rw [hL] at hp hlen ⊢
  have hq := h.lt
  have hp' := Lib.hid hp
  have hb' := Lib.hid hb
  have h' := Lib.hid h
  clear hL hp hb h
  go_enter Try.func26, Try.ntmps26
  go_wp2_with fail
  go_loopw [8] (fun i wr => ∃ (j : Nat), j ≤ L ∧ i = .int .i64 j ∧ Ls wr q n (fun x => F x && !(ps.take j).contains x) ∧ Turns (fun g => g = q) w wr) (fun i _ => L - (RowKit.intOf i).toNat)
  case atStart => exact ⟨0, Nat.zero_le _, rfl, by simpa using h'.out, Turns.refl _ _⟩
  case round =>
    obtain ⟨j, hj, rfl, hLr, hTr⟩ := hrel
    by_cases hlt : j < L
    · have hx : ps[j]? = some (ps[j]'(by rw [hL'.out]; exact hlt)) := List.getElem?_eq_getElem _
      obtain ⟨x, hxe⟩ : ∃ x, ps[j]'(by rw [hL'.out]; exact hlt) = x := ⟨_, rfl⟩
      rw [hxe] at hx
      have hbx : b64 x := hb'.out x (List.mem_of_getElem? hx)
      obtain ⟨b, o, rfl, hb0, p0⟩ := hp'.out.cell hx
      have p1 : wr.cell? ⟨b, o + j, none⟩ = some (.int .i64 x) := ((hw.trans (hTr.below hw.size (fun g hg => by omega))).cell (p := ⟨b, o + j, none⟩) hb0).trans p0
      obtain ⟨w2, hrun, hL2, hT2⟩ := hLr.drop (a := x) (by unfold b64 at hbx; simp [Lit.wf, IntKind.min, IntKind.max, IntKind.signed, IntKind.bits]; omega) 0
      have e2 : lput (fun x => F x && !(ps.take j).contains x) x false = fun x => F x && !(ps.take (j + 1)).contains x := by
        funext y
        unfold lput
        rw [List.take_add_one, hx]
        by_cases e : y = x
        · simp [e]
        · simp [e]
      rw [e2] at hL2
      have R2 := Lib.hid (And.intro hL2 (hTr.then hT2 (fun _ _ h => h)))
      clear hL2 hT2 hLr hTr hx hxe e2 p0
      go_wp2_with fail
      go_roundw
      case rel => exact ⟨j + 1, by omega, by go_num, R2.out.1, R2.out.2⟩
      case measure => simp [RowKit.intOf]; omega
    · obtain rfl : j = L := by omega
      have hall : ps.take j = ps := by rw [← hL'.out]; exact List.take_length
      rw [hall] at hLr
      have R2 := Lib.hid (And.intro hLr hTr)
      clear hLr hTr hall
      go_wp2_with fail
      go_end0
      exact ⟨rfl, R2.out.1, R2.out.2⟩
end Go.Proofs.Ytpiekdcbjkgipaa

/- Package scope: addSet, the locals that are set in a term. -/
namespace Go.Proofs.Ytpiekdcbjkgipaa
open Go.ChangeShapes Go.WideShapes Go.ChangeAt Go.RowKit Go.Deep
open TM (Tl Tm)

set_option maxRecDepth 100000 in
theorem ladd_any (w : World) (q n : Nat) (F : Int → Bool) (a : Int) (h : Ls w q n F) (hn : n ≤ 1000000000) (ha : b64 a) :
    Calls Try.prog 24 #[.map (some q), .int .i64 a] w fun e w' => e = .returned (.tuple #[]) ∧ Ls w' q (n + 1) (lput F a true) ∧ Turns (fun g => g = q) w w' := by
  obtain ⟨w1, hrun, h1, hT⟩ := h.put hn (a := a) (by unfold b64 at ha; simp [Lit.wf, IntKind.min, IntKind.max, IntKind.signed, IntKind.bits]; omega)
  go_enter Try.func24, Try.ntmps24
  go_wp2_with fail
  go_end0
  exact ⟨rfl, h1, hT⟩
/-- those of F and of l -/
def orl (F : Int → Bool) (l : List Int) : Int → Bool := fun y => F y || l.contains y
theorem orl_nil (F : Int → Bool) : orl F [] = F := by funext y; simp [orl]
theorem orl_app (F : Int → Bool) (l m : List Int) : orl (orl F l) m = orl F (l ++ m) := by
  funext y
  simp only [orl, List.contains_eq_any_beq, List.any_append, Bool.or_assoc]
theorem lput_orl (F : Int → Bool) (a : Int) : lput F a true = orl F [a] := by
  funext y
  unfold lput orl
  by_cases e : y = a
  · simp [e]
  · simp [e]
end Go.Proofs.Ytpiekdcbjkgipaa
