/- The law TermSame: what shifted answers is bounded; what lies there while the law goes on; the callees' contracts as it takes them. -/
import Derived.Test.YtpiekdcbjkgipaaGreatDoorQ44
import Derived.Test.YtpiekdcbjkgipaaGreatDoorQ46
import Derived.Test.YtpiekdcbjkgipaaGreatDoorQ45
import Derived.Test.YtpiekdcbjkgipaaGreatDoorQ41
namespace Go.Proofs.YtpiekdcbjkgipaaGreatDoor
open Go.ChangeShapes Go.WideShapes Go.ChangeAt Go.RowKit Go.Deep
open TM (Tl Tm)

theorem TBd.sh {by_ : Int} (h0 : 0 ≤ by_) (h1 : by_ ≤ 2199023255553) : ∀ {d : Tl}, TBd d → TM.shb d → TBd (TM.ren (fun a => by_ - a) d)
  | .nil, _, _ => trivial
  | .cons k n s ps d ks r, ⟨b1, b2, b3, b4, b5, b6, b7, b8⟩, ⟨s1, s2, s3, s4⟩ => by
    refine ⟨b1, ?_, ?_, b4, b5, b6, TBd.sh h0 h1 b7 s3, TBd.sh h0 h1 b8 s4⟩
    · split
      · rename_i hk
        have := s1 hk
        show -9223372036854775808 ≤ by_ - n ∧ by_ - n ≤ 9223372036854775807
        omega
      · exact b2
    · intro p hp
      simp only [List.mem_map] at hp
      obtain ⟨a, ha, rfl⟩ := hp
      have := s2 a ha
      show -9223372036854775808 ≤ by_ - a ∧ by_ - a ≤ 9223372036854775807
      omega
theorem TmBd.sh {by_ : Int} (h0 : 0 ≤ by_) (h1 : by_ ≤ 2199023255553) {t : Tm} (h : TmBd t) (hs : TM.sh1 t) : TmBd (TM.sh by_ t) := by
  obtain ⟨s1, s2, s3⟩ := hs
  refine ⟨h.k, ?_, ?_, h.dk, h.dn, h.d, TBd.sh h0 h1 h.ks s3⟩
  · show b64 (if t.k = 2 ∨ t.k = 4 then by_ - t.n else t.n)
    split
    · rename_i hk
      have := s1 hk
      show -9223372036854775808 ≤ by_ - t.n ∧ by_ - t.n ≤ 9223372036854775807
      omega
    · exact h.n
  · intro p hp
    have hp' : p ∈ t.ps.map (fun a => by_ - a) := hp
    simp only [List.mem_map] at hp'
    obtain ⟨a, ha, rfl⟩ := hp'
    have := s2 a ha
    show -9223372036854775808 ≤ by_ - a ∧ by_ - a ≤ 9223372036854775807
    omega
/-- shifted, of a term of one's own made since a world -/
theorem shx_any {B : Nat} {t : Tm} {w0 w : World} {v1 v2 v3 : Value} (hb : Below w0.heap.size w0 w) (hn : NewT B w t v1 v2 v3) (hB : w0.heap.size ≤ B) {by_ : Int} (h0 : 0 ≤ by_) (h1 : by_ ≤ 2199023255553) (hs : TM.sh1 t) :
    Calls Tryz.prog 24 #[tmv t v1 v2 v3, .int .i64 by_] w fun e w' => e = .returned (tmv (TM.sh by_ t) v1 v2 v3) ∧ TmIn w' (TM.sh by_ t) v1 v2 v3 ∧ Below w0.heap.size w0 w' ∧ ∀ g ty cs, g < B → Lies w g ty cs → Lies w' g ty cs := by
  obtain ⟨D, S, hT, hS, hD, hSD⟩ := hn
  refine (shifted_any t w D S v1 v2 v3 by_ hT (fun g _ hs hd => hSD g hs hd) (fun g hg => (hD g hg).2) h0 h1 hs).mono ?_
  rintro e w' ⟨rfl, hT', k⟩
  refine ⟨rfl, hT'.tmin, ?_, fun g ty cs hg hl => hl.turns k (fun hs => by have := (hS g hs).1; omega)⟩
  exact ⟨k.os.trans hb.os, k.tape.trans hb.tape, k.output.trans hb.output, Nat.le_trans hb.size k.size, fun i hi => (k.block i (Nat.lt_of_lt_of_le hi hb.size) (fun hs => by have := (hS i hs).1; omega)).trans (hb.block i hi)⟩
/-- Alpha, of a program that is right -/
theorem alpha_ok {t : Tm} {w : World} {vp vi vk : Value} (hT : TmIn w t vp vi vk) (hB : TmBd t) (h : TM.okt t = true) :
    Calls Tryz.prog 15 #[tmv t vp vi vk] w fun e w' => ∃ v1 v2 v3, e = .returned (.tuple #[tmv (TM.alpha t) v1 v2 v3, .nilIface]) ∧ TmIn w' (TM.alpha t) v1 v2 v3 ∧ Went w w' := by
  refine (alpha_any t w vp vi vk hT hB).mono ?_
  rintro e w' ⟨h1, _, h3⟩
  obtain ⟨v1, v2, v3, he, hi⟩ := h1 h
  exact ⟨v1, v2, v3, he, hi, h3⟩
theorem BoolIff.ret {p : Prop} {w w' : World} {e : Ending} (h : BoolIff p w e w') {d : Bool} (hd : d = true ↔ p) : e = .returned (.bool d) ∧ Went w w' := by
  obtain ⟨r, rfl, hr, k⟩ := h
  refine ⟨?_, k⟩
  have : r = d := by
    rw [Bool.eq_iff_iff]; exact hr.trans hd.symm
  rw [this]
/-- what lies there from region 14 on: the five boxes, and the terms in them -/
structure Fv (w : World) (t u x a : Tm) (vp vi vk xp xi xk p8 i8 k8 p9 i9 k9 pb ib kb : Value) (g8 g9 gb : Nat) (w' : World) : Prop where
  bl : Below w.heap.size w w'
  lt : Lies w' w.heap.size 28 (tcells t vp vi vk)
  lu : Lies w' (w.heap.size + 1) 28 (tcells u xp xi xk)
  l8 : Lies w' g8 28 (tcells x p8 i8 k8)
  l9 : Lies w' g9 28 (tcells a p9 i9 k9)
  lb : Lies w' gb 28 (tcells a pb ib kb)
  i8 : TmIn w' x p8 i8 k8
  i9 : TmIn w' a p9 i9 k9
  ib : TmIn w' a pb ib kb
theorem Fv.below {w : World} {t u x a : Tm} {vp vi vk xp xi xk p8 i8 k8 p9 i9 k9 pb ib kb : Value} {g8 g9 gb : Nat} {w' w2 : World} (h : Fv w t u x a vp vi vk xp xi xk p8 i8 k8 p9 i9 k9 pb ib kb g8 g9 gb w') (k : Below w'.heap.size w' w2) :
    Fv w t u x a vp vi vk xp xi xk p8 i8 k8 p9 i9 k9 pb ib kb g8 g9 gb w2 :=
  ⟨h.bl.trans (Below.mono k h.bl.size), h.lt.below k h.lt.lt, h.lu.below k h.lu.lt, h.l8.below k h.l8.lt, h.l9.below k h.l9.lt, h.lb.below k h.lb.lt, h.i8.below k, h.i9.below k, h.ib.below k⟩
theorem Fv.drew {w : World} {t u x a : Tm} {vp vi vk xp xi xk p8 i8 k8 p9 i9 k9 pb ib kb : Value} {g8 g9 gb : Nat} {w' : World} (h : Fv w t u x a vp vi vk xp xi xk p8 i8 k8 p9 i9 k9 pb ib kb g8 g9 gb w') :
    Fv w t u x a vp vi vk xp xi xk p8 i8 k8 p9 i9 k9 pb ib kb g8 g9 gb w'.drew :=
  h.below (below_of_drew (w := w') (w' := w'.drew) (Below.refl _ _))
end Go.Proofs.YtpiekdcbjkgipaaGreatDoor
