/- Package env: a place within another one, whatever is asked. -/
import Derived.Test.YtbkjmmeipbbaaaaDoorEnvExt
namespace Go.Proofs.YtbkjmmeipbbaaaaDoor
open Go.ChangeShapes Go.WideShapes Go.ChangeAt Go.RowKit

theorem ext_any (p : Nat) (D : Nat → Prop) (T : EM.Tb) (hO : EM.Ok T) (a : Int) (x : ByteArray) (hx : x.size ≤ 1000) (k n : Int) (w : World) (h : Tw w p D T) :
    Calls Tryd.prog 11 #[.pointer (some ⟨p, 0, none⟩), .int .i64 a, .string x, .agg #[.int .i64 k, .int .i64 n]] w fun e w' => e = .returned (.tuple #[.int .i64 (if EM.xe T a x k = 0 then (T.P.length : Int) + 1 else 0), er (EM.xe T a x k)]) ∧ Wrote p D (EM.ext T a x k n) w w' := by
  by_cases hc : EM.ck T a x = 0
  · by_cases hk : k < 1 ∨ 3 < k
    · have e : EM.xe T a x k = 2 := by unfold EM.xe; rw [hc, if_neg (by decide), if_pos hk]
      unfold EM.ext
      rw [e, if_neg (by decide), if_neg (by decide)]
      exact (ext_kind p D T a x hx k n w h hc hk).mono fun e w' ⟨e1, e2⟩ => ⟨e1, Wrote.same h e2⟩
    · by_cases hl : 65536 ≤ T.P.length
      · have e : EM.xe T a x k = 14 := by unfold EM.xe; rw [hc, if_neg (by decide), if_neg hk, if_pos hl]
        unfold EM.ext
        rw [e, if_neg (by decide), if_neg (by decide)]
        exact (ext_full p D T a x hx k n w h hc (by omega) (by have := hO.len; omega)).mono fun e w' ⟨e1, e2⟩ => ⟨e1, Wrote.same h e2⟩
      · have e : EM.xe T a x k = 0 := by unfold EM.xe; rw [hc, if_neg (by decide), if_neg hk, if_neg hl]
        unfold EM.ext
        rw [e, if_pos rfl, if_pos rfl, er_n]
        obtain ⟨h0, h1, -⟩ := EM.ck_zero hc
        obtain ⟨a, rfl⟩ := Int.eq_ofNat_of_zero_le h0
        exact ext_ok p D T a x hx k n w h hc (by omega) (by omega)
  · have e : EM.xe T a x k = EM.ck T a x := by unfold EM.xe; rw [if_pos hc]
    unfold EM.ext
    rw [e, if_neg hc, if_neg hc]
    exact (ext_bad p D T a x hx k n w h hc).mono fun e w' ⟨e1, e2⟩ => ⟨e1, Wrote.same h e2⟩
end Go.Proofs.YtbkjmmeipbbaaaaDoor
