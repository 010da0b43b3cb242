/- One statement of the law on rows by itself: two rows of the array joined into a new one, whatever order its parts are reckoned in. -/
import Derived.Test.YtnkfpnhifpblmaaRingBook
import Derived.Deep.RegionLaw
import Derived.Deep.RegionHeld3
namespace Go.Proofs.Ytnkfpnhifpblmaa
open Go.ChangeShapes Go.WideShapes Go.ChangeAt Go.RowKit

/-- the region of that number within a body -/
def findReg (n : Nat) : Code → Option Code
  | .region id ops b => if id = n then some (.region id ops b) else none
  | .seq a b => (findReg n a).or (findReg n b)
  | .cond _ a b => (findReg n a).or (findReg n b)
  | .block _ c => findReg n c
  | .loop c => findReg n c
  | .scope c => findReg n c
  | _ => none
noncomputable def regJoin : Code := ((Try.f3.body.bind (findReg 26)).getD .skip)

set_option maxRecDepth 1000000 in
set_option maxHeartbeats 4000000 in
theorem regJoin_walk {Q : Exit → Act → World → Prop} {t0 t1 t2 t3 t4 t5 t6 t7 t9 t10 t11 t14 t15 t16 t17 t18 t19 t20 t21 t22 t23 t24 t25 t26 t27 t28 t29 t30 t31 t32 t33 t34 t35 t36 t37 t38 t39 t40 t41 t42 t43 t44 t45 t46 t47 t48 t49 t50 t51 t52 t53 t54 t55 t56 t57 t58 t59 t60 t61 t62 t63 t64 t65 t66 t67 t68 t69 t70 t71 t72 t73 t74 t75 t76 t77 t78 t79 t80 t81 t82 t83 t84 t85 t86 t87 t88 t89 t90 t91 t92 t93 t94 t95 t96 t97 t98 t99 t100 t101 t102 t103 t104 t105 t106 t107 t108 t109 t110 t111 t112 t113 t114 t115 t116 t117 t118 t119 t120 t121 t122 t123 t124 t125 t126 t127 t128 t129 t130 t131 t132 t133 t134 t135 t136 t137 t138 t139 t140 t141 t142 t143 t144 t145 t146 t147 t148 t149 t150 t151 t152 t153 t154 t155 t156 t157 t158 t159 t160 t161 t162 t163 t164 t165 t166 t167 t168 t169 t170 t171 t172 t173 t174 t175 t176 t177 t178 t179 t180 t181 t182 t183 t184 t185 t186 t187 t188 t189 t190 t191 t192 t193 t194 t195 t196 t197 t198 t199 t200 t201 t202 t203 t204 t205 t206 t207 t208 t209 t210 t211 t212 t213 : Value} {g h k C : Nat} {R : Int → List Int} {V : Nat → Value} {S : Int → Option Int} {wr : World} (hbk8 : Book g C R V S wr) (hh3 : (h : Int) < 3) (hk3 : (k : Int) < 3) (hne : k ≠ h)
    (hfh : (R h).length ≤ 1000) (hfk : (R k).length ≤ 1000)
    (hq : ∀ (s106 s107 s108 s109 s110 s111 s112 s113 s114 s115 s116 : Value) (A : Option Addr) (n : Nat) (w' : World), Own w' (g + 2) (.slice A ((R h).length + (R k).length) n) (R h ++ R k) → Turns (fun _ => False) wr w' →
      Q .normal ⟨#[t0, t1, t2, t3, t4, t5, t6, t7, .pointer (some ⟨g, 0, none⟩), t9, t10, t11, .int .i64 h, .int .i64 k, t14, t15, t16, t17, t18, t19, t20, t21, t22, t23, t24, t25, t26, t27, t28, t29, t30, t31, t32, t33, t34, t35, t36, t37, t38, t39, t40, t41, t42, t43, t44, t45, t46, t47, t48, t49, t50, t51, t52, t53, t54, t55, t56, t57, t58, t59, t60, t61, t62, t63, t64, t65, t66, t67, t68, t69, t70, t71, t72, t73, t74, t75, t76, t77, t78, t79, t80, t81, t82, t83, t84, t85, t86, t87, t88, t89, t90, t91, t92, t93, t94, t95, t96, t97, t98, t99, t100, t101, t102, t103, t104, t105, s106, s107, s108, s109, s110, s111, s112, s113, s114, s115, s116, t117, t118, t119, t120, t121, t122, t123, t124, t125, t126, t127, t128, t129, t130, t131, t132, t133, t134, t135, t136, t137, t138, t139, t140, t141, t142, t143, t144, t145, t146, t147, t148, t149, t150, t151, t152, t153, t154, t155, t156, t157, t158, t159, t160, t161, t162, t163, t164, t165, t166, t167, t168, t169, t170, t171, t172, t173, t174, t175, t176, t177, t178, t179, t180, t181, t182, t183, t184, t185, t186, t187, t188, t189, t190, t191, t192, t193, t194, t195, t196, t197, t198, t199, t200, t201, t202, t203, t204, t205, t206, t207, t208, t209, t210, t211, t212, t213], []⟩ (w'.setCell ⟨g, h, none⟩ (.slice A ((R h).length + (R k).length) n))) :
    Code.wp Try.prog regJoin Q ⟨#[t0, t1, t2, t3, t4, t5, t6, t7, .pointer (some ⟨g, 0, none⟩), t9, t10, t11, .int .i64 h, .int .i64 k, t14, t15, t16, t17, t18, t19, t20, t21, t22, t23, t24, t25, t26, t27, t28, t29, t30, t31, t32, t33, t34, t35, t36, t37, t38, t39, t40, t41, t42, t43, t44, t45, t46, t47, t48, t49, t50, t51, t52, t53, t54, t55, t56, t57, t58, t59, t60, t61, t62, t63, t64, t65, t66, t67, t68, t69, t70, t71, t72, t73, t74, t75, t76, t77, t78, t79, t80, t81, t82, t83, t84, t85, t86, t87, t88, t89, t90, t91, t92, t93, t94, t95, t96, t97, t98, t99, t100, t101, t102, t103, t104, t105, t106, t107, t108, t109, t110, t111, t112, t113, t114, t115, t116, t117, t118, t119, t120, t121, t122, t123, t124, t125, t126, t127, t128, t129, t130, t131, t132, t133, t134, t135, t136, t137, t138, t139, t140, t141, t142, t143, t144, t145, t146, t147, t148, t149, t150, t151, t152, t153, t154, t155, t156, t157, t158, t159, t160, t161, t162, t163, t164, t165, t166, t167, t168, t169, t170, t171, t172, t173, t174, t175, t176, t177, t178, t179, t180, t181, t182, t183, t184, t185, t186, t187, t188, t189, t190, t191, t192, t193, t194, t195, t196, t197, t198, t199, t200, t201, t202, t203, t204, t205, t206, t207, t208, t209, t210, t211, t212, t213], []⟩ wr := by
  conv => arg 2; whnf
  refine wp_region_noPanic ?_
  have c9 := hbk8.at_ (k := k) (by omega)
  have c10 := hbk8.at_ (k := h) (by omega)
  have c16 := (hbk8.turns ((Turns.refl (fun _ => False) wr).alloc (.cells #[] 3)) (fun _ h => h.elim)).at_ (k := h) (by omega)
  have c20 := (hbk8.turns ((Turns.refl (fun _ => False) wr).alloc (.cells #[] 3)) (fun _ h => h.elim)).at_ (k := k) (by omega)
  have q0 : (0 : Int) ≤ (h : Int) := by omega
  have q1 : (0 : Int) ≤ (k : Int) := by omega
  have hsz8 : g + 2 ≤ wr.heap.size := by have := hbk8.lt; omega
  have HQ := Lib.hid hq
  clear hq
  go_region_law
    ((first
      | (refine step_append_ints (w := (wr.alloc (.cells #[] 3)).drew) (B := g + 2) (v := .slice (some ⟨wr.heap.size, 0, none⟩) 0 0) (x := V h) (by rfl) _ _ 31 (by rfl) Try.underlying31 (by rfl) (by rfl) (by exact Own.zero wr hsz8) ((hbk8.own h (by omega)).turns (((Turns.refl (fun _ => False) wr).alloc (.cells #[] 3)).drew) (fun _ _ h => h)) (by simp; omega) (by simp; omega) ?_
         intro v10 w10 hown10 hg10 hat10
         have ht10 : Turns (fun _ => False) wr w10 := (((Turns.refl (fun _ => False) wr).alloc (.cells #[] 3)).drew).grown hg10 (fun i hi hlt => by simp [Value.ownBlock] at hi; omega)
         have hbk10 := hbk8.turns ht10 (fun _ h => h.elim)
         have c11 := hbk10.at_ (k := k) (by omega)
         have c12 := hbk10.at_ (k := h) (by omega))
      | (refine step_append_ints (w := w10) (B := g + 2) (v := v10) (x := V k) (by rfl) _ _ 31 (by rfl) Try.underlying31 (by rfl) (by rfl) hown10 (hbk10.own k (by omega)) (by simp; omega) (by have := hbk10.lt; omega) ?_
         intro v11 w11 hown11 hg11 hat11
         obtain ⟨A11, n11, rfl, -⟩ := hown11.read
         have ht11 : Turns (fun _ => False) wr w11 := ht10.grown hg11 (fun i hi hlt => by rcases hat10 with e | e <;> (rw [e] at hi; simp [Value.ownBlock] at hi; omega))
         have hbk11 := hbk8.turns ht11 (fun _ h => h.elim)
         have c13 := hbk11.at_ (k := k) (by omega)
         have c14 := hbk11.at_ (k := h) (by omega)
         have c15 := hbk11.free h
         have c17 : ∀ v, (w11.setCell ⟨g, h, none⟩ v).cell? ⟨g, k, none⟩ = some (V k) := fun v => (World.cell?_setCell_other w11 ⟨g, h, none⟩ ⟨g, k, none⟩ v (fun e => by injection e; omega)).trans c13)))
  all_goals
    refine NoPanic.normal ?_
    have hown12 : Own w11 (g + 2) (.slice A11 ((R h).length + (R k).length) n11) (R h ++ R k) := by simpa using hown11
    exact HQ.out _ _ _ _ _ _ _ _ _ _ _ _ _ _ hown12 ht11
end Go.Proofs.Ytnkfpnhifpblmaa
