/- What the document's own answer for layer 7 is on any sharp. -/
import Derived.Test.YtmnadgkneaiccaaDoorLexRefF
namespace Go.Proofs.YtmnadgkneaiccaaDoor
open Go.ChangeShapes Go.WideShapes Go.ChangeAt Go.RowKit

theorem byte_of {c : UInt8} {n : Nat} (hn : n < 256) (h : (c.toNat : Int) = (n : Int)) : c = UInt8.ofNat n := by
  apply UInt8.toNat_inj.1; simp; omega
theorem rsharp_any (s : ByteArray) (hs : s.size ≤ 281474976710000) (a : Nat) (ha : a < s.size) (h35 : (s[a].toNat : Int) = 35) (h40 : LM.hd (s.data.toList.drop (a + 1)) ≠ 40) (line col : Int) (w : World) :
    Calls Tryd.prog 23 #[.string s, .int .i64 (a : Nat), t0 line col a] w fun e w' => e = .returned (rv (LM.scn (s.data.toList.drop a)) line col a) ∧ Went w w' := by
  have h35' : s[a] = 35 := byte_of (n := 35) (by omega) h35
  by_cases h1 : a + 1 < s.size
  · have e1 : s.data.toList.drop a = 35 :: s[a + 1] :: s.data.toList.drop (a + 2) := by rw [drop_cons ha, h35', drop_cons h1]
    rw [drop_cons h1] at h40
    have h40' : s[a + 1].toNat ≠ 40 := fun h => h40 (by show (s[a + 1].toNat : Int) = 40; omega)
    by_cases h92 : (s[a + 1].toNat : Int) = 92
    · have h92' : s[a + 1] = 92 := byte_of (n := 92) (by omega) h92
      rw [e1, h92', LM.scn_char]
      by_cases h2 : a + 2 < s.size
      · by_cases hc : (32 : Int) < s[a + 2].toNat
        · cases hen : LM.en (s.data.toList.drop (a + 3))
          · exact rsharp_names s hs a line col h1 h92 (.inr ⟨h2, .inr ⟨hc, hen⟩⟩) w
          · rw [drop_cons h2, LM.chr_one hc hen]
            exact rsharp_one s hs a line col w h1 h92 h2 hc hen
        · exact rsharp_names s hs a line col h1 h92 (.inr ⟨h2, .inl (by omega)⟩) w
      · exact rsharp_names s hs a line col h1 h92 (.inl (by omega)) w
    · have h92' : s[a + 1].toNat ≠ 92 := by omega
      cases hen : LM.en (s.data.toList.drop (a + 2))
      · rw [e1, LM.scn_nothing h40' h92' (fun _ => hen)]
        by_cases x1 : (s[a + 1].toNat : Int) = 116
        · exact rsharp_nothing s hs a line col w h1 _ rfl (by rw [x1]; rfl) _ hen (.inr (.inl ⟨x1, rfl⟩))
        · by_cases x2 : (s[a + 1].toNat : Int) = 102
          · exact rsharp_nothing s hs a line col w h1 _ rfl (by rw [x2]; rfl) _ hen (.inr (.inr ⟨x2, rfl⟩))
          · exact rsharp_nothing s hs a line col w h1 _ rfl (by simpa using h92) _ hen (.inl ⟨by simpa using x1, by simpa using x2⟩)
      · by_cases x1 : (s[a + 1].toNat : Int) = 116
        · have hb : s[a + 1] = 116 := byte_of (n := 116) (by omega) x1
          rw [e1, LM.scn_flag (.inl hb) hen, if_pos hb]
          have := rsharp_flag s hs a line col w h1 _ rfl (.inl x1) hen
          rwa [if_pos x1] at this
        · by_cases x2 : (s[a + 1].toNat : Int) = 102
          · have hb : s[a + 1] = 102 := byte_of (n := 102) (by omega) x2
            rw [e1, LM.scn_flag (.inr hb) hen, if_neg (by rw [hb]; decide)]
            have := rsharp_flag s hs a line col w h1 _ rfl (.inr x2) hen
            rwa [if_neg x1] at this
          · rw [e1, LM.scn_nothing h40' h92' (fun h => by
              rcases h with h | h
              · exact absurd (by rw [h]; rfl) x1
              · exact absurd (by rw [h]; rfl) x2)]
            exact rsharp_nothing s hs a line col w h1 _ rfl (by simpa using h92) _ hen (.inl ⟨by simpa using x1, by simpa using x2⟩)
  · have e1 : s.data.toList.drop a = [35] := by rw [drop_cons ha, h35', drop_end (by omega)]
    rw [e1, LM.scn_alone]
    exact rsharp_alone s hs a line col w ha (by omega)
end Go.Proofs.YtmnadgkneaiccaaDoor
