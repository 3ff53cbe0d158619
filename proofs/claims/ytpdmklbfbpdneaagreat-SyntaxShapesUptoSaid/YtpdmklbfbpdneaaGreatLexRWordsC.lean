/- The contract of the reference's words, all cases. Conditions: a letter stands there, and lengths that a machine can hold. -/
import Derived.Test.YtpdmklbfbpdneaaGreatLexRWordsB
namespace Go.Proofs.YtpdmklbfbpdneaaGreat
open Go.RowKit
theorem hsec (s : ByteArray) (b m : Nat) (hn : b < s.size) (hp0 : 0 < m) : upperB ((s.extract b (b + m))[0]'(part_size s b m hn hp0)).toNat = true ∨ upperB ((s.extract b (b + m))[0]'(part_size s b m hn hp0)).toNat = false := by
  cases upperB ((s.extract b (b + m))[0]'(part_size s b m hn hp0)).toNat
  · exact .inr rfl
  · exact .inl rfl
theorem words_any (s : ByteArray) (a : Nat) (w : World) (h0 : a < s.size) (hl : letterB s[a].toNat = true) (hs : s.size < maxLen) :
    Calls Tryz.prog 166 #[.string s, .int .i64 a] w (WordsPost s a w) := by
  cases hu : upperB s[a].toNat
  · exact words_low s a w h0 hl hs hu
  · cases hr : reservedB ((suf s a).take (wordLen (suf s a)))
    · by_cases hn : a + wordLen (suf s a) + 1 < s.size
      · by_cases h46 : s[a + wordLen (suf s a)].toNat = 46
        · cases hz : letterB s[a + wordLen (suf s a) + 1].toNat
          · exact words_dot s a w h0 hl hs hu hr hn h46 hz
          · by_cases h1 : 24 < wordLen (suf s a)
            · exact words_q1 s a w h0 hl hs hu hr hn h46 hz h1
            · by_cases h2 : 24 < wordLen (suf s (a + wordLen (suf s a) + 1))
              · exact words_q2 s a w h0 hl hs hu hr hn h46 hz h2
              · have hp0 : 0 < wordLen (suf s (a + wordLen (suf s a) + 1)) := wordLen_pos hn hz
                have h24 : ¬ (24 < wordLen (suf s a) ∨ 24 < wordLen (suf s (a + wordLen (suf s a) + 1))) := by omega
                cases hr2 : reservedB ((suf s (a + wordLen (suf s a) + 1)).take (wordLen (suf s (a + wordLen (suf s a) + 1))))
                · rcases hsec s (a + wordLen (suf s a) + 1) _ hn hp0 with hup | hup
                  · exact words_q4 s a w h0 hl hs hu hr hn h46 hz h24 hr2 hp0 hup
                  · exact words_q5 s a w h0 hl hs hu hr hn h46 hz h24 hr2 hp0 hup
                · exact words_q3 s a w h0 hl hs hu hr hn h46 hz h24 hr2
        · exact words_other s a w h0 hl hs hu hr hn h46
      · exact words_short s a w h0 hl hs hu hr hn
    · exact words_res s a w h0 hl hs hu hr
end Go.Proofs.YtpdmklbfbpdneaaGreat
