/- The program's calls. -/
import Derived.Test.YtmndgbpfophniaaFG
namespace Go.Proofs.Ytmndgbpfophniaa
open Go.RowKit Go.Shelf

/-- The program's calls are as the chapter asks them. -/
theorem ownCalls9 : Own9 where
  right ps ls L w hW h := fright_any ps ls L w hW h
  step ps ls L d a w _ _ _ _ h := fstep_any ps ls L d a w h
  trace ps ls L d a w hR hW _ _ h := ftrace_right ps ls L d a w hR hW h
  traceAny ps ls L d a w hW _ _ h := (ftrace_any ps ls L d a w hW h).mono fun e w' h => by
    rcases h with ⟨_, v, rfl, ⟨A, c, rfl, _⟩, _, hb⟩ | ⟨_, A, c, _, rfl, hb⟩
    · exact ⟨_, _, _, _, _, _, _, rfl, hb⟩
    · exact ⟨_, _, _, _, _, _, _, rfl, hb⟩
  genuine ps ls L a x w hR hW _ _ h hx := fgenuine_any ps ls L a x w hR hW h hx
  same x y w _ _ h1 h2 := fsame_any x y w h1 h2
end Go.Proofs.Ytmndgbpfophniaa
