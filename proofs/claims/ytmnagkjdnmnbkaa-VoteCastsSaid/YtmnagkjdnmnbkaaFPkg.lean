/- Package fastvote keeps what the laws of layer 8 ask of it. -/
import Derived.Test.YtmnagkjdnmnbkaaFP8
import Derived.Test.YtmnagkjdnmnbkaaFCard
namespace Go.Proofs.Ytmnagkjdnmnbkaa.Fv
set_option linter.unusedVariables false
open Go.RowKit
open Go.Proofs.Ytmnagkjdnmnbkaa.W
open Go.Proofs.Ytmnagkjdnmnbkaa.V

theorem voteC : VoteC where
  same := fun a b A A' c c' B w ha hb hB h1 h2 => (fvSame_any A A' c c' B B _ _ a b w rfl rfl ha.rd hb.rd ha.l40 hb.l40).mono fun e w' h => by
    obtain ⟨h1, q, rfl⟩ := h
    exact ⟨h1, below_drewN' (Below.refl _ _) q⟩
  valid := fun num l A E c cE B ps w h hs hB hm => fvValid_any num l A E c cE B ps w h hs hB
  cast := fun num l A E c cE B ps b w h hs hb hB hm => fvCast_any num l A E c cE B ps b w h hs hb hB hm
  votes := fun E C cE cC B ps cut w hs hc hB hm h1 h2 => fvVotes_any E C cE cC B ps cut w hs hc hB (by omega)
  win := fun num l A E c cE B ps w h hs hB hm h1 h2 => fvWinner_any num l A E c cE B ps w h hs hB (by omega)
  und := fun num l A E c cE B ps w h hs hB hm h1 h2 => fvUnd_any num l A E c cE B ps w h hs hB (by omega)
end Go.Proofs.Ytmnagkjdnmnbkaa.Fv
