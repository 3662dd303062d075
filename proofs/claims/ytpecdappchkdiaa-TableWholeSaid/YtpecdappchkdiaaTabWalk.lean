/-
  The program's table keeps its contracts.
-/
import Derived.Test.YtpecdappchkdiaaTabWrite
namespace Go.Proofs.Ytpecdappchkdiaa
open Go.RowKit

theorem tableOK : TableOK tabT where
  build := fun v n l most w0 w Rs h hv hn => (build_any v n l most w hv hn).mono fun _ _ hh => by
    rcases hh with ⟨h1, h2, h3⟩ | ⟨h1, B, h2, h3⟩
    · exact .inl ⟨h1, h2, h.frame h3⟩
    · exact .inr ⟨h1, B, h2, h.frame h3⟩
  next := fun l B Br bs _ _ _ h hF hb hlen => next_any l B Br bs h hF hb hlen
  write := fun l B Bw bs s _ _ _ h hF hlen => write_tab l B Bw bs s h hF hlen
  nextNil := fun Br bs _ _ _ h => tab_next_nil Br bs h
  writeNil := fun Bw bs s _ _ _ h => tab_write_nil Bw bs s h
end Go.Proofs.Ytpecdappchkdiaa
