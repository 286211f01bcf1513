import Derived.Test.YtfcnbdhpdpcmgaaDoorCards
import Derived.Test.YtfcnbdhpdpcmgaaDoorTie
import Derived.Test.YtfcnbdhpdpcmgaaDoorFloatsQ
import Derived.SevenTiedAt
namespace Go.Proofs.YtfcnbdhpdpcmgaaDoor
open Go
theorem floats_holds : Rows.FloatsCardSaid :=
  Claim7.holds_tied_plain_at .later [] [.wider, .wider, .data] true (true, "d2028e098aff7d1966aca90150bdc7ef634523bac827ead41dbd8177ae669244") false
    floats.floats_row (fun _ h => by cases h) (by kernel_rfl) (fun _ h => by cases h) floats_row_tie rfl ⟨rfl, rfl⟩ (by kernel_rfl) rfl
    (fun f fn hf hfn => by
      obtain rfl : f = 6 := Option.some.inj ((show Tryd.prog.funcNamed "signet/signetkeep.Floats" = some 6 by kernel_rfl).symm.trans hf) |>.symm
      obtain rfl : fn = Tryd.f6 := (Option.some.inj (Tryd.func6.symm.trans hfn)).symm
      exact ⟨by kernel_rfl, fun j t ht => by
        rw [Tryd.params6] at ht
        have hm : t ∈ [3, 4] := by simpa using Array.mem_of_getElem? ht
        have hall : ([3, 4].all fun u => !Tryd.prog.wantsStandIn u) = true := by kernel_rfl
        exact (show Tryd.prog.wantsStandIn t = false by simpa using List.all_eq_true.1 hall t hm)⟩)
    (by kernel_rfl)
#print axioms floats_holds
end Go.Proofs.YtfcnbdhpdpcmgaaDoor
