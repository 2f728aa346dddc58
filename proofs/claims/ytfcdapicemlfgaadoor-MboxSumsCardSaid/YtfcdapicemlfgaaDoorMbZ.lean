/- Mailboxes: what the rows' condition on the listed variable gives the walks. -/
import Derived.Test.YtfcdapicemlfgaaDoorMbR
namespace Go.Proofs.YtfcdapicemlfgaaDoor
open Go.ChangeShapes Go.WideShapes Go.ChangeAt Go.RowKit
theorem of_laid20 {W : World} (h : laidMetH Tryd.prog [("pigeonhole/record.forms", Rows.laid_pigeonhole_record_forms)] W) : Forms W := by
  rw [MakeChecks.laidMetH_plain _ _ _ (by kernel_rfl)] at h
  exact forms_of_reads (Lib.laidMet.reads h (by simp; rfl))
end Go.Proofs.YtfcdapicemlfgaaDoor
namespace Go.Proofs.YtfcdapicemlfgaaDoor.mboxMakes
abbrev Laid (w : World) : Prop := Forms w
theorem of_laid {W : World} (h : laidMetH Tryd.prog [("pigeonhole/record.forms", Rows.laid_pigeonhole_record_forms)] W) : Laid W := of_laid20 h
end Go.Proofs.YtfcdapicemlfgaaDoor.mboxMakes
namespace Go.Proofs.YtfcdapicemlfgaaDoor.mboxTakes
abbrev Laid (w : World) : Prop := Forms w
theorem of_laid {W : World} (h : laidMetH Tryd.prog [("pigeonhole/record.forms", Rows.laid_pigeonhole_record_forms)] W) : Laid W := of_laid20 h
end Go.Proofs.YtfcdapicemlfgaaDoor.mboxTakes
namespace Go.Proofs.YtfcdapicemlfgaaDoor.mboxSums
abbrev Laid (w : World) : Prop := Forms w
theorem of_laid {W : World} (h : laidMetH Tryd.prog [("pigeonhole/record.forms", Rows.laid_pigeonhole_record_forms)] W) : Laid W := of_laid20 h
end Go.Proofs.YtfcdapicemlfgaaDoor.mboxSums
namespace Go.Proofs.YtfcdapicemlfgaaDoor.mboxBack
abbrev Laid (w : World) : Prop := Forms w
theorem of_laid {W : World} (h : laidMetH Tryd.prog [("pigeonhole/record.forms", Rows.laid_pigeonhole_record_forms)] W) : Laid W := of_laid20 h
end Go.Proofs.YtfcdapicemlfgaaDoor.mboxBack
