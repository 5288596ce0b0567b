import PyProof.Rows.All
import Wide.All
import OpenK.AllK
import Wide.FinOn
import PySem.Challenge.RW_packshelf_k01_two_outlines
open PySem PySem.W PyProof.Rows
set_option Elab.async false
set_option maxRecDepth 100000 in
set_option maxHeartbeats 8000000 in
theorem PySem.Challenge.cw_packshelf_k01_two_outlines_holds : PySem.Challenge.rw_packshelf_k01_two_outlines.Holds := by
  open_k
