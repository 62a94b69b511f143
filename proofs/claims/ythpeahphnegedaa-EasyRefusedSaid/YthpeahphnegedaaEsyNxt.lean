/- Easy: what the document's Next finds, from one on. -/
import Derived.Test.YthpeahphnegedaaEsyNxM
import Derived.Test.YthpeahphnegedaaEsyCnt
import Derived.Test.YthpeahphnegedaaEsySha
import Derived.Test.YthpeahphnegedaaEsyArg
namespace Go.Proofs.Ythpeahphnegedaa.Esy
set_option maxRecDepth 100000
open Go.RowKit
open Go.Sort
open Kit
open Tre (Lst inI lst_keep lst_take lst_at lst_new lst_none below_drewN' run_ld2)
open Prf (Bz newF Nd Tk Busys encZ encZ_len)
open Go.Proofs.Ythpeahphnegedaa.Ord (Aq Asks encQ encQ_len ask_cells info_ask)
set_option linter.unusedVariables false
variable {w w' : World}

end Go.Proofs.Ythpeahphnegedaa.Esy
