/- Entry: the landed Encode and Decode are what the laws ask. -/
import Derived.Test.YtcoiebeehgeggaaEntDoE
import Derived.Test.YtcoiebeehgeggaaEntDoD
namespace Go.Proofs.Ytcoiebeehgeggaa.Ent
theorem entry_prog : Prog := ⟨fun W x hx hok => lenc_any W x hx hok, fun W a n c l h1 h2 h3 h4 h5 h6 => ldec_any W a n c l h1 h2 h3 h4 h5 h6⟩
end Go.Proofs.Ytcoiebeehgeggaa.Ent
