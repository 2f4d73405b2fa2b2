/- slices.DeleteFunc at rows of arcs, as lists; clear of several. -/
import Derived.Test.YtjjedebjbgpimaaGreatNet7
import Derived.Lib.SliceRun
import Derived.Lib.Hide
namespace Mile
open Go Go.RowKit
section
variable {α : Type}
end
end Mile
