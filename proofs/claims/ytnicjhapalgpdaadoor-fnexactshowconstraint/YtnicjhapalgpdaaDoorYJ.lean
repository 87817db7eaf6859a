import Derived.Test.YtnicjhapalgpdaaDoorYB
namespace Go.Proofs.YtnicjhapalgpdaaDoor.rc
open Go.ChangeShapes Go.WideShapes Go.ChangeAt Go.RowKit Go.Deep Go.Lib Go.Shelf Go.Proofs.YtnicjhapalgpdaaDoor.vr

theorem ml_of {W : World} (h : W.ShapedOpen Tryd.prog) : ML W := laysSP.s1_3 W h

end Go.Proofs.YtnicjhapalgpdaaDoor.rc
