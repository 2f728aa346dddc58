/- MboxMakes: the walk, and what the row gives. -/
import Derived.Test.YtfcdapicemlfgaaDoorMbMakesLaw
import Derived.Test.YtfcdapicemlfgaaDoorMbZ
