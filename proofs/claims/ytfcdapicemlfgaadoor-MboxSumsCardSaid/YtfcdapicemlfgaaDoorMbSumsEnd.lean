/- MboxSums: the walk, and what the row gives. -/
import Derived.Test.YtfcdapicemlfgaaDoorMbSumsLaw
import Derived.Test.YtfcdapicemlfgaaDoorMbZ
