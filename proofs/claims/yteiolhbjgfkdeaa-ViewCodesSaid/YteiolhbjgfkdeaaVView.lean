/- Package view: all its contracts. -/
import Derived.Test.YteiolhbjgfkdeaaVView7
