/- What the texts of this seat begin with. No condition. -/
import Derived.Test.YtjbmpockoicgmaaGreatProg
