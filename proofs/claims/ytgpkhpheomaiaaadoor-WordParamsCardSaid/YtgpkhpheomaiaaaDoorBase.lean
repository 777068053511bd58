/- What the texts over a scanner build on. No condition. -/
import Derived.Test.YtgpkhpheomaiaaaDoorWrdC
import Derived.Lib.IndexLaws
