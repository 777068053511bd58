/- What the texts over a scanner build on. No condition. -/
import Derived.Test.YtgpkhpheomaiaaaWrdC
import Derived.Lib.IndexLaws
