/- What the texts over a scanner build on. No condition. -/
import Derived.Test.YtkakphiofahlgaaDoorLBase
import Derived.Lib.IndexLaws
