/- What the texts over a scanner build on. No condition. -/
import Derived.Test.YtnhbcmhinhncfaaGreatDoorLBase
import Derived.Lib.IndexLaws
