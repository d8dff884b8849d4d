/-
  Nothing beside the first layings.
-/
import Derived.Test.YtjhicgllofjpoaaGreatDoorH1
