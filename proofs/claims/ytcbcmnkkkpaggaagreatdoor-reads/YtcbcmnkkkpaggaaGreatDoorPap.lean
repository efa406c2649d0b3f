/-
  , in one.
-/
