/-
  Contracts of Bytes (cretulabase) and of the reference implementation's Compare.
-/
import Derived.Test.YtammegdfjgphkaaDoorLex
import Derived.Test.YtammegdfjgphkaaDoorBytesEq
import Derived.Test.YtammegdfjgphkaaDoorRefCmp
