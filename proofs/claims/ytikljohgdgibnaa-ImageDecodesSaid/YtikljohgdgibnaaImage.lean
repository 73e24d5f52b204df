/-
  What the program's own image.Fits, Encode, Decode, Same, Copy come to: all of it.
-/
import Derived.Test.YtikljohgdgibnaaImgSame
import Derived.Test.YtikljohgdgibnaaImgDecode
import Derived.Test.YtikljohgdgibnaaImgCopy
