import Derived.Deep.DeepCutAuto
import Derived.Test.YtcmiljnbmgkdnaaGreatFA12
