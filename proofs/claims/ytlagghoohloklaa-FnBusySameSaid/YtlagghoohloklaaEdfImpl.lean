/- The contracts of the program's functions of chapter 3 (impl.JobsLegal, impl.Synchronous, impl.RunEdf, impl.Missed), in one place. -/
import Derived.Test.YtlagghoohloklaaRunImpl
import Derived.Test.YtlagghoohloklaaSyncImpl
import Derived.Test.YtlagghoohloklaaMissImpl
