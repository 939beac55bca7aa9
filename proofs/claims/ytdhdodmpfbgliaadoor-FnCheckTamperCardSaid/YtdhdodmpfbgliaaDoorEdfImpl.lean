/- The contracts of the program's functions of chapter 3 (impl.JobsLegal, impl.Synchronous, impl.RunEdf, impl.Missed), in one place. -/
import Derived.Test.YtdhdodmpfbgliaaDoorRunImpl
import Derived.Test.YtdhdodmpfbgliaaDoorSyncImpl
import Derived.Test.YtdhdodmpfbgliaaDoorMissImpl
