/- Package alerts: all nine contracts, over the landed code. -/
import Derived.Test.YtojhdljbpmjigaaDoorAPM
import Derived.Test.YtojhdljbpmjigaaDoorAPE
import Derived.Test.YtojhdljbpmjigaaDoorAPQ
import Derived.Test.YtojhdljbpmjigaaDoorAP9
