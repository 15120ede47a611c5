/- Package alerts: all nine contracts, over the landed code. -/
import Derived.Test.YtojhdljbpmjigaaGreatDoorAPM
import Derived.Test.YtojhdljbpmjigaaGreatDoorAPE
import Derived.Test.YtojhdljbpmjigaaGreatDoorAPQ
import Derived.Test.YtojhdljbpmjigaaGreatDoorAP9
