/- Nothing of Of is wanted here. -/
import Derived.Test.YtlglagihekadhaaDoorRatB
