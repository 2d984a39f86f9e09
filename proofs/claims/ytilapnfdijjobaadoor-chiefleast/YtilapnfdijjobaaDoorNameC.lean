/- scan.Name's contract, where the documents' own IsName stands beside it. -/
import Derived.Test.YtilapnfdijjobaaDoorIsName
