/- What text's Clause and link do. -/
import Derived.Test.YtcjdjifooaeomaaDoorUC
import Derived.Test.YtcjdjifooaeomaaDoorOW
namespace Go.Proofs.YtcjdjifooaeomaaDoor
open Go.RowKit Go.Lib

/-- A clause, a link as values. -/
def clV (c : ClD) : Value := .agg #[.bool c.any, .int .u32 c.a, .int .i64 c.b, .int .u8 c.wi, .int .u8 c.ou, .bool c.drop, .int .u8 c.se, .int .u8 c.cl, .int .i64 c.more, .int .i64 c.pref]
theorem words_str (c : ClD) (on dr s1 s2 s3 s4 s5 s6 : ByteArray) (e0 : on = ⟨(onT c).toArray⟩) (e1 : dr = ⟨(dropT c).toArray⟩) (h1 : s1 = ⟨(tagsT [119, 105, 116, 104] c.wi).toArray⟩) (h2 : s2 = ⟨(tagsT [111, 117, 116] c.ou).toArray⟩)
    (h3 : s3 = ⟨(tagsT [115, 101, 116] c.se).toArray⟩) (h4 : s4 = ⟨(tagsT [99, 108, 101, 97, 114] c.cl).toArray⟩) (h5 : s5 = ⟨(numT [109, 111, 114, 101] c.more).toArray⟩) (h6 : s6 = ⟨(numT [112, 114, 101, 102] c.pref).toArray⟩) :
    (⟨#[105, 102, 32]⟩ ++ on ++ s1 ++ s2 ++ ⟨#[32, 116, 104, 101, 110]⟩ ++ dr ++ s3 ++ s4 ++ s5 ++ s6 : ByteArray) = ⟨(wordsT c).toArray⟩ := by
  subst e0 e1 h1 h2 h3 h4 h5 h6
  have d1 : (⟨#[105, 102, 32]⟩ : ByteArray) = ⟨([105, 102, 32] : List UInt8).toArray⟩ := rfl
  have d2 : (⟨#[32, 116, 104, 101, 110]⟩ : ByteArray) = ⟨([32, 116, 104, 101, 110] : List UInt8).toArray⟩ := rfl
  rw [d1, d2]
  simp only [str_add]
  rfl
end Go.Proofs.YtcjdjifooaeomaaDoor
