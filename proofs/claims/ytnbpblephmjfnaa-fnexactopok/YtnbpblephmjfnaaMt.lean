/- Which methods the kinds have. -/
import Derived.Test.YtnbpblephmjfnaaCli
namespace Go.Proofs.Ytnbpblephmjfnaa
open Go.RowKit
theorem m_clean_int (v : Value) (w : World) : (method 183 60 v "loop.example/g00252/impl.clean").run Try.prog w = .ok (52, v) w := by kernel_rfl
theorem m_clean_float (v : Value) (w : World) : (method 183 61 v "loop.example/g00252/impl.clean").run Try.prog w = .ok (55, v) w := by kernel_rfl
theorem m_clean_text (v : Value) (w : World) : (method 183 62 v "loop.example/g00252/impl.clean").run Try.prog w = .ok (58, v) w := by kernel_rfl
theorem m_clean_none (v : Value) (w : World) : (method 183 64 v "loop.example/g00252/impl.clean").run Try.prog w = .ok (61, v) w := by kernel_rfl
end Go.Proofs.Ytnbpblephmjfnaa
