/- Which methods the kinds have. -/
import Derived.Test.YtggnghnnlemccaaCl
namespace Go.Proofs.Ytggnghnnlemccaa
open Go.RowKit
theorem m_clean_int (v : Value) (w : World) : (method 213 82 v "loop.example/g00252/impl.clean").run Try.prog w = .ok (103, v) w := by kernel_rfl
theorem m_clean_float (v : Value) (w : World) : (method 213 83 v "loop.example/g00252/impl.clean").run Try.prog w = .ok (107, v) w := by kernel_rfl
theorem m_clean_text (v : Value) (w : World) : (method 213 84 v "loop.example/g00252/impl.clean").run Try.prog w = .ok (110, v) w := by kernel_rfl
theorem m_clean_none (v : Value) (w : World) : (method 213 86 v "loop.example/g00252/impl.clean").run Try.prog w = .ok (113, v) w := by kernel_rfl
theorem m_key_int (v : Value) (w : World) : (method 213 82 v "loop.example/g00252/impl.keyPart").run Try.prog w = .ok (104, v) w := by kernel_rfl
theorem m_key_float (v : Value) (w : World) : (method 213 83 v "loop.example/g00252/impl.keyPart").run Try.prog w = .ok (108, v) w := by kernel_rfl
theorem m_key_text (v : Value) (w : World) : (method 213 84 v "loop.example/g00252/impl.keyPart").run Try.prog w = .ok (111, v) w := by kernel_rfl
theorem m_val_int (v : Value) (w : World) : (method 213 82 v "loop.example/g00252/impl.valuePart").run Try.prog w = .ok (105, v) w := by kernel_rfl
theorem m_val_float (v : Value) (w : World) : (method 213 83 v "loop.example/g00252/impl.valuePart").run Try.prog w = .ok (109, v) w := by kernel_rfl
theorem m_val_text (v : Value) (w : World) : (method 213 84 v "loop.example/g00252/impl.valuePart").run Try.prog w = .ok (112, v) w := by kernel_rfl
end Go.Proofs.Ytggnghnnlemccaa
